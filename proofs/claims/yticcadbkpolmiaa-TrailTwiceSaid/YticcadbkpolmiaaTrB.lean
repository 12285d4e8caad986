/- The law's begun: it answers true. -/
import Derived.Test.YticcadbkpolmiaaTrQ
namespace Go.Proofs.Yticcadbkpolmiaa
open Go.RowKit Go.Maps

theorem bel_fr {w w1 w2 : World} {S : Nat → Prop} (h : Below w.heap.size w w1) (hf : Fr w1.heap.size S w1 w2) (hS : ∀ k, S k → w.heap.size ≤ k) : Below w.heap.size w w2 :=
  h.trans ⟨hf.os, hf.tape, hf.output, hf.size, fun k hk => hf.block k (Nat.lt_of_lt_of_le hk h.size) (fun e => by have := hS k e; omega)⟩
theorem LogAt.app {w w' : World} {p bm bn bo g : Nat} {t t' : Tr} {d : Dk} (h : LogAt w p bm t bn bo g d) (ht : TrAt w' p bm t') (hf : Fr w.heap.size (Two p bm) w w') (e1 : t'.dp = t.dp) (e2 : t'.first = t.first) (e3 : t'.tiles = t.tiles) : LogAt w' p bm t' bn bo g d :=
  ⟨ht, by rw [e1]; exact h.dk.on fun k hk => hf.block k (h.dk.lt hk) (fun e => h.sep k hk e), by rw [e1]; exact h.sep, by rw [e2, e3]; exact h.fit⟩
theorem TrAt.away {w w' : World} {p bm bn bo g : Nat} {t : Tr} {d : Dk} (h : LogAt w p bm t bn bo g d) (hf : Fr w.heap.size (Three t.dp bn bo) w w') : TrAt w' p bm t :=
  ⟨(hf.block p h.tr.lt.1 (fun e => h.sep p e (Or.inl rfl))).trans h.tr.bx, h.tr.mp.of_block (hf.block bm h.tr.lt.2 (fun e => h.sep bm e (Or.inr rfl))), h.tr.ok, h.tr.ne⟩
theorem app_end {t : Tr} {x : Int} (hx : 0 ≤ x ∧ x < 256) (h : ((t.S.length + 25 : Nat) : Int) ≤ 63 * t.tiles) : apE t (eEnd x) = 0 ∧ apN t (eEnd x) = t.count + 1 ∧ apT t (eEnd x) = { t with S := t.S ++ frL (eEnd x), count := t.count + 1 } := by
  have e1 : apE t (eEnd x) = 0 := by
    unfold apE
    rw [if_neg (by rw [eEnd_B hx]; decide), if_neg (by rw [(frL_eEnd hx).2.1]; omega)]
  exact ⟨e1, by unfold apN; rw [e1]; rfl, by unfold apT; rw [e1]; rfl⟩
theorem app_full {t : Tr} {x : Int} (hx : 0 ≤ x ∧ x < 256) (h : 63 * t.tiles < ((t.S.length + 25 : Nat) : Int)) : apE t (eEnd x) = 5 ∧ apN t (eEnd x) = 0 ∧ apT t (eEnd x) = t := by
  have e1 : apE t (eEnd x) = 5 := by
    unfold apE
    rw [if_neg (by rw [eEnd_B hx]; decide), if_pos (by rw [(frL_eEnd hx).2.1]; exact h)]
  exact ⟨e1, by unfold apN; rw [e1]; rfl, by unfold apT; rw [e1]; rfl⟩
/-- A disk that is new. -/
theorem fresh_dk {w : World} {p bn bo : Nat} {n : Int} (h : DiskAt w p bn bo 0 (.fresh n)) : DkAt w p bn bo 0 (.fresh n) := ⟨h, rfl, rfl, rfl, rfl⟩
def zT : Nat → List Int := fun _ => List.replicate 64 0
theorem fresh_has (n i : Int) : (Dk.fresh n).has i (List.replicate 64 0) := ⟨zb_eq, by simp, fun x hx => by rw [List.eq_of_mem_replicate hx]; omega⟩
theorem rd_zT : ∀ K, rdL zT K 0 = []
  | 0 => rfl
  | _ + 1 => rfl
theorem opT_nil (pd : Nat) (f : Int) (K : Nat) : opT pd f K [] = ⟨pd, f, K, [], 0, 0⟩ := rfl
theorem scan_nil : scan [] = [] := scan_none unf_nil

set_option maxRecDepth 100000 in
set_option maxHeartbeats 1000000 in
theorem begun_any (w : World) : Calls Try.prog 7 #[] w fun e w' => e = .returned (.bool true) ∧ Below w.heap.size w w' := by
  have HN := Lib.hid (new_any w 10)
  go_enter Try.func7, Try.ntmps7
  go_wp2_with fail
  refine HN.out.mono ?_
  rintro r9 w1 ⟨rfl, hd1, hb1⟩
  obtain ⟨pd, hpd⟩ : ∃ pd, pd = w.heap.size + 1 + 1 := ⟨_, rfl⟩
  rw [show clampT 10 = 10 from rfl] at hd1
  rw [← hpd] at hd1 ⊢
  have hk1 := fresh_dk hd1
  have hthree : ∀ k, Three pd w.heap.size (w.heap.size + 1) k → w.heap.size ≤ k := fun k hk => by rcases hk with h | h | h <;> omega
  have HTH := Lib.hid hthree
  have HO := Lib.hid (topen_any w1 hk1 2 8 (by decide) (by decide) (T := zT) (fun i _ => fresh_has 10 _))
  have HB1 := Lib.hid hb1
  clear hd1 hb1 hk1 hpd hthree HN
  go_wp2_with fail
  refine HO.out.mono ?_
  rintro r9 w2 ⟨p, bm, A, c, d2, rfl, hp, hbm, hl2, -, hf2⟩
  rw [rd_zT, opT_nil] at hl2
  rw [rd_zT, scan_nil]
  have hs1 := HB1.out.size
  have htwo : ∀ k, Two p bm k → w.heap.size ≤ k := fun k hk => by rcases hk with h | h <;> omega
  have HTW := Lib.hid htwo
  have HB2 := Lib.hid (bel_fr HB1.out hf2 HTH.out)
  have hap := append_any w2 hl2.tr (eEnd 1) (nil_ents w2 (eEnd 1) rfl rfl rfl rfl rfl rfl) (eEnd_I ⟨by decide, by decide⟩)
  have HA := Lib.hid hap
  have HL2 := Lib.hid hl2
  clear hp hbm hl2 hf2 hap hs1 htwo HO HB1
  go_upto_region 5 with (fail)
  go_wp2_with fail
  refine HA.out.mono ?_
  rintro r9 w3 ⟨he, ht3, hf3⟩
  obtain ⟨a1, a2, a3⟩ := app_end (t := ⟨pd, 2, ((8 : Nat) : Int), [], 0, 0⟩) (x := 1) ⟨by decide, by decide⟩ (by show ((0 + 25 : Nat) : Int) ≤ 63 * ((8 : Nat) : Int); decide)
  rw [a1, a2] at he
  rw [a3] at ht3
  subst he
  have hl3 := HL2.out.app ht3 hf3 rfl rfl rfl
  have HB3 := Lib.hid (bel_fr HB2.out hf3 HTW.out)
  have HL3 := Lib.hid hl3
  have HS3 := Lib.hid (stable_any w3 hl3.tr)
  have HF3 := Lib.hid (force_any w3 hl3)
  clear ht3 hf3 hl3 a1 a2 a3 HA HL2 HB2
  go_wp2_with fail
  refine HS3.out.mono ?_
  rintro r9 w4 ⟨rfl, hw⟩
  obtain rfl := hw.symm
  clear hw HS3
  go_wp2_with fail
  refine HF3.out.mono ?_
  rintro r9 w4 ⟨rfl, d4, hl4, hd4, hf4⟩
  replace hd4 := hd4 (by decide)
  have hS : ([] ++ frL (eEnd 1)).length = 25 := by rw [List.nil_append]; exact (frL_eEnd ⟨by decide, by decide⟩).2.1
  have hO4 := topen_any w4 hl4.dk 2 8 (by decide) hl4.fit (T := tileL ([] ++ frL (eEnd 1))) (fun i hi => hd4.own i hi)
  have hR : rdL (tileL ([] ++ frL (eEnd 1))) 8 0 = frB (entL (eEnd 1)) := by
    rw [rd_tile _ 8 0 (by rw [hS]; decide), List.nil_append]
    exact (frL_eEnd ⟨by decide, by decide⟩).1
  have hsc : scan (frB (entL (eEnd 1))) = [entL (eEnd 1)] := by
    have := scan_frs [entL (eEnd 1)] (fun b hb => by
      rcases List.mem_singleton.1 hb with rfl
      exact ⟨by rw [eEnd_len]; decide, (frL_eEnd ⟨by decide, by decide⟩).2.2⟩)
    simpa using this
  rw [hR] at hO4
  have HO4 := Lib.hid hO4
  have HSC := Lib.hid hsc
  have HL4 := Lib.hid hl4
  have HB4 := Lib.hid (bel_fr HB3.out hf4 (fun k hk => by rcases hk with h | h; exact HTW.out k h; exact HTH.out k h))
  clear hd4 hS hO4 hR hsc hl4 hf4 HF3 HL3 HB3
  go_wp2_with fail
  refine HO4.out.mono ?_
  rintro r9 w5 ⟨p5, bm5, A5, c5, d5, he, -, -, -, -, hf5⟩
  rw [HSC.out] at he
  subst he
  have ht5 := TrAt.away HL4.out hf5
  have HB5 := Lib.hid (bel_fr HB4.out hf5 HTH.out)
  have HT5 := Lib.hid ht5
  have HFr := Lib.hid (frame_any w5 (eEnd 0) (nil_ents w5 (eEnd 0) rfl rfl rfl rfl rfl rfl) (eEnd_I ⟨by decide, by decide⟩))
  clear hf5 ht5 HO4 HL4 HB4 HSC
  go_upto_region 9 with (fail)
  go_wp2_with fail
  refine HFr.out.mono ?_
  rintro r9 w6 ⟨A6, m6, c6, rfl, ho6, hb6⟩
  obtain ⟨f1, f2, f3⟩ := frL_eEnd (x := 0) ⟨by decide, by decide⟩
  have hok : bytesOk (frL (eEnd 0)) := frL_ok (fun x hx => by cases hx) (fun x hx => by cases hx)
  have hsc : scan (frL (eEnd 0)) = [entL (eEnd 0)] := by
    rw [f1]
    have := scan_frs [entL (eEnd 0)] (fun b hb => by
      rcases List.mem_singleton.1 hb with rfl
      exact ⟨by rw [eEnd_len]; decide, f3⟩)
    simpa using this
  have hpost := scan_any w6 (own_slK ho6 hok) (by rw [f2]; decide)
  have HSN := Lib.hid (hpost.mono fun r w' (h : ScPost w6 (frL (eEnd 0)) r w') => (show ∃ A c, r = .returned (.tuple #[.slice A 1 c, .int .i64 25]) ∧ Below w6.heap.size w6 w' from by
    obtain ⟨A, c, h1, h2⟩ := h
    rw [hsc] at h1
    rw [frsN_cons, eEnd_len] at h1
    exact ⟨A, c, h1, h2⟩))
  have HT6 := Lib.hid (HT5.out.kept fun k hk => hb6.block k hk)
  have HB6 := Lib.hid (HB5.out.trans (hb6.mono HB5.out.size))
  clear ho6 hb6 f1 f2 f3 hok hsc hpost HFr HT5 HB5
  go_wp2_with fail
  refine HSN.out.mono ?_
  rintro r9 w7 ⟨A7, c7, rfl, hb7⟩
  have ht7 := HT6.out.kept (w' := w7) fun k hk => hb7.block k hk
  have HB7 := Lib.hid (HB6.out.trans (hb7.mono HB6.out.size))
  have HS7 := Lib.hid (stable_any w7 ht7)
  have HC7 := Lib.hid (count_any w7 ht7)
  have HL7 : Hid (Calls Try.prog 12 #[.pointer (some ⟨p, 0, none⟩)] w7 fun e w' => e = .returned (.int .i64 479) ∧ Below w7.heap.size w7 w') := Lib.hid ((left_any w7 ht7).mono fun e w' ⟨h1, h2⟩ => ⟨by rw [h1]; congr 2, h2⟩)
  clear hb7 ht7 HSN HT6 HB6
  go_wp2_with (first
    | (go_at_call 14; refine HS7.out.mono ?_; rintro r9 w8 ⟨rfl, hw⟩; obtain rfl := hw.symm; clear hw)
    | (go_at_call 15; refine HC7.out.mono ?_; rintro r9 w8 ⟨rfl, hw⟩; obtain rfl := hw.symm; clear hw)
    | (go_at_call 12; refine HL7.out.mono ?_; rintro r9 w8 ⟨rfl, hb8⟩))
  go_ret
  exact ⟨rfl, HB7.out.trans (hb8.mono HB7.out.size)⟩
end Go.Proofs.Yticcadbkpolmiaa
