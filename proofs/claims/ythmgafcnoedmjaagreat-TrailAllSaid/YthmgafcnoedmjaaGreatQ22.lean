/- TrailAll, a part. -/
import Derived.Test.YthmgafcnoedmjaaGreatQ12
import Derived.Test.YthmgafcnoedmjaaGreatQ19
import Derived.Test.YthmgafcnoedmjaaGreatQ21
namespace Go.Proofs.YthmgafcnoedmjaaGreat
set_option maxRecDepth 100000
open Go.RowKit Go.Maps
theorem rd_tile (S : List Int) : ∀ (m i : Nat), S.length ≤ 63 * (i + m) → rdL (tileL S) m i = S.drop (63 * i)
 | 0, i, h => by rw [List.drop_eq_nil_of_le (by omega)]; rfl
 | m + 1, i, h => by
  have hp := partL_len S i
  have hh : (tileL S i).headD 0 = ((partL S i).length : Int) := rfl
  have ht : ((tileL S i).drop 1).take ((tileL S i).headD 0).toNat = partL S i := by
   rw [hh]
   show (partL S i ++ List.replicate _ 0).take _ = _
   rw [List.take_append_of_le_length (by omega), List.take_of_length_le (by omega)]
  have hle := partL_le S i
  unfold rdL
  rw [if_neg (by rw [hh]; omega), ht]
  split
  ·rename_i hlt
   rw [hh] at hlt
   unfold partL
   rw [List.take_of_length_le]
   rw [List.length_drop]
   omega
  ·rename_i hlt
   rw [hh] at hlt
   rw [rd_tile S m (i + 1) (by omega)]
   have e : S.drop (63 * (i + 1)) = (S.drop (63 * i)).drop 63 := by rw [List.drop_drop]; rfl
   rw [e]
   exact List.take_append_drop 63 _
theorem unf_nil : unf [] = none := rfl
theorem frB_un {b : List Int} (hl : b.length < 65536) (h : tkB b = true) (rest : List Int) : unf (frB b ++ rest) = some b := by
 have hN : unN (frB b ++ rest) = b.length := by
  unfold unN frB
  show (((b.length / 256 : Nat) : Int) * 256 + ((b.length % 256 : Nat) : Int)).toNat = _
  omega
 have hd : (frB b ++ rest).drop 2 = b ++ ([(sumP b).1, (sumP b).2] ++ rest) := by unfold frB; simp
 have e1 : ((frB b ++ rest).drop 2).take b.length = b := by rw [hd, List.take_append_of_le_length (Nat.le_refl _), List.take_length]
 have e2 : (frB b ++ rest).drop (2 + b.length) = [(sumP b).1, (sumP b).2] ++ rest := by
  rw [← List.drop_drop, hd, List.drop_append_of_le_length (Nat.le_refl _), List.drop_length, List.nil_append]
 have e3 : (frB b ++ rest).drop (3 + b.length) = (sumP b).2 :: rest := by
  rw [show 3 + b.length = (2 + b.length) + 1 by omega, ← List.drop_drop, e2]; rfl
 unfold unf
 rw [hN, e1, e2, e3, if_neg (by rw [List.length_append, frB_len]; omega), if_neg (by rw [List.length_append, frB_len]; omega), if_pos ⟨rfl, rfl, h⟩]
theorem scan_fr {b : List Int} (hl : b.length < 65536) (h : tkB b = true) (rest : List Int) : scan (frB b ++ rest) = b :: scan rest := by
 rw [scan_some (frB_un hl h rest)]
 congr 2
 rw [List.drop_append_of_le_length (by rw [frB_len]; exact Nat.le_refl _), List.drop_eq_nil_of_le (by rw [frB_len]; exact Nat.le_refl _), List.nil_append]
theorem scan_frs : ∀ (bs : List (List Int)), (∀ b ∈ bs, b.length < 65536 ∧ tkB b = true) → scan (bs.flatMap frB) = bs
 | [], _ => scan_none unf_nil
 | b :: bs, h => by
  rw [List.flatMap_cons, scan_fr (h b (List.mem_cons_self ..)).1 (h b (List.mem_cons_self ..)).2, scan_frs bs (fun x hx => h x (List.mem_cons_of_mem _ hx))]
def eEnd (x : Int) : Ent := ⟨5, x, 0, 0, 0, 0, 0, 0, 0, 0, [], [], [], [], [], []⟩
theorem eEnd_B {x : Int} (h : 0 ≤ x ∧ x < 256) : entB (eEnd x) = true := by
 have h1 : fitB x 1 = true := fit_iff.2 ⟨h.1, by simpa using h.2⟩
 unfold entB eEnd
 simp only [h1]
 decide
theorem eEnd_len (x : Int) : (entL (eEnd x)).length = 21 := by unfold entL eEnd; simp [numL, plL, celL, lstL, celOk]
theorem eEnd_I {x : Int} (h : 0 ≤ x ∧ x < 256) : EntI (eEnd x) := by
 have z : I64 0 := ⟨by decide, by decide⟩
 have y : I64 5 := ⟨by decide, by decide⟩
 have u : I64 x := ⟨by omega, by omega⟩
 exact ⟨y, u, z, z, z, z, z, z, z, z, (fun m hm => by cases hm), (fun m hm => by cases hm), (fun m hm => by cases hm), (fun m hm => by cases hm)⟩
theorem nil_ents (w : World) (e : Ent) (h1 : e.old = []) (h2 : e.new = []) (h3 : e.moves = []) (h4 : e.lives = []) (h5 : e.dirty = []) (h6 : e.opens = []) : EntS w (.slice none 0 0) (.slice none 0 0) (.slice none 0 0) (.slice none 0 0) (.slice none 0 0) (.slice none 0 0) e := by
 have h := (ent0_F w 0).entS
 exact ⟨by rw [h1]; exact h.old, by rw [h2]; exact h.new, by rw [h3]; exact h.moves, by rw [h4]; exact h.lives, by rw [h5]; exact h.dirty, by rw [h6]; exact h.opens⟩
theorem frL_eEnd {x : Int} (h : 0 ≤ x ∧ x < 256) : frL (eEnd x) = frB (entL (eEnd x)) ∧ (frL (eEnd x)).length = 25 ∧ tkB (entL (eEnd x)) = true := by
 refine ⟨frL_yes (eEnd_B h), ?_, (t_tkB_entL (eEnd_B h)).1⟩
 rw [frL_yes (eEnd_B h), frB_len, eEnd_len]
end Go.Proofs.YthmgafcnoedmjaaGreat
namespace Go.Proofs.YthmgafcnoedmjaaGreat
open Go.RowKit Go.Maps
theorem bel_fr {w w1 w2 : World} {S : Nat → Prop} (h : Below w.heap.size w w1) (hf : Fr w1.heap.size S w1 w2) (hS : ∀ k, S k → w.heap.size ≤ k) : Below w.heap.size w w2 :=
 h.trans ⟨hf.os, hf.tape, hf.output, hf.size, fun k hk => hf.block k (Nat.lt_of_lt_of_le hk h.size) (fun e => by have := hS k e; omega)⟩
theorem LogAt.app {w w' : World} {p bm bn bo g : Nat} {t t' : Tr} {d : Dk} (h : LogAt w p bm t bn bo g d) (ht : TrAt w' p bm t') (hf : Fr w.heap.size (Two p bm) w w') (e1 : t'.dp = t.dp) (e2 : t'.first = t.first) (e3 : t'.tiles = t.tiles) : LogAt w' p bm t' bn bo g d :=
 ⟨ht, by rw [e1]; exact h.dk.on fun k hk => hf.block k (h.dk.lt hk) (fun e => h.sep k hk e), by rw [e1]; exact h.sep, by rw [e2, e3]; exact h.fit⟩
theorem TrAt.away {w w' : World} {p bm bn bo g : Nat} {t : Tr} {d : Dk} (h : LogAt w p bm t bn bo g d) (hf : Fr w.heap.size (Three t.dp bn bo) w w') : TrAt w' p bm t :=
 ⟨(hf.block p h.tr.lt.1 (fun e => h.sep p e (Or.inl rfl))).trans h.tr.bx, h.tr.mp.of_block (hf.block bm h.tr.lt.2 (fun e => h.sep bm e (Or.inr rfl))), h.tr.ok, h.tr.ne⟩
theorem app_end {t : Tr} {x : Int} (hx : 0 ≤ x ∧ x < 256) (h : ((t.S.length + 25 : Nat) : Int) ≤ 63 * t.tiles) : apE t (eEnd x) = 0 ∧ apN t (eEnd x) = t.count + 1 ∧ apT t (eEnd x) = { t with S := t.S ++ frL (eEnd x), count := t.count + 1 } := by
 have e1 : apE t (eEnd x) = 0 := by
  unfold apE
  rw [if_neg (by rw [eEnd_B hx]; decide), if_neg (by rw [(frL_eEnd hx).2.1]; omega)]
 exact ⟨e1, by unfold apN; rw [e1]; rfl, by unfold apT; rw [e1]; rfl⟩
theorem fresh_dk {w : World} {p bn bo : Nat} {n : Int} (h : DiskAt w p bn bo 0 (.fresh n)) : DkAt w p bn bo 0 (.fresh n) := ⟨h, rfl, rfl, rfl, rfl⟩
def zT : Nat → List Int := fun _ => List.replicate 64 0
theorem fresh_has (n i : Int) : (Dk.fresh n).has i (List.replicate 64 0) := ⟨zb_eq, by simp, fun x hx => by rw [List.eq_of_mem_replicate hx]; omega⟩
theorem rd_zT : ∀ K, rdL zT K 0 = []
 | 0 => rfl
 | _ + 1 => rfl
theorem opT_nil (pd : Nat) (f : Int) (K : Nat) : opT pd f K [] = ⟨pd, f, K, [], 0, 0⟩ := rfl
theorem scan_nil : scan [] = [] := scan_none unf_nil
set_option maxHeartbeats 1000000 in
theorem begun_any (w : World) : Calls Tryz.prog 6 #[] w fun e w' => e = .returned (.bool true) ∧ Below w.heap.size w w' := by
 have HN := Lib.hid (new_any w 10)
 go_enter Tryz.func6, Tryz.ntmps6
 go_wp2_with fail
 refine HN.out.mono ?_
 rintro r9 w1 ⟨rfl, hd1, hb1⟩
 obtain ⟨pd, hpd⟩ : ∃ pd, pd = w.heap.size + 1 + 1 := ⟨_, rfl⟩
 rw [show clampT 10 = 10 from rfl] at hd1
 rw [← hpd] at hd1 ⊢
 have hk1 := fresh_dk hd1
 have hthree : ∀ k, Three pd w.heap.size (w.heap.size + 1) k → w.heap.size ≤ k := fun k hk => by rcases hk with h | h | h <;> omega
 have HTH := Lib.hid hthree
 have HO := Lib.hid (topen_any w1 hk1 2 8 (by decide) (by decide) (T := zT) (fun i _ => fresh_has 10 _))
 have HB1 := Lib.hid hb1
 clear hd1 hb1 hk1 hpd hthree HN
 go_wp2_with fail
 refine HO.out.mono ?_
 rintro r9 w2 ⟨p, bm, A, c, d2, rfl, hp, hbm, hl2, -, hf2⟩
 rw [rd_zT, opT_nil] at hl2
 rw [rd_zT, scan_nil]
 have hs1 := HB1.out.size
 have htwo : ∀ k, Two p bm k → w.heap.size ≤ k := fun k hk => by rcases hk with h | h <;> omega
 have HTW := Lib.hid htwo
 have HB2 := Lib.hid (bel_fr HB1.out hf2 HTH.out)
 have hap := append_any w2 hl2.tr (eEnd 1) (nil_ents w2 (eEnd 1) rfl rfl rfl rfl rfl rfl) (eEnd_I ⟨by decide, by decide⟩)
 have HA := Lib.hid hap
 have HL2 := Lib.hid hl2
 clear hp hbm hl2 hf2 hap hs1 htwo HO HB1
 go_upto_region 5 with (fail)
 go_wp2_with fail
 refine HA.out.mono ?_
 rintro r9 w3 ⟨he, ht3, hf3⟩
 obtain ⟨a1, a2, a3⟩ := app_end (t := ⟨pd, 2, ((8 : Nat) : Int), [], 0, 0⟩) (x := 1) ⟨by decide, by decide⟩ (by show ((0 + 25 : Nat) : Int) ≤ 63 * ((8 : Nat) : Int); decide)
 rw [a1, a2] at he
 rw [a3] at ht3
 subst he
 have hl3 := HL2.out.app ht3 hf3 rfl rfl rfl
 have HB3 := Lib.hid (bel_fr HB2.out hf3 HTW.out)
 have HL3 := Lib.hid hl3
 have HS3 := Lib.hid (stable_any w3 hl3.tr)
 have HF3 := Lib.hid (force_any w3 hl3)
 clear ht3 hf3 hl3 a1 a2 a3 HA HL2 HB2
 go_wp2_with fail
 refine HS3.out.mono ?_
 rintro r9 w4 ⟨rfl, hw⟩
 obtain rfl := hw.symm
 clear hw HS3
 go_wp2_with fail
 refine HF3.out.mono ?_
 rintro r9 w4 ⟨rfl, d4, hl4, hd4, hf4⟩
 replace hd4 := hd4 (by decide)
 have hS : ([] ++ frL (eEnd 1)).length = 25 := by rw [List.nil_append]; exact (frL_eEnd ⟨by decide, by decide⟩).2.1
 have hO4 := topen_any w4 hl4.dk 2 8 (by decide) hl4.fit (T := tileL ([] ++ frL (eEnd 1))) (fun i hi => hd4.own i hi)
 have hR : rdL (tileL ([] ++ frL (eEnd 1))) 8 0 = frB (entL (eEnd 1)) := by
  rw [rd_tile _ 8 0 (by rw [hS]; decide), List.nil_append]
  exact (frL_eEnd ⟨by decide, by decide⟩).1
 have hsc : scan (frB (entL (eEnd 1))) = [entL (eEnd 1)] := by
  have := scan_frs [entL (eEnd 1)] (fun b hb => by
   rcases List.mem_singleton.1 hb with rfl
   exact ⟨by rw [eEnd_len]; decide, (frL_eEnd ⟨by decide, by decide⟩).2.2⟩)
  simpa using this
 rw [hR] at hO4
 have HO4 := Lib.hid hO4
 have HSC := Lib.hid hsc
 have HL4 := Lib.hid hl4
 have HB4 := Lib.hid (bel_fr HB3.out hf4 (fun k hk => by rcases hk with h | h; exact HTW.out k h; exact HTH.out k h))
 clear hd4 hS hO4 hR hsc hl4 hf4 HF3 HL3 HB3
 go_wp2_with fail
 refine HO4.out.mono ?_
 rintro r9 w5 ⟨p5, bm5, A5, c5, d5, he, -, -, -, -, hf5⟩
 rw [HSC.out] at he
 subst he
 have ht5 := TrAt.away HL4.out hf5
 have HB5 := Lib.hid (bel_fr HB4.out hf5 HTH.out)
 have HT5 := Lib.hid ht5
 have HFr := Lib.hid (frame_any w5 (eEnd 0) (nil_ents w5 (eEnd 0) rfl rfl rfl rfl rfl rfl) (eEnd_I ⟨by decide, by decide⟩))
 clear hf5 ht5 HO4 HL4 HB4 HSC
 go_upto_region 9 with (fail)
 go_wp2_with fail
 refine HFr.out.mono ?_
 rintro r9 w6 ⟨A6, m6, c6, rfl, ho6, hb6⟩
 obtain ⟨f1, f2, f3⟩ := frL_eEnd (x := 0) ⟨by decide, by decide⟩
 have hok : bytesOk (frL (eEnd 0)) := frL_ok (fun x hx => by cases hx) (fun x hx => by cases hx)
 have hsc : scan (frL (eEnd 0)) = [entL (eEnd 0)] := by
  rw [f1]
  have := scan_frs [entL (eEnd 0)] (fun b hb => by
   rcases List.mem_singleton.1 hb with rfl
   exact ⟨by rw [eEnd_len]; decide, f3⟩)
  simpa using this
 have hpost := scan_any w6 (own_slK ho6 hok) (by rw [f2]; decide)
 have HSN := Lib.hid (hpost.mono fun r w' (h : ScPost w6 (frL (eEnd 0)) r w') => (show ∃ A c, r = .returned (.tuple #[.slice A 1 c, .int .i64 25]) ∧ Below w6.heap.size w6 w' from by
  obtain ⟨A, c, h1, h2⟩ := h
  rw [hsc] at h1
  rw [frsN_cons, eEnd_len] at h1
  exact ⟨A, c, h1, h2⟩))
 have HT6 := Lib.hid (HT5.out.kept fun k hk => hb6.block k hk)
 have HB6 := Lib.hid (HB5.out.trans (hb6.mono HB5.out.size))
 clear ho6 hb6 f1 f2 f3 hok hsc hpost HFr HT5 HB5
 go_wp2_with fail
 refine HSN.out.mono ?_
 rintro r9 w7 ⟨A7, c7, rfl, hb7⟩
 have ht7 := HT6.out.kept (w' := w7) fun k hk => hb7.block k hk
 have HB7 := Lib.hid (HB6.out.trans (hb7.mono HB6.out.size))
 have HS7 := Lib.hid (stable_any w7 ht7)
 have HC7 := Lib.hid (count_any w7 ht7)
 have HL7 : Hid (Calls Tryz.prog 27 #[.pointer (some ⟨p, 0, none⟩)] w7 fun e w' => e = .returned (.int .i64 479) ∧ Below w7.heap.size w7 w') := Lib.hid ((left_any w7 ht7).mono fun e w' ⟨h1, h2⟩ => ⟨by rw [h1]; congr 2, h2⟩)
 clear hb7 ht7 HSN HT6 HB6
 go_wp2_with (first
  | (go_at_call 26; refine HS7.out.mono ?_; rintro r9 w8 ⟨rfl, hw⟩; obtain rfl := hw.symm; clear hw)
  | (go_at_call 25; refine HC7.out.mono ?_; rintro r9 w8 ⟨rfl, hw⟩; obtain rfl := hw.symm; clear hw)
  | (go_at_call 27; refine HL7.out.mono ?_; rintro r9 w8 ⟨rfl, hb8⟩))
 go_ret
 exact ⟨rfl, HB7.out.trans (hb8.mono HB7.out.size)⟩
end Go.Proofs.YthmgafcnoedmjaaGreat
namespace Go.Proofs.YthmgafcnoedmjaaGreat
open Go.RowKit Go.Maps
theorem crash_two (d : Dk) (ms : List Int) (ls : List Int) (h : ∀ x ∈ ls, (d.old x).isSome = true) (i : Int) : ∀ k, crashNow d ms ls k i = d.now i ∨ ((d.old i).isSome = true ∧ crashNow d ms ls k i = some ((d.old i).getD zb))
 | 0 => Or.inl rfl
 | k + 1 => by
  have ih := crash_two d ms ls h i k
  unfold crashNow
  cases hx : ls[k]? with
  | none => exact ih
  | some q =>
   simp only
   by_cases hb : bitOf ms k = true
   ·rw [if_pos hb]; exact ih
   ·rw [if_neg hb]
    by_cases e : i = q
    ·subst e
     exact Or.inr ⟨h _ (List.mem_of_getElem? hx), upd_same _ _ _⟩
    ·rw [upd_other _ e]; exact ih
theorem settled_free {S : List Int} {first : Int} {K : Nat} {d d' : Dk} {e : Int} (hok : bytesOk S) (hd : d.dead = false) (hset : d.set = false) (hs : Settled S first K d e d') : e = 0 ∧ d'.dead = false ∧ d'.set = false ∧ ∀ k : Nat, k < K → d'.has (first + k) (tileL S k) := by
 have hdw : ∀ {n q d1}, Went S first d n q d1 → (d1.dead = false ∧ d1.set = false) ∧ ∀ k : Nat, k < n → d1.has (first + k) (tileL S k) := by
  intro n q d1 hw
  induction hw with
  | start => exact ⟨⟨hd, hset⟩, fun k hk => absurd hk (Nat.not_lt_zero k)⟩
  | @same n q d1 _ _ hh ih =>
   refine ⟨ih.1, fun k hk => ?_⟩
   by_cases e : k = n
   ·subst e; exact hh
   ·exact ih.2 k (by omega)
  | @wrote n q d1 d2 l _ _ _ _ hwr ih =>
   rcases hwr with ⟨_, h0, _⟩ | ⟨_, _, _, rfl⟩ | ⟨_, h0, _, _, _⟩ | ⟨_, _, _, h0, _⟩
   ·exact absurd h0 (by decide)
   ·refine ⟨ih.1, fun k hk => Dk.has_store (tileL_len _ _) (tileL_ok hok _) ?_⟩
    by_cases e : k = n
    ·subst e; rw [if_pos rfl]
    ·rw [if_neg (by omega)]; exact ih.2 k (by omega)
   ·rw [ih.1.2] at h0; cases h0
   ·exact absurd h0 (by decide)
 rcases hs with ⟨n, q, h1, h2, h3, rfl⟩ | ⟨n, q, d1, l, h1, h2, h3, h4, h5, h6, rfl⟩ | ⟨h1, rfl⟩ | ⟨d1, h1, h2⟩
 ·rw [(hdw h2).1.1] at h3; cases h3
 ·rcases h6 with ⟨h0, _, _⟩ | ⟨_, _, h0, _⟩ | ⟨_, h0, _, _, _⟩ | ⟨_, h0, _, _, _⟩
  ·rw [h3] at h0; cases h0
  ·exact absurd h0 (by decide)
  ·rw [(hdw h2).1.2] at h0; cases h0
  ·rw [(hdw h2).1.2] at h0; cases h0
 ·exact ⟨rfl, (hdw h1).1.1, (hdw h1).1.2, (hdw h1).2⟩
 ·have hx := hdw h1
  rcases h2 with ⟨h0, _⟩ | ⟨_, _, rfl, rfl⟩ | ⟨_, h0, _, _, _⟩ | ⟨_, h0, _, _, _⟩
  ·rw [hx.1.1] at h0; cases h0
  ·exact ⟨rfl, hx.1.1, hx.1.2, hx.2⟩
  ·rw [hx.1.2] at h0; cases h0
  ·rw [hx.1.2] at h0; cases h0
end Go.Proofs.YthmgafcnoedmjaaGreat
namespace Go.Proofs.YthmgafcnoedmjaaGreat
set_option maxRecDepth 100000
open Go.RowKit Go.Maps
section
variable {w : World} {r gn gw gt gm : Nat} {vn vw vt : Value} {d : Rf}
set_option maxHeartbeats 2000000 in
theorem rarm_nil (h : RfAt w r gn gw gt gm vn vw vt d) (n : Int) (n1 : n ≤ 9223372036854775807) :
  Calls Tryz.prog 19 #[.pointer (some ⟨r, 0, none⟩), .int .i64 n, .slice none 0 0] w fun e w' => ∃ mv a b c g', e = .returned (.tuple #[]) ∧ RfAt w' r a b c g' vn vw vt (d.armed n mv []) ∧ (a = gn ∨ w.heap.size ≤ a) ∧ (b = gw ∨ w.heap.size ≤ b) ∧ (c = gt ∨ w.heap.size ≤ c) ∧ w.heap.size ≤ g' ∧ Fr w.heap.size (Four r gn gw gt) w w' := by
 have hrl := (Array.getElem?_eq_some_iff.1 h.cells).1
 have HR := Lib.hid h
 have b1 : Below w.heap.size w (w.alloc (.cells #[] 5)) := (Below.refl _ _).alloc (Nat.le_refl _) _
 have hR2 := h.grow b1.block
 obtain ⟨p0, c0, q0, k6, -⟩ : ∃ p0 c0 q0, w.cell? ⟨r, 6, none⟩ = some (.slice p0 c0 q0) ∧ True := by
  obtain ⟨p0, l0, c0, e, -⟩ := h.mask
  exact ⟨p0, l0, c0, by rw [h.c6, e], trivial⟩
 have k4 := h.c4
 have k5 := h.c5
 have e4 := h.fz 4
 have e5 := h.fz 5
 have e6 := h.fz 6
 have H2 := Lib.hid hR2
 have HB := Lib.hid b1
 have hg : w.heap.size < (w.alloc (.cells #[] 5)).heap.size := by simp
 clear h hR2 b1
 go_enter Tryz.func19, Tryz.ntmps19
 have e : (((w.alloc (.cells #[] 5)).setCell ⟨r, 4, none⟩ (.bool (decide (0 ≤ n)))).setCell ⟨r, 5, none⟩ (.int .i64 n)).setCell ⟨r, 6, none⟩ (.slice (some ⟨w.heap.size, 0, none⟩) 0 0) = (((w.setCell ⟨r, 4, none⟩ (.bool (decide (0 ≤ n)))).setCell ⟨r, 5, none⟩ (.int .i64 n)).setCell ⟨r, 6, none⟩ (.slice (some ⟨w.heap.size, 0, none⟩) 0 0)).alloc (.cells #[] 5) := by
  rw [World.setCell_alloc_past _ _ _ _ hrl, World.setCell_alloc_past _ _ _ _ (by simpa using hrl), World.setCell_alloc_past _ _ _ _ (by simpa using hrl)]
 have E := Lib.hid e
 clear e
 go_wp2
 go_end0
 rw [← E.out]
 clear E k4 k5 k6 e4 e5 e6
 generalize w.alloc (.cells #[] 5) = w2 at *
 have hs : SlB w2 (.slice (some ⟨w.heap.size, 0, none⟩) 0 0) [] w.heap.size := ⟨_, 0, 0, rfl, rfl, Nat.le_refl _, by omega, fun _ => rfl, fun _ _ hne => absurd rfl hne⟩
 have hmok : bytesOk [] := fun x hx => by cases hx
 have hf : Fr w.heap.size (Four r gn gw gt) w (((w2.setCell ⟨r, 4, none⟩ (.bool (decide (0 ≤ n)))).setCell ⟨r, 5, none⟩ (.int .i64 n)).setCell ⟨r, 6, none⟩ (.slice (some ⟨w.heap.size, 0, none⟩) 0 0)) :=
  (((⟨HB.out.os, HB.out.tape, HB.out.output, HB.out.size, fun k hk _ => HB.out.block k hk⟩ : Fr w.heap.size (Four r gn gw gt) w w2).setCell (Or.inl (Or.inl rfl)) _).setCell (Or.inl (Or.inl rfl)) _).setCell (Or.inl (Or.inl rfl)) _
 rcases Nat.eq_zero_or_pos d.k with hk | hk
 ·have n7 := HR.out.ne.2.2.2.2.2.2.1
  have h0 := H2.out.anew hk (a := w.heap.size + gm + r + 1) (b := w.heap.size + gm + r + 2) (c := w.heap.size + gm + r + 3) H2.out.mask ⟨by omega, by omega, by omega, by omega, by omega, by omega, n7, by omega, by omega, by omega⟩
  exact ⟨_, _, _, _, w.heap.size, rfl, rarm_end h0 n1 hs hmok ⟨by omega, by omega, by omega, by omega⟩, Or.inr (by omega), Or.inr (by omega), Or.inr (by omega), Nat.le_refl _, hf⟩
 ·have z1 := (HR.out.now hk).lt
  have z2 := (HR.out.was hk).lt
  have z3 := (HR.out.wet hk).lt
  exact ⟨_, gn, gw, gt, w.heap.size, rfl, rarm_end H2.out n1 hs hmok ⟨by omega, by omega, by omega, by omega⟩, Or.inl rfl, Or.inl rfl, Or.inl rfl, Nat.le_refl _, hf⟩
end
end Go.Proofs.YthmgafcnoedmjaaGreat
namespace Go.Proofs.YthmgafcnoedmjaaGreat
open Go.RowKit Go.Maps
structure Pr (B : Nat) (W : World) (p bn bo g r gn gw gt gm : Nat) (vn vw vt : Value) (d : Dk) (f : Rf) : Prop where
 dk : DiskAt W p bn bo g d
 rf : RfAt W r gn gw gt gm vn vw vt f
 like : Like d f
 mv : d.mv = .slice none 0 0 ∨ ∃ a n c, d.mv = .slice (some a) n c
 lo : B ≤ p ∧ B ≤ bn ∧ B ≤ bo ∧ B ≤ r ∧ B ≤ gn ∧ B ≤ gw ∧ B ≤ gt
 ap : ∀ x, Three p bn bo x → ¬ Four r gn gw gt x ∧ (f.mask ≠ [] → x ≠ gm)
 ag : d.mask ≠ [] → ¬ Four r gn gw gt g
theorem SlB.fr2 {W W' : World} {v : Value} {l : List Int} {g : Nat} {S : Nat → Prop} (h : SlB W v l g) (hf : Fr W.heap.size S W W') (hg : l ≠ [] → ¬ S g) : SlB W' v l g := by
 by_cases hl : l = []
 ·subst hl
  obtain ⟨p0, len, cap, e, e2, hle, hcap, hn, ha⟩ := h
  exact ⟨p0, len, cap, e, e2, hle, hcap, hn, fun _ _ hne => absurd rfl hne⟩
 ·exact h.fr hf (hg hl)
theorem RfAt.fr {w w' : World} {r gn gw gt gm : Nat} {vn vw vt : Value} {d : Rf} {S : Nat → Prop} (h : RfAt w r gn gw gt gm vn vw vt d) (hf : Fr w.heap.size S w w') (hS : ∀ x, Four r gn gw gt x → ¬ S x) (hm : d.mask ≠ [] → ¬ S gm) : RfAt w' r gn gw gt gm vn vw vt d :=
 ⟨(hf.block r (Array.getElem?_eq_some_iff.1 h.cells).1 (hS _ (Or.inl rfl))).trans h.cells, h.sn, h.sw, h.st, fun k => (h.now k).of_block (hf.block _ (h.now k).lt (hS _ (Or.inr (Or.inl rfl)))), fun k => (h.was k).of_block (hf.block _ (h.was k).lt (hS _ (Or.inr (Or.inr (Or.inl rfl))))), fun k => (h.wet k).of_block (hf.block _ (h.wet k).lt (hS _ (Or.inr (Or.inr (Or.inr rfl))))), h.mask.fr2 hf hm, h.ne, h.kle, h.ok, h.mok, h.nil0⟩
theorem DiskAt.fr {w w' : World} {p bn bo g : Nat} {d : Dk} {S : Nat → Prop} (h : DiskAt w p bn bo g d) (hf : Fr w.heap.size S w w') (hS : ∀ x, Three p bn bo x → ¬ S x) (hm : d.mask ≠ [] → ¬ S g) : DiskAt w' p bn bo g d :=
 ⟨(hf.block p h.lt.1 (hS _ (Or.inl rfl))).trans h.cells, h.now.of_block (hf.block bn h.lt.2.1 (hS _ (Or.inr (Or.inl rfl)))), h.old.of_block (hf.block bo h.lt.2.2 (hS _ (Or.inr (Or.inr rfl)))), h.mask.fr2 hf hm, h.ne, h.ok⟩
theorem below_of_fr {B : Nat} {S : Nat → Prop} {w w' : World} (h : Fr w.heap.size S w w') (hS : ∀ x, S x → B ≤ x) (hB : B ≤ w.heap.size) : Below B w w' := ⟨h.os, h.tape, h.output, h.size, fun k hk => h.block k (by omega) (fun e => by have := hS k e; omega)⟩
theorem ok_store {d : Dk} (h : d.Ok) {i : Int} (h0 : 0 ≤ i) (h1 : i < d.tiles) {l : List Int} (hl : l.length = 64) (hb : bytesOk l) : (d.store i (blkOf l)).Ok := by
 refine ⟨h.lo, h.hi, range_upd h.now h0 h1 (blkOf_blk hl hb), ?_, h.llo, h.lhi, h.mok⟩
 show ∀ j v, (if (d.old i).isSome = true then d.old else upd d.old i (some ((d.now i).getD zb))) j = some v → _
 split
 ·exact h.old
 ·exact range_upd h.old h0 h1 (now_blk h i)
theorem like_at {d : Dk} {f : Rf} (h : Like d f) (hs : d.set = false) (x : Int) : Like d { f with at_ := x } := by
 obtain ⟨h1, h2, h3, h4, h5⟩ := h
 refine ⟨h1, h2, h3, fun e => ?_, h5⟩
 rw [hs] at e; cases e
section
variable {B : Nat} {W : World} {p bn bo g r gn gw gt gm : Nat} {vn vw vt : Value} {d : Dk} {f : Rf}
theorem Pr.grow (h : Pr B W p bn bo g r gn gw gt gm vn vw vt d f) {W' : World} (hb : Below W.heap.size W W') : Pr B W' p bn bo g r gn gw gt gm vn vw vt d f :=
 ⟨h.dk.kept hb.block, h.rf.grow hb.block, h.like, h.mv, h.lo, h.ap, h.ag⟩
theorem fr_id (B : Nat) (S : Nat → Prop) (w : World) : Fr B S w w := ⟨rfl, rfl, rfl, Nat.le_refl _, fun _ _ _ => rfl⟩
theorem fr_poke (B r : Nat) (S : Nat → Prop) (hS : S r) (w : World) (i : Nat) (v : Value) : Fr B S w (w.setCell ⟨r, i, none⟩ v) := (fr_id B S w).setCell (Or.inl hS) v
theorem Pr.size (h : Pr B W p bn bo g r gn gw gt gm vn vw vt d f) : r < W.heap.size := (Array.getElem?_eq_some_iff.1 h.rf.cells).1
end
end Go.Proofs.YthmgafcnoedmjaaGreat
