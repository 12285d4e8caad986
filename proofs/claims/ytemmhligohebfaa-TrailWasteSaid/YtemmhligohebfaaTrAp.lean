/- The log: Append. -/
import Derived.Test.YtemmhligohebfaaTrAd
import Derived.Test.YtemmhligohebfaaTrF
namespace Go.Proofs.Ytemmhligohebfaa
open Go.RowKit Go.Maps

/-- What Append answers, and what it makes of a log. -/
def apE (t : Tr) (e : Ent) : Int := if entB e = false then 1 else if 63 * t.tiles < ((t.S.length + (frL e).length : Nat) : Int) then 5 else 0
def apN (t : Tr) (e : Ent) : Int := if apE t e = 0 then t.count + 1 else 0
def apT (t : Tr) (e : Ent) : Tr := if apE t e = 0 then { t with S := t.S ++ frL e, count := t.count + 1 } else t
theorem below_fr {B : Nat} {S : Nat → Prop} {w w' : World} (h : Below B w w') : Fr B S w w' := ⟨h.os, h.tape, h.output, h.size, fun k hk _ => h.block k hk⟩
theorem frL_ok {e : Ent} (h1 : bytesOk e.old) (h2 : bytesOk e.new) : bytesOk (frL e) := by
  cases hB : entB e with
  | true =>
    rw [frL_yes hB]
    exact frB_ok (entL_okE h1 h2) (by have := t_entL_le hB; omega)
  | false => rw [frL_no hB]; exact fun x hx => by cases hx
def ApPost (w : World) (p bm : Nat) (t : Tr) (e : Ent) (r : Ending) (w' : World) : Prop := r = .returned (.tuple #[.int .i64 (apN t e), .int .i64 (apE t e)]) ∧ TrAt w' p bm (apT t e) ∧ Fr w.heap.size (Two p bm) w w'

set_option maxRecDepth 100000 in
set_option maxHeartbeats 1000000 in
theorem append_any (w : World) {p bm : Nat} {t : Tr} (h : TrAt w p bm t) (e : Ent) {s1 s2 s3 s4 s5 s6 : Value} (hs : EntS w s1 s2 s3 s4 s5 s6 e) (hi : EntI e) :
    Calls Try.prog 10 #[.pointer (some ⟨p, 0, none⟩), .agg (entC e s1 s2 s3 s4 s5 s6)] w (ApPost w p bm t e) := by
  obtain ⟨A1, c1, A2, c2, A3, c3, A4, c4, A5, c5, A6, c6, rfl, rfl, rfl, rfl, rfl, rfl⟩ := hs.form
  obtain ⟨W, hW⟩ : ∃ W, W = w.alloc (entO e (.slice A1 e.old.length c1) (.slice A2 e.new.length c2) (.slice A3 e.moves.length c3) (.slice A4 e.lives.length c4) (.slice A5 e.dirty.length c5) (.slice A6 e.opens.length c6)) := ⟨_, rfl⟩
  have hb0 : Below w.heap.size w W := by rw [hW]; exact (Below.refl _ _).alloc (Nat.le_refl _) _
  have hsz : w.heap.size ≤ W.heap.size := hb0.size
  have HBX : Hid (W.heap[w.heap.size]? = some (.cells (entC e (.slice A1 e.old.length c1) (.slice A2 e.new.length c2) (.slice A3 e.moves.length c3) (.slice A4 e.lives.length c4) (.slice A5 e.dirty.length c5) (.slice A6 e.opens.length c6)) 40 (0, 0))) := by
    rw [hW]; exact heap_alloc_new w _
  have HZI := Lib.hid (infoEntC e (.slice A1 e.old.length c1) (.slice A2 e.new.length c2) (.slice A3 e.moves.length c3) (.slice A4 e.lives.length c4) (.slice A5 e.dirty.length c5) (.slice A6 e.opens.length c6))
  have HP := Lib.hid (frame_any W e (hs.below hb0 (Nat.le_refl _)) hi)
  have HOK := Lib.hid (frL_ok hs.old.ok hs.new.ok)
  have HB0 := Lib.hid hb0
  have HSZ := Lib.hid hsz
  have HT := Lib.hid h
  show Calls _ _ #[_, .agg #[.int .i64 e.kind, .int .i64 e.txn, .int .i64 e.unit, .int .i64 e.half, .int .i64 e.prev, .int .i64 e.next, .int .i64 e.ap, .int .i64 e.ac, .int .i64 e.tp, .int .i64 e.tc, _, _, _, _, _, _]] _ _
  clear hs hi hb0 hsz h
  go_enter Try.func10, Try.ntmps10
  go_upto_region 1 with (fail)
  show Code.wp _ _ _ _ (w.alloc (entO e (.slice A1 e.old.length c1) (.slice A2 e.new.length c2) (.slice A3 e.moves.length c3) (.slice A4 e.lives.length c4) (.slice A5 e.dirty.length c5) (.slice A6 e.opens.length c6)))
  rw [← hW]
  clear hW
  go_wp2_with (with_reducible refine wpList_load_row rfl 40 (.tmp 3) rfl w.heap.size rfl 40 _ (0, 0) _ HBX.out Try.underlying40 rfl HZI.out ?_)
  refine HP.out.mono ?_
  rintro r w2 ⟨A, m, c, rfl, ho, hb2⟩
  have hm := own_n ho
  have hbw : Below w.heap.size w w2 := HB0.out.trans (hb2.mono HSZ.out)
  have HB2 := Lib.hid hbw
  have ht2 : TrAt w2 p bm t := HT.out.kept fun k hk => hbw.block k hk
  cases hB : entB e with
  | false =>
    have e1 : apE t e = 1 := if_pos hB
    have e2 : apN t e = 0 := by unfold apN; rw [e1]; rfl
    have e3 : apT t e = t := by unfold apT; rw [e1]; rfl
    have HE := Lib.hid (And.intro e1 (And.intro e2 e3))
    have HT2 := Lib.hid ht2
    rw [frL_no hB] at hm
    subst hm
    clear ho hb2 hbw ht2 hB e1 e2 e3 HP HOK
    go_wp2
    go_ret2
    obtain ⟨e1, e2, e3⟩ := HE.out
    exact ⟨by rw [e1, e2]; rfl, by rw [e3]; exact HT2.out, below_fr HB2.out⟩
  | true =>
    have hfl : (frL e).length = (entL e).length + 4 := by rw [frL_yes hB, frB_len]
    have hge := t_entL_ge hB
    have hle := t_entL_le hB
    have HSL := Lib.hid (own_slK ho HOK.out)
    have HL := Lib.hid (left_any w2 ht2)
    have h1 := ht2.ok.t1
    have h0 := ht2.ok.t0
    have h2 := ht2.ok.len
    have h3 := ht2.ok.c0
    have h4 := ht2.ok.c1
    have HBT := Lib.hid hB
    have HT2 := Lib.hid ht2
    obtain ⟨N, hN⟩ : ∃ N, N = (frL e).length := ⟨_, rfl⟩
    obtain ⟨K, hK⟩ : ∃ K, K = t.tiles * 63 - t.S.length := ⟨_, rfl⟩
    have hN0 : 0 < N := by omega
    rw [← hK] at HL
    rw [← hN] at hm
    subst hm
    have HN := Lib.hid hN
    have HK := Lib.hid hK
    clear ho hb2 hbw ht2 hB hfl hge hle hN hK HP HBX HZI
    by_cases hfit : K < (m : Int)
    · have e1 : apE t e = 5 := by
        unfold apE
        rw [if_neg (by rw [HBT.out]; decide), if_pos (by rw [← HN.out]; have := HK.out; omega)]
      have e2 : apN t e = 0 := by unfold apN; rw [e1]; rfl
      have e3 : apT t e = t := by unfold apT; rw [e1]; rfl
      have HE := Lib.hid (And.intro e1 (And.intro e2 e3))
      clear e1 e2 e3
      go_wp2_with fail
      refine HL.out.mono ?_
      rintro r w3 ⟨rfl, hb3⟩
      have HT3 := Lib.hid (HT2.out.kept fun k hk => hb3.block k hk)
      have HB3 := Lib.hid (HB2.out.trans (hb3.mono HB2.out.size))
      clear hb3 HL
      go_wp2
      go_ret2
      obtain ⟨e1, e2, e3⟩ := HE.out
      exact ⟨by rw [e1, e2]; rfl, by rw [e3]; exact HT3.out, below_fr HB3.out⟩
    · have e1 : apE t e = 0 := by
        unfold apE
        rw [if_neg (by rw [HBT.out]; decide), if_neg (by rw [← HN.out]; have := HK.out; omega)]
      have e2 : apN t e = t.count + 1 := by unfold apN; rw [e1]; rfl
      have e3 : apT t e = { t with S := t.S ++ frL e, count := t.count + 1 } := by unfold apT; rw [e1]; rfl
      have HE := Lib.hid (And.intro e1 (And.intro e2 e3))
      have HFIT : Hid (((t.S.length + (frL e).length : Nat) : Int) ≤ 63 * t.tiles) := Lib.hid (by rw [← HN.out]; have := HK.out; omega)
      clear e1 e2 e3
      go_wp2_with fail
      refine HL.out.mono ?_
      rintro r w3 ⟨rfl, hb3⟩
      have HT3 := Lib.hid (HT2.out.kept fun k hk => hb3.block k hk)
      have HB3 := Lib.hid (HB2.out.trans (hb3.mono HB2.out.size))
      have HA := Lib.hid (add_any w3 HT3.out (HSL.out.below hb3 (Nat.le_refl _)) HFIT.out)
      have hcb : t.count ≤ 126000 := by omega
      clear hb3 HL h0 h1 h2 h4
      go_upto_region 6 with (fail)
      go_wp2_with fail
      refine HA.out.mono ?_
      rintro r w4 ⟨rfl, ht4, hf4⟩
      have x5 : w4.cell? ⟨p, 5, none⟩ = some (.int .i64 t.count) := ht4.c 5
      have z5 := ht4.fz 5
      have x5' : (w4.setCell ⟨p, 5, none⟩ (.int .i64 (t.count + 1))).cell? ⟨p, 5, none⟩ = some (.int .i64 (t.count + 1)) := by
        rw [(cell_of (heap_setCell_same w4 p 5 _ _ _ ht4.bx) 5).1]
        rfl
      have t1 : IntKind.i64.wrap (t.count + 1) = t.count + 1 := IntWalk.i64_in _ (by omega)
      have ht5 : TrAt (w4.setCell ⟨p, 5, none⟩ (.int .i64 (t.count + 1))) p bm { t with S := t.S ++ frL e, count := t.count + 1 } := by
        refine ⟨?_, ht4.mp.of_block (setCell_far _ _ _ _ (fun e => ht4.ne e.symm)), ⟨ht4.ok.ok, ht4.ok.f0, ht4.ok.f1, ht4.ok.t0, ht4.ok.t1, ht4.ok.len, by show 0 ≤ t.count + 1; omega, ?_⟩, ht4.ne⟩
        · rw [heap_setCell_same w4 p 5 _ _ _ ht4.bx]
          rfl
        · show t.count + 1 ≤ ((t.S ++ frL e).length : Int)
          have := HT3.out.ok.c1
          rw [List.length_append, ← HN.out]
          omega
      have hf5 : Fr w.heap.size (Two p bm) w (w4.setCell ⟨p, 5, none⟩ (.int .i64 (t.count + 1))) := ((below_fr HB3.out).trans hf4 HB3.out.size (fun x _ h => h)).setCell (Or.inl (Or.inl rfl)) _
      have HT5 := Lib.hid ht5
      have HF5 := Lib.hid hf5
      clear ht4 hf4 ht5 hf5 HA
      go_wp2
      go_ret2
      obtain ⟨e1, e2, e3⟩ := HE.out
      exact ⟨by rw [e1, e2]; rfl, by rw [e3]; exact HT5.out, HF5.out⟩
end Go.Proofs.Ytemmhligohebfaa
