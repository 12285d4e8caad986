/- TrailAll, a part. -/
import Derived.Test.YthmgafcnoedmjaaGreatQ16
import Derived.Test.YthmgafcnoedmjaaGreatQ38
namespace Go.Proofs.YthmgafcnoedmjaaGreat
set_option maxRecDepth 100000
open Go.RowKit
set_option maxHeartbeats 4000000 in
theorem rframe_any (w : World) (e : Ent) {s1 s2 s3 s4 s5 s6 : Value} (hs : EntS w s1 s2 s3 s4 s5 s6 e) (hi : EntI e) :
  Calls Tryz.prog 30 #[.agg (entC e s1 s2 s3 s4 s5 s6)] w fun r w' => ∃ A m c, r = .returned (.slice A m c) ∧ w'.ownsRow w.heap.size 5 1 (.slice A m c) (frL e).length (byteV (frL e)) ∧ Below w.heap.size w w' := by
 obtain ⟨A1, c1, A2, c2, A3, c3, A4, c4, A5, c5, A6, c6, rfl, rfl, rfl, rfl, rfl, rfl⟩ := hs.form
 obtain ⟨W, hW⟩ : ∃ W, W = w.alloc (entO e (.slice A1 e.old.length c1) (.slice A2 e.new.length c2) (.slice A3 e.moves.length c3) (.slice A4 e.lives.length c4) (.slice A5 e.dirty.length c5) (.slice A6 e.opens.length c6)) := ⟨_, rfl⟩
 have hb0 : Below w.heap.size w W := by rw [hW]; exact (Below.refl _ _).alloc (Nat.le_refl _) _
 have hsz : w.heap.size ≤ W.heap.size := hb0.size
 have HBX : Hid (W.heap[w.heap.size]? = some (.cells (entC e (.slice A1 e.old.length c1) (.slice A2 e.new.length c2) (.slice A3 e.moves.length c3) (.slice A4 e.lives.length c4) (.slice A5 e.dirty.length c5) (.slice A6 e.opens.length c6)) 44 (0, 0))) := by
  rw [hW]; exact heap_alloc_new w _
 have HZI := Lib.hid (infoEntC e (.slice A1 e.old.length c1) (.slice A2 e.new.length c2) (.slice A3 e.moves.length c3) (.slice A4 e.lives.length c4) (.slice A5 e.dirty.length c5) (.slice A6 e.opens.length c6))
 have HP := Lib.hid (rput_any W e (hs.below hb0 (Nat.le_refl _)) hi)
 have HOK := Lib.hid (fun h : entB e = true => (show bytesOk (putL e) by rw [putL_yes h]; exact entL_okE hs.old.ok hs.new.ok))
 have HB0 := Lib.hid hb0
 have HSZ := Lib.hid hsz
 show Calls _ _ #[.agg #[.int .i64 e.kind, .int .i64 e.txn, .int .i64 e.unit, .int .i64 e.half, .int .i64 e.prev, .int .i64 e.next, .int .i64 e.ap, .int .i64 e.ac, .int .i64 e.tp, .int .i64 e.tc, _, _, _, _, _, _]] _ _
 clear hs hi hb0 hsz
 go_enter Tryz.func30, Tryz.ntmps30
 go_upto_region 1 with (fail)
 show Code.wp _ _ _ _ (w.alloc (entO e (.slice A1 e.old.length c1) (.slice A2 e.new.length c2) (.slice A3 e.moves.length c3) (.slice A4 e.lives.length c4) (.slice A5 e.dirty.length c5) (.slice A6 e.opens.length c6)))
 rw [← hW]
 clear hW
 go_wp2_with (with_reducible refine wpList_load_row rfl 44 (.tmp 1) rfl w.heap.size rfl 44 _ (0, 0) _ HBX.out Tryz.underlying44 rfl HZI.out ?_)
 refine HP.out.mono ?_
 rintro r w2 ⟨A, m, c, rfl, ho, hb2⟩
 have hm := own_n ho
 cases hB : entB e with
 | false =>
  rw [putL_no hB] at hm
  have HFR := Lib.hid (frL_no hB)
  have hb := HB0.out.trans (hb2.mono HSZ.out)
  have HB2 := Lib.hid hb
  subst hm
  clear ho hb hb2
  go_wp2
  go_ret
  exact ⟨none, 0, 0, rfl, by rw [HFR.out]; exact World.ownsRow_nil _ _ _ _, HB2.out⟩
 | true =>
  have hok := HOK.out hB
  have hfr := frL_yes hB
  rw [putL_yes hB] at ho hok hm
  have hge := t_entL_ge hB
  have hle := t_entL_le hB
  obtain ⟨L, hL⟩ : ∃ L, L = entL e := ⟨_, rfl⟩
  rw [← hL] at ho hok hge hle hm hfr
  have HFR := Lib.hid hfr
  clear hfr
  subst hm
  have hsl : SlK .u8 w2 (.slice A L.length c) L := own_slK ho hok
  have HSL := Lib.hid hsl
  have HB2 := Lib.hid (HB0.out.trans (hb2.mono HSZ.out))
  have HS := Lib.hid (rsums_any w2 hsl (by omega))
  have hb := sumP_bd L
  clear ho hok hsl hL hb2 hB HOK HP HBX HZI
  go_wp2_with fail
  refine HS.out.mono ?_
  rintro r w3 ⟨rfl, hw3⟩
  obtain rfl := hw3.symm
  clear hw3 HS
  go_upto_region 5 with (fail)
  obtain ⟨P, hP⟩ : ∃ P, P = (sumP L).1 := ⟨_, rfl⟩
  obtain ⟨Q, hQ⟩ : ∃ Q, Q = (sumP L).2 := ⟨_, rfl⟩
  rw [← hP, ← hQ] at hb ⊢
  have HPQ := Lib.hid (And.intro hP hQ)
  clear hP hQ
  obtain ⟨x, hx⟩ : ∃ x : Int, x = ((L.length / 256 : Nat) : Int) := ⟨_, rfl⟩
  obtain ⟨y, hy⟩ : ∃ y : Int, y = ((L.length % 256 : Nat) : Int) := ⟨_, rfl⟩
  have q1 : (L.length : Int).tdiv 256 = x := by rw [Int.tdiv_eq_ediv_of_nonneg (by omega), hx]; omega
  have q2 : (L.length : Int).tmod 256 = y := by rw [Int.tmod_eq_emod_of_nonneg (by omega), hy]; omega
  have q3 : (L.length : Int) / 256 = x := by omega
  have q4 : (L.length : Int) % 256 = y := by omega
  have t1 : IntKind.u8.wrap x = x := IntWalk.u8_in _ (by omega)
  have t2 : IntKind.u8.wrap y = y := IntWalk.u8_in _ (by omega)
  have t3 : IntKind.u8.wrap P = P := IntWalk.u8_in _ (by omega)
  have t4 : IntKind.u8.wrap Q = Q := IntWalk.u8_in _ (by omega)
  have hxy : bytesOk [x, y] := fun z hz => by simp at hz; rcases hz with rfl | rfl <;> omega
  have hpq : bytesOk [P, Q] := fun z hz => by simp at hz; rcases hz with rfl | rfl <;> omega
  have hle2 : L.length ≤ 65535 := by omega
  have o1 : (w2.alloc (.cells #[.int .u8 x, .int .u8 y] 5)).ownsRow w2.heap.size 5 1 (.slice (some ⟨w2.heap.size, 0, none⟩) 2 2) 2 (byteV [x, y]) := World.ownsRow_lit w2 #[.int .u8 x, .int .u8 y] 2 (Nat.le_refl _) (by unfold maxLen; omega) rfl
  have bA : Below w2.heap.size w2 (w2.alloc (.cells #[.int .u8 x, .int .u8 y] 5)) := (Below.refl _ _).alloc (Nat.le_refl _) _
  obtain ⟨v1, W1, hr1, ho1, hg1, hv1⟩ := run_append_sl o1 (HSL.out.below bA (Nat.le_refl _)).sw (by omega) bA.size
  obtain ⟨A1', m1', c1', rfl⟩ := own_shape ho1
  have b1 : Below w2.heap.size w2 W1 := bA.grown hg1 bA.size (fun k hk => by cases hk; exact Nat.le_refl _)
  have bB : Below W1.heap.size W1 (W1.alloc (.cells #[.int .u8 P, .int .u8 Q] 5)) := (Below.refl _ _).alloc (Nat.le_refl _) _
  have hone : SlK .u8 (W1.alloc (.cells #[.int .u8 P, .int .u8 Q] 5)) (.slice (some ⟨W1.heap.size, 0, none⟩) 2 2) [P, Q] := (Blk.pt (l := [P, Q]) (blk_new W1 [P, Q]) rfl (Nat.le_refl _)).slK hpq
  obtain ⟨v2, W2, hr2, ho2, hg2, hv2⟩ := run_append_sl (own_bel ho1 bB) hone.sw (by simp; omega) (Nat.le_trans b1.size bB.size)
  have b2 : Below w2.heap.size w2 W2 := (b1.trans (bB.mono b1.size)).grown hg2 (Nat.le_trans b1.size bB.size) (fun k hk => (ho1.lt k hk).1)
  obtain ⟨A2', m2', c2', rfl⟩ := own_shape ho2
  have HR1 := Lib.hid hr1
  have HR2 := Lib.hid hr2
  have HO : Hid (W2.ownsRow w.heap.size 5 1 (.slice A2' m2' c2') (frB L).length (byteV (frB L))) := by
   have e1 : frB L = [x, y] ++ L ++ [P, Q] := by unfold frB; rw [← HPQ.out.1, ← HPQ.out.2, ← hx, ← hy]
   rw [e1]
   have hl : ([x, y] ++ L ++ [P, Q]).length = 2 + L.length + 2 := by simp; omega
   rw [hl]
   exact ⟨ho2.1, ho2.2.imp id (fun ⟨g, cap, cur, r1, r2, r⟩ => ⟨g, cap, cur, r1, Nat.le_trans HB2.out.size r2, r⟩)⟩
  have HBF : Hid (Below w.heap.size w W2) := HB2.out.trans (b2.mono HB2.out.size)
  clear hr1 hr2 ho1 ho2 hg1 hg2 hv1 hv2 b1 b2 bA bB o1 hone hx hy hxy hpq hb hge hle
  go_wp2_with (first | (at_builtin; with_reducible refine Lib.wpList_append_run _ rfl _ _ _ _ rfl _ _ rfl rfl _ _ (HR1.out _) ?_) | (at_builtin; with_reducible refine Lib.wpList_append_run _ rfl _ _ _ _ rfl _ _ rfl rfl _ _ (HR2.out _) ?_))
  go_ret
  exact ⟨A2', m2', c2', rfl, by rw [HFR.out]; exact HO.out, HBF.out⟩
set_option maxHeartbeats 1000000 in
theorem short_any (w : World) (e : Ent) {s1 s2 s3 s4 s5 s6 : Value} (hs : EntS w s1 s2 s3 s4 s5 s6 e) (hi : EntI e) :
  Calls Tryz.prog 11 #[.agg (entC e s1 s2 s3 s4 s5 s6)] w fun r w' => r = .returned (.bool (decide ((putL e).length ≤ 150))) ∧ Below w.heap.size w w' := by
 obtain ⟨A1, c1, A2, c2, A3, c3, A4, c4, A5, c5, A6, c6, rfl, rfl, rfl, rfl, rfl, rfl⟩ := hs.form
 obtain ⟨W, hW⟩ : ∃ W, W = w.alloc (entO e (.slice A1 e.old.length c1) (.slice A2 e.new.length c2) (.slice A3 e.moves.length c3) (.slice A4 e.lives.length c4) (.slice A5 e.dirty.length c5) (.slice A6 e.opens.length c6)) := ⟨_, rfl⟩
 have hb0 : Below w.heap.size w W := by rw [hW]; exact (Below.refl _ _).alloc (Nat.le_refl _) _
 have HBX : Hid (W.heap[w.heap.size]? = some (.cells (entC e (.slice A1 e.old.length c1) (.slice A2 e.new.length c2) (.slice A3 e.moves.length c3) (.slice A4 e.lives.length c4) (.slice A5 e.dirty.length c5) (.slice A6 e.opens.length c6)) 44 (0, 0))) := by
  rw [hW]; exact heap_alloc_new w _
 have HZI := Lib.hid (infoEntC e (.slice A1 e.old.length c1) (.slice A2 e.new.length c2) (.slice A3 e.moves.length c3) (.slice A4 e.lives.length c4) (.slice A5 e.dirty.length c5) (.slice A6 e.opens.length c6))
 have HP := Lib.hid (rput_any W e (hs.below hb0 (Nat.le_refl _)) hi)
 have HB0 := Lib.hid hb0
 show Calls _ _ #[.agg #[.int .i64 e.kind, .int .i64 e.txn, .int .i64 e.unit, .int .i64 e.half, .int .i64 e.prev, .int .i64 e.next, .int .i64 e.ap, .int .i64 e.ac, .int .i64 e.tp, .int .i64 e.tc, _, _, _, _, _, _]] _ _
 clear hs hi hb0
 go_enter Tryz.func11, Tryz.ntmps11
 go_upto_region 1 with (fail)
 show Code.wp _ _ _ _ (w.alloc (entO e (.slice A1 e.old.length c1) (.slice A2 e.new.length c2) (.slice A3 e.moves.length c3) (.slice A4 e.lives.length c4) (.slice A5 e.dirty.length c5) (.slice A6 e.opens.length c6)))
 rw [← hW]
 clear hW
 go_wp2_with (with_reducible refine wpList_load_row rfl 44 (.tmp 1) rfl w.heap.size rfl 44 _ (0, 0) _ HBX.out Tryz.underlying44 rfl HZI.out ?_)
 refine HP.out.mono ?_
 rintro r w2 ⟨A, m, c, rfl, ho, hb2⟩
 have hm := own_n ho
 have HB2 := Lib.hid (HB0.out.trans (hb2.mono HB0.out.size))
 clear ho hb2 HP
 subst hm
 obtain ⟨q, hq⟩ : ∃ q, (putL e).length = q := ⟨_, rfl⟩
 rw [hq]
 have HQE := Lib.hid hq
 clear hq
 by_cases h : q ≤ 150
 ·have hI : (q : Int) ≤ 150 := by omega
  have HQ := Lib.hid h
  clear h
  go_wp2
  go_ret
  exact ⟨by rw [HQE.out, decide_eq_true HQ.out]; rfl, HB2.out⟩
 ·have hI : ¬ (q : Int) ≤ 150 := by omega
  have hd : decide ((q : Int) ≤ 150) = false := decide_eq_false hI
  have HQ := Lib.hid h
  clear h
  go_wp2
  go_ret
  exact ⟨by rw [HQE.out, decide_eq_false HQ.out]; rfl, HB2.out⟩
end Go.Proofs.YthmgafcnoedmjaaGreat
