/- The log's frames: Frame. -/
import Derived.Test.YthhnmpobkekbbaaGreatTrAd
import Derived.Test.YthhnmpobkekbbaaGreatConcat
namespace Go.Proofs.YthhnmpobkekbbaaGreat
open Go.RowKit

/-- The frame of a body. -/
def frB (b : List Int) : List Int := [((b.length / 256 : Nat) : Int), ((b.length % 256 : Nat) : Int)] ++ b ++ [(sumP b).1, (sumP b).2]
def frL (e : Ent) : List Int := if entB e = true then frB (entL e) else []
theorem frB_len (b : List Int) : (frB b).length = b.length + 4 := by unfold frB; simp
theorem frB_ok {b : List Int} (h : bytesOk b) (hl : b.length < 65536) : bytesOk (frB b) := by
  intro x hx
  unfold frB at hx
  have hp := sumP_bd b
  rcases List.mem_append.1 hx with hx | hx
  · rcases List.mem_append.1 hx with hx | hx
    · simp at hx
      rcases hx with rfl | rfl <;> omega
    · exact h x hx
  · simp at hx
    rcases hx with rfl | rfl <;> omega
theorem frL_yes {e : Ent} (h : entB e = true) : frL e = frB (entL e) := if_pos h
theorem frL_no {e : Ent} (h : entB e = false) : frL e = [] := by unfold frL; rw [h]; rfl

set_option maxRecDepth 100000 in
set_option maxHeartbeats 1000000 in
theorem frame_any (w : World) (e : Ent) {s1 s2 s3 s4 s5 s6 : Value} (hs : EntS w s1 s2 s3 s4 s5 s6 e) (hi : EntI e) :
    Calls Tryz.prog 29 #[.agg (entC e s1 s2 s3 s4 s5 s6)] w fun r w' => ∃ A m c, r = .returned (.slice A m c) ∧ w'.ownsRow w.heap.size 5 1 (.slice A m c) (frL e).length (byteV (frL e)) ∧ Below w.heap.size w w' := by
  obtain ⟨A1, c1, A2, c2, A3, c3, A4, c4, A5, c5, A6, c6, rfl, rfl, rfl, rfl, rfl, rfl⟩ := hs.form
  obtain ⟨W, hW⟩ : ∃ W, W = w.alloc (entO e (.slice A1 e.old.length c1) (.slice A2 e.new.length c2) (.slice A3 e.moves.length c3) (.slice A4 e.lives.length c4) (.slice A5 e.dirty.length c5) (.slice A6 e.opens.length c6)) := ⟨_, rfl⟩
  have hb0 : Below w.heap.size w W := by rw [hW]; exact (Below.refl _ _).alloc (Nat.le_refl _) _
  have hsz : w.heap.size ≤ W.heap.size := hb0.size
  have HBX : Hid (W.heap[w.heap.size]? = some (.cells (entC e (.slice A1 e.old.length c1) (.slice A2 e.new.length c2) (.slice A3 e.moves.length c3) (.slice A4 e.lives.length c4) (.slice A5 e.dirty.length c5) (.slice A6 e.opens.length c6)) 44 (0, 0))) := by
    rw [hW]; exact heap_alloc_new w _
  have HZI := Lib.hid (infoEntC e (.slice A1 e.old.length c1) (.slice A2 e.new.length c2) (.slice A3 e.moves.length c3) (.slice A4 e.lives.length c4) (.slice A5 e.dirty.length c5) (.slice A6 e.opens.length c6))
  have HP := Lib.hid (put_any W e (hs.below hb0 (Nat.le_refl _)) hi)
  have HOK := Lib.hid (fun h : entB e = true => (show bytesOk (putL e) by rw [putL_yes h]; exact entL_okE hs.old.ok hs.new.ok))
  have HB0 := Lib.hid hb0
  have HSZ := Lib.hid hsz
  show Calls _ _ #[.agg #[.int .i64 e.kind, .int .i64 e.txn, .int .i64 e.unit, .int .i64 e.half, .int .i64 e.prev, .int .i64 e.next, .int .i64 e.ap, .int .i64 e.ac, .int .i64 e.tp, .int .i64 e.tc, _, _, _, _, _, _]] _ _
  clear hs hi hb0 hsz
  go_enter Tryz.func29, Tryz.ntmps29
  go_upto_region 1 with (fail)
  show Code.wp _ _ _ _ (w.alloc (entO e (.slice A1 e.old.length c1) (.slice A2 e.new.length c2) (.slice A3 e.moves.length c3) (.slice A4 e.lives.length c4) (.slice A5 e.dirty.length c5) (.slice A6 e.opens.length c6)))
  rw [← hW]
  clear hW
  go_wp2_with (with_reducible refine wpList_load_row rfl 44 (.tmp 1) rfl w.heap.size rfl 44 _ (0, 0) _ HBX.out Tryz.underlying44 rfl HZI.out ?_)
  refine HP.out.mono ?_
  rintro r w2 ⟨A, m, c, rfl, ho, hb2⟩
  have hm := own_n ho
  cases hB : entB e with
  | false =>
    rw [putL_no hB] at hm
    have HFR := Lib.hid (frL_no hB)
    have hb := HB0.out.trans (hb2.mono HSZ.out)
    have HB2 := Lib.hid hb
    subst hm
    clear ho hb hb2
    go_wp2
    go_ret
    exact ⟨none, 0, 0, rfl, by rw [HFR.out]; exact World.ownsRow_nil _ _ _ _, HB2.out⟩
  | true =>
    have hok := HOK.out hB
    have hfr := frL_yes hB
    rw [putL_yes hB] at ho hok hm
    have hge := t_entL_ge hB
    have hle := t_entL_le hB
    obtain ⟨L, hL⟩ : ∃ L, L = entL e := ⟨_, rfl⟩
    rw [← hL] at ho hok hge hle hm hfr
    have HFR := Lib.hid hfr
    clear hfr
    subst hm
    have hsl : SlK .u8 w2 (.slice A L.length c) L := own_slK ho hok
    have HSL := Lib.hid hsl
    have HB2 := Lib.hid (HB0.out.trans (hb2.mono HSZ.out))
    have HS := Lib.hid (sums_any w2 hsl (by omega))
    have hb := sumP_bd L
    clear ho hok hsl hL hb2 hB HOK HP HBX HZI
    go_upto_region 4 with (fail)
    go_wp2_with fail
    refine HS.out.mono ?_
    rintro r w3 ⟨rfl, hw3⟩
    obtain rfl := hw3.symm
    clear hw3
    obtain ⟨P, hP⟩ : ∃ P, P = (sumP L).1 := ⟨_, rfl⟩
    obtain ⟨Q, hQ⟩ : ∃ Q, Q = (sumP L).2 := ⟨_, rfl⟩
    rw [← hP, ← hQ] at hb ⊢
    have HPQ := Lib.hid (And.intro hP hQ)
    clear hP hQ HS
    have hC : Calls Tryz.prog 53 #[.slice (some ⟨w2.heap.size + 1 + 1, 0, none⟩) 3 3] (((w2.alloc (.cells #[.int .u8 ((L.length : Int) / 256), .int .u8 ((L.length : Int) % 256)] 5)).alloc (.cells #[.int .u8 P, .int .u8 Q] 5)).alloc (.cells #[.slice (some ⟨w2.heap.size, 0, none⟩) 2 2, .slice A L.length c, .slice (some ⟨w2.heap.size + 1, 0, none⟩) 2 2] 36)) fun r w' => ∃ A m c, r = .returned (.slice A m c) ∧ w'.ownsRow w.heap.size 5 1 (.slice A m c) (frB L).length (byteV (frB L)) ∧ Below w.heap.size w w' := by
      obtain ⟨O1, hO1⟩ : ∃ O, O = Obj.cells #[.int .u8 ((L.length : Int) / 256), .int .u8 ((L.length : Int) % 256)] 5 := ⟨_, rfl⟩
      obtain ⟨O2, hO2⟩ : ∃ O, O = Obj.cells #[.int .u8 P, .int .u8 Q] 5 := ⟨_, rfl⟩
      obtain ⟨O3, hO3⟩ : ∃ O, O = Obj.cells #[.slice (some ⟨w2.heap.size, 0, none⟩) 2 2, .slice A L.length c, .slice (some ⟨w2.heap.size + 1, 0, none⟩) 2 2] 36 := ⟨_, rfl⟩
      rw [← hO1, ← hO2, ← hO3]
      have hs1 : (w2.alloc O1).heap.size = w2.heap.size + 1 := by simp
      have hs2 : ((w2.alloc O1).alloc O2).heap.size = w2.heap.size + 1 + 1 := by simp
      have hB : Below w2.heap.size w2 (((w2.alloc O1).alloc O2).alloc O3) := (((Below.refl _ _).alloc (Nat.le_refl _) _).alloc (by omega) _).alloc (by omega) _
      have g3 : (((w2.alloc O1).alloc O2).alloc O3).heap[w2.heap.size + 1 + 1]? = some O3 := by rw [← hs2]; exact heap_alloc_new _ _
      have g2 : (((w2.alloc O1).alloc O2).alloc O3).heap[w2.heap.size + 1]? = some O2 := by
        rw [Below.heap_alloc _ _ _ (by omega)]
        rw [← hs1]; exact heap_alloc_new _ _
      have g1 : (((w2.alloc O1).alloc O2).alloc O3).heap[w2.heap.size]? = some O1 := by
        rw [Below.heap_alloc _ _ _ (by omega), Below.heap_alloc _ _ _ (by omega)]
        exact heap_alloc_new _ _
      generalize ((w2.alloc O1).alloc O2).alloc O3 = W3 at *
      have e0 : [[(L.length : Int) / 256, (L.length : Int) % 256], L, [P, Q]].flatten = frB L := by
        unfold frB
        rw [← HPQ.out.1, ← HPQ.out.2]
        simp
      rw [hO3] at g3
      have q : Pt W3 (.slice A L.length c) L := (HSL.out.below hB (Nat.le_refl _)).pt (fun e => by rw [e] at hge; simp at hge)
      have q1 : Pt W3 (.slice (some ⟨w2.heap.size, 0, none⟩) 2 2) [(L.length : Int) / 256, (L.length : Int) % 256] := by
        rw [hO1] at g1
        exact Blk.pt (l := [(L.length : Int) / 256, (L.length : Int) % 256]) g1 rfl (Nat.le_refl _)
      have q2 : Pt W3 (.slice (some ⟨w2.heap.size + 1, 0, none⟩) 2 2) [P, Q] := by
        rw [hO2] at g2
        exact Blk.pt (l := [P, Q]) g2 rfl (Nat.le_refl _)
      refine (concat_any W3 (w2.heap.size + 1 + 1) 36 [_, _, _] [[(L.length : Int) / 256, (L.length : Int) % 256], L, [P, Q]] g3 rfl ?_ (by rw [e0, frB_len]; omega) (by simp)).mono ?_
      · intro j h h'
        match j, h with
        | 0, _ => exact q1
        | 1, _ => exact q
        | 2, _ => exact q2
      · rintro r w' ⟨v, rfl, ho, hb⟩
        rw [e0] at ho
        obtain ⟨A9, m9, c9, rfl⟩ := own_shape ho
        have hw : Below w.heap.size w W3 := HB2.out.trans (hB.mono HB2.out.size)
        exact ⟨A9, m9, c9, rfl, ⟨ho.1, ho.2.imp id (fun ⟨g, cap, cur, r1, r2, r⟩ => ⟨g, cap, cur, r1, Nat.le_trans hw.size r2, r⟩)⟩, hw.trans (hb.mono hw.size)⟩
    have HC := Lib.hid hC
    clear hC
    go_upto_region 5 with (fail)
    go_wp2_with fail
    refine HC.out.mono ?_
    rintro r w4 ⟨A4, m4, c4, rfl, ho, hb4⟩
    have HO := Lib.hid ho
    have HB4 := Lib.hid hb4
    clear ho hb4 HC
    go_wp2
    go_ret
    exact ⟨A4, m4, c4, rfl, by rw [HFR.out]; exact HO.out, HB4.out⟩
end Go.Proofs.YthhnmpobkekbbaaGreat
