/- encode, May, Put. -/
import Derived.Test.YtkfebibnpincpaaEntE
import Derived.Laws.Rows
import Derived.Deep.Onto
namespace Go.Proofs.Ytkfebibnpincpaa
open Go.RowKit

def putL (e : Ent) : List Int := if entB e = true then entL e else []
theorem putL_yes {e : Ent} (h : entB e = true) : putL e = entL e := if_pos h
theorem putL_no {e : Ent} (h : entB e = false) : putL e = [] := by unfold putL; rw [h]; rfl

theorem EntS.form {w : World} {s1 s2 s3 s4 s5 s6 : Value} {e : Ent} (hs : EntS w s1 s2 s3 s4 s5 s6 e) : ∃ A1 c1 A2 c2 A3 c3 A4 c4 A5 c5 A6 c6, s1 = .slice A1 e.old.length c1 ∧ s2 = .slice A2 e.new.length c2 ∧ s3 = .slice A3 e.moves.length c3 ∧ s4 = .slice A4 e.lives.length c4 ∧ s5 = .slice A5 e.dirty.length c5 ∧ s6 = .slice A6 e.opens.length c6 := by
  obtain ⟨A1, c1, rfl, q1⟩ := hs.old.form
  obtain ⟨A2, c2, rfl, q2⟩ := hs.new.form
  obtain ⟨A3, c3, rfl, q3⟩ := hs.moves.form
  obtain ⟨A4, c4, rfl, q4⟩ := hs.lives.form
  obtain ⟨A5, c5, rfl, q5⟩ := hs.dirty.form
  obtain ⟨os, ho, h6, _⟩ := hs.opens
  obtain ⟨A6, c6, rfl, q6⟩ := h6.form
  have hos : (os.map opV).length = e.opens.length := by rw [ho, List.length_map, List.length_map]
  simp only [List.length_map] at hos ⊢
  exact ⟨A1, c1, A2, c2, A3, c3, A4, c4, A5, c5, A6, c6, rfl, rfl, rfl, rfl, rfl, by rw [hos]⟩

theorem infoEnt : (Try.prog.info? 30).map (·.size) = some 16 := by kernel_rfl
theorem infoEntC (e : Ent) (s1 s2 s3 s4 s5 s6 : Value) : (Try.prog.info? 30).map (·.size) = some (entC e s1 s2 s3 s4 s5 s6).size := infoEnt

def EncPost (w : World) (e : Ent) (r : Ending) (w' : World) : Prop := ∃ A m c, r = .returned (.tuple #[.slice A m c, .bool (entB e)]) ∧ w'.ownsRow w.heap.size 5 1 (.slice A m c) (putL e).length (byteV (putL e)) ∧ Below w.heap.size w w'

set_option maxRecDepth 100000 in
set_option maxHeartbeats 1000000 in
theorem encode_any (w : World) (e : Ent) {s1 s2 s3 s4 s5 s6 : Value} (hs : EntS w s1 s2 s3 s4 s5 s6 e) (hi : EntI e) :
    Calls Try.prog 23 #[.agg (entC e s1 s2 s3 s4 s5 s6)] w (EncPost w e) := by
  obtain ⟨A1, c1, A2, c2, A3, c3, A4, c4, A5, c5, A6, c6, rfl, rfl, rfl, rfl, rfl, rfl⟩ := hs.form
  obtain ⟨W, hW⟩ : ∃ W, W = w.alloc (entO e (.slice A1 e.old.length c1) (.slice A2 e.new.length c2) (.slice A3 e.moves.length c3) (.slice A4 e.lives.length c4) (.slice A5 e.dirty.length c5) (.slice A6 e.opens.length c6)) := ⟨_, rfl⟩
  have hb0 : Below w.heap.size w W := by rw [hW]; exact (Below.refl _ _).alloc (Nat.le_refl _) _
  have hsz : W.heap.size = w.heap.size + 1 := by rw [hW]; simp
  have hbx : W.heap[w.heap.size]? = some (entO e (.slice A1 e.old.length c1) (.slice A2 e.new.length c2) (.slice A3 e.moves.length c3) (.slice A4 e.lives.length c4) (.slice A5 e.dirty.length c5) (.slice A6 e.opens.length c6)) := by rw [hW]; exact heap_alloc_new w _
  have hs2 := hs.below hb0 (Nat.le_refl _)
  have hws : WS (W.alloc (.cells #[.slice none 0 0, .bool false] 86)) W.heap.size (.slice none 0 0) [] false := ⟨heap_alloc_new W _, World.ownsRow_nil _ _ _ _⟩
  have hb1 : Below W.heap.size W (W.alloc (.cells #[.slice none 0 0, .bool false] 86)) := (Below.refl _ _).alloc (Nat.le_refl _) _
  have HS := Lib.hid hs2
  have HI := Lib.hid hi
  have HWS := Lib.hid hws
  have HB0 := Lib.hid hb0
  have HB1 := Lib.hid hb1
  have HSZ := Lib.hid hsz
  have HBX := Lib.hid ((hb1.block w.heap.size (by omega)).trans hbx)
  clear hs hs2 hi hws hb0 hb1 hbx hsz
  show Calls _ _ #[.agg #[.int .i64 e.kind, .int .i64 e.txn, .int .i64 e.unit, .int .i64 e.half, .int .i64 e.prev, .int .i64 e.next, .int .i64 e.ap, .int .i64 e.ac, .int .i64 e.tp, .int .i64 e.tc, _, _, _, _, _, _]] _ _
  go_enter Try.func23, Try.ntmps23
  go_upto_region 1 with (fail)
  show Code.wp _ _ _ _ (w.alloc (entO e (.slice A1 e.old.length c1) (.slice A2 e.new.length c2) (.slice A3 e.moves.length c3) (.slice A4 e.lives.length c4) (.slice A5 e.dirty.length c5) (.slice A6 e.opens.length c6)))
  rw [← hW]
  clear hW
  go_upto_region 2 with (fail)
  generalize W.alloc (.cells #[.slice none 0 0, .bool false] 86) = W2 at *
  have HBX2 : Hid (W2.heap[w.heap.size]? = some (.cells (entC e (.slice A1 e.old.length c1) (.slice A2 e.new.length c2) (.slice A3 e.moves.length c3) (.slice A4 e.lives.length c4) (.slice A5 e.dirty.length c5) (.slice A6 e.opens.length c6)) 30 (0, 0))) := HBX
  clear HBX
  go_wp2_with (with_reducible refine wpList_load_row rfl 30 (.tmp 1) rfl w.heap.size rfl 30 _ (0, 0) _ HBX2.out Try.underlying30 rfl (infoEntC ..) ?_)
  refine (wentry_any HWS.out HB1.out (Nat.le_refl _) e HS.out HI.out).mono ?_
  rintro r w3 ⟨rfl, v3, h3, g3⟩
  have hbel : Below w.heap.size w w3 := HB0.out.trans ((HB1.out.trans (g3.below HWS.out)).mono (by rw [HSZ.out]; omega))
  obtain ⟨A, m, c, rfl⟩ := own_shape h3.2
  have c0 := h3.c0
  have d1 := h3.c1
  have HO := Lib.hid h3.2
  have HBL := Lib.hid hbel
  clear h3 g3 hbel
  cases hB : entB e
  · rw [hB] at d1
    have HBF := Lib.hid hB
    clear hB
    go_wp2
    go_ret2
    exact ⟨none, 0, 0, by rw [HBF.out]; rfl, by rw [putL_no HBF.out]; exact World.ownsRow_nil _ _ _ _, HBL.out⟩
  · rw [hB] at d1
    have HBF := Lib.hid hB
    clear hB
    go_wp2
    go_ret2
    exact ⟨A, m, c, by rw [HBF.out]; rfl, by rw [putL_yes HBF.out]; exact HO.out.mono (by rw [HSZ.out]; omega), HBL.out⟩

set_option maxRecDepth 100000 in
set_option maxHeartbeats 1000000 in
theorem may_any (w : World) (e : Ent) {s1 s2 s3 s4 s5 s6 : Value} (hs : EntS w s1 s2 s3 s4 s5 s6 e) (hi : EntI e) :
    Calls Try.prog 14 #[.agg (entC e s1 s2 s3 s4 s5 s6)] w fun r w' => r = .returned (.bool (entB e)) ∧ Below w.heap.size w w' := by
  obtain ⟨A1, c1, A2, c2, A3, c3, A4, c4, A5, c5, A6, c6, rfl, rfl, rfl, rfl, rfl, rfl⟩ := hs.form
  obtain ⟨W, hW⟩ : ∃ W, W = w.alloc (entO e (.slice A1 e.old.length c1) (.slice A2 e.new.length c2) (.slice A3 e.moves.length c3) (.slice A4 e.lives.length c4) (.slice A5 e.dirty.length c5) (.slice A6 e.opens.length c6)) := ⟨_, rfl⟩
  have hb0 : Below w.heap.size w W := by rw [hW]; exact (Below.refl _ _).alloc (Nat.le_refl _) _
  have hsz : w.heap.size ≤ W.heap.size := hb0.size
  have HBX : Hid (W.heap[w.heap.size]? = some (.cells (entC e (.slice A1 e.old.length c1) (.slice A2 e.new.length c2) (.slice A3 e.moves.length c3) (.slice A4 e.lives.length c4) (.slice A5 e.dirty.length c5) (.slice A6 e.opens.length c6)) 30 (0, 0))) := by
    rw [hW]; exact heap_alloc_new w _
  have HS := Lib.hid (hs.below hb0 (Nat.le_refl _))
  have HI := Lib.hid hi
  have HB0 := Lib.hid hb0
  have HSZ := Lib.hid hsz
  clear hs hi hb0 hsz
  show Calls _ _ #[.agg #[.int .i64 e.kind, .int .i64 e.txn, .int .i64 e.unit, .int .i64 e.half, .int .i64 e.prev, .int .i64 e.next, .int .i64 e.ap, .int .i64 e.ac, .int .i64 e.tp, .int .i64 e.tc, _, _, _, _, _, _]] _ _
  go_enter Try.func14, Try.ntmps14
  go_upto_region 1 with (fail)
  show Code.wp _ _ _ _ (w.alloc (entO e (.slice A1 e.old.length c1) (.slice A2 e.new.length c2) (.slice A3 e.moves.length c3) (.slice A4 e.lives.length c4) (.slice A5 e.dirty.length c5) (.slice A6 e.opens.length c6)))
  rw [← hW]
  clear hW
  go_wp2_with (with_reducible refine wpList_load_row rfl 30 (.tmp 1) rfl w.heap.size rfl 30 _ (0, 0) _ HBX.out Try.underlying30 rfl (infoEntC ..) ?_)
  refine (encode_any W e HS.out HI.out).mono ?_
  rintro r w3 ⟨A, m, c, rfl, ho, hb⟩
  have HO := Lib.hid ho
  have HB := Lib.hid hb
  clear ho hb
  go_wp2
  go_ret
  exact ⟨rfl, HB0.out.trans (HB.out.mono HSZ.out)⟩

set_option maxRecDepth 100000 in
set_option maxHeartbeats 1000000 in
theorem put_any (w : World) (e : Ent) {s1 s2 s3 s4 s5 s6 : Value} (hs : EntS w s1 s2 s3 s4 s5 s6 e) (hi : EntI e) :
    Calls Try.prog 16 #[.agg (entC e s1 s2 s3 s4 s5 s6)] w fun r w' => ∃ A m c, r = .returned (.slice A m c) ∧ w'.ownsRow w.heap.size 5 1 (.slice A m c) (putL e).length (byteV (putL e)) ∧ Below w.heap.size w w' := by
  obtain ⟨A1, c1, A2, c2, A3, c3, A4, c4, A5, c5, A6, c6, rfl, rfl, rfl, rfl, rfl, rfl⟩ := hs.form
  obtain ⟨W, hW⟩ : ∃ W, W = w.alloc (entO e (.slice A1 e.old.length c1) (.slice A2 e.new.length c2) (.slice A3 e.moves.length c3) (.slice A4 e.lives.length c4) (.slice A5 e.dirty.length c5) (.slice A6 e.opens.length c6)) := ⟨_, rfl⟩
  have hb0 : Below w.heap.size w W := by rw [hW]; exact (Below.refl _ _).alloc (Nat.le_refl _) _
  have hsz : w.heap.size ≤ W.heap.size := hb0.size
  have HBX : Hid (W.heap[w.heap.size]? = some (.cells (entC e (.slice A1 e.old.length c1) (.slice A2 e.new.length c2) (.slice A3 e.moves.length c3) (.slice A4 e.lives.length c4) (.slice A5 e.dirty.length c5) (.slice A6 e.opens.length c6)) 30 (0, 0))) := by
    rw [hW]; exact heap_alloc_new w _
  have HS := Lib.hid (hs.below hb0 (Nat.le_refl _))
  have HI := Lib.hid hi
  have HB0 := Lib.hid hb0
  have HSZ := Lib.hid hsz
  clear hs hi hb0 hsz
  show Calls _ _ #[.agg #[.int .i64 e.kind, .int .i64 e.txn, .int .i64 e.unit, .int .i64 e.half, .int .i64 e.prev, .int .i64 e.next, .int .i64 e.ap, .int .i64 e.ac, .int .i64 e.tp, .int .i64 e.tc, _, _, _, _, _, _]] _ _
  go_enter Try.func16, Try.ntmps16
  go_upto_region 1 with (fail)
  show Code.wp _ _ _ _ (w.alloc (entO e (.slice A1 e.old.length c1) (.slice A2 e.new.length c2) (.slice A3 e.moves.length c3) (.slice A4 e.lives.length c4) (.slice A5 e.dirty.length c5) (.slice A6 e.opens.length c6)))
  rw [← hW]
  clear hW
  go_wp2_with (with_reducible refine wpList_load_row rfl 30 (.tmp 1) rfl w.heap.size rfl 30 _ (0, 0) _ HBX.out Try.underlying30 rfl (infoEntC ..) ?_)
  refine (encode_any W e HS.out HI.out).mono ?_
  rintro r w3 ⟨A, m, c, rfl, ho, hb⟩
  have HO := Lib.hid ho
  have HB := Lib.hid hb
  clear ho hb
  go_wp2
  go_ret
  exact ⟨A, m, c, rfl, HO.out.mono HSZ.out, HB0.out.trans (HB.out.mono HSZ.out)⟩

end Go.Proofs.Ytkfebibnpincpaa
