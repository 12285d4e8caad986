/- light. -/
import Derived.Test.YtkfebibnpincpaaEntA
namespace Go.Proofs.Ytkfebibnpincpaa
open Go.RowKit

/-- Not too great. -/
structure Lgt (e : Ent) : Prop where
  old : e.old.length ≤ 40
  new : e.new.length ≤ 40
  moves : e.moves.length ≤ 45
  lives : e.lives.length ≤ 45
  dirty : e.dirty.length ≤ 45
  opens : e.opens.length ≤ 45

def LgtPost (w : World) (e : Ent) (r : Ending) (w' : World) : Prop := ∃ b, r = .returned (.bool b) ∧ Below w.heap.size w w' ∧ (b = true → Lgt e)
def SumRel (w : World) (m : Nat) (n i : Value) (wr : World) : Prop := ∃ (k : Nat) (s : Int), k ≤ m ∧ i = .int .i64 k ∧ n = .int .i64 s ∧ w = wr

set_option maxRecDepth 100000 in
set_option maxHeartbeats 4000000 in
theorem light_any (w : World) (e : Ent) {s1 s2 s3 s4 s5 s6 : Value} (hs : EntS w s1 s2 s3 s4 s5 s6 e) :
    Calls Try.prog 10 #[.agg (entC e s1 s2 s3 s4 s5 s6)] w (LgtPost w e) := by
  obtain ⟨A1, c1, A2, c2, A3, c3, A4, c4, A5, c5, A6, c6, rfl, rfl, rfl, rfl, rfl, rfl⟩ := hs.form
  have HO := Lib.hid hs.opens
  clear hs
  obtain ⟨n1, hn1⟩ : ∃ n, n = e.old.length := ⟨_, rfl⟩
  rw [← hn1]
  obtain ⟨n2, hn2⟩ : ∃ n, n = e.new.length := ⟨_, rfl⟩
  rw [← hn2]
  obtain ⟨n3, hn3⟩ : ∃ n, n = e.moves.length := ⟨_, rfl⟩
  rw [← hn3]
  obtain ⟨n4, hn4⟩ : ∃ n, n = e.lives.length := ⟨_, rfl⟩
  rw [← hn4]
  obtain ⟨n5, hn5⟩ : ∃ n, n = e.dirty.length := ⟨_, rfl⟩
  rw [← hn5]
  obtain ⟨n6, hn6⟩ : ∃ n, n = e.opens.length := ⟨_, rfl⟩
  rw [← hn6] at HO ⊢
  obtain ⟨W, hW⟩ : ∃ W, W = w.alloc (entO e (.slice A1 n1 c1) (.slice A2 n2 c2) (.slice A3 n3 c3) (.slice A4 n4 c4) (.slice A5 n5 c5) (.slice A6 n6 c6)) := ⟨_, rfl⟩
  have HB : Hid (Below w.heap.size w W) := by rw [hW]; exact (Below.refl _ _).alloc (Nat.le_refl _) _
  have HX : Hid (W.heap[w.heap.size]? = some (.cells (entC e (.slice A1 n1 c1) (.slice A2 n2 c2) (.slice A3 n3 c3) (.slice A4 n4 c4) (.slice A5 n5 c5) (.slice A6 n6 c6)) 30 (0, 0))) := by rw [hW]; exact heap_alloc_new w _
  have hcase : (n1 ≤ 40 ∧ n2 ≤ 40 ∧ n3 ≤ 45 ∧ n4 ≤ 45 ∧ n5 ≤ 45 ∧ n6 ≤ 45) ∨ (40 < n1) ∨ (n1 ≤ 40 ∧ 40 < n2) ∨ (n1 ≤ 40 ∧ n2 ≤ 40 ∧ 45 < n3) ∨ (n1 ≤ 40 ∧ n2 ≤ 40 ∧ n3 ≤ 45 ∧ 45 < n4) ∨ (n1 ≤ 40 ∧ n2 ≤ 40 ∧ n3 ≤ 45 ∧ n4 ≤ 45 ∧ 45 < n5) ∨ (n1 ≤ 40 ∧ n2 ≤ 40 ∧ n3 ≤ 45 ∧ n4 ≤ 45 ∧ n5 ≤ 45 ∧ 45 < n6) := by omega
  have HL : Hid ((n1 ≤ 40 ∧ n2 ≤ 40 ∧ n3 ≤ 45 ∧ n4 ≤ 45 ∧ n5 ≤ 45 ∧ n6 ≤ 45) → Lgt e) := fun h => ⟨by rw [← hn1]; omega, by rw [← hn2]; omega, by rw [← hn3]; omega, by rw [← hn4]; omega, by rw [← hn5]; omega, by rw [← hn6]; omega⟩
  clear hn1 hn2 hn3 hn4 hn5 hn6
  rcases hcase with ⟨q1, q2, q3, q4, q5, q6⟩ | q1 | ⟨q1, q2⟩ | ⟨q1, q2, q3⟩ | ⟨q1, q2, q3, q4⟩ | ⟨q1, q2, q3, q4, q5⟩ | ⟨q1, q2, q3, q4, q5, q6⟩
  · have HLL := Lib.hid (HL.out ⟨q1, q2, q3, q4, q5, q6⟩)
    have q66 := q6
    have x1 : W.cell? ⟨w.heap.size, 10, none⟩ = some (.slice A1 n1 c1) := (cell_of HX.out 10).1
    have x2 : W.cell? ⟨w.heap.size, 11, none⟩ = some (.slice A2 n2 c2) := (cell_of HX.out 11).1
    have x3 : W.cell? ⟨w.heap.size, 12, none⟩ = some (.slice A3 n3 c3) := (cell_of HX.out 12).1
    have x4 : W.cell? ⟨w.heap.size, 13, none⟩ = some (.slice A4 n4 c4) := (cell_of HX.out 13).1
    have x5 : W.cell? ⟨w.heap.size, 14, none⟩ = some (.slice A5 n5 c5) := (cell_of HX.out 14).1
    have x6 : W.cell? ⟨w.heap.size, 15, none⟩ = some (.slice A6 n6 c6) := (cell_of HX.out 15).1
    have r1 : ¬ ((40 : Int) < (n1 : Int)) := by omega
    have r2 : ¬ ((40 : Int) < (n2 : Int)) := by omega
    have r3 : ¬ ((45 : Int) < (n3 : Int)) := by omega
    have r4 : ¬ ((45 : Int) < (n4 : Int)) := by omega
    have r5 : ¬ ((45 : Int) < (n5 : Int)) := by omega
    have r6 : ¬ ((45 : Int) < (n6 : Int)) := by omega
    clear q1 q2 q3 q4 q5 q6
    show Calls _ _ #[.agg #[.int .i64 e.kind, .int .i64 e.txn, .int .i64 e.unit, .int .i64 e.half, .int .i64 e.prev, .int .i64 e.next, .int .i64 e.ap, .int .i64 e.ac, .int .i64 e.tp, .int .i64 e.tc, _, _, _, _, _, _]] _ _
    go_enter Try.func10, Try.ntmps10
    go_upto_region 1 with (fail)
    show Code.wp _ _ _ _ (w.alloc (entO e (.slice A1 n1 c1) (.slice A2 n2 c2) (.slice A3 n3 c3) (.slice A4 n4 c4) (.slice A5 n5 c5) (.slice A6 n6 c6)))
    rw [← hW]
    clear hW
    go_wp2
    clear x1 x2 x3 x4 x5 r1 r2 r3 r4 r5 r6
    obtain ⟨os, hos, ho1, ho2⟩ := HO.out
    have hlen : os.length = n6 := by
      obtain ⟨_, _, e1, _⟩ := ho1
      injection e1 with _ e2 _
      rw [List.length_map] at e2
      exact e2.symm
    have HO1 := Lib.hid (ho1.below HB.out (Nat.le_refl _))
    have HO2 := Lib.hid ho2
    clear hos ho1 ho2
    go_loopw [3, 4] (fun n i wr => SumRel W n6 n i wr) (fun _ i _ => n6 - (intOf i).toNat)
    case atStart => exact ⟨0, 0, Nat.zero_le _, rfl, rfl, rfl⟩
    case round =>
      obtain ⟨k, s, hk, rfl, rfl, rfl⟩ := hrel
      by_cases hlt : k < n6
      · obtain ⟨b, off, rfl, hbl, hc⟩ := HO1.out.one (i := k) (by rw [List.length_map, hlen]; exact hlt)
        obtain ⟨A7, c7, e7⟩ := (HO2.out os[k] (List.getElem_mem _)).mv
        have y1 : W.cell? ⟨b, off + k * 3 + 1, none⟩ = some os[k].2 := by simpa [opV] using hc 1 (by omega)
        rw [e7] at y1
        obtain ⟨n7, hn7⟩ : ∃ n, n = os[k].1.2.2.length := ⟨_, rfl⟩
        rw [← hn7] at y1
        clear hc e7 hn7 hlen
        have z1 : (0 : Int) ≤ (k : Int) := by omega
        have z2 : (k : Int) < (n6 : Int) := by omega
        go_wp2
        go_roundw
        case rel => exact ⟨k + 1, _, hlt, rfl, rfl, rfl⟩
        case measure => simp [intOf]; omega
      · obtain rfl : k = n6 := by omega
        clear hlen
        go_wp2
        go_ret
        exact ⟨_, rfl, HB.out, fun _ => HLL.out⟩
  · have x1 : W.cell? ⟨w.heap.size, 10, none⟩ = some (.slice A1 n1 c1) := (cell_of HX.out 10).1
    have r1 : (40 : Int) < (n1 : Int) := by omega
    clear q1
    show Calls _ _ #[.agg #[.int .i64 e.kind, .int .i64 e.txn, .int .i64 e.unit, .int .i64 e.half, .int .i64 e.prev, .int .i64 e.next, .int .i64 e.ap, .int .i64 e.ac, .int .i64 e.tp, .int .i64 e.tc, _, _, _, _, _, _]] _ _
    go_enter Try.func10, Try.ntmps10
    go_upto_region 1 with (fail)
    show Code.wp _ _ _ _ (w.alloc (entO e (.slice A1 n1 c1) (.slice A2 n2 c2) (.slice A3 n3 c3) (.slice A4 n4 c4) (.slice A5 n5 c5) (.slice A6 n6 c6)))
    rw [← hW]
    clear hW
    go_wp2
    go_ret
    exact ⟨_, rfl, HB.out, fun h => by cases h⟩
  · have x1 : W.cell? ⟨w.heap.size, 10, none⟩ = some (.slice A1 n1 c1) := (cell_of HX.out 10).1
    have x2 : W.cell? ⟨w.heap.size, 11, none⟩ = some (.slice A2 n2 c2) := (cell_of HX.out 11).1
    have r1 : ¬ ((40 : Int) < (n1 : Int)) := by omega
    have r2 : (40 : Int) < (n2 : Int) := by omega
    clear q1 q2
    show Calls _ _ #[.agg #[.int .i64 e.kind, .int .i64 e.txn, .int .i64 e.unit, .int .i64 e.half, .int .i64 e.prev, .int .i64 e.next, .int .i64 e.ap, .int .i64 e.ac, .int .i64 e.tp, .int .i64 e.tc, _, _, _, _, _, _]] _ _
    go_enter Try.func10, Try.ntmps10
    go_upto_region 1 with (fail)
    show Code.wp _ _ _ _ (w.alloc (entO e (.slice A1 n1 c1) (.slice A2 n2 c2) (.slice A3 n3 c3) (.slice A4 n4 c4) (.slice A5 n5 c5) (.slice A6 n6 c6)))
    rw [← hW]
    clear hW
    go_wp2
    go_ret
    exact ⟨_, rfl, HB.out, fun h => by cases h⟩
  · have x1 : W.cell? ⟨w.heap.size, 10, none⟩ = some (.slice A1 n1 c1) := (cell_of HX.out 10).1
    have x2 : W.cell? ⟨w.heap.size, 11, none⟩ = some (.slice A2 n2 c2) := (cell_of HX.out 11).1
    have x3 : W.cell? ⟨w.heap.size, 12, none⟩ = some (.slice A3 n3 c3) := (cell_of HX.out 12).1
    have r1 : ¬ ((40 : Int) < (n1 : Int)) := by omega
    have r2 : ¬ ((40 : Int) < (n2 : Int)) := by omega
    have r3 : (45 : Int) < (n3 : Int) := by omega
    clear q1 q2 q3
    show Calls _ _ #[.agg #[.int .i64 e.kind, .int .i64 e.txn, .int .i64 e.unit, .int .i64 e.half, .int .i64 e.prev, .int .i64 e.next, .int .i64 e.ap, .int .i64 e.ac, .int .i64 e.tp, .int .i64 e.tc, _, _, _, _, _, _]] _ _
    go_enter Try.func10, Try.ntmps10
    go_upto_region 1 with (fail)
    show Code.wp _ _ _ _ (w.alloc (entO e (.slice A1 n1 c1) (.slice A2 n2 c2) (.slice A3 n3 c3) (.slice A4 n4 c4) (.slice A5 n5 c5) (.slice A6 n6 c6)))
    rw [← hW]
    clear hW
    go_wp2
    go_ret
    exact ⟨_, rfl, HB.out, fun h => by cases h⟩
  · have x1 : W.cell? ⟨w.heap.size, 10, none⟩ = some (.slice A1 n1 c1) := (cell_of HX.out 10).1
    have x2 : W.cell? ⟨w.heap.size, 11, none⟩ = some (.slice A2 n2 c2) := (cell_of HX.out 11).1
    have x3 : W.cell? ⟨w.heap.size, 12, none⟩ = some (.slice A3 n3 c3) := (cell_of HX.out 12).1
    have x4 : W.cell? ⟨w.heap.size, 13, none⟩ = some (.slice A4 n4 c4) := (cell_of HX.out 13).1
    have r1 : ¬ ((40 : Int) < (n1 : Int)) := by omega
    have r2 : ¬ ((40 : Int) < (n2 : Int)) := by omega
    have r3 : ¬ ((45 : Int) < (n3 : Int)) := by omega
    have r4 : (45 : Int) < (n4 : Int) := by omega
    clear q1 q2 q3 q4
    show Calls _ _ #[.agg #[.int .i64 e.kind, .int .i64 e.txn, .int .i64 e.unit, .int .i64 e.half, .int .i64 e.prev, .int .i64 e.next, .int .i64 e.ap, .int .i64 e.ac, .int .i64 e.tp, .int .i64 e.tc, _, _, _, _, _, _]] _ _
    go_enter Try.func10, Try.ntmps10
    go_upto_region 1 with (fail)
    show Code.wp _ _ _ _ (w.alloc (entO e (.slice A1 n1 c1) (.slice A2 n2 c2) (.slice A3 n3 c3) (.slice A4 n4 c4) (.slice A5 n5 c5) (.slice A6 n6 c6)))
    rw [← hW]
    clear hW
    go_wp2
    go_ret
    exact ⟨_, rfl, HB.out, fun h => by cases h⟩
  · have x1 : W.cell? ⟨w.heap.size, 10, none⟩ = some (.slice A1 n1 c1) := (cell_of HX.out 10).1
    have x2 : W.cell? ⟨w.heap.size, 11, none⟩ = some (.slice A2 n2 c2) := (cell_of HX.out 11).1
    have x3 : W.cell? ⟨w.heap.size, 12, none⟩ = some (.slice A3 n3 c3) := (cell_of HX.out 12).1
    have x4 : W.cell? ⟨w.heap.size, 13, none⟩ = some (.slice A4 n4 c4) := (cell_of HX.out 13).1
    have x5 : W.cell? ⟨w.heap.size, 14, none⟩ = some (.slice A5 n5 c5) := (cell_of HX.out 14).1
    have r1 : ¬ ((40 : Int) < (n1 : Int)) := by omega
    have r2 : ¬ ((40 : Int) < (n2 : Int)) := by omega
    have r3 : ¬ ((45 : Int) < (n3 : Int)) := by omega
    have r4 : ¬ ((45 : Int) < (n4 : Int)) := by omega
    have r5 : (45 : Int) < (n5 : Int) := by omega
    clear q1 q2 q3 q4 q5
    show Calls _ _ #[.agg #[.int .i64 e.kind, .int .i64 e.txn, .int .i64 e.unit, .int .i64 e.half, .int .i64 e.prev, .int .i64 e.next, .int .i64 e.ap, .int .i64 e.ac, .int .i64 e.tp, .int .i64 e.tc, _, _, _, _, _, _]] _ _
    go_enter Try.func10, Try.ntmps10
    go_upto_region 1 with (fail)
    show Code.wp _ _ _ _ (w.alloc (entO e (.slice A1 n1 c1) (.slice A2 n2 c2) (.slice A3 n3 c3) (.slice A4 n4 c4) (.slice A5 n5 c5) (.slice A6 n6 c6)))
    rw [← hW]
    clear hW
    go_wp2
    go_ret
    exact ⟨_, rfl, HB.out, fun h => by cases h⟩
  · have x1 : W.cell? ⟨w.heap.size, 10, none⟩ = some (.slice A1 n1 c1) := (cell_of HX.out 10).1
    have x2 : W.cell? ⟨w.heap.size, 11, none⟩ = some (.slice A2 n2 c2) := (cell_of HX.out 11).1
    have x3 : W.cell? ⟨w.heap.size, 12, none⟩ = some (.slice A3 n3 c3) := (cell_of HX.out 12).1
    have x4 : W.cell? ⟨w.heap.size, 13, none⟩ = some (.slice A4 n4 c4) := (cell_of HX.out 13).1
    have x5 : W.cell? ⟨w.heap.size, 14, none⟩ = some (.slice A5 n5 c5) := (cell_of HX.out 14).1
    have x6 : W.cell? ⟨w.heap.size, 15, none⟩ = some (.slice A6 n6 c6) := (cell_of HX.out 15).1
    have r1 : ¬ ((40 : Int) < (n1 : Int)) := by omega
    have r2 : ¬ ((40 : Int) < (n2 : Int)) := by omega
    have r3 : ¬ ((45 : Int) < (n3 : Int)) := by omega
    have r4 : ¬ ((45 : Int) < (n4 : Int)) := by omega
    have r5 : ¬ ((45 : Int) < (n5 : Int)) := by omega
    have r6 : (45 : Int) < (n6 : Int) := by omega
    clear q1 q2 q3 q4 q5 q6
    show Calls _ _ #[.agg #[.int .i64 e.kind, .int .i64 e.txn, .int .i64 e.unit, .int .i64 e.half, .int .i64 e.prev, .int .i64 e.next, .int .i64 e.ap, .int .i64 e.ac, .int .i64 e.tp, .int .i64 e.tc, _, _, _, _, _, _]] _ _
    go_enter Try.func10, Try.ntmps10
    go_upto_region 1 with (fail)
    show Code.wp _ _ _ _ (w.alloc (entO e (.slice A1 n1 c1) (.slice A2 n2 c2) (.slice A3 n3 c3) (.slice A4 n4 c4) (.slice A5 n5 c5) (.slice A6 n6 c6)))
    rw [← hW]
    clear hW
    go_wp2
    go_ret
    exact ⟨_, rfl, HB.out, fun h => by cases h⟩
end Go.Proofs.Ytkfebibnpincpaa
