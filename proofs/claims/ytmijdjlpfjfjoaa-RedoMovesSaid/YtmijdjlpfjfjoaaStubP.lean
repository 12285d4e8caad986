/- Stub. -/
import Derived.Test.YtmijdjlpfjfjoaaStub
namespace Go.Proofs.Ytmijdjlpfjfjoaa
open Go.RowKit

set_option maxRecDepth 100000 in
set_option maxHeartbeats 1000000 in
theorem stub_bad (w : World) (p c : Int) (hm : placeB p c = false) : Calls Try.prog 30 #[.agg #[.int .i64 p, .int .i64 c]] w fun e w' => e = .returned (.tuple #[.slice none 0 0, .int .i64 1]) ∧ Below w.heap.size w w' := by
  go_enter Try.func30, Try.ntmps30
  go_wp2_with fail
  refine (place_any _ p c).mono ?_
  rintro e w' ⟨rfl, rfl⟩
  go_wp2
  go_ret2
  exact ⟨rfl, ((Below.refl _ _).alloc (Nat.le_refl _) _).alloc (by simp) _⟩

set_option maxRecDepth 100000 in
set_option maxHeartbeats 1000000 in
theorem stub_ok (w : World) (p c : Int) (hm : placeB p c = true) : Calls Try.prog 30 #[.agg #[.int .i64 p, .int .i64 c]] w fun e w' => ∃ g, e = .returned (.tuple #[.slice (some ⟨g, 0, none⟩) 26 26, .int .i64 0]) ∧ w.heap.size ≤ g ∧ Blk w' g (stubL p c) ∧ Below w.heap.size w w' := by
  obtain ⟨p0, p1, c0, c1⟩ := place_of hm
  have hmk : ∀ W, (Instr.makeSlice 22 (.int .i64 26) (.int .i64 26)).run Try.prog W = .ok (.slice (some ⟨W.heap.size, 0, none⟩) 26 26) (W.alloc (.cells (byteV z26).toArray 5)) := fun W => make_bytes W 26 26 (by omega) (by omega)
  go_enter Try.func30, Try.ntmps30
  go_wp2_with fail
  refine (place_any _ p c).mono ?_
  rintro e w' ⟨rfl, rfl⟩
  have z1 : (w.alloc (.cells #[.int .i64 p, .int .i64 c] 25)).heap.size = w.heap.size + 1 := by simp
  have kb : (w.alloc (.cells #[.int .i64 p, .int .i64 c] 25)).heap[w.heap.size]? = some (.cells #[.int .i64 p, .int .i64 c] 25 (0, 0)) := heap_alloc_new w _
  have hB : Below w.heap.size w (w.alloc (.cells #[.int .i64 p, .int .i64 c] 25)) := (Below.refl _ _).alloc (Nat.le_refl _) _
  generalize w.alloc (.cells #[.int .i64 p, .int .i64 c] 25) = w1 at *
  have z2 : (w1.alloc (ridO p c)).heap.size = w.heap.size + 2 := by simp [z1]
  have kb2 : (w1.alloc (ridO p c)).heap[w.heap.size]? = some (.cells #[.int .i64 p, .int .i64 c] 25 (0, 0)) := (Below.heap_alloc _ _ _ (by omega)).trans kb
  have hB2 : Below w.heap.size w (w1.alloc (ridO p c)) := hB.alloc (by omega) _
  generalize w1.alloc (ridO p c) = w2 at *
  have kb3 : (w2.alloc (.cells (byteV z26).toArray 5)).heap[w.heap.size]? = some (.cells #[.int .i64 p, .int .i64 c] 25 (0, 0)) := (Below.heap_alloc _ _ _ (by omega)).trans kb2
  have kg := blk_new w2 z26
  have hB3 : Below w.heap.size w (w2.alloc (.cells (byteV z26).toArray 5)) := hB2.alloc (by omega) _
  have hg : w.heap.size + 2 ≤ w2.heap.size := by omega
  have HB3 := Lib.hid hB3
  have KG := Lib.hid kg
  have KB := Lib.hid kb3
  clear z1 z2 kb hB kb2 hB2 hB3 kg kb3
  go_upto_region 4 with (fail)
  generalize w2.alloc (.cells (byteV z26).toArray 5) = w3 at *
  generalize w2.heap.size = g at *
  have x0 := KG.out.cell (j := 0) (by decide)
  have x1 := KG.out.cell (j := 1) (by decide)
  have x2 := KG.out.cell (j := 2) (by decide)
  have f0 := (cell_of KG.out 0).2
  have f1 := (cell_of KG.out 1).2
  have f2 := (cell_of KG.out 2).2
  have y0 := (cell_of KB.out 0).1
  have y1 := (cell_of KB.out 1).1
  have hne : ¬ g = w.heap.size := by omega
  clear hmk
  go_region
  have kz := ((KG.out.set 0 2).set 1 p).set 2 c
  have hgg : w.heap.size ≤ g := by omega
  have hBz := ((HB3.out.setCell (p := ⟨g, 0, none⟩) hgg (.int .u8 2)).setCell (p := ⟨g, 1, none⟩) hgg (.int .u8 p)).setCell (p := ⟨g, 2, none⟩) hgg (.int .u8 c)
  go_wp2
  go_ret2
  exact ⟨g, rfl, by omega, kz, hBz.drew⟩

end Go.Proofs.Ytmijdjlpfjfjoaa
