/- Stub, and the reference's. -/
import Derived.Test.YtmijdjlpfjfjoaaRowR
namespace Go.Proofs.Ytmijdjlpfjfjoaa
open Go.RowKit

/-- The bytes of a stub. -/
def stubL (p c : Int) : List Int := [2, p, c] ++ List.replicate 23 0

def z26 : List Int := List.replicate 26 0

theorem place_of {p c : Int} (h : placeB p c = true) : 0 ≤ p ∧ p < 32 ∧ 0 ≤ c ∧ c < 4 := of_decide_eq_true h

set_option maxRecDepth 100000 in
set_option maxHeartbeats 1000000 in
theorem rstub_bad (w : World) (p c : Int) (hm : placeB p c = false) : Calls Try.prog 17 #[.agg #[.int .i64 p, .int .i64 c]] w fun e w' => e = .returned (.tuple #[.slice none 0 0, .int .i64 1]) ∧ Below w.heap.size w w' := by
  go_enter Try.func17, Try.ntmps17
  go_wp2_with fail
  refine (there_any _ p c).mono ?_
  rintro e w' ⟨rfl, rfl⟩
  go_wp2
  go_ret2
  exact ⟨rfl, ((Below.refl _ _).alloc (Nat.le_refl _) _).alloc (by simp) _⟩

set_option maxRecDepth 100000 in
set_option maxHeartbeats 1000000 in
theorem rstub_ok (w : World) (p c : Int) (hm : placeB p c = true) : Calls Try.prog 17 #[.agg #[.int .i64 p, .int .i64 c]] w fun e w' => ∃ x, e = .returned (.tuple #[x, .int .i64 0]) ∧ w'.ownsRow w.heap.size 5 1 x 26 (byteV (stubL p c)) ∧ Below w.heap.size w w' := by
  obtain ⟨p0, p1, c0, c1⟩ := place_of hm
  go_enter Try.func17, Try.ntmps17
  go_wp2_with fail
  refine (there_any _ p c).mono ?_
  rintro e w' ⟨rfl, rfl⟩
  have z1 : (w.alloc (.cells #[.int .i64 p, .int .i64 c] 25)).heap.size = w.heap.size + 1 := by simp
  have kb : (w.alloc (.cells #[.int .i64 p, .int .i64 c] 25)).heap[w.heap.size]? = some (.cells #[.int .i64 p, .int .i64 c] 25 (0, 0)) := heap_alloc_new w _
  have hB : Below w.heap.size w (w.alloc (.cells #[.int .i64 p, .int .i64 c] 25)) := (Below.refl _ _).alloc (Nat.le_refl _) _
  generalize w.alloc (.cells #[.int .i64 p, .int .i64 c] 25) = w1 at *
  have kb2 : (w1.alloc (ridO p c)).heap[w.heap.size]? = some (.cells #[.int .i64 p, .int .i64 c] 25 (0, 0)) := (Below.heap_alloc _ _ _ (by omega)).trans kb
  have hB2 : Below w.heap.size w (w1.alloc (ridO p c)) := hB.alloc (by omega) _
  generalize w1.alloc (ridO p c) = w2 at *
  have hz := hB2.size
  have ho : (w2.alloc (.cells #[.int .u8 2, .int .u8 p, .int .u8 c] 5)).ownsRow w.heap.size 5 1 (.slice (some ⟨w2.heap.size, 0, none⟩) 3 3) 3 (byteV [2, p, c]) := World.ownsRow_lit w2 (byteV [2, p, c]).toArray 3 hz (by unfold maxLen; omega) rfl
  have hB3 : Below w.heap.size w (w2.alloc (.cells #[.int .u8 2, .int .u8 p, .int .u8 c] 5)) := hB2.alloc hz _
  obtain ⟨v3, w3, hr3, ho3, hg3⟩ := zeros_own _ w.heap.size w2.heap.size 3 3 _ 23 ho (by omega) hB3.size
  have hb3 : Below w.heap.size w w3 := hB3.grown hg3 hB3.size (fun k hk => by have h1 : w2.heap.size = k := Option.some.inj hk; omega)
  have y0 := (cell_of kb2 0).1
  have y1 := (cell_of kb2 1).1
  rw [show ((23 : Nat) : Int) = 23 from rfl] at hr3
  have HR := Lib.hid hr3
  have HO3 := Lib.hid ho3
  have HB3 := Lib.hid hb3
  clear z1 kb hB hB2 ho hB3 hr3 ho3 hg3 hb3 kb2
  go_wp2_with (at_builtin; refine Lib.wpList_append_run _ rfl _ _ _ _ rfl _ _ rfl rfl _ _ (HR.out _) ?_)
  go_ret2
  exact ⟨_, rfl, HO3.out, HB3.out⟩

end Go.Proofs.Ytmijdjlpfjfjoaa
