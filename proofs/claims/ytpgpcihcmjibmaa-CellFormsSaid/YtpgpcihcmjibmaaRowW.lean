/- Row, and the reference's. -/
import Derived.Test.YtpgpcihcmjibmaaMay
import Derived.Deep.Onto
namespace Go.Proofs.Ytpgpcihcmjibmaa
open Go.RowKit

/-- The bytes of a row. -/
def rowL (k s v : ByteArray) : List Int := [1] ++ part k 8 ++ part s 6 ++ part v 8

theorem may_sizes {k s v : ByteArray} (h : mayB k s v = true) : 1 ≤ k.size ∧ k.size ≤ 8 ∧ s.size ≤ 6 ∧ v.size ≤ 8 := of_decide_eq_true h

set_option maxRecDepth 100000 in
set_option maxHeartbeats 1000000 in
theorem row_bad (w : World) (k s v : ByteArray) (hm : mayB k s v = false) : Calls Try.prog 9 #[.agg #[.string k, .string s, .string v]] w fun e w' => e = .returned (.tuple #[.slice none 0 0, .int .i64 1]) ∧ Below w.heap.size w w' := by
  go_enter Try.func9, Try.ntmps9
  go_wp2_with fail
  refine (may_any _ k s v).mono ?_
  rintro e w' ⟨rfl, rfl⟩
  go_wp2
  go_ret2
  exact ⟨rfl, ((Below.refl _ _).alloc (Nat.le_refl _) _).alloc (by simp) _⟩

set_option maxRecDepth 100000 in
set_option maxHeartbeats 1000000 in
theorem row_ok (w : World) (k s v : ByteArray) (hm : mayB k s v = true) : Calls Try.prog 9 #[.agg #[.string k, .string s, .string v]] w fun e w' => ∃ x, e = .returned (.tuple #[x, .int .i64 0]) ∧ w'.ownsRow w.heap.size 5 1 x 26 (byteV (rowL k s v)) ∧ Below w.heap.size w w' := by
  obtain ⟨i, hi, hz0, hz1, hz2⟩ := info_parts infoU8
  obtain ⟨k1, k2, s1, v1⟩ := may_sizes hm
  have hmk : ∀ W, (Instr.makeSlice 26 (.int .i64 0) (.int .i64 26)).run Try.prog W = .ok (.slice (some ⟨W.heap.size, 0, none⟩) 0 26) (W.alloc (.cells (byteV (List.replicate 26 0)).toArray 5)) := fun W => make_bytes W 0 26 (by omega) (by omega)
  go_enter Try.func9, Try.ntmps9
  go_wp2_with fail
  refine (may_any _ k s v).mono ?_
  rintro e w' ⟨rfl, rfl⟩
  have z1 : (w.alloc (.cells #[.string k, .string s, .string v] 23)).heap.size = w.heap.size + 1 := by simp
  generalize hW1 : w.alloc (.cells #[.string k, .string s, .string v] 23) = w1 at *
  have kb : w1.heap[w.heap.size]? = some (.cells #[.string k, .string s, .string v] 23 (0, 0)) := by rw [← hW1]; exact heap_alloc_new w _
  have hB1 : Below w.heap.size w w1 := by rw [← hW1]; exact (Below.refl _ _).alloc (Nat.le_refl _) _
  have z2 : (w1.alloc (rowO k s v)).heap.size = w.heap.size + 2 := by simp [z1]
  have kb2 : (w1.alloc (rowO k s v)).heap[w.heap.size]? = some (.cells #[.string k, .string s, .string v] 23 (0, 0)) := (Below.heap_alloc _ _ _ (by omega)).trans kb
  have hB2 : Below w.heap.size w (w1.alloc (rowO k s v)) := hB1.alloc (by omega) _
  generalize w1.alloc (rowO k s v) = w2 at *
  have ho : ((w2.alloc (.cells (byteV (List.replicate 26 0)).toArray 5)).alloc (.cells #[.int .u8 1] 5)).ownsRow (w.heap.size + 1) 5 1 (.slice (some ⟨w2.heap.size, 0, none⟩) 0 26) 0 (byteV []) := (World.ownsRow_made w2 _ 26 (by omega) (by unfold maxLen; omega) (by simp [byteV])).alloc _
  have hB3 : Below (w.heap.size + 1) w2 ((w2.alloc (.cells (byteV (List.replicate 26 0)).toArray 5)).alloc (.cells #[.int .u8 1] 5)) := ((Below.refl _ _).alloc (by omega) _).alloc (by simp; omega) _
  have z3 : ((w2.alloc (.cells (byteV (List.replicate 26 0)).toArray 5)).alloc (.cells #[.int .u8 1] 5)).heap.size = w.heap.size + 4 := by simp [z2]
  have c3 : ((w2.alloc (.cells (byteV (List.replicate 26 0)).toArray 5)).alloc (.cells #[.int .u8 1] 5)).cell? ⟨w2.heap.size + 1, 0, none⟩ = some (.int .u8 1) := by
    have := (cell_of (heap_alloc_new (w2.alloc (.cells (byteV (List.replicate 26 0)).toArray 5)) (.cells #[.int .u8 1] 5)) 0).1
    rw [show (w2.alloc (.cells (byteV (List.replicate 26 0)).toArray 5)).heap.size = w2.heap.size + 1 by simp] at this
    exact this
  have HO := Lib.hid ho
  have HB2 := Lib.hid hB2
  have HB3 := Lib.hid hB3
  have HKB := Lib.hid kb2
  have HZ := Lib.hid z3
  have HC := Lib.hid c3
  clear ho hB2 hB3 kb2 z3 c3 kb hB1 z1 hW1
  have HZ2 := Lib.hid z2
  clear z2
  go_wp2_with (at_builtin; refine wpList_append_own _ rfl _ _ 26 rfl (w.heap.size + 1) 5 i (.int .u8 0) 1 1 Try.underlying26 hi hz0 hz1 hz2 rfl (by decide) _ 0 (byteV []) rfl HO.out ⟨w2.heap.size + 1, 0, none⟩ 1 1 (byteV [1]) rfl ?c2 ?c3 ?c4 ?c5 ?c6 ?c7 ?_)
  case c2 => rfl
  case c3 =>
    intro q u hu
    have hj : q < 1 := by have := (List.getElem?_eq_some_iff.1 hu).1; simpa [byteV] using this
    obtain rfl : q = 0 := by omega
    simp [byteV] at hu
    subst hu
    exact HC.out
  case c4 => exact byteV_one _
  case c5 => unfold maxLen; omega
  case c6 => omega
  case c7 => exact Nat.le_trans (by omega) (Nat.le_of_eq HZ.out.symm)
  intro x4 w4 ho4 hg4 _
  have hB4 : Below (w.heap.size + 1) w2 w4 := HB3.out.grown hg4 (Nat.le_trans (Nat.le_add_right _ 3) (Nat.le_of_eq HZ.out.symm)) (fun k hk => by have h1 : w2.heap.size = k := Option.some.inj hk; have := HZ2.out; omega)
  rw [show byteV [] ++ byteV [1] = byteV [1] from rfl] at ho4
  have hz2 : w.heap.size + 1 ≤ w2.heap.size := by have := HZ2.out; omega
  clear hg4
  have hK4 := (hB4.block _ (by omega)).trans HKB.out
  have c0 := (cell_of hK4 0).1
  have z4 : w.heap.size + 1 ≤ w4.heap.size := by have := hB4.size; omega
  have HO4 := Lib.hid ho4
  have HB4 := Lib.hid hB4
  clear ho4 hB4 hK4
  go_wp2_with fail
  refine (part_any w4 (w.heap.size + 1) 1 _ _ HO4.out (by omega) z4 k 8 (by omega) (by omega)).mono ?_
  rintro e w5 ⟨x5, rfl, ho5, hb5⟩
  have hB5 := HB4.out.trans (hb5.mono (Nat.le_refl _))
  clear c0 z4 hb5
  have hK5 := (hB5.block _ (by omega)).trans HKB.out
  have c0 := (cell_of hK5 1).1
  have z5 : w.heap.size + 1 ≤ w5.heap.size := by have := hB5.size; omega
  have HO5 := Lib.hid ho5
  have HB5 := Lib.hid hB5
  clear ho5 hB5 hK5
  go_wp2_with fail
  refine (part_any w5 (w.heap.size + 1) 10 _ _ HO5.out (by omega) z5 s 6 (by omega) (by omega)).mono ?_
  rintro e w6 ⟨x6, rfl, ho6, hb6⟩
  have hB6 := HB5.out.trans (hb6.mono (Nat.le_refl _))
  clear c0 z5 hb6
  have hK6 := (hB6.block _ (by omega)).trans HKB.out
  have c0 := (cell_of hK6 2).1
  have z6 : w.heap.size + 1 ≤ w6.heap.size := by have := hB6.size; omega
  have HO6 := Lib.hid ho6
  have HB6 := Lib.hid hB6
  clear ho6 hB6 hK6
  go_wp2_with fail
  refine (part_any w6 (w.heap.size + 1) 17 _ _ HO6.out (by omega) z6 v 8 (by omega) (by omega)).mono ?_
  rintro e w7 ⟨x7, rfl, ho7, hb7⟩
  have hB7 := HB6.out.trans (hb7.mono (Nat.le_refl _))
  clear c0 z6 hb7
  have hBz := HB2.out.trans (hB7.mono (by omega))
  go_wp2
  go_ret2
  exact ⟨_, rfl, ho7.mono (by omega), hBz⟩

end Go.Proofs.Ytpgpcihcmjibmaa
