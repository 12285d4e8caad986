/- The reference's Row. -/
import Derived.Test.YtmijdjlpfjfjoaaRowW
import Derived.Deep.RegionLaw
namespace Go.Proofs.Ytmijdjlpfjfjoaa
open Go.RowKit

theorem own_below {w w' : World} {B n : Nat} {v : Value} {xs : List Value} (h : w.ownsRow B 5 1 v n xs) (hb : Below w.heap.size w w') : w'.ownsRow B 5 1 v n xs := by
  obtain ⟨h1, ⟨e, h2⟩ | ⟨g, cap, cur, e, a, b, r⟩⟩ := h
  · exact ⟨h1, .inl ⟨e, h2⟩⟩
  · exact ⟨h1, .inr ⟨g, cap, cur, e, a, (hb.block g (Array.getElem?_eq_some_iff.1 b).1).trans b, r⟩⟩

/-- What a call sees that grows a row and keeps a box. -/
def Kp (w W : World) (k s v : ByteArray) (x : Value) (n : Nat) (l : List Int) : Prop := Below (w.heap.size + 1) (w.alloc (rowO k s v)) W ∧ W.ownsRow (w.heap.size + 1) 5 1 x n (byteV l)
theorem Kp.drew {w W : World} {k s v : ByteArray} {x : Value} {n : Nat} {l : List Int} (h : Kp w W k s v x n l) : Kp w W.drew k s v x n l := ⟨h.1.drew, h.2⟩
theorem Kp.box {w W : World} {k s v : ByteArray} {x : Value} {n : Nat} {l : List Int} (h : Kp w W k s v x n l) : W.heap[w.heap.size]? = some (rowO k s v) := (h.1.block _ (by omega)).trans (heap_alloc_new w _)
theorem Kp.size {w W : World} {k s v : ByteArray} {x : Value} {n : Nat} {l : List Int} (h : Kp w W k s v x n l) : w.heap.size + 1 ≤ W.heap.size := by have := h.1.size; simpa using this

theorem pad_in {w W : World} {k s v : ByteArray} {x : Value} {n : Nat} {l : List Int} (h : Kp w W k s v x n l) (t : ByteArray) (most : Nat) (ht : t.size ≤ most) (hm : most ≤ 100) :
    Calls Try.prog 25 #[.string t, .int .i64 most] W fun e w' => ∃ g cap, e = .returned (.slice (some ⟨g, 0, none⟩) (most + 1) cap) ∧ Kp w w' k s v x n l ∧ (∀ j u, (byteV (part t most))[j]? = some u → w'.cell? ((⟨g, 0, none⟩ : Addr).add j) = some u) ∧ most + 1 ≤ cap := by
  refine (pad_any W t most ht hm).mono ?_
  rintro e w' ⟨y, rfl, ho, hb⟩
  obtain ⟨g, cap, rfl, h1, h2, h3, h4, h5, h6⟩ := own_pt ho (by omega)
  refine ⟨g, cap, rfl, ⟨h.1.trans (hb.mono h.size), own_below h.2 hb⟩, ho.cells (g := g) rfl, h3⟩

theorem pads (t : ByteArray) (most : Nat) (ht : t.size ≤ most) : (byteV (part t most)).length = (most + 1) * 1 := by
  rw [byteV, List.length_map, part_len ht]; omega

set_option maxRecDepth 100000 in
set_option maxHeartbeats 1000000 in
theorem rrow_bad (w : World) (k s v : ByteArray) (hm : mayB k s v = false) : Calls Try.prog 15 #[.agg #[.string k, .string s, .string v]] w fun e w' => e = .returned (.tuple #[.slice none 0 0, .int .i64 1]) ∧ Below w.heap.size w w' := by
  go_enter Try.func15, Try.ntmps15
  go_wp2_with fail
  refine (rmay_any _ k s v).mono ?_
  rintro e w' ⟨rfl, rfl⟩
  go_wp2
  go_ret2
  exact ⟨rfl, ((Below.refl _ _).alloc (Nat.le_refl _) _).alloc (by simp) _⟩

set_option maxRecDepth 100000 in
set_option maxHeartbeats 1000000 in
theorem rrow_ok (w : World) (k s v : ByteArray) (hm : mayB k s v = true) : Calls Try.prog 15 #[.agg #[.string k, .string s, .string v]] w fun e w' => ∃ x, e = .returned (.tuple #[x, .int .i64 0]) ∧ w'.ownsRow w.heap.size 5 1 x 26 (byteV (rowL k s v)) ∧ Below w.heap.size w w' := by
  obtain ⟨i, hi, hz0, hz1, hz2⟩ := info_parts infoU8
  obtain ⟨k1, k2, s1, v1⟩ := may_sizes hm
  go_enter Try.func15, Try.ntmps15
  go_wp2_with fail
  refine (rmay_any _ k s v).mono ?_
  rintro e w' ⟨rfl, rfl⟩
  have K0 : Kp w (((w.alloc (.cells #[.string k, .string s, .string v] 52)).alloc (rowO k s v)).alloc (.cells #[.int .u8 1] 5)) k s v (.slice (some ⟨((w.alloc (.cells #[.string k, .string s, .string v] 52)).alloc (rowO k s v)).heap.size, 0, none⟩) 1 1) 1 [1] := by
    refine ⟨((Below.refl _ _).alloc (by simp) _).alloc (by simp) _, ?_⟩
    exact World.ownsRow_lit _ (byteV [1]).toArray 1 (by simp) (by unfold maxLen; omega) rfl
  generalize hW1 : (w.alloc (.cells #[.string k, .string s, .string v] 52)).alloc (rowO k s v) = w1 at *
  have kb1 : w1.heap[w.heap.size]? = some (rowO k s v) := by
    have h1 := K0.box
    have h2 : w.heap.size < w1.heap.size := by rw [← hW1]; simp; omega
    exact (Below.heap_alloc w1 _ _ h2).symm.trans h1
  have c0 := (cell_of (cs := #[.string k, .string s, .string v]) kb1 0).1
  have kbA := K0.box
  have c1 := (cell_of (cs := #[.string k, .string s, .string v]) kbA 0).1
  have HK0 := Lib.hid K0
  clear kb1 K0 hW1 kbA
  go_wp2_with fail
  refine (pad_in HK0.out k 8 (by omega) (by omega)).mono ?_
  rintro e w2 ⟨g2, p2, rfl, K2, n2, q2⟩
  have HK2 := Lib.hid K2
  have HN2 := Lib.hid n2
  clear K2 n2 c0 c1
  have l2 := Lib.hid (pads k 8 (by omega))
  go_wp2_with (at_builtin; refine wpList_append_own _ rfl _ _ 22 rfl (w.heap.size + 1) 5 i (.int .u8 0) 1 1 Try.underlying22 hi hz0 hz1 hz2 rfl (by decide) _ 1 (byteV [1]) rfl HK2.out.2 ⟨g2, 0, none⟩ 9 p2 (byteV (part k 8)) rfl l2.out HN2.out (byteV_one _) (by unfold maxLen; omega) (by omega) HK2.out.size ?_)
  intro x3 w3 ho3 hg3 _
  have hB3 := HK2.out.1.grown hg3 HK2.out.size (fun j hj => (HK2.out.2.lt j hj).1)
  have K3 : Kp w w3 k s v x3 10 ([1] ++ part k 8) := ⟨hB3, by rw [show byteV ([1] ++ part k 8) = byteV [1] ++ byteV (part k 8) by simp [byteV]]; exact ho3⟩
  clear ho3 hg3 hB3
  have kb3 := K3.box
  have c0 := (cell_of (cs := #[.string k, .string s, .string v]) kb3 1).1
  have c1 := (cell_of (cs := #[.string k, .string s, .string v]) kb3 2).1
  have HK3 := Lib.hid K3
  have HK3d := Lib.hid K3.drew
  have ls := Lib.hid (pads s 6 (by omega))
  have lv := Lib.hid (pads v 8 (by omega))
  clear K3 kb3
  go_wp2
  go_region_law (first
      | (refine step_append_lies _ rfl (.tmp 17) (.tmp 20) 22 rfl (w.heap.size + 1) 5 i (.int .u8 0) 1 1 Try.underlying22 hi hz0 hz1 hz2 rfl (by decide) (.slice (some ⟨g5, 0, none⟩) 17 p5) 17 (byteV ([1] ++ part k 8 ++ part s 6)) rfl HK6.out.2 ⟨g6, 0, none⟩ 9 p6 (byteV (part v 8)) rfl lv.out HN6.out (byteV_one _) (by omega) (by unfold maxLen; omega) (by omega) HK6.out.size _ rfl ?_; intro g7 p7 w7 o7 r7 a7 b7)
      | (go_simp; go_at_call 25; refine (pad_in HK5.out v 8 (by omega) (by omega)).mono ?_; rintro e w6 ⟨g6, p6, rfl, K6, n6, q6⟩; have HK6 := Lib.hid K6; have HN6 := Lib.hid n6; have c6 := (cell_of (cs := #[.string k, .string s, .string v]) K6.box 2).1; clear K6 n6)
      | (go_simp; go_at_call 25; first | (refine (pad_in HK3.out s 6 (by omega) (by omega)).mono ?_; rintro e w4 ⟨g4, p4, rfl, K4, n4, q4⟩; have HK4 := Lib.hid K4; have HN4 := Lib.hid n4; have c4 := (cell_of (cs := #[.string k, .string s, .string v]) K4.box 2).1; clear K4 n4) | (refine (pad_in HK3d.out s 6 (by omega) (by omega)).mono ?_; rintro e w4 ⟨g4, p4, rfl, K4, n4, q4⟩; have HK4 := Lib.hid K4; have HN4 := Lib.hid n4; have c4 := (cell_of (cs := #[.string k, .string s, .string v]) K4.box 2).1; clear K4 n4))
      | (refine step_append_lies _ rfl (.tmp 13) (.tmp 16) 22 rfl (w.heap.size + 1) 5 i (.int .u8 0) 1 1 Try.underlying22 hi hz0 hz1 hz2 rfl (by decide) x3 10 (byteV ([1] ++ part k 8)) rfl HK4.out.2 ⟨g4, 0, none⟩ 7 p4 (byteV (part s 6)) rfl ls.out HN4.out (byteV_one _) (by omega) (by unfold maxLen; omega) (by omega) HK4.out.size _ rfl ?_; intro g5 p5 w5 o5 r5 a5 b5; have HK5 : Hid (Kp w w5 k s v (.slice (some ⟨g5, 0, none⟩) 17 p5) 17 ([1] ++ part k 8 ++ part s 6)) := ⟨HK4.out.1.grown r5 HK4.out.size (fun j hj => (HK4.out.2.lt j hj).1), by rw [show byteV ([1] ++ part k 8 ++ part s 6) = byteV ([1] ++ part k 8) ++ byteV (part s 6) by simp [byteV]]; exact o5⟩; have c5 := (cell_of (cs := #[.string k, .string s, .string v]) HK5.out.box 2).1))
  all_goals (go_wp2; go_ret2)
  all_goals
    have hB7 := HK6.out.1.grown r7 HK6.out.size (fun j hj => (HK6.out.2.lt j hj).1)
    have hBw : Below w.heap.size w (w.alloc (rowO k s v)) := (Below.refl _ _).alloc (Nat.le_refl _) _
    refine ⟨_, rfl, ?_, hBw.trans (hB7.mono (by omega))⟩
    rw [show byteV (rowL k s v) = byteV ([1] ++ part k 8 ++ part s 6) ++ byteV (part v 8) by simp [byteV, rowL]]
    exact o7.mono (by omega)
end Go.Proofs.Ytmijdjlpfjfjoaa
