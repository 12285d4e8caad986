/- May, places, pad. -/
import Derived.Test.YtmijdjlpfjfjoaaPart
namespace Go.Proofs.Ytmijdjlpfjfjoaa
open Go.RowKit

theorem ret_bool {a b : Bool} (h : a = b) : Ending.returned (.bool a) = .returned (.bool b) := by rw [h]
def rowV (k s v : ByteArray) : Value := .agg #[.string k, .string s, .string v]
def rowO (k s v : ByteArray) : Obj := .cells #[.string k, .string s, .string v] 52
def mayB (k s v : ByteArray) : Bool := decide (1 ≤ k.size ∧ k.size ≤ 8 ∧ s.size ≤ 6 ∧ v.size ≤ 8)
def placeB (p c : Int) : Bool := decide (0 ≤ p ∧ p < 32 ∧ 0 ≤ c ∧ c < 4)
def ridV (p c : Int) : Value := .agg #[.int .i64 p, .int .i64 c]
def ridO (p c : Int) : Obj := .cells #[.int .i64 p, .int .i64 c] 25



set_option maxRecDepth 100000 in
set_option maxHeartbeats 1000000 in
theorem place_any (w : World) (p c : Int) : Calls Try.prog 31 #[.agg #[.int .i64 p, .int .i64 c]] w fun e w' => e = .returned (.bool (placeB p c)) ∧ w' = w.alloc (ridO p c) := by
  go_enter Try.func31, Try.ntmps31
  go_wp2
  all_goals (go_ret; refine ⟨ret_bool ?_, rfl⟩)
  all_goals (unfold placeB; first | (rw [Bool.eq_iff_iff]; simp only [decide_eq_true_eq]; omega) | (symm; rw [decide_eq_false_iff_not]; omega))

set_option maxRecDepth 100000 in
set_option maxHeartbeats 1000000 in
theorem rmay_any (w : World) (k s v : ByteArray) : Calls Try.prog 24 #[.agg #[.string k, .string s, .string v]] w fun e w' => e = .returned (.bool (mayB k s v)) ∧ w' = w.alloc (rowO k s v) := by
  go_enter Try.func24, Try.ntmps24
  go_wp2
  all_goals (go_ret; refine ⟨ret_bool ?_, rfl⟩)
  all_goals (unfold mayB; first | (rw [Bool.eq_iff_iff]; simp only [decide_eq_true_eq]; omega) | (symm; rw [decide_eq_false_iff_not]; omega))


set_option maxRecDepth 100000 in
set_option maxHeartbeats 1000000 in
theorem there_any (w : World) (p c : Int) : Calls Try.prog 27 #[.agg #[.int .i64 p, .int .i64 c]] w fun e w' => e = .returned (.bool (placeB p c)) ∧ w' = w.alloc (ridO p c) := by
  go_enter Try.func27, Try.ntmps27
  go_wp2
  all_goals (go_ret; refine ⟨ret_bool ?_, rfl⟩)
  all_goals (unfold placeB; first | (rw [Bool.eq_iff_iff]; simp only [decide_eq_true_eq]; omega) | (symm; rw [decide_eq_false_iff_not]; omega))


set_option maxRecDepth 100000 in
set_option maxHeartbeats 1000000 in
theorem pad_any (w : World) (s : ByteArray) (most : Nat) (hs : s.size ≤ most) (hm : most ≤ 100) :
    Calls Try.prog 25 #[.string s, .int .i64 most] w fun e w' => ∃ v', e = .returned v' ∧ w'.ownsRow w.heap.size 5 1 v' (most + 1) (byteV (part s most)) ∧ Below w.heap.size w w' := by
  obtain ⟨i, hi, hz0, hz1, hz2⟩ := info_parts infoU8
  have b0 : (0 : Int) ≤ (s.size : Int) := by omega
  have b1 : (s.size : Int) < 256 := by omega
  have b2 : (s.size : Int) ≤ (most : Int) := by omega
  have b3 : (most : Int) ≤ 100 := by omega
  have ho : (w.alloc (.cells (byteV [(s.size : Int)]).toArray 5)).ownsRow w.heap.size 5 1 (.slice (some ⟨w.heap.size, 0, none⟩) 1 1) 1 (byteV [(s.size : Int)]) := World.ownsRow_lit w (byteV [(s.size : Int)]).toArray 1 (Nat.le_refl _) (by unfold maxLen; omega) rfl
  have hb1 : Below w.heap.size w (w.alloc (.cells (byteV [(s.size : Int)]).toArray 5)) := (Below.refl _ _).alloc (Nat.le_refl _) _
  have HO := Lib.hid ho
  have HB := Lib.hid hb1
  clear ho hb1
  go_enter Try.func25, Try.ntmps25
  go_wp2_with (at_builtin; refine Lib.wpList_append_own_string _ rfl _ _ _ _ rfl w.heap.size 5 i Try.underlying22 Try.underlying9 hi hz0 hz1 hz2 _ 1 _ rfl HO.out s rfl ?d1 ?d2 ?d3 ?_)
  case d1 => unfold maxLen; omega
  case d2 => omega
  case d3 => exact HB.out.size
  intro v2 w2 hown2 hg2 _
  have hb2 : Below w.heap.size w w2 := HB.out.grown hg2 HB.out.size (fun k hk => by cases hk; exact Nat.le_refl _)
  rw [strCells_bytes, show byteV [(s.size : Int)] ++ byteV (bytesL s) = byteV ([(s.size : Int)] ++ bytesL s) by simp [byteV]] at hown2
  rw [show 1 + s.size = s.size + 1 by omega] at hown2
  obtain ⟨g2, c2, rfl⟩ := own_form hown2
  obtain ⟨v3, w3, hr3, ho3, hg3⟩ := zeros_own w2 w.heap.size g2 (s.size + 1) c2 _ (most - s.size) hown2 (by omega) hb2.size
  rw [show ((most - s.size : Nat) : Int) = (most : Int) - (s.size : Int) by omega] at hr3
  rw [show s.size + 1 + (most - s.size) = most + 1 by omega, show [(s.size : Int)] ++ bytesL s ++ List.replicate (most - s.size) 0 = part s most by simp [part]] at ho3
  have hb3 : Below w.heap.size w w3 := hb2.grown hg3 hb2.size (fun k hk => by cases hk; exact (hown2.lt g2 rfl).1)
  have HR := Lib.hid hr3
  have HB3 := Lib.hid hb3
  have HO3 := Lib.hid ho3
  clear hown2 hg2 hb2 hr3 hb3 ho3 hg3
  go_wp2_with (at_builtin; refine Lib.wpList_append_run _ rfl _ _ _ _ rfl _ _ rfl rfl _ _ (HR.out _) ?_)
  go_ret
  exact ⟨_, rfl, HO3.out, HB3.out⟩

end Go.Proofs.Ytmijdjlpfjfjoaa
