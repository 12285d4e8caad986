/- The reference's num and said. -/
import Derived.Test.YtolfmgbkbmphkaaSheet
namespace Go.Proofs.Ytolfmgbkbmphkaa
open Go.RowKit

def dvN (n : Int) : Nat → Int
  | 0 => n | 1 => n / 256 | 2 => n / 256 / 256 | 3 => n / 256 / 256 / 256 | _ => n / 256 / 256 / 256 / 256
def imN : Nat → Int
  | 0 => 3 | 1 => 2 | 2 => 1 | 3 => 0 | _ => -1
def nvL (n : Int) : Nat → List Int
  | 0 => [0, 0, 0, 0] | 1 => [0, 0, 0, n % 256] | 2 => [0, 0, n / 256 % 256, n % 256] | 3 => [0, n / 256 / 256 % 256, n / 256 % 256, n % 256] | _ => [n / 256 / 256 / 256 % 256, n / 256 / 256 % 256, n / 256 % 256, n % 256]
theorem nvL_4 {n : Int} (n0 : 0 ≤ n) (n1 : n < 2147483648) : nvL n 4 = head n := by
  simp only [nvL, head]
  rw [show n / 256 / 256 / 256 % 256 = n / 16777216 by omega, show n / 256 / 256 % 256 = n / 65536 % 256 by omega]

set_option maxRecDepth 100000 in
set_option maxHeartbeats 1000000 in
theorem num_any (w : World) (n : Int) (n0 : 0 ≤ n) (n1 : n < 2147483648) : Calls Try.prog 37 #[.int .i64 n, .int .i64 4] w fun e w' => e = .returned (.slice (some ⟨w.heap.size, 0, none⟩) 4 4) ∧ w' = w.alloc (.cells (byteV (head n)).toArray 5) := by
  have hmk : ∀ W, (Instr.makeSlice 22 (.int .i64 4) (.int .i64 4)).run Try.prog W = .ok (.slice (some ⟨W.heap.size, 0, none⟩) 4 4) (W.alloc (.cells (byteV (nvL n 0)).toArray 5)) := fun _ => by kernel_rfl
  rw [← nvL_4 n0 n1]
  go_enter Try.func37, Try.ntmps37
  go_wp2
  go_loopw [0, 6] (fun s i wr => ∃ k : Nat, k ≤ 4 ∧ i = .int .i64 (imN k) ∧ s = .int .i64 (dvN n k) ∧ wr = w.alloc (.cells (byteV (nvL n k)).toArray 5)) (fun _ i _ => (intOf i + 1).toNat)
  case atStart => exact ⟨0, by omega, rfl, rfl, rfl⟩
  case round =>
    obtain ⟨k, hk, hi, hs, hw⟩ := hrel
    subst hi hs hw
    have h0 := fun j => (cell_of (heap_alloc_new w (.cells (byteV (nvL n k)).toArray 5)) j)
    obtain rfl | rfl | rfl | rfl | rfl : k = 0 ∨ k = 1 ∨ k = 2 ∨ k = 3 ∨ k = 4 := by omega
    · obtain ⟨e1, f1⟩ := h0 3
      rw [show (byteV (nvL n 0)).toArray[3]? = some (.int .u8 0) from rfl] at e1
      simp only [imN, dvN] at *
      clear h0
      go_wp2
      exact ⟨⟨1, by omega, rfl, rfl, rfl⟩, by simp [intOf]⟩
    · obtain ⟨e1, f1⟩ := h0 2
      rw [show (byteV (nvL n 1)).toArray[2]? = some (.int .u8 0) from rfl] at e1
      simp only [imN, dvN] at *
      clear h0
      go_wp2
      exact ⟨⟨2, by omega, rfl, rfl, rfl⟩, by simp [intOf]⟩
    · obtain ⟨e1, f1⟩ := h0 1
      rw [show (byteV (nvL n 2)).toArray[1]? = some (.int .u8 0) from rfl] at e1
      simp only [imN, dvN] at *
      clear h0
      go_wp2
      exact ⟨⟨3, by omega, rfl, rfl, rfl⟩, by simp [intOf]⟩
    · obtain ⟨e1, f1⟩ := h0 0
      rw [show (byteV (nvL n 3)).toArray[0]? = some (.int .u8 0) from rfl] at e1
      simp only [imN, dvN] at *
      clear h0
      go_wp2
      exact ⟨⟨4, by omega, rfl, rfl, rfl⟩, by simp [intOf]⟩
    · clear h0
      simp only [imN, dvN]
      go_wp2
      go_ret
      exact ⟨rfl, rfl⟩

set_option maxRecDepth 100000 in
set_option maxHeartbeats 400000 in
theorem said_any (w : World) (v : Value) (l : List Int) (h : Pt w v l) (hb : bytesOk l) (hl : l.length = 4) : Calls Try.prog 43 #[v] w fun e w' => e = .returned (.int .i64 (numL l)) ∧ w' = w := by
  obtain ⟨b, off, cap, rfl, h1, h2, h3⟩ := h
  obtain ⟨x0, x1, x2, x3, rfl⟩ : ∃ x0 x1 x2 x3, l = [x0, x1, x2, x3] := by
    match l, hl with
    | [x0, x1, x2, x3], _ => exact ⟨_, _, _, _, rfl⟩
  have b0 := hb x0 (by simp)
  have b1 := hb x1 (by simp)
  have b2 := hb x2 (by simp)
  have b3 := hb x3 (by simp)
  have c0 := h3 0 (by simp)
  have c1 := h3 1 (by simp)
  have c2 := h3 2 (by simp)
  have c3 := h3 3 (by simp)
  simp only [List.length_cons, List.length_nil, List.getElem_cons_zero, List.getElem_cons_succ, Nat.add_zero, Nat.zero_add, Nat.reduceAdd] at c0 c1 c2 c3 h1 ⊢
  clear h3 hb hl
  go_enter Try.func43, Try.ntmps43
  go_wp2
  go_loopw [3, 4] (fun s i wr => ∃ k : Nat, k ≤ 4 ∧ i = .int .i64 k ∧ s = .int .i64 (preN [x0, x1, x2, x3] k) ∧ w = wr) (fun s i _ => 4 - (intOf i).toNat)
  case atStart => exact ⟨0, by omega, rfl, rfl, rfl⟩
  case round =>
    obtain ⟨k, hk, rfl, rfl, rfl⟩ := hrel
    obtain rfl | rfl | rfl | rfl | rfl : k = 0 ∨ k = 1 ∨ k = 2 ∨ k = 3 ∨ k = 4 := by omega
    all_goals simp only [preN, List.take_succ_cons, List.take_zero, List.foldl_cons, List.foldl_nil]
    · go_wp2
      exact ⟨⟨1, by omega, rfl, by simp, trivial⟩, by simp [intOf]⟩
    · go_wp2
      exact ⟨⟨2, by omega, rfl, by simp, trivial⟩, by simp [intOf]⟩
    · go_wp2
      exact ⟨⟨3, by omega, rfl, by simp, trivial⟩, by simp [intOf]⟩
    · go_wp2
      exact ⟨⟨4, by omega, rfl, by simp, trivial⟩, by simp [intOf]⟩
    · go_wp2
      go_ret
      exact ⟨by simp [numL], rfl⟩
end Go.Proofs.Ytolfmgbkbmphkaa
