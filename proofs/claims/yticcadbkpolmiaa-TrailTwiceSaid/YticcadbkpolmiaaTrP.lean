/- The log: tiles of a stream, plainly. -/
import Derived.Test.YticcadbkpolmiaaTrA
namespace Go.Proofs.Yticcadbkpolmiaa
open Go.RowKit

/-- What a tile of a stream has. -/
def partL (S : List Int) (i : Nat) : List Int := (S.drop (63 * i)).take 63
def tileL (S : List Int) (i : Nat) : List Int := ((partL S i).length : Int) :: (partL S i ++ List.replicate (63 - (partL S i).length) 0)
theorem partL_le (S : List Int) (i : Nat) : (partL S i).length ≤ 63 := by unfold partL; rw [List.length_take]; omega
theorem partL_len (S : List Int) (i : Nat) : (partL S i).length = min 63 (S.length - 63 * i) := by unfold partL; rw [List.length_take, List.length_drop]
theorem tileL_len (S : List Int) (i : Nat) : (tileL S i).length = 64 := by
  have := partL_le S i
  unfold tileL
  simp
  omega
theorem ok_part {S : List Int} (h : bytesOk S) (i : Nat) : bytesOk (partL S i) := ok_take (ok_drop h _) _
theorem tileL_ok {S : List Int} (h : bytesOk S) (i : Nat) : bytesOk (tileL S i) := by
  intro x hx
  have := partL_le S i
  rcases List.mem_cons.1 hx with rfl | hx
  · omega
  · rcases List.mem_append.1 hx with hx | hx
    · exact ok_part h i x hx
    · rw [List.eq_of_mem_replicate hx]; omega
/-- A tile that is full is left as it is. -/
theorem part_full {S : List Int} {i : Nat} (h : 63 * (i + 1) ≤ S.length) (b : List Int) : partL (S ++ b) i = partL S i := by
  unfold partL
  rw [List.drop_append_of_le_length (by omega), List.take_append_of_le_length (by rw [List.length_drop]; omega)]
theorem tile_full {S : List Int} {i : Nat} (h : 63 * (i + 1) ≤ S.length) (b : List Int) : tileL (S ++ b) i = tileL S i := by
  unfold tileL; rw [part_full h b]
theorem part_none {S : List Int} {i : Nat} (h : S.length ≤ 63 * i) : partL S i = [] := by
  unfold partL
  rw [List.drop_eq_nil_of_le h]
  rfl
theorem tile_none {S : List Int} {i : Nat} (h : S.length ≤ 63 * i) : tileL S i = List.replicate 64 0 := by
  unfold tileL
  rw [part_none h]
  rfl
/-- The tile that grows. -/
theorem part_grow {S b : List Int} {i : Nat} (h1 : 63 * i ≤ S.length) (h2 : S.length + b.length ≤ 63 * (i + 1)) : partL (S ++ b) i = partL S i ++ b := by
  unfold partL
  rw [List.drop_append_of_le_length h1, List.take_of_length_le (by rw [List.length_append, List.length_drop]; omega), List.take_of_length_le (by rw [List.length_drop]; omega)]

/-- The tiles that a log keeps. -/
def blkM (S : List Int) : Int → Option Value := fun i => if 0 ≤ i ∧ 63 * i < S.length then some (.agg (byteV (tileL S i.toNat)).toArray) else none
theorem blkM_nil : blkM [] = fun _ => none := by
  funext i
  unfold blkM
  rw [if_neg]
  simp
  omega
theorem blkM_get (S : List Int) (i : Nat) : (blkM S i).getD (.agg (byteV (List.replicate 64 0)).toArray) = .agg (byteV (tileL S i)).toArray := by
  unfold blkM
  by_cases h : 63 * (i : Int) < S.length
  · rw [if_pos ⟨by omega, h⟩]
    rfl
  · rw [if_neg (fun e => h e.2), tile_none (by omega)]
    rfl
theorem blkM_add {S b : List Int} {at_ : Nat} (h0 : b ≠ []) (h1 : 63 * at_ ≤ S.length) (h2 : S.length + b.length ≤ 63 * (at_ + 1)) : (fun j : Int => if j = (at_ : Int) then some (Value.agg (byteV (tileL (S ++ b) at_)).toArray) else blkM S j) = blkM (S ++ b) := by
  have hb : 0 < b.length := List.length_pos_iff.2 h0
  funext i
  show (if i = (at_ : Int) then _ else blkM S i) = _
  by_cases e : i = (at_ : Int)
  · subst e
    rw [if_pos rfl]
    unfold blkM
    rw [if_pos ⟨by omega, by rw [List.length_append]; omega⟩]
    rfl
  · rw [if_neg e]
    unfold blkM
    by_cases hi : 0 ≤ i ∧ 63 * i < S.length
    · rw [if_pos hi, if_pos ⟨hi.1, by rw [List.length_append]; omega⟩, tile_full (by omega)]
    · rw [if_neg hi, if_neg]
      rw [List.length_append]
      omega
end Go.Proofs.Yticcadbkpolmiaa
