/- Put. -/
import Derived.Test.YtmijdjlpfjfjoaaLeafSet
namespace Go.Proofs.Ytmijdjlpfjfjoaa
open Go.RowKit

def okL (l : List Int) : Bool := decide (l.length = 0 ∨ l.length = 26)
def pd (l : List Int) : List Int := if l.length = 0 then z26 else l
def cellsL (c : Nat → List Int) : Nat → List Int
  | 0 => []
  | k + 1 => cellsL c k ++ pd (c k)
def filC (c : Nat → List Int) (k : Nat) : List Int := cellsL c k ++ List.replicate (104 - 26 * k) 0
def okC (c : Nat → List Int) : Bool := (List.range 4).all (fun i => okL (c i))
theorem pd_len {l : List Int} (h : okL l = true) : (pd l).length = 26 := by
  unfold okL at h
  rw [decide_eq_true_eq] at h
  unfold pd
  by_cases h0 : l.length = 0
  · rw [if_pos h0]; rfl
  · rw [if_neg h0]; omega
theorem cellsL_len {c : Nat → List Int} {k : Nat} (h : ∀ j, j < k → okL (c j) = true) : (cellsL c k).length = 26 * k := by
  induction k with
  | zero => rfl
  | succ k ih => rw [cellsL, List.length_append, ih (fun j hj => h j (by omega)), pd_len (h k (by omega))]; omega
theorem pd_ok {l : List Int} (h : bytesOk l) : bytesOk (pd l) := by
  unfold pd
  by_cases h0 : l.length = 0
  · rw [if_pos h0]; exact z26_ok
  · rw [if_neg h0]; exact h
theorem cellsL_ok {c : Nat → List Int} {k : Nat} (h : ∀ j, j < k → bytesOk (c j)) : bytesOk (cellsL c k) := by
  induction k with
  | zero => intro x hx; cases hx
  | succ k ih =>
    intro x hx
    rcases List.mem_append.1 hx with h1 | h1
    · exact ih (fun j hj => h j (by omega)) x h1
    · exact pd_ok (h k (by omega)) x h1
theorem okC_no {c : Nat → List Int} {k : Nat} (hk : k < 4) (h : okL (c k) = false) : okC c = false := by
  unfold okC
  cases e : (List.range 4).all (fun i => okL (c i))
  · rfl
  · rw [List.all_eq_true] at e
    have := e k (List.mem_range.2 hk)
    rw [h] at this; cases this
theorem okC_all {c : Nat → List Int} (h : ∀ j, j < 4 → okL (c j) = true) : okC c = true := by
  unfold okC
  exact List.all_eq_true.2 (fun x hx => h x (List.mem_range.1 hx))
theorem okC_iff {c : Nat → List Int} : okC c = true ↔ ∀ j, j < 4 → okL (c j) = true := by
  constructor
  · intro h j hj
    unfold okC at h
    exact List.all_eq_true.1 h j (List.mem_range.2 hj)
  · exact okC_all

theorem fil_next {c : Nat → List Int} {k : Nat} (hk : k < 4) (h : ∀ j, j < k → okL (c j) = true) (hc : okL (c k) = true) : splice (byteV (filC c k)) (26 * k) (byteV (c k)) = byteV (filC c (k + 1)) := by
  have hl := cellsL_len h
  unfold splice filC
  rw [show byteV (c k) = byteV (c k) from rfl, byteV, byteV, byteV, List.length_map, ← List.map_take, ← List.map_drop, ← List.map_append, ← List.map_append]
  congr 1
  rw [List.take_left' hl, cellsL, List.append_assoc]
  congr 1
  unfold okL at hc
  rw [decide_eq_true_eq] at hc
  rw [List.drop_append, List.drop_eq_nil_of_le (by omega), List.nil_append, List.drop_replicate, hl]
  rcases hc with h0 | h0
  · unfold pd
    rw [if_pos h0, List.eq_nil_of_length_eq_zero h0, z26, List.nil_append, List.replicate_append_replicate]
    congr 1
    simp; omega
  · unfold pd
    rw [if_neg (by omega), h0]
    congr 2
    omega

def lfE (c : Nat → List Int) (n : Int) : Int := if okC c = true then pE n (cellsL c 4) else 1
def lfA (c : Nat → List Int) (n : Int) : List Int := if okC c = true then pA n (cellsL c 4) else []
def lfB (c : Nat → List Int) (n : Int) : List Int := if okC c = true then pB n (cellsL c 4) else []
def PutPost (w : World) (c : Nat → List Int) (n : Int) (e : Ending) (w' : World) : Prop := ∃ va vb, e = .returned (.tuple #[va, vb, .int .i64 (lfE c n)]) ∧ SlK .u8 w' va (lfA c n) ∧ SlK .u8 w' vb (lfB c n) ∧ Below w.heap.size w w'

def z104 : List Int := List.replicate 104 0
theorem fil_0 (c : Nat → List Int) : filC c 0 = z104 := rfl


end Go.Proofs.Ytmijdjlpfjfjoaa
