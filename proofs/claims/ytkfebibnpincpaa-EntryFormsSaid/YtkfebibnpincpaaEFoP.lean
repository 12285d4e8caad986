/- EntryForms, plainly: the fourteen entries that may not be, and the one that may. -/
import Derived.Test.YtkfebibnpincpaaEZero
import Derived.Test.YtkfebibnpincpaaRowAt
namespace Go.Proofs.Ytkfebibnpincpaa
open Go.RowKit

def z26 : List Int := List.replicate 26 0
def z3 : List Int := [0, 0, 0]
def z6 : List Int := List.replicate 6 0
theorem z26_ok : bytesOk z26 := fun x hx => by rw [List.eq_of_mem_replicate hx]; omega
theorem z6_ok : bytesOk z6 := fun x hx => by rw [List.eq_of_mem_replicate hx]; omega
theorem z3_ok : bytesOk z3 := fun x hx => by simp [z3] at hx; subst hx; omega
theorem z26_len : z26.length = 26 := List.length_replicate
def okE : Ent := ⟨10, 255, 65535, 255, 16777215, 16777215, 255, 255, 0, 0, z26, [], List.replicate 40 mv0, List.replicate 40 lv0, List.replicate 40 dt0, List.replicate 40 (0, 0, [])⟩
def mvN : Mv := (0, 0, -1, 0)
def badE : Nat → Ent
  | 0 => { okE with kind := 0 }
  | 1 => { okE with kind := 11 }
  | 2 => { okE with txn := 256 }
  | 3 => { okE with unit := 65536 }
  | 4 => { okE with half := -1 }
  | 5 => { okE with prev := 16777216 }
  | 6 => { okE with next := -1 }
  | 7 => { okE with ac := 256 }
  | 8 => { okE with old := z3 }
  | 9 => { okE with moves := List.replicate 41 mv0 }
  | 10 => { okE with lives := [(0, -1, 0, false)] }
  | 11 => { okE with dirty := [(256, 0)] }
  | 12 => { okE with opens := [(0, 256, [])] }
  | _ => { okE with opens := [(0, 0, [mvN])] }

theorem okE_B : entB okE = true := by
  have h1 := rep_B (f := mvB) (x := mv0) rfl (Nat.le_refl 40)
  have h2 := rep_B (f := lvB) (x := lv0) rfl (Nat.le_refl 40)
  have h3 := rep_B (f := dtB) (x := dt0) rfl (Nat.le_refl 40)
  have h4 := rep_B (f := opB) (x := (0, 0, [])) rfl (Nat.le_refl 40)
  have h5 : celOk z26 = true := by unfold celOk; rw [z26_len]; rfl
  unfold entB okE
  simp only [h1, h2, h3, h4, h5]
  decide
theorem okE_len : (entL okE).length = 847 := by
  have h1 := rep_len (f := mvL) (x := mv0) (k := 4) rfl (Nat.le_refl 40)
  have h2 := rep_len (f := lvL) (x := lv0) (k := 8) rfl (Nat.le_refl 40)
  have h3 := rep_len (f := dtL) (x := dt0) (k := 4) rfl (Nat.le_refl 40)
  have h4 := rep_len (f := opL) (x := (0, 0, [])) (k := 4) rfl (Nat.le_refl 40)
  have h5 : (celL z26).length = 27 := by
    unfold celL
    rw [if_pos (by unfold celOk; rw [z26_len]; rfl), List.length_append, numL_len, z26_len]
  have h6 : (celL []).length = 1 := rfl
  unfold entL okE plL
  simp only [List.length_append, numL_len, h1, h2, h3, h4, h5, h6]
theorem badE_B : ∀ k, k < 14 → entB (badE k) = false
  | 0, _ => by simp [entB, badE, kindB]
  | 1, _ => by simp [entB, badE, kindB]
  | 2, _ => by simp [entB, badE, fitB]
  | 3, _ => by simp [entB, badE, fitB]
  | 4, _ => by simp [entB, badE, fitB]
  | 5, _ => by simp [entB, badE, fitB]
  | 6, _ => by simp [entB, badE, fitB]
  | 7, _ => by simp [entB, badE, plB, fitB]
  | 8, _ => by simp [entB, badE, celOk, z3]
  | 9, _ => by simp [entB, badE, lstB]
  | 10, _ => by simp [entB, badE, lstB, lvB, fitB]
  | 11, _ => by simp [entB, badE, lstB, dtB, fitB]
  | 12, _ => by simp [entB, badE, lstB, opB, fitB]
  | 13, _ => by simp [entB, badE, lstB, opB, mvB, plB, fitB, mvN]
  | k + 14, h => by omega
theorem okE_I : EntI okE :=
  ⟨⟨by decide, by decide⟩, ⟨by decide, by decide⟩, ⟨by decide, by decide⟩, ⟨by decide, by decide⟩, ⟨by decide, by decide⟩, ⟨by decide, by decide⟩, ⟨by decide, by decide⟩, ⟨by decide, by decide⟩, zero_I, zero_I,
    (zE_I zero_I 40 40 40 40 [] []).moves, (zE_I zero_I 40 40 40 40 [] []).lives, (zE_I zero_I 40 40 40 40 [] []).dirty, (zE_I zero_I 40 40 40 40 [] []).opens⟩
theorem opN_I : ∀ x ∈ ([(0, 0, [mvN])] : List Opn), opI1 x := fun x hx => by
  obtain rfl := List.mem_singleton.1 hx
  exact ⟨zero_I, zero_I, fun m hm => by obtain rfl := List.mem_singleton.1 hm; exact ⟨zero_I, zero_I, ⟨by decide, by decide⟩, zero_I⟩⟩
theorem badE_I : ∀ k, EntI (badE k)
  | 0 => { okE_I with kind := ⟨by decide, by decide⟩ }
  | 1 => { okE_I with kind := ⟨by decide, by decide⟩ }
  | 2 => { okE_I with txn := ⟨by decide, by decide⟩ }
  | 3 => { okE_I with unit := ⟨by decide, by decide⟩ }
  | 4 => { okE_I with half := ⟨by decide, by decide⟩ }
  | 5 => { okE_I with prev := ⟨by decide, by decide⟩ }
  | 6 => { okE_I with next := ⟨by decide, by decide⟩ }
  | 7 => { okE_I with ac := ⟨by decide, by decide⟩ }
  | 8 => { okE_I with }
  | 9 => { okE_I with moves := (zE_I zero_I 41 40 40 40 [] []).moves }
  | 10 => { okE_I with lives := fun x hx => by obtain rfl := List.mem_singleton.1 hx; exact ⟨zero_I, ⟨by decide, by decide⟩, zero_I⟩ }
  | 11 => { okE_I with dirty := fun x hx => by obtain rfl := List.mem_singleton.1 hx; exact ⟨⟨by decide, by decide⟩, zero_I⟩ }
  | 12 => { okE_I with opens := fun x hx => by obtain rfl := List.mem_singleton.1 hx; exact ⟨zero_I, ⟨by decide, by decide⟩, fun _ h => by cases h⟩ }
  | _ + 13 => { okE_I with opens := opN_I }

def e3 : Ent := ⟨1, 2, 0, 0, 3, 4, 5, 6, 7, 0, [], [], [], [], [], []⟩
theorem e3_B : entB e3 = true := by decide
theorem e3_L : entL e3 = [1, 2, 0, 0, 0, 0, 0, 3, 0, 0, 4, 5, 6, 7, 0] ++ z6 := by decide
theorem e3_I : EntI e3 := ⟨⟨by decide, by decide⟩, ⟨by decide, by decide⟩, ⟨by decide, by decide⟩, ⟨by decide, by decide⟩, ⟨by decide, by decide⟩, ⟨by decide, by decide⟩, ⟨by decide, by decide⟩, ⟨by decide, by decide⟩, ⟨by decide, by decide⟩, ⟨by decide, by decide⟩, (fun m h => by cases h), (fun m h => by cases h), (fun m h => by cases h), (fun m h => by cases h)⟩
end Go.Proofs.Ytkfebibnpincpaa
