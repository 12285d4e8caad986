/- The log: what is read of the tiles of a stream; what is scanned of frames. -/
import Derived.Test.YticcadbkpolmiaaTrFo
namespace Go.Proofs.Yticcadbkpolmiaa
open Go.RowKit Go.Maps

theorem rd_tile (S : List Int) : ∀ (m i : Nat), S.length ≤ 63 * (i + m) → rdL (tileL S) m i = S.drop (63 * i)
  | 0, i, h => by rw [List.drop_eq_nil_of_le (by omega)]; rfl
  | m + 1, i, h => by
    have hp := partL_len S i
    have hh : (tileL S i).headD 0 = ((partL S i).length : Int) := rfl
    have ht : ((tileL S i).drop 1).take ((tileL S i).headD 0).toNat = partL S i := by
      rw [hh]
      show (partL S i ++ List.replicate _ 0).take _ = _
      rw [List.take_append_of_le_length (by omega), List.take_of_length_le (by omega)]
    have hle := partL_le S i
    unfold rdL
    rw [if_neg (by rw [hh]; omega), ht]
    split
    · rename_i hlt
      rw [hh] at hlt
      unfold partL
      rw [List.take_of_length_le]
      rw [List.length_drop]
      omega
    · rename_i hlt
      rw [hh] at hlt
      rw [rd_tile S m (i + 1) (by omega)]
      have e : S.drop (63 * (i + 1)) = (S.drop (63 * i)).drop 63 := by rw [List.drop_drop]; rfl
      rw [e]
      exact List.take_append_drop 63 _
theorem unf_nil : unf [] = none := rfl
theorem frB_un {b : List Int} (hl : b.length < 65536) (h : tkB b = true) (rest : List Int) : unf (frB b ++ rest) = some b := by
  have hN : unN (frB b ++ rest) = b.length := by
    unfold unN frB
    show (((b.length / 256 : Nat) : Int) * 256 + ((b.length % 256 : Nat) : Int)).toNat = _
    omega
  have hd : (frB b ++ rest).drop 2 = b ++ ([(sumP b).1, (sumP b).2] ++ rest) := by unfold frB; simp
  have e1 : ((frB b ++ rest).drop 2).take b.length = b := by rw [hd, List.take_append_of_le_length (Nat.le_refl _), List.take_length]
  have e2 : (frB b ++ rest).drop (2 + b.length) = [(sumP b).1, (sumP b).2] ++ rest := by
    rw [← List.drop_drop, hd, List.drop_append_of_le_length (Nat.le_refl _), List.drop_length, List.nil_append]
  have e3 : (frB b ++ rest).drop (3 + b.length) = (sumP b).2 :: rest := by
    rw [show 3 + b.length = (2 + b.length) + 1 by omega, ← List.drop_drop, e2]; rfl
  unfold unf
  rw [hN, e1, e2, e3, if_neg (by rw [List.length_append, frB_len]; omega), if_neg (by rw [List.length_append, frB_len]; omega), if_pos ⟨rfl, rfl, h⟩]
theorem scan_fr {b : List Int} (hl : b.length < 65536) (h : tkB b = true) (rest : List Int) : scan (frB b ++ rest) = b :: scan rest := by
  rw [scan_some (frB_un hl h rest)]
  congr 2
  rw [List.drop_append_of_le_length (by rw [frB_len]; exact Nat.le_refl _), List.drop_eq_nil_of_le (by rw [frB_len]; exact Nat.le_refl _), List.nil_append]
theorem scan_frs : ∀ (bs : List (List Int)), (∀ b ∈ bs, b.length < 65536 ∧ tkB b = true) → scan (bs.flatMap frB) = bs
  | [], _ => scan_none unf_nil
  | b :: bs, h => by
    rw [List.flatMap_cons, scan_fr (h b (List.mem_cons_self ..)).1 (h b (List.mem_cons_self ..)).2, scan_frs bs (fun x hx => h x (List.mem_cons_of_mem _ hx))]
theorem frsN_len : ∀ (bs : List (List Int)), frsN bs = (bs.flatMap frB).length
  | [] => rfl
  | b :: bs => by rw [frsN_cons, frsN_len bs, List.flatMap_cons, List.length_append, frB_len]

/-- An entry that says that a transaction has ended. -/
def eEnd (x : Int) : Ent := ⟨5, x, 0, 0, 0, 0, 0, 0, 0, 0, [], [], [], [], [], []⟩
theorem eEnd_B {x : Int} (h : 0 ≤ x ∧ x < 256) : entB (eEnd x) = true := by
  have h1 : fitB x 1 = true := fit_iff.2 ⟨h.1, by simpa using h.2⟩
  unfold entB eEnd
  simp only [h1]
  decide
theorem eEnd_len (x : Int) : (entL (eEnd x)).length = 21 := by unfold entL eEnd; simp [numL, plL, celL, lstL, celOk]
theorem eEnd_I {x : Int} (h : 0 ≤ x ∧ x < 256) : EntI (eEnd x) := by
  have z : I64 0 := ⟨by decide, by decide⟩
  have y : I64 5 := ⟨by decide, by decide⟩
  have u : I64 x := ⟨by omega, by omega⟩
  exact ⟨y, u, z, z, z, z, z, z, z, z, (fun m hm => by cases hm), (fun m hm => by cases hm), (fun m hm => by cases hm), (fun m hm => by cases hm)⟩
theorem nil_ents (w : World) (e : Ent) (h1 : e.old = []) (h2 : e.new = []) (h3 : e.moves = []) (h4 : e.lives = []) (h5 : e.dirty = []) (h6 : e.opens = []) : EntS w (.slice none 0 0) (.slice none 0 0) (.slice none 0 0) (.slice none 0 0) (.slice none 0 0) (.slice none 0 0) e := by
  have h := (ent0_F w 0).entS
  exact ⟨by rw [h1]; exact h.old, by rw [h2]; exact h.new, by rw [h3]; exact h.moves, by rw [h4]; exact h.lives, by rw [h5]; exact h.dirty, by rw [h6]; exact h.opens⟩
theorem frL_eEnd {x : Int} (h : 0 ≤ x ∧ x < 256) : frL (eEnd x) = frB (entL (eEnd x)) ∧ (frL (eEnd x)).length = 25 ∧ tkB (entL (eEnd x)) = true := by
  refine ⟨frL_yes (eEnd_B h), ?_, (t_tkB_entL (eEnd_B h)).1⟩
  rw [frL_yes (eEnd_B h), frB_len, eEnd_len]
end Go.Proofs.Yticcadbkpolmiaa
