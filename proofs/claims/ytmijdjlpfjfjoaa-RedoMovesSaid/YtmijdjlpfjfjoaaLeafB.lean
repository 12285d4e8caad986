/- What is put is taken; halves of two layings. -/
import Derived.Test.YtmijdjlpfjfjoaaLeafTk
namespace Go.Proofs.Ytmijdjlpfjfjoaa
open Go.RowKit

theorem nrm_pd (l : List Int) : nrm (pd l) = nrm l := by
  unfold pd
  by_cases h : l.length = 0
  · rw [if_pos h, List.eq_nil_of_length_eq_zero h]; decide
  · rw [if_neg h]
theorem cut_cells {c : Nat → List Int} (h : ∀ j, j < 4 → okL (c j) = true) (r : List Int) {i : Nat} (hi : i < 4) : cutL (cellsL c 4 ++ r) i = pd (c i) := by
  have h0 := pd_len (h 0 (by decide))
  have h1 := pd_len (h 1 (by decide))
  have h2 := pd_len (h 2 (by decide))
  have h3 := pd_len (h 3 (by decide))
  unfold cutL
  show ((((([] ++ pd (c 0)) ++ pd (c 1)) ++ pd (c 2)) ++ pd (c 3) ++ r).drop (26 * i)).take 26 = _
  simp only [List.nil_append, List.append_assoc]
  match i, hi with
  | 0, _ => rw [Nat.mul_zero, List.drop_zero]; exact List.take_left' h0
  | 1, _ => rw [Nat.mul_one, List.drop_left' h0]; exact List.take_left' h1
  | 2, _ => rw [show 26 * 2 = 26 + 26 from rfl, ← List.drop_drop, List.drop_left' h0, List.drop_left' h1]; exact List.take_left' h2
  | 3, _ => rw [show 26 * 3 = 26 + (26 + 26) from rfl, ← List.drop_drop, List.drop_left' h0, ← List.drop_drop, List.drop_left' h1, List.drop_left' h2]; exact List.take_left' h3

theorem lf_tE {c d : Nat → List Int} {n m : Int} (hc : okC c = true) (hd : okC d = true) (n0 : 0 ≤ n) (n1 : n < 2147483648) (m0 : 0 ≤ m) (m1 : m < 2147483648) :
    lfE c n = 0 ∧ lfE d m = 0 ∧ tE (lfA c n) (lfB d m) = (if n = m then 0 else 3) ∧ (n = m → tK (lfA c n) (lfB d m) = n ∧ tL (lfA c n) (lfB d m) = pad ((cellsL c 4).take 60) ++ pad ((cellsL d 4).drop 60)) := by
  have lc : (cellsL c 4).length = 104 := cellsL_len (fun j hj => okC_iff.1 hc j hj)
  have ld : (cellsL d 4).length = 104 := cellsL_len (fun j hj => okC_iff.1 hd j hj)
  have bc : ¬ PBad n (cellsL c 4) := by unfold PBad; omega
  have bd : ¬ PBad m (cellsL d 4) := by unfold PBad; omega
  have eA : lfA c n = tileL n ((cellsL c 4).take 60) := by unfold lfA pA; rw [if_pos hc, if_neg bc]
  have eB : lfB d m = tileL m ((cellsL d 4).drop 60) := by unfold lfB pB; rw [if_pos hd, if_neg bd]
  have e1 : (tileL n ((cellsL c 4).take 60)).length = 64 := tile_len n (by simp; omega)
  have e2 : (tileL m ((cellsL d 4).drop 60)).length = 64 := tile_len m (by simp; omega)
  have hE : tE (lfA c n) (lfB d m) = (if n = m then 0 else 3) := by
    rw [eA, eB]
    unfold tE
    rw [if_pos ⟨e1, e2⟩, tile_num n0 n1, tile_num m0 m1]
    by_cases h : n = m
    · rw [if_pos h, if_pos h, if_neg (by omega)]
    · rw [if_neg h, if_neg h]
  refine ⟨by unfold lfE pE; rw [if_pos hc, if_neg bc], by unfold lfE pE; rw [if_pos hd, if_neg bd], hE, fun h => ?_⟩
  rw [if_pos h] at hE
  unfold tK tL
  rw [if_pos hE, if_pos hE, eA, eB, tile_num n0 n1, tile_drop, tile_drop]
  exact ⟨rfl, rfl⟩

theorem put_take {c : Nat → List Int} {n : Int} (hc : okC c = true) (n0 : 0 ≤ n) (n1 : n < 2147483648) (hr : ∀ i, i < 4 → rdOk (pd (c i))) {er m : Int} {d : Nat → List Int} (h : Tk (lfA c n) (lfB c n) er d m) : er = 0 ∧ m = n ∧ ∀ i, i < 4 → d i = nrm (c i) := by
  have hok := fun j hj => okC_iff.1 hc j hj
  have lc : (cellsL c 4).length = 104 := cellsL_len hok
  obtain ⟨-, -, hE, hK⟩ := lf_tE hc hc n0 n1 n0 n1
  rw [if_pos rfl] at hE
  obtain ⟨hK, hL⟩ := hK rfl
  have hB : tL (lfA c n) (lfB c n) = cellsL c 4 ++ List.replicate 16 0 := by
    rw [hL]
    exact (body_eq (l := cellsL c 4) (by omega)).trans (by rw [lc])
  have hz : zerosB ((tL (lfA c n) (lfB c n)).drop 104) = true := by
    rw [hB, List.drop_left' lc]; decide
  have hcut : ∀ i, i < 4 → cutL (tL (lfA c n) (lfB c n)) i = pd (c i) := fun i hi => by rw [hB]; exact cut_cells hok _ hi
  have := Tk.ok hE hz (fun i hi => by rw [hcut i hi]; exact hr i hi)
  obtain ⟨rfl, rfl, rfl⟩ := h.det this
  exact ⟨rfl, hK, fun i hi => by rw [pgL, hcut i hi, nrm_pd]⟩

theorem put_tears {c d : Nat → List Int} {n m : Int} (hc : okC c = true) (hd : okC d = true) (n0 : 0 ≤ n) (n1 : n < 2147483648) (m0 : 0 ≤ m) (m1 : m < 2147483648) {er k : Int} {f : Nat → List Int} (h : Tk (lfA c n) (lfB d m) er f k) : (n ≠ m → er = 3 ∧ k = 0) ∧ (n = m → er = 0 ∧ k = n ∨ er = 4) := by
  obtain ⟨-, -, hE, hK⟩ := lf_tE hc hd n0 n1 m0 m1
  constructor
  · intro hne
    rw [if_neg hne] at hE
    have h2 := h.det (.bad (by rw [hE]; decide))
    rw [hE] at h2
    exact ⟨h2.1, h2.2.2⟩
  · intro heq
    rw [if_pos heq] at hE
    cases h with
    | bad h2 => exact absurd hE h2
    | form _ _ => exact .inr rfl
    | cell _ _ _ _ _ => exact .inr rfl
    | ok _ _ _ => exact .inl ⟨rfl, (hK heq).1⟩

end Go.Proofs.Ytmijdjlpfjfjoaa
