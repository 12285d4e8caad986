/- What is behind an encoding is not read; so no encoding begins another one. -/
import Derived.Test.YtkfebibnpincpaaEntG
namespace Go.Proofs.Ytkfebibnpincpaa

theorem entR_tail {e : Ent} (h : entB e = true) (t : List Int) : entR (entL e ++ t) = e := by
  obtain ⟨a1, a2, a3, a4, a5, a6, a7, a8, a9, a10, o, n, mo, li, di, op⟩ := e
  simp only [entB, Bool.and_eq_true, plB] at h
  obtain ⟨⟨⟨⟨⟨⟨⟨⟨⟨⟨⟨⟨⟨⟨hk, h1⟩, h2⟩, h3⟩, h4⟩, h5⟩, h6⟩, h7, h8⟩, h9, h10⟩, ho⟩, hn⟩, hm⟩, hl⟩, hd⟩, hp⟩ := h
  clear hk
  have e15 : ∀ X : List Int, (numL a1 1 ++ (numL a2 1 ++ (numL a3 2 ++ (numL a4 1 ++ (numL a5 3 ++ (numL a6 3 ++ (plL a7 a8 ++ (plL a9 a10 ++ X)))))))).drop 15 = X := fun X => by
    simp [plL, numL]
  have E : entL ⟨a1, a2, a3, a4, a5, a6, a7, a8, a9, a10, o, n, mo, li, di, op⟩ ++ t = numL a1 1 ++ (numL a2 1 ++ (numL a3 2 ++ (numL a4 1 ++ (numL a5 3 ++ (numL a6 3 ++ (plL a7 a8 ++ (plL a9 a10 ++ (celL o ++ (celL n ++ (lstL mvL mo ++ (lstL lvL li ++ (lstL dtL di ++ (lstL opL op ++ t))))))))))))) := by
    simp [entL]
  rw [E]
  obtain ⟨X, hX⟩ : ∃ X, X = celL o ++ (celL n ++ (lstL mvL mo ++ (lstL lvL li ++ (lstL dtL di ++ (lstL opL op ++ t))))) := ⟨_, rfl⟩
  rw [← hX]
  obtain ⟨L, hL⟩ : ∃ L, L = numL a1 1 ++ (numL a2 1 ++ (numL a3 2 ++ (numL a4 1 ++ (numL a5 3 ++ (numL a6 3 ++ (plL a7 a8 ++ (plL a9 a10 ++ X))))))) := ⟨_, rfl⟩
  have k1 : r1 L = (o, celL n ++ (lstL mvL mo ++ (lstL lvL li ++ (lstL dtL di ++ (lstL opL op ++ t))))) := by
    unfold r1; rw [hL, e15, hX, celR_celL ho]
  have k2 : r2 L = (n, lstL mvL mo ++ (lstL lvL li ++ (lstL dtL di ++ (lstL opL op ++ t)))) := by
    unfold r2; rw [k1]; exact celR_celL hn _
  have k3 : r3 L = (mo, lstL lvL li ++ (lstL dtL di ++ (lstL opL op ++ t))) := by
    unfold r3; rw [k2]; exact lstR_lstL hm (fun x hx t => mvR_mvL hx t) _
  have k4 : r4 L = (li, lstL dtL di ++ (lstL opL op ++ t)) := by
    unfold r4; rw [k3]; exact lstR_lstL hl (fun x hx t => lvR_lvL hx t) _
  have k5 : r5 L = (di, lstL opL op ++ t) := by
    unfold r5; rw [k4]; exact lstR_lstL hd (fun x hx t => dtR_dtL hx t) _
  have k6 : r6 L = (op, t) := by
    unfold r6; rw [k5]; exact lstR_lstL hp (fun x hx t => opR_opL hx t) _
  rw [← hL]
  unfold entR
  rw [k1, k2, k3, k4, k5, k6]
  have := fit_iff.1 h1; have := fit_iff.1 h2; have := fit_iff.1 h3; have := fit_iff.1 h4; have := fit_iff.1 h5; have := fit_iff.1 h6; have := fit_iff.1 h7; have := fit_iff.1 h8; have := fit_iff.1 h9; have := fit_iff.1 h10
  clear k1 k2 k3 k4 k5 k6 hX E e15
  subst hL
  simp [plL, numL, numR]
  refine ⟨?_, ?_, ?_, ?_, ?_, ?_, ?_, ?_, ?_, ?_⟩ <;> omega

theorem entL_pre {e e' : Ent} (h : entB e = true) (h' : entB e' = true) {t : List Int} (ht : entL e = entL e' ++ t) : e' = e ∧ t = [] := by
  have h1 := entR_entL h
  rw [ht, entR_tail h' t] at h1
  subst h1
  refine ⟨rfl, ?_⟩
  have := congrArg List.length ht
  rw [List.length_append] at this
  exact List.length_eq_zero_iff.1 (by omega)
theorem entL_ge {e : Ent} (h : entB e = true) : 21 ≤ (entL e).length := by
  simp only [entB, Bool.and_eq_true] at h
  obtain ⟨⟨⟨⟨⟨⟨⟨⟨⟨⟨⟨⟨⟨⟨hk, h1⟩, h2⟩, h3⟩, h4⟩, h5⟩, h6⟩, h7⟩, h9⟩, ho⟩, hn⟩, hm⟩, hl⟩, hd⟩, hp⟩ := h
  have l1 : ∀ {α : Type} {f : α → List Int} {xs : List α} {B : α → Bool}, lstB B xs = true → 1 ≤ (lstL f xs).length := fun hb => by
    simp only [lstB, Bool.and_eq_true, decide_eq_true_eq] at hb
    unfold lstL
    rw [if_pos hb.1, List.length_append, numL_len]
    omega
  have c1 : ∀ {c : List Int}, celOk c = true → 1 ≤ (celL c).length := fun hb => by
    unfold celL
    rw [if_pos hb, List.length_append, numL_len]
    omega
  have := l1 (f := mvL) hm; have := l1 (f := lvL) hl; have := l1 (f := dtL) hd; have := l1 (f := opL) hp; have := c1 ho; have := c1 hn
  unfold entL plL
  simp only [List.length_append, numL_len]
  omega
theorem flat_le {α : Type} {f : α → List Int} {N : Nat} (xs : List α) (h : ∀ x ∈ xs, (f x).length ≤ N) : (xs.flatMap f).length ≤ xs.length * N := by
  induction xs with
  | nil => simp
  | cons x t ih =>
    have a := h x (List.mem_cons_self ..)
    have b := ih fun y hy => h y (List.mem_cons_of_mem _ hy)
    rw [List.flatMap_cons, List.length_append, List.length_cons, Nat.add_mul]
    omega
theorem lst_le {α : Type} {f : α → List Int} {B : α → Bool} {N : Nat} {xs : List α} (hb : lstB B xs = true) (h : ∀ x, B x = true → (f x).length ≤ N) : (lstL f xs).length ≤ 1 + 40 * N := by
  simp only [lstB, Bool.and_eq_true, decide_eq_true_eq, List.all_eq_true] at hb
  unfold lstL
  rw [if_pos hb.1, List.length_append, numL_len]
  have := flat_le xs fun x hx => h x (hb.2 x hx)
  have := Nat.mul_le_mul_right N hb.1
  omega
theorem entL_le {e : Ent} (h : entB e = true) : (entL e).length ≤ 10000 := by
  simp only [entB, Bool.and_eq_true] at h
  obtain ⟨⟨⟨⟨⟨⟨⟨⟨⟨⟨⟨⟨⟨⟨hk, h1⟩, h2⟩, h3⟩, h4⟩, h5⟩, h6⟩, h7⟩, h9⟩, ho⟩, hn⟩, hm⟩, hl⟩, hd⟩, hp⟩ := h
  have c1 : ∀ {c : List Int}, celOk c = true → (celL c).length ≤ 27 := fun hb => by
    unfold celL
    rw [if_pos hb, List.length_append, numL_len]
    simp only [celOk, Bool.or_eq_true, decide_eq_true_eq] at hb
    omega
  have := c1 ho
  have := c1 hn
  have := lst_le (f := mvL) (N := 4) hm fun x _ => by simp [mvL, plL, numL_len]
  have := lst_le (f := lvL) (N := 8) hl fun x _ => by simp [lvL, numL_len]
  have := lst_le (f := dtL) (N := 4) hd fun x _ => by simp [dtL, numL_len]
  have := lst_le (f := opL) (N := 164) hp fun x hx => by
    simp only [opB, Bool.and_eq_true] at hx
    have := lst_le (f := mvL) (N := 4) hx.2 fun x _ => by simp [mvL, plL, numL_len]
    unfold opL
    simp only [List.length_append, numL_len]
    omega
  unfold entL plL
  simp only [List.length_append, numL_len]
  omega
theorem tk_cut {e : Ent} (h : entB e = true) {k : Nat} (hk : k < (entL e).length) : tkB ((entL e).take k) = false := by
  cases ht : tkB ((entL e).take k) with
  | false => rfl
  | true =>
    simp only [tkB, Bool.and_eq_true, decide_eq_true_eq] at ht
    have := (entL_pre h ht.1 (t := (entL e).drop k) (by rw [← ht.2, List.take_append_drop])).2
    have := congrArg List.length this
    rw [List.length_drop, List.length_nil] at this
    omega
theorem tk_more {e : Ent} (h : entB e = true) (x : Int) : tkB (entL e ++ [x]) = false := by
  unfold tkB
  rw [entR_tail h, Bool.and_eq_false_iff]
  right
  rw [decide_eq_false_iff_not]
  intro k
  have := congrArg List.length k
  simp at this
theorem tk_put {l : List Int} (h : tkB l = true) : putL (tkE l) = l := by
  rw [(tk_yes h).1]
  simp only [tkB, Bool.and_eq_true, decide_eq_true_eq] at h
  rw [putL_yes h.1, ← h.2]
theorem lst_40 {α : Type} {B : α → Bool} {xs : List α} (hb : lstB B xs = true) : xs.length ≤ 40 := by
  simp only [lstB, Bool.and_eq_true, decide_eq_true_eq] at hb
  exact hb.1
theorem entB_len {e : Ent} (h : entB e = true) : EntLen e := by
  simp only [entB, Bool.and_eq_true] at h
  obtain ⟨⟨⟨⟨⟨⟨⟨⟨⟨⟨⟨⟨⟨⟨hk, h1⟩, h2⟩, h3⟩, h4⟩, h5⟩, h6⟩, h7⟩, h9⟩, ho⟩, hn⟩, hm⟩, hl⟩, hd⟩, hp⟩ := h
  have := lst_40 hm; have := lst_40 hl; have := lst_40 hd; have := lst_40 hp
  refine ⟨by omega, by omega, by omega, by omega, fun o ho => ?_⟩
  simp only [lstB, Bool.and_eq_true, decide_eq_true_eq, List.all_eq_true] at hp
  have := hp.2 o ho
  simp only [opB, Bool.and_eq_true] at this
  have := lst_40 this.2
  omega
end Go.Proofs.Ytkfebibnpincpaa
