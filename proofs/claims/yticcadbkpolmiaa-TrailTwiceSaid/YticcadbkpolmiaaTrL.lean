/- Of entries: what is read is made of numbers; how long an encoding is; Take. -/
import Derived.Test.YticcadbkpolmiaaEntT
namespace Go.Proofs.Yticcadbkpolmiaa
open Go.RowKit

theorem t_i64_numR {l : List Int} (h : bytesOk l) {k : Nat} (hk : k ≤ 3) : I64 (numR l k) := by
  obtain ⟨a, b⟩ := numR_bd h k
  have : (256 : Int) ^ k ≤ 16777216 := by
    obtain rfl | rfl | rfl | rfl : k = 0 ∨ k = 1 ∨ k = 2 ∨ k = 3 := by omega
    all_goals decide
  exact ⟨by omega, by omega⟩
theorem t_nR_all {α : Type} {f : List Int → α × List Int} {P : α → Prop} (hf : ∀ l, bytesOk l → P (f l).1 ∧ bytesOk (f l).2) {l : List Int} (h : bytesOk l) : ∀ k, (∀ x ∈ (nR f k l).1, P x) ∧ bytesOk (nR f k l).2
  | 0 => ⟨(fun x hx => by cases hx), h⟩
  | k + 1 => by
    obtain ⟨a, b⟩ := t_nR_all hf h k
    obtain ⟨c, d⟩ := hf _ b
    refine ⟨fun x hx => ?_, d⟩
    rcases List.mem_append.1 hx with hx | hx
    · exact a x hx
    · obtain rfl : x = _ := by simpa using hx
      exact c
theorem t_lstR_all {α : Type} {f : List Int → α × List Int} {P : α → Prop} (hf : ∀ l, bytesOk l → P (f l).1 ∧ bytesOk (f l).2) {l : List Int} (h : bytesOk l) : (∀ x ∈ (lstR f l).1, P x) ∧ bytesOk (lstR f l).2 := t_nR_all hf (ok_drop h 1) _
theorem t_lstR_len {α : Type} (f : List Int → α × List Int) {l : List Int} (h : bytesOk l) : (lstR f l).1.length ≤ 255 := by
  have := numR_bd h 1
  unfold lstR
  rw [nR_len]
  omega
theorem t_mvR_I (l : List Int) (h : bytesOk l) : mvI (mvR l).1 ∧ bytesOk (mvR l).2 := ⟨⟨t_i64_numR h (by omega), t_i64_numR (ok_drop h _) (by omega), t_i64_numR (ok_drop h _) (by omega), t_i64_numR (ok_drop h _) (by omega)⟩, ok_drop h _⟩
theorem t_lvR_I (l : List Int) (h : bytesOk l) : lvI (lvR l).1 ∧ bytesOk (lvR l).2 := ⟨⟨t_i64_numR h (by omega), t_i64_numR (ok_drop h _) (by omega), t_i64_numR (ok_drop h _) (by omega)⟩, ok_drop h _⟩
theorem t_dtR_I (l : List Int) (h : bytesOk l) : dtI (dtR l).1 ∧ bytesOk (dtR l).2 := ⟨⟨t_i64_numR h (by omega), t_i64_numR (ok_drop h _) (by omega)⟩, ok_drop h _⟩
theorem t_opR_I (l : List Int) (h : bytesOk l) : (opI1 (opR l).1 ∧ (opR l).1.2.2.length ≤ 9223372036854775807) ∧ bytesOk (opR l).2 := by
  obtain ⟨a, b⟩ := t_lstR_all (f := mvR) (P := mvI) t_mvR_I (ok_drop h 3)
  exact ⟨⟨⟨t_i64_numR h (by omega), t_i64_numR (ok_drop h _) (by omega), a⟩, Nat.le_trans (t_lstR_len mvR (ok_drop h 3)) (by omega)⟩, b⟩
theorem t_celR_ok2 {l : List Int} (h : bytesOk l) : bytesOk (celR l).2 := ok_drop (ok_drop h 1) _
theorem t_entR_I {l : List Int} (h : bytesOk l) : EntI (entR l) ∧ bytesOk (entR l).old ∧ bytesOk (entR l).new := by
  have o1 : bytesOk (r1 l).1 := celR_ok (ok_drop h 15)
  have h1 : bytesOk (r1 l).2 := t_celR_ok2 (ok_drop h 15)
  have o2 : bytesOk (r2 l).1 := celR_ok h1
  have h2 : bytesOk (r2 l).2 := t_celR_ok2 h1
  obtain ⟨a3, h3⟩ := t_lstR_all (f := mvR) (P := mvI) t_mvR_I (show bytesOk (r2 l).2 from h2)
  obtain ⟨a4, h4⟩ := t_lstR_all (f := lvR) (P := lvI) t_lvR_I (show bytesOk (r3 l).2 from h3)
  obtain ⟨a5, h5⟩ := t_lstR_all (f := dtR) (P := dtI) t_dtR_I (show bytesOk (r4 l).2 from h4)
  obtain ⟨a6, h6⟩ := t_lstR_all (f := opR) (P := fun o => opI1 o ∧ o.2.2.length ≤ 9223372036854775807) t_opR_I (show bytesOk (r5 l).2 from h5)
  have q0 : I64 (numR l 1) := t_i64_numR h (by decide)
  have q1 : I64 (numR (l.drop 1) 1) := t_i64_numR (ok_drop h 1) (by decide)
  have q2 : I64 (numR (l.drop 2) 2) := t_i64_numR (ok_drop h 2) (by decide)
  have q3 : I64 (numR (l.drop 4) 1) := t_i64_numR (ok_drop h 4) (by decide)
  have q4 : I64 (numR (l.drop 5) 3) := t_i64_numR (ok_drop h 5) (by decide)
  have q5 : I64 (numR (l.drop 8) 3) := t_i64_numR (ok_drop h 8) (by decide)
  have q6 : I64 (numR (l.drop 11) 1) := t_i64_numR (ok_drop h 11) (by decide)
  have q7 : I64 (numR (l.drop 12) 1) := t_i64_numR (ok_drop h 12) (by decide)
  have q8 : I64 (numR (l.drop 13) 1) := t_i64_numR (ok_drop h 13) (by decide)
  have q9 : I64 (numR (l.drop 14) 1) := t_i64_numR (ok_drop h 14) (by decide)
  have m3 : ∀ m ∈ (r3 l).1, mvI m := a3
  have m4 : ∀ m ∈ (r4 l).1, lvI m := a4
  have m5 : ∀ m ∈ (r5 l).1, dtI m := a5
  have m6 : ∀ m ∈ (r6 l).1, opI1 m := fun o ho => (a6 o ho).1
  clear a3 a4 a5 a6 h1 h2 h3 h4 h5 h6
  generalize hE : entR l = E
  unfold entR at hE
  generalize r1 l = R1 at *
  generalize r2 l = R2 at *
  generalize r3 l = R3 at *
  generalize r4 l = R4 at *
  generalize r5 l = R5 at *
  generalize r6 l = R6 at *
  subst hE
  exact ⟨⟨q0, q1, q2, q3, q4, q5, q6, q7, q8, q9, m3, m4, m5, m6⟩, o1, o2⟩

theorem t_tkB_entL {e : Ent} (h : entB e = true) : tkB (entL e) = true ∧ tkE (entL e) = e ∧ tkN (entL e) = 0 := by
  have hr := entR_entL h
  have ht : tkB (entL e) = true := by unfold tkB; rw [hr, h]; simp
  obtain ⟨a, b⟩ := tk_yes ht
  exact ⟨ht, by rw [a, hr], b⟩
/-- Take, of bytes that are bytes. -/
theorem t_take_ok (w : World) {sv : Value} {l : List Int} (h : SlK .u8 w sv l) : Calls Try.prog 50 #[sv] w (TkPost w l) := take_any w h (t_entR_I h.ok).1
theorem t_entL_ge {e : Ent} (h : entB e = true) : 21 ≤ (entL e).length := by
  simp only [entB, Bool.and_eq_true] at h
  obtain ⟨⟨⟨⟨⟨⟨⟨⟨⟨⟨⟨⟨⟨⟨hk, h1⟩, h2⟩, h3⟩, h4⟩, h5⟩, h6⟩, h7⟩, h9⟩, ho⟩, hn⟩, hm⟩, hl⟩, hd⟩, hp⟩ := h
  have l1 : ∀ {α : Type} {f : α → List Int} {xs : List α} {B : α → Bool}, lstB B xs = true → 1 ≤ (lstL f xs).length := fun hb => by
    simp only [lstB, Bool.and_eq_true, decide_eq_true_eq] at hb
    unfold lstL
    rw [if_pos hb.1, List.length_append, numL_len]
    omega
  have c1 : ∀ {c : List Int}, celOk c = true → 1 ≤ (celL c).length := fun hb => by
    unfold celL
    rw [if_pos hb, List.length_append, numL_len]
    omega
  have := l1 (f := mvL) hm; have := l1 (f := lvL) hl; have := l1 (f := dtL) hd; have := l1 (f := opL) hp; have := c1 ho; have := c1 hn
  unfold entL plL
  simp only [List.length_append, numL_len]
  omega
theorem t_flat_le {α : Type} {f : α → List Int} {N : Nat} (xs : List α) (h : ∀ x ∈ xs, (f x).length ≤ N) : (xs.flatMap f).length ≤ xs.length * N := by
  induction xs with
  | nil => simp
  | cons x t ih =>
    have a := h x (List.mem_cons_self ..)
    have b := ih fun y hy => h y (List.mem_cons_of_mem _ hy)
    rw [List.flatMap_cons, List.length_append, List.length_cons, Nat.add_mul]
    omega
theorem t_lst_le {α : Type} {f : α → List Int} {B : α → Bool} {N : Nat} {xs : List α} (hb : lstB B xs = true) (h : ∀ x, B x = true → (f x).length ≤ N) : (lstL f xs).length ≤ 1 + 40 * N := by
  simp only [lstB, Bool.and_eq_true, decide_eq_true_eq, List.all_eq_true] at hb
  unfold lstL
  rw [if_pos hb.1, List.length_append, numL_len]
  have := t_flat_le xs fun x hx => h x (hb.2 x hx)
  have := Nat.mul_le_mul_right N hb.1
  omega
theorem t_entL_le {e : Ent} (h : entB e = true) : (entL e).length ≤ 10000 := by
  simp only [entB, Bool.and_eq_true] at h
  obtain ⟨⟨⟨⟨⟨⟨⟨⟨⟨⟨⟨⟨⟨⟨hk, h1⟩, h2⟩, h3⟩, h4⟩, h5⟩, h6⟩, h7⟩, h9⟩, ho⟩, hn⟩, hm⟩, hl⟩, hd⟩, hp⟩ := h
  have c1 : ∀ {c : List Int}, celOk c = true → (celL c).length ≤ 27 := fun hb => by
    unfold celL
    rw [if_pos hb, List.length_append, numL_len]
    simp only [celOk, Bool.or_eq_true, decide_eq_true_eq] at hb
    omega
  have := c1 ho
  have := c1 hn
  have := t_lst_le (f := mvL) (N := 4) hm fun x _ => by simp [mvL, plL, numL_len]
  have := t_lst_le (f := lvL) (N := 8) hl fun x _ => by simp [lvL, numL_len]
  have := t_lst_le (f := dtL) (N := 4) hd fun x _ => by simp [dtL, numL_len]
  have := t_lst_le (f := opL) (N := 164) hp fun x hx => by
    simp only [opB, Bool.and_eq_true] at hx
    have := t_lst_le (f := mvL) (N := 4) hx.2 fun x _ => by simp [mvL, plL, numL_len]
    unfold opL
    simp only [List.length_append, numL_len]
    omega
  unfold entL plL
  simp only [List.length_append, numL_len]
  omega
end Go.Proofs.Yticcadbkpolmiaa
