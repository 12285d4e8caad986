/- What is read is made of numbers; where a valid entry's encoding fits. -/
import Derived.Test.YtkfebibnpincpaaEntSm
namespace Go.Proofs.Ytkfebibnpincpaa
open Go.RowKit

theorem i64_numR {l : List Int} (h : bytesOk l) {k : Nat} (hk : k ≤ 3) : I64 (numR l k) := by
  obtain ⟨a, b⟩ := numR_bd h k
  have : (256 : Int) ^ k ≤ 16777216 := by
    obtain rfl | rfl | rfl | rfl : k = 0 ∨ k = 1 ∨ k = 2 ∨ k = 3 := by omega
    all_goals decide
  exact ⟨by omega, by omega⟩
theorem nR_all {α : Type} {f : List Int → α × List Int} {P : α → Prop} (hf : ∀ l, bytesOk l → P (f l).1 ∧ bytesOk (f l).2) {l : List Int} (h : bytesOk l) : ∀ k, (∀ x ∈ (nR f k l).1, P x) ∧ bytesOk (nR f k l).2
  | 0 => ⟨(fun x hx => by cases hx), h⟩
  | k + 1 => by
    obtain ⟨a, b⟩ := nR_all hf h k
    obtain ⟨c, d⟩ := hf _ b
    refine ⟨fun x hx => ?_, d⟩
    rcases List.mem_append.1 hx with hx | hx
    · exact a x hx
    · obtain rfl : x = _ := by simpa using hx
      exact c
theorem lstR_all {α : Type} {f : List Int → α × List Int} {P : α → Prop} (hf : ∀ l, bytesOk l → P (f l).1 ∧ bytesOk (f l).2) {l : List Int} (h : bytesOk l) : (∀ x ∈ (lstR f l).1, P x) ∧ bytesOk (lstR f l).2 := nR_all hf (ok_drop h 1) _
theorem lstR_len {α : Type} (f : List Int → α × List Int) {l : List Int} (h : bytesOk l) : (lstR f l).1.length ≤ 255 := by
  have := numR_bd h 1
  unfold lstR
  rw [nR_len]
  omega
theorem mvR_I (l : List Int) (h : bytesOk l) : mvI (mvR l).1 ∧ bytesOk (mvR l).2 := ⟨⟨i64_numR h (by omega), i64_numR (ok_drop h _) (by omega), i64_numR (ok_drop h _) (by omega), i64_numR (ok_drop h _) (by omega)⟩, ok_drop h _⟩
theorem lvR_I (l : List Int) (h : bytesOk l) : lvI (lvR l).1 ∧ bytesOk (lvR l).2 := ⟨⟨i64_numR h (by omega), i64_numR (ok_drop h _) (by omega), i64_numR (ok_drop h _) (by omega)⟩, ok_drop h _⟩
theorem dtR_I (l : List Int) (h : bytesOk l) : dtI (dtR l).1 ∧ bytesOk (dtR l).2 := ⟨⟨i64_numR h (by omega), i64_numR (ok_drop h _) (by omega)⟩, ok_drop h _⟩
theorem opR_I (l : List Int) (h : bytesOk l) : (opI1 (opR l).1 ∧ (opR l).1.2.2.length ≤ 1000000) ∧ bytesOk (opR l).2 := by
  obtain ⟨a, b⟩ := lstR_all (f := mvR) (P := mvI) mvR_I (ok_drop h 3)
  exact ⟨⟨⟨i64_numR h (by omega), i64_numR (ok_drop h _) (by omega), a⟩, Nat.le_trans (lstR_len mvR (ok_drop h 3)) (by omega)⟩, b⟩
theorem celR_ok2 {l : List Int} (h : bytesOk l) : bytesOk (celR l).2 := ok_drop (ok_drop h 1) _
theorem entR_I {l : List Int} (h : bytesOk l) : EntI (entR l) ∧ EntLen (entR l) ∧ bytesOk (entR l).old ∧ bytesOk (entR l).new := by
  have o1 : bytesOk (r1 l).1 := celR_ok (ok_drop h 15)
  have h1 : bytesOk (r1 l).2 := celR_ok2 (ok_drop h 15)
  have o2 : bytesOk (r2 l).1 := celR_ok h1
  have h2 : bytesOk (r2 l).2 := celR_ok2 h1
  obtain ⟨a3, h3⟩ := lstR_all (f := mvR) (P := mvI) mvR_I (show bytesOk (r2 l).2 from h2)
  obtain ⟨a4, h4⟩ := lstR_all (f := lvR) (P := lvI) lvR_I (show bytesOk (r3 l).2 from h3)
  obtain ⟨a5, h5⟩ := lstR_all (f := dtR) (P := dtI) dtR_I (show bytesOk (r4 l).2 from h4)
  obtain ⟨a6, h6⟩ := lstR_all (f := opR) (P := fun o => opI1 o ∧ o.2.2.length ≤ 1000000) opR_I (show bytesOk (r5 l).2 from h5)
  have q0 : I64 (numR l 1) := i64_numR h (by decide)
  have q1 : I64 (numR (l.drop 1) 1) := i64_numR (ok_drop h 1) (by decide)
  have q2 : I64 (numR (l.drop 2) 2) := i64_numR (ok_drop h 2) (by decide)
  have q3 : I64 (numR (l.drop 4) 1) := i64_numR (ok_drop h 4) (by decide)
  have q4 : I64 (numR (l.drop 5) 3) := i64_numR (ok_drop h 5) (by decide)
  have q5 : I64 (numR (l.drop 8) 3) := i64_numR (ok_drop h 8) (by decide)
  have q6 : I64 (numR (l.drop 11) 1) := i64_numR (ok_drop h 11) (by decide)
  have q7 : I64 (numR (l.drop 12) 1) := i64_numR (ok_drop h 12) (by decide)
  have q8 : I64 (numR (l.drop 13) 1) := i64_numR (ok_drop h 13) (by decide)
  have q9 : I64 (numR (l.drop 14) 1) := i64_numR (ok_drop h 14) (by decide)
  have m3 : ∀ m ∈ (r3 l).1, mvI m := a3
  have m4 : ∀ m ∈ (r4 l).1, lvI m := a4
  have m5 : ∀ m ∈ (r5 l).1, dtI m := a5
  have m6 : ∀ m ∈ (r6 l).1, opI1 m := fun o ho => (a6 o ho).1
  have n6 : ∀ o ∈ (r6 l).1, o.2.2.length ≤ 1000000 := fun o ho => (a6 o ho).2
  have z3 : (r3 l).1.length ≤ 1000000 := Nat.le_trans (lstR_len mvR h2) (by decide)
  have z4 : (r4 l).1.length ≤ 1000000 := Nat.le_trans (lstR_len lvR h3) (by decide)
  have z5 : (r5 l).1.length ≤ 1000000 := Nat.le_trans (lstR_len dtR h4) (by decide)
  have z6 : (r6 l).1.length ≤ 1000000 := Nat.le_trans (lstR_len opR h5) (by decide)
  clear a3 a4 a5 a6 h1 h2 h3 h4 h5 h6
  generalize hE : entR l = E
  unfold entR at hE
  generalize r1 l = R1 at *
  generalize r2 l = R2 at *
  generalize r3 l = R3 at *
  generalize r4 l = R4 at *
  generalize r5 l = R5 at *
  generalize r6 l = R6 at *
  subst hE
  exact ⟨⟨q0, q1, q2, q3, q4, q5, q6, q7, q8, q9, m3, m4, m5, m6⟩, ⟨z3, z4, z5, z6, n6⟩, o1, o2⟩

theorem tkB_entL {e : Ent} (h : entB e = true) : tkB (entL e) = true ∧ tkE (entL e) = e ∧ tkN (entL e) = 0 := by
  have hr := entR_entL h
  have ht : tkB (entL e) = true := by unfold tkB; rw [hr, h]; simp
  obtain ⟨a, b⟩ := tk_yes ht
  exact ⟨ht, by rw [a, hr], b⟩
/-- Take, of bytes that are bytes. -/
theorem take_ok (w : World) {sv : Value} {l : List Int} (h : SlK .u8 w sv l) : Calls Try.prog 12 #[sv] w (TkPost w l) := take_any w h (entR_I h.ok).1
theorem entL_same {e : Ent} {l : List Int} (h : entB e = true) (hl : entL e = l) : tkB l = true ∧ tkE l = e := by
  subst hl
  exact ⟨(tkB_entL h).1, (tkB_entL h).2.1⟩

end Go.Proofs.Ytkfebibnpincpaa
