/- PoolNone, a part. -/
import Derived.Test.YtljbhdldfffpfaaGreatQn24
namespace Go.Proofs.YtljbhdldfffpfaaGreat.Lf
open Go.Proofs.YtljbhdldfffpfaaGreat
open Go.RowKit

theorem zeros_rep {l : List Int} (h : zerosB l = true) : l = List.replicate l.length 0 := by
  rw [List.eq_replicate_iff]
  exact ⟨rfl, fun x hx => (zerosB_iff l).1 h x hx⟩

theorem part_of {c : Int} {t : List Int} {m : Nat} (ho : bytesOk (c :: t)) (hl : m ≤ t.length) (h : partB c t m = true) : part (partS c t) m = c :: t.take m ∧ (partS c t).size ≤ m := by
  have hc := ho c (by simp)
  obtain ⟨n, rfl⟩ := Int.eq_ofNat_of_zero_le hc.1
  simp only [partB, Bool.and_eq_true, decide_eq_true_eq] at h
  obtain ⟨h1, h2⟩ := h
  have hn : n ≤ m := by omega
  have e0 : ((n : Int)).toNat = n := rfl
  rw [e0] at h2
  have hok : bytesOk (t.take n) := ok_take (fun x hx => ho x (by simp [hx])) n
  have hs : (partS (n : Int) t).size = n := by
    unfold partS
    rw [e0, bstr_size hok, List.length_take]; omega
  refine ⟨?_, by omega⟩
  unfold part
  rw [hs]
  unfold partS
  rw [e0, bytesL_bstr hok]
  congr 1
  have h3 := zeros_rep h2
  rw [List.length_drop, List.length_take, Nat.min_eq_left hl] at h3
  rw [← h3]
  have h4 : t.take n = (t.take m).take n := by rw [List.take_take, Nat.min_eq_left hn]
  rw [h4, List.take_append_drop]

theorem of_part {c : Int} {t : List Int} {m : Nat} {s : ByteArray} (hs : s.size ≤ m) (h : c :: t.take m = part s m) : partB c t m = true ∧ partS c t = s := by
  unfold part at h
  injection h with h1 h2
  subst h1
  have e0 : ((s.size : Nat) : Int).toNat = s.size := rfl
  have hlen : (bytesL s).length = s.size := bytesL_len s
  constructor
  · unfold partB
    rw [e0, h2, List.drop_left' hlen]
    simp only [Bool.and_eq_true, decide_eq_true_eq]
    refine ⟨by omega, (zerosB_iff _).2 (fun x hx => ?_)⟩
    rw [List.mem_replicate] at hx; exact hx.2
  · unfold partS
    rw [e0]
    have h4 : t.take s.size = (t.take m).take s.size := by rw [List.take_take, Nat.min_eq_left hs]
    rw [h4, h2, List.take_left' hlen, bstr_bytesL]

section
variable {L : List Int} {c1 : Int} {t1 : List Int} {c2 : Int} {t2 : List Int} {c3 : Int} {t3 : List Int}
theorem Prt.split (P : Prt L c1 t1 c2 t2 c3 t3) : L = (c1 :: t1.take 8) ++ (c2 :: t2.take 6) ++ (c3 :: t3.take 8) := by
  have h1 : t1 = t1.take 8 ++ (c2 :: t2) := by rw [← P.e2, List.take_append_drop]
  have h2 : t2 = t2.take 6 ++ (c3 :: t3) := by rw [← P.e3, List.take_append_drop]
  have h3 : t3.take 8 = t3 := List.take_of_length_le (by rw [P.l3]; omega)
  rw [P.e1, h3]
  conv => lhs; rw [h1, h2]
  simp

theorem Prt.row (P : Prt L c1 t1 c2 t2 c3 t3) (b1 : partB c1 t1 8 = true) (b2 : partB c2 t2 6 = true) (b3 : partB c3 t3 8 = true) : 1 :: L = rowL (partS c1 t1) (partS c2 t2) (partS c3 t3) := by
  unfold rowL
  rw [(part_of P.o1 (by rw [P.l1]; omega) b1).1, (part_of P.o2 (by rw [P.l2]; omega) b2).1, (part_of P.o3 (by rw [P.l3]; omega) b3).1]
  conv => lhs; rw [P.split]
  simp

theorem Prt.of_row (P : Prt L c1 t1 c2 t2 c3 t3) {k s v : ByteArray} (hm : mayB k s v = true) (h : 1 :: L = rowL k s v) : (partB c1 t1 8 && partB c2 t2 6 && partB c3 t3 8) = true ∧ partS c1 t1 = k ∧ partS c2 t2 = s ∧ partS c3 t3 = v := by
  obtain ⟨k1, k2, s1, v1⟩ := may_sizes hm
  unfold rowL at h
  rw [P.split] at h
  have a1 : (c1 :: t1.take 8).length = (part k 8).length := by rw [part_len k2, List.length_cons, List.length_take, P.l1]; omega
  have a2 : (c2 :: t2.take 6).length = (part s 6).length := by rw [part_len s1, List.length_cons, List.length_take, P.l2]; omega
  simp only [List.append_assoc, List.cons_append, List.nil_append, List.cons.injEq, true_and] at h
  rw [show c1 :: (t1.take 8 ++ c2 :: (t2.take 6 ++ c3 :: t3.take 8)) = (c1 :: t1.take 8) ++ ((c2 :: t2.take 6) ++ (c3 :: t3.take 8)) by simp] at h
  obtain ⟨x1, h⟩ := List.append_inj h a1
  obtain ⟨x2, x3⟩ := List.append_inj h a2
  obtain ⟨y1, z1⟩ := of_part k2 x1
  obtain ⟨y2, z2⟩ := of_part s1 x2
  obtain ⟨y3, z3⟩ := of_part v1 x3
  exact ⟨by rw [y1, y2, y3]; rfl, z1, z2, z3⟩
end

theorem rowL_len {k s v : ByteArray} (h : mayB k s v = true) : (rowL k s v).length = 26 := by
  obtain ⟨k1, k2, s1, v1⟩ := may_sizes h
  unfold rowL
  simp only [List.length_append, part_len k2, part_len s1, part_len v1, List.length_cons, List.length_nil]
theorem rowL_ok {k s v : ByteArray} (h : mayB k s v = true) : bytesOk (rowL k s v) := by
  obtain ⟨k1, k2, s1, v1⟩ := may_sizes h
  intro x hx
  simp only [rowL, List.mem_append, List.mem_singleton] at hx
  rcases hx with ((rfl | hx) | hx) | hx
  · omega
  · exact part_ok k2 (by omega) x hx
  · exact part_ok s1 (by omega) x hx
  · exact part_ok v1 (by omega) x hx
theorem rowL_cons (k s v : ByteArray) : rowL k s v = 1 :: (rowL k s v).tail := rfl
theorem rowL_inj {k s v k' s' v' : ByteArray} (h : mayB k s v = true) (h' : mayB k' s' v' = true) (e : rowL k s v = rowL k' s' v') : k = k' ∧ s = s' ∧ v = v' := by
  have hl : (rowL k s v).tail.length = 25 := by have := rowL_len h; rw [rowL_cons] at this; simpa using this
  obtain ⟨c1, t1, c2, t2, c3, t3, P⟩ := prt_of hl (fun x hx => rowL_ok h x (List.mem_of_mem_tail hx))
  obtain ⟨_, rfl, rfl, rfl⟩ := P.of_row h (rowL_cons _ _ _).symm
  obtain ⟨_, rfl, rfl, rfl⟩ := P.of_row h' ((rowL_cons _ _ _).symm.trans e)
  exact ⟨rfl, rfl, rfl⟩

/-- What bytes are. -/
inductive Rd (l : List Int) : Int → ByteArray → ByteArray → ByteArray → Int → Int → Int → Prop
  | empty (h : l = [] ∨ l = z26) : Rd l 0 ⟨#[]⟩ ⟨#[]⟩ ⟨#[]⟩ 0 0 0
  | row (k s v : ByteArray) (hm : mayB k s v = true) (h : l = rowL k s v) : Rd l 1 k s v 0 0 0
  | stub (p c : Int) (hp : placeB p c = true) (h : l = stubL p c) : Rd l 2 ⟨#[]⟩ ⟨#[]⟩ ⟨#[]⟩ p c 0
  | none (h1 : l ≠ []) (h2 : l ≠ z26) (h3 : ∀ k s v, mayB k s v = true → l ≠ rowL k s v) (h4 : ∀ p c, placeB p c = true → l ≠ stubL p c) : Rd l 0 ⟨#[]⟩ ⟨#[]⟩ ⟨#[]⟩ 0 0 4

theorem rowL_ne_nil (k s v : ByteArray) : rowL k s v ≠ [] := by rw [rowL_cons]; simp
theorem rowL_ne_z (k s v : ByteArray) : rowL k s v ≠ z26 := by rw [rowL_cons]; intro h; have := congrArg (·.head?) h; simp [z26] at this
theorem rowL_ne_stub (k s v : ByteArray) (p c : Int) : rowL k s v ≠ stubL p c := by rw [rowL_cons]; intro h; have := congrArg (·.head?) h; simp [stubL] at this
theorem stubL_ne_z (p c : Int) : stubL p c ≠ z26 := by intro h; have := congrArg (·.head?) h; simp [z26, stubL] at this

theorem Rd.det {l : List Int} {a : Int} {k s v : ByteArray} {p c e : Int} {a' : Int} {k' s' v' : ByteArray} {p' c' e' : Int} (h : Rd l a k s v p c e) (h' : Rd l a' k' s' v' p' c' e') : a = a' ∧ k = k' ∧ s = s' ∧ v = v' ∧ p = p' ∧ c = c' ∧ e = e' := by
  cases h with
  | empty h => cases h' with
    | empty => exact ⟨rfl, rfl, rfl, rfl, rfl, rfl, rfl⟩
    | row k s v hm h2 => subst h2; rcases h with h | h
                         · exact absurd h (rowL_ne_nil _ _ _)
                         · exact absurd h (rowL_ne_z _ _ _)
    | stub p c hp h2 => subst h2; rcases h with h | h
                        · simp [stubL] at h
                        · exact absurd h (stubL_ne_z _ _)
    | none h1 h2 => rcases h with h | h
                    · exact absurd h h1
                    · exact absurd h h2
  | row k s v hm h => cases h' with
    | empty h2 => subst h; rcases h2 with h2 | h2
                  · exact absurd h2 (rowL_ne_nil _ _ _)
                  · exact absurd h2 (rowL_ne_z _ _ _)
    | row k s v hm2 h2 => obtain ⟨rfl, rfl, rfl⟩ := rowL_inj hm hm2 (h.symm.trans h2); exact ⟨rfl, rfl, rfl, rfl, rfl, rfl, rfl⟩
    | stub p c hp h2 => exact absurd (h.symm.trans h2) (rowL_ne_stub _ _ _ _ _)
    | none _ _ h3 _ => exact absurd h (h3 _ _ _ hm)
  | stub p c hp h => cases h' with
    | empty h2 => subst h; rcases h2 with h2 | h2
                  · simp [stubL] at h2
                  · exact absurd h2 (stubL_ne_z _ _)
    | row k s v hm2 h2 => exact absurd (h2.symm.trans h) (rowL_ne_stub _ _ _ _ _)
    | stub p' c' hp' h2 =>
      have e := h.symm.trans h2
      have e1 : p = p' ∧ c = c' := by simpa [stubL] using e
      obtain ⟨rfl, rfl⟩ := e1
      exact ⟨rfl, rfl, rfl, rfl, rfl, rfl, rfl⟩
    | none _ _ _ h4 => exact absurd h (h4 _ _ hp)
  | none h1 h2 h3 h4 => cases h' with
    | empty h => rcases h with h | h
                 · exact absurd h h1
                 · exact absurd h h2
    | row k s v hm h => exact absurd h (h3 _ _ _ hm)
    | stub p c hp h => exact absurd h (h4 _ _ hp)
    | none => exact ⟨rfl, rfl, rfl, rfl, rfl, rfl, rfl⟩
end Go.Proofs.YtljbhdldfffpfaaGreat.Lf
