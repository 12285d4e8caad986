/- The reader: next, number. -/
import Derived.Test.YthcndifbegmbkaaEntP
namespace Go.Proofs.Ythcndifbegmbkaa
open Go.RowKit


/-- Only the reader has turned. -/
structure Rd (p : Nat) (w w' : World) : Prop where
  os : w'.os = w.os
  tape : w'.tape = w.tape
  output : w'.output = w.output
  size : w.heap.size ≤ w'.heap.size
  block : ∀ k, k < w.heap.size → k ≠ p → w'.heap[k]? = w.heap[k]?

theorem Rd.refl (p : Nat) (w : World) : Rd p w w := ⟨rfl, rfl, rfl, Nat.le_refl _, fun _ _ _ => rfl⟩
theorem Rd.trans {p : Nat} {a b c : World} (h : Rd p a b) (k : Rd p b c) : Rd p a c :=
  ⟨k.os.trans h.os, k.tape.trans h.tape, k.output.trans h.output, Nat.le_trans h.size k.size, fun i hi h1 => (k.block i (Nat.lt_of_lt_of_le hi h.size) h1).trans (h.block i hi h1)⟩
theorem Rd.of_below {p : Nat} {w w' : World} (h : Below w.heap.size w w') : Rd p w w' := ⟨h.os, h.tape, h.output, h.size, fun k hk _ => h.block k hk⟩
theorem Rd.below {p B : Nat} {w w' : World} (h : Rd p w w') (hB : B ≤ p) (hp : p < w.heap.size) : Below B w w' := ⟨h.os, h.tape, h.output, h.size, fun k hk => h.block k (by omega) (by omega)⟩

/-- The rest of a slice. -/
theorem SlK.rest {w : World} {b off n cap : Nat} {l : List Int} (h : SlK .u8 w (.slice (some ⟨b, off, none⟩) n cap) l) {k : Nat} (hk : k ≤ n) : n = l.length ∧ SlK .u8 w (.slice (some ⟨b, off + k, none⟩) (n - k) (cap - k)) (l.drop k) ∧ (n = k → SlK .u8 w (.slice (some ⟨b, off, none⟩) 0 0) (l.drop k)) := by
  obtain ⟨p, c, e, h1, h2, h3, h4⟩ := h
  cases e
  obtain ⟨h5, h6, h7⟩ := h4 _ rfl
  refine ⟨rfl, ⟨_, cap - k, by rw [List.length_drop], by rw [List.length_drop]; omega, fun x hx => h2 x (List.mem_of_mem_drop hx), (fun e => by cases e), fun a e => ?_⟩, fun e => ?_⟩
  · cases e
    refine ⟨rfl, h6, fun j hj => ?_⟩
    rw [List.length_drop] at hj
    rw [List.getElem_drop, ← h7 (k + j) (by omega)]
    show w.cell? ⟨b, off + k + j, none⟩ = w.cell? ⟨b, off + (k + j), none⟩
    rw [Nat.add_assoc]
  · rw [List.drop_eq_nil_of_le (by omega)]
    exact ⟨_, 0, rfl, Nat.le_refl _, (fun x hx => by cases hx), (fun e => by cases e), fun a e => by cases e; exact ⟨rfl, h6, fun j hj => by cases hj⟩⟩

/-- A list without its first elements; a word that no rule takes apart. -/
def dr (l : List Int) (k : Nat) : List Int := l.drop k
theorem dr_dr (l : List Int) (j k : Nat) : dr (dr l j) k = dr l (j + k) := List.drop_drop


theorem SlK.pre {w : World} {A : Option Addr} {n cap : Nat} {l : List Int} (h : SlK .u8 w (.slice A n cap) l) {k : Nat} (hk : k ≤ n) : SlK .u8 w (.slice A k cap) (l.take k) := by
  obtain ⟨p, c, e, h1, h2, h3, h4⟩ := h
  cases e
  have hl : (l.take k).length = k := by rw [List.length_take]; omega
  refine ⟨A, cap, by rw [hl], by omega, fun x hx => h2 x (List.mem_of_mem_take hx), fun e => ⟨by rw [(h3 e).1]; simp, (h3 e).2⟩, fun a ha => ?_⟩
  obtain ⟨h5, h6, h7⟩ := h4 a ha
  refine ⟨h5, h6, fun j hj => ?_⟩
  rw [hl] at hj
  rw [List.getElem_take, h7 j (by omega)]

theorem SlK.suf {w : World} {A : Option Addr} {n cap : Nat} {l : List Int} (h : SlK .u8 w (.slice A n cap) l) {k : Nat} (hk : k ≤ n) : SlK .u8 w (.slice (A.map fun x => x.add k) (n - k) (cap - k)) (l.drop k) ∧ (n = k → SlK .u8 w (.slice A 0 0) (l.drop k)) := by
  cases A with
  | none =>
    obtain ⟨p, c, e, h1, h2, h3, h4⟩ := h
    cases e
    obtain ⟨h5, h6⟩ := h3 rfl
    subst h5 h6
    obtain rfl : k = 0 := Nat.le_zero.1 hk
    exact ⟨slK_nil w, fun _ => slK_nil w⟩
  | some a =>
    obtain ⟨b, off, sp⟩ := a
    obtain rfl : sp = none := by
      obtain ⟨_, _, e, _, _, _, h4⟩ := h
      cases e
      exact (h4 _ rfl).1
    have e : (⟨b, off, none⟩ : Addr).add k = ⟨b, off + k, none⟩ := by
      unfold Addr.add
      split
      · rename_i e; rw [e]; rfl
      · rfl
    rw [Option.map_some, e]
    exact (h.rest hk).2



theorem getD_ok {l : List Int} (h : bytesOk l) (k : Nat) : 0 ≤ l.getD k 0 ∧ l.getD k 0 < 256 := by
  rw [List.getD_eq_getElem?_getD]
  cases e : l[k]? with
  | none => simp
  | some x => simpa using h x (List.mem_of_getElem? e)
theorem numR_bd {l : List Int} (h : bytesOk l) : ∀ k, 0 ≤ numR l k ∧ numR l k < 256 ^ k
  | 0 => by simp [numR]
  | k + 1 => by
    have := numR_bd h k
    have := getD_ok h k
    rw [numR_s, Int.pow_succ]
    split <;> omega
theorem drop_getD (l : List Int) (k : Nat) : (l.drop k).getD 0 0 = l.getD k 0 := by simp [List.getD_eq_getElem?_getD]

theorem or_add (N x : Int) (h0 : 0 ≤ N) (h1 : N < 65536) (x0 : 0 ≤ x) (x1 : x < 256) : bits BinOp.or IntKind.i64 (N * 256) x = N * 256 + x := by
  obtain ⟨n, rfl⟩ := Int.eq_ofNat_of_zero_le h0
  obtain ⟨m, rfl⟩ := Int.eq_ofNat_of_zero_le x0
  unfold bits
  show IntKind.i64.wrap ((BitVec.ofInt 64 ((n : Int) * 256) ||| BitVec.ofInt 64 (m : Int)).toNat : Int) = _
  rw [BitVec.toNat_or, show ((n : Int) * 256) = ((2 ^ 8 * n : Nat) : Int) by omega, BitVec.ofInt_natCast, BitVec.ofInt_natCast, BitVec.toNat_ofNat, BitVec.toNat_ofNat, Nat.mod_eq_of_lt (by omega), Nat.mod_eq_of_lt (by omega), ← Nat.two_pow_add_eq_or_of_lt (by omega)]
  rw [IntWalk.i64_in _ (by omega)]
  omega

theorem numR_S {l : List Int} {k : Nat} (h : k < l.length) : numR l (k + 1) = numR l k * 256 + l.getD k 0 := (numR_s l k).trans (if_pos h)
theorem numR_ge {l : List Int} : ∀ {k : Nat}, l.length ≤ k → numR l k = numR l l.length
  | 0, h => by rw [Nat.le_zero.1 h]
  | k + 1, h => by
    rcases Nat.lt_or_ge k l.length with hk | hk
    · rw [show l.length = k + 1 by omega]
    · rw [show numR l (k + 1) = numR l k from (numR_s l k).trans (if_neg (by omega)), numR_ge hk]
theorem numR_take (l : List Int) (n : Nat) : ∀ k, k ≤ n → numR (l.take n) k = numR l k
  | 0, _ => by rw [numR_0, numR_0]
  | k + 1, h => by
    rw [numR_s, numR_s, numR_take l n k (by omega)]
    simp only [List.getD_eq_getElem?_getD, List.getElem?_take, if_pos (show k < n by omega), List.length_take]
    by_cases hl : k < l.length
    · rw [if_pos (by omega), if_pos hl]
    · rw [if_neg (by omega), if_neg hl]
theorem numR_cut (l : List Int) (k : Nat) : numR (l.take k) (l.take k).length = numR l k := by
  rw [← numR_ge (List.length_take_le _ _), numR_take l k k (Nat.le_refl _)]

def NRel (w : World) (m : List Int) (n i : Value) (wr : World) : Prop := ∃ j : Nat, j ≤ m.length ∧ i = .int .i64 j ∧ n = .int .i64 (numR m j) ∧ w = wr

end Go.Proofs.Ythcndifbegmbkaa
