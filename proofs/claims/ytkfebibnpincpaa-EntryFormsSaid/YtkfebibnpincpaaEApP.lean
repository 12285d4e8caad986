/- EntryApart, plainly: an entry of which one field has turned. -/
import Derived.Test.YtkfebibnpincpaaEntBx
namespace Go.Proofs.Ytkfebibnpincpaa

/-- The lowest bit turned. -/
def x1 (n : Int) : Int := bits BinOp.xor IntKind.i64 n 1
theorem x1_fit {n : Int} {k : Nat} (h : fitB n k = true) (hk : k = 1 ∨ k = 2 ∨ k = 3) : fitB (x1 n) k = true ∧ x1 n ≠ n := by
  obtain ⟨h0, h1⟩ := fit_iff.1 h
  have hb : (256 : Int) ^ k = ((2 ^ (8 * k) : Nat) : Int) ∧ 2 ^ (8 * k) ≤ 16777216 ∧ 1 < 2 ^ (8 * k) := by
    rcases hk with rfl | rfl | rfl <;> decide
  obtain ⟨m, rfl⟩ := Int.eq_ofNat_of_zero_le h0
  have hm : m < 2 ^ (8 * k) := by omega
  have hx : m ^^^ 1 < 2 ^ (8 * k) := Nat.xor_lt_two_pow hm hb.2.2
  have e : x1 (m : Int) = ((m ^^^ 1 : Nat) : Int) := by
    unfold x1 bits
    show IntKind.i64.wrap ((BitVec.ofInt 64 (m : Int) ^^^ BitVec.ofInt 64 (1 : Int)).toNat : Int) = _
    rw [BitVec.toNat_xor, BitVec.ofInt_natCast, show (1 : Int) = ((1 : Nat) : Int) from rfl, BitVec.ofInt_natCast, BitVec.toNat_ofNat, BitVec.toNat_ofNat, Nat.mod_eq_of_lt (by omega), Nat.mod_eq_of_lt (by omega)]
    rw [IntWalk.i64_in _ (by omega)]
  rw [e]
  refine ⟨fit_iff.2 ⟨by omega, by omega⟩, fun hne => ?_⟩
  have h2 : m ^^^ 1 = m := by omega
  have h3 : m ^^^ (m ^^^ 1) = m ^^^ m := by rw [h2]
  rw [← Nat.xor_assoc, Nat.xor_self, Nat.zero_xor] at h3
  omega
theorem x1_I {n : Int} {k : Nat} (h : fitB n k = true) (hk : k = 1 ∨ k = 2 ∨ k = 3) : I64 (x1 n) := by
  obtain ⟨h0, h1⟩ := fit_iff.1 (x1_fit h hk).1
  have hb : (256 : Int) ^ k ≤ 16777216 := by rcases hk with rfl | rfl | rfl <;> decide
  exact ⟨by omega, by omega⟩

def mv0 : Mv := (0, 0, 0, 0)
/-- How f stands to e. -/
def ApR (h : Int) (e f : Ent) : Prop := (h = 9 ∧ f = e) ∨ (h = 8 ∧ f = { e with old := e.new, new := e.old }) ∨ (h = 7 ∧ f = { e with moves := e.moves ++ [mv0] }) ∨ (h < 7 ∧ entB f = true ∧ f ≠ e)

theorem apR_may {h : Int} {e f : Ent} (he : entB e = true) (hr : ApR h e f) : entB f = true ∨ (entB f = false ∧ h = 7 ∧ e.moves.length = 40) := by
  have he' := he
  simp only [entB, Bool.and_eq_true] at he
  obtain ⟨⟨⟨⟨⟨⟨⟨⟨⟨⟨⟨⟨⟨⟨hk, h1⟩, h2⟩, h3⟩, h4⟩, h5⟩, h6⟩, h7⟩, h9⟩, ho⟩, hn⟩, hm⟩, hl⟩, hd⟩, hp⟩ := he
  rcases hr with ⟨_, rfl⟩ | ⟨_, rfl⟩ | ⟨h7', rfl⟩ | ⟨_, hf, _⟩
  · exact .inl he'
  · left
    simp only [entB, Bool.and_eq_true]
    exact ⟨⟨⟨⟨⟨⟨⟨⟨⟨⟨⟨⟨⟨⟨hk, h1⟩, h2⟩, h3⟩, h4⟩, h5⟩, h6⟩, h7⟩, h9⟩, hn⟩, ho⟩, hm⟩, hl⟩, hd⟩, hp⟩
  · simp only [lstB, Bool.and_eq_true, decide_eq_true_eq, List.all_eq_true] at hm
    by_cases hq : e.moves.length = 40
    · right
      refine ⟨?_, h7', hq⟩
      have : lstB mvB (e.moves ++ [mv0]) = false := by
        unfold lstB
        rw [Bool.and_eq_false_iff]
        left
        rw [decide_eq_false_iff_not, List.length_append]
        simp; omega
      unfold entB
      simp only [this, Bool.and_false, Bool.false_and]
    · left
      have : lstB mvB (e.moves ++ [mv0]) = true := by
        simp only [lstB, Bool.and_eq_true, decide_eq_true_eq, List.all_eq_true, List.length_append]
        refine ⟨by simp; omega, fun x hx => ?_⟩
        rcases List.mem_append.1 hx with hx | hx
        · exact hm.2 x hx
        · obtain rfl : x = mv0 := by simpa using hx
          rfl
      simp only [entB, Bool.and_eq_true]
      exact ⟨⟨⟨⟨⟨⟨⟨⟨⟨⟨⟨⟨⟨⟨hk, h1⟩, h2⟩, h3⟩, h4⟩, h5⟩, h6⟩, h7⟩, h9⟩, ho⟩, hn⟩, this⟩, hl⟩, hd⟩, hp⟩
  · exact .inl hf
/-- Whether it is the same. -/
theorem apR_same {h : Int} {e f : Ent} (hr : ApR h e f) : (f = e) ↔ (h = 9 ∨ (h = 8 ∧ e.old = e.new)) := by
  rcases hr with ⟨h9, rfl⟩ | ⟨h8, rfl⟩ | ⟨h7', rfl⟩ | ⟨h7, hf, hne⟩
  · exact ⟨fun _ => .inl h9, fun _ => rfl⟩
  · constructor
    · intro k
      have := congrArg Ent.old k
      exact .inr ⟨h8, this.symm⟩
    · rintro (k | ⟨_, k⟩)
      · omega
      · obtain ⟨a1, a2, a3, a4, a5, a6, a7, a8, a9, a10, o, n, mo, li, di, op⟩ := e
        simp only at k
        subst k
        rfl
  · constructor
    · intro k
      have := congrArg (fun x : Ent => x.moves.length) k
      simp at this
    · rintro (k | ⟨k, _⟩) <;> omega
  · constructor
    · intro k; exact absurd k hne
    · rintro (k | ⟨k, _⟩) <;> omega
theorem putL_same {e f : Ent} (he : entB e = true) (hf : entB f = true) : (putL e = putL f) ↔ f = e := by
  rw [putL_yes he, putL_yes hf]
  constructor
  · intro h
    have h1 := entR_entL he
    rw [h, entR_entL hf] at h1
    exact h1
  · rintro rfl; rfl
end Go.Proofs.Ytkfebibnpincpaa
