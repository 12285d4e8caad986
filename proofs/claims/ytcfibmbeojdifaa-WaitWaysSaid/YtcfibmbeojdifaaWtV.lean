/- By all ways of all lengths (Warshall), plainly; no program in it. -/
import Derived.Test.YtcfibmbeojdifaaWtP
namespace Go.Proofs.Ytcfibmbeojdifaa

/-- A way over those below k alone. -/
inductive WayB (es : List (Int × Int)) (k : Nat) : Nat → Nat → Prop
  | one {x y : Nat} : ((x : Int), (y : Int)) ∈ es → WayB es k x y
  | via {x z y : Nat} : z < k → WayB es k x z → WayB es k z y → WayB es k x y
theorem WayB.up {es : List (Int × Int)} {k x y : Nat} (h : WayB es k x y) : WayB es (k + 1) x y := by
  induction h with
  | one e => exact .one e
  | via hz _ _ h1 h2 => exact .via (by omega) h1 h2
theorem WayB.way {es : List (Int × Int)} {k x y : Nat} (h : WayB es k x y) : Way es (x : Int) (y : Int) := by
  induction h with
  | one e => exact .one e
  | via _ _ _ h1 h2 => exact h1.trans h2
theorem WayB.split {es : List (Int × Int)} {k x y : Nat} (h : WayB es (k + 1) x y) : WayB es k x y ∨ (WayB es k x k ∧ WayB es k k y) := by
  induction h with
  | one e => exact Or.inl (.one e)
  | @via x z y hz _ _ h1 h2 =>
    by_cases e : z = k
    · subst e
      refine Or.inr ⟨?_, ?_⟩
      · rcases h1 with h | h
        · exact h
        · exact h.1
      · rcases h2 with h | h
        · exact h
        · exact h.2
    · have hz' : z < k := by omega
      rcases h1 with h1 | h1
      · rcases h2 with h2 | h2
        · exact Or.inl (.via hz' h1 h2)
        · exact Or.inr ⟨.via hz' h1 h2.1, h2.2⟩
      · rcases h2 with h2 | h2
        · exact Or.inr ⟨h1.1, .via hz' h1.2 h2⟩
        · exact Or.inr ⟨h1.1, h2.2⟩
theorem WayB.zero {es : List (Int × Int)} {x y : Nat} (h : WayB es 0 x y) : ((x : Int), (y : Int)) ∈ es := by
  cases h with
  | one e => exact e
  | via hz _ _ => omega
theorem wayB_of {es : List (Int × Int)} {m : Nat} (hes : ∀ x y, (x, y) ∈ es → ∃ b : Nat, y = (b : Int) ∧ b < m) {x : Nat} {y : Int} (h : Way es (x : Int) y) : ∃ b : Nat, y = (b : Int) ∧ WayB es m x b := by
  induction h with
  | @one y e =>
    obtain ⟨b, rfl, hb⟩ := hes _ _ e
    exact ⟨b, rfl, .one e⟩
  | @more y z hw e ih =>
    obtain ⟨c, rfl, hc⟩ := ih
    obtain ⟨b, rfl, hb⟩ := hes _ _ e
    have hcm : c < m := by
      cases hw with
      | one e' => obtain ⟨c', h1, h2⟩ := hes _ _ e'; omega
      | more _ e' => obtain ⟨c', h1, h2⟩ := hes _ _ e'; omega
    exact ⟨b, rfl, .via hcm hc (.one e)⟩

/-- The table says nothing wrong, and all that goes over those below k. -/
structure Wsh (es : List (Int × Int)) (k : Nat) (C : Nat → Nat → Bool) : Prop where
  sound : ∀ i j, i < 8 → j < 8 → C i j = true → Way es (i : Int) (j : Int)
  full : ∀ i j, i < 8 → j < 8 → WayB es k i j → C i j = true
/-- Within round k: those ahead of (i, j) go over k, too. -/
structure WshM (es : List (Int × Int)) (k n : Nat) (C : Nat → Nat → Bool) : Prop where
  w : Wsh es k C
  more : ∀ i j, i < 8 → j < 8 → 8 * i + j < n → WayB es (k + 1) i j → C i j = true
def setC (C : Nat → Nat → Bool) (i j : Nat) (v : Bool) : Nat → Nat → Bool := fun x y => if x = i ∧ y = j then v else C x y
theorem WshM.start {es : List (Int × Int)} {k : Nat} {C : Nat → Nat → Bool} (h : Wsh es k C) : WshM es k 0 C := ⟨h, fun i j _ _ h _ => by omega⟩
theorem WshM.step {es : List (Int × Int)} {k i j : Nat} {C : Nat → Nat → Bool} (h : WshM es k (8 * i + j) C) (hk : k < 8) (hi : i < 8) (hj : j < 8) : WshM es k (8 * i + j + 1) (setC C i j (C i j || C i k && C k j)) := by
  have hs : ∀ x y, C x y = true → setC C i j (C i j || C i k && C k j) x y = true := fun x y hc => by
    unfold setC
    by_cases e : x = i ∧ y = j
    · obtain ⟨rfl, rfl⟩ := e; simp [hc]
    · rw [if_neg e]; exact hc
  refine ⟨⟨fun x y hx hy hc => ?_, fun x y hx hy hw => hs x y (h.w.full x y hx hy hw)⟩, fun x y hx hy hn hw => ?_⟩
  · unfold setC at hc
    by_cases e : x = i ∧ y = j
    · obtain ⟨rfl, rfl⟩ := e
      simp only [and_self, if_true, Bool.or_eq_true, Bool.and_eq_true] at hc
      rcases hc with hc | ⟨h1, h2⟩
      · exact h.w.sound _ _ hx hy hc
      · exact (h.w.sound _ _ hx hk h1).trans (h.w.sound _ _ hk hy h2)
    · rw [if_neg e] at hc
      exact h.w.sound _ _ hx hy hc
  · by_cases e : x = i ∧ y = j
    · obtain ⟨rfl, rfl⟩ := e
      unfold setC
      simp only [and_self, if_true, Bool.or_eq_true, Bool.and_eq_true]
      rcases hw.split with h1 | ⟨h1, h2⟩
      · exact Or.inl (h.w.full _ _ hx hy h1)
      · exact Or.inr ⟨h.w.full _ _ hx hk h1, h.w.full _ _ hk hy h2⟩
    · exact hs x y (h.more x y hx hy (by omega) hw)
theorem WshM.done {es : List (Int × Int)} {k : Nat} {C : Nat → Nat → Bool} (h : WshM es k 64 C) : Wsh es (k + 1) C := ⟨h.w.sound, fun i j hi hj hw => h.more i j hi hj (by omega) hw⟩
end Go.Proofs.Ytcfibmbeojdifaa
