/- A tree and the reference's tree side by side, and what is kept beside them. -/
import Derived.Test.YtejbbojephiifaaTfD
namespace Go.Proofs.Ytejbbojephiifaa
open Go.RowKit

/-- Both trees, each apart from the other, and from the blocks of X. -/
def BoX (X : Nat → Prop) (M : Nat) (w : World) (p : Nat) (xs : List KV) (r : Nat) (ys : List KV) : Prop :=
  M ≤ w.heap.size ∧ (∀ b, X b → b < w.heap.size) ∧ ∃ L, TA w p xs L ∧ (∀ a ∈ L, M ≤ a ∧ ¬ X a) ∧ RTA (fun a => a ∈ L ∨ X a) w M r ys
theorem RTA.weak {A A' : Nat → Prop} {w : World} {B r : Nat} {xs : List KV} (h : RTA A w B r xs) (hA : ∀ a, a < w.heap.size → A' a → A a) : RTA A' w B r xs := by
  obtain ⟨sk, sv, h1, h2, h3, h4, h5⟩ := h.ex
  exact ⟨h.hB, fun e => h.hA (hA r h.lt e), sk, sv, h1, h2, h3, fun g hg e => h4 g hg (hA g (own_lt h2 hg) e), fun g hg e => h5 g hg (hA g (own_lt h3 hg) e)⟩
theorem BoX.bo {X : Nat → Prop} {M p r : Nat} {w : World} {xs ys : List KV} (h : BoX X M w p xs r ys) : Bo M w p xs r ys := by
  obtain ⟨h0, _, L, h1, h2, h3⟩ := h
  exact ⟨h0, L, h1, fun a ha => (h2 a ha).1, h3.weak (fun a _ ha => .inl ha)⟩
theorem BoX.drew {X : Nat → Prop} {M p r : Nat} {w : World} {xs ys : List KV} (h : BoX X M w p xs r ys) : BoX X M w.drew p xs r ys := by
  obtain ⟨h0, h1, L, h2, h3, h4⟩ := h
  exact ⟨h0, h1, L, h2.below (Below.refl _ _).drew, h3, h4.below (Below.refl _ _).drew⟩
/-- What is made behind both trees is kept. -/
theorem Bo.aside {M p r N : Nat} {w w' : World} {xs ys : List KV} (h : Bo M w p xs r ys) (hb : Below w.heap.size w w') (hN : w.heap.size ≤ N) (hN' : N < w'.heap.size) : BoX (· = N) M w' p xs r ys := by
  obtain ⟨h0, L, h1, h2, h3⟩ := h
  have h4 := h3.below hb
  refine ⟨Nat.le_trans h0 hb.size, fun b e => by subst e; exact hN', L, h1.below hb, fun a ha => ⟨h2 a ha, fun e => by have := h1.lt a ha; omega⟩, ?_⟩
  have hr := h3.lt
  obtain ⟨sk, sv, k1, k2, k3, k4, k5⟩ := h3.ex
  refine ⟨h4.hB, fun e => ?_, sk, sv, (hb.block r hr).trans k1, own_up k2 hb, own_up k3 hb, fun g hg e => ?_, fun g hg e => ?_⟩
  · rcases e with e | e
    · exact h3.hA e
    · omega
  · rcases e with e | e
    · exact k4 g hg e
    · have := own_lt k2 hg; omega
  · rcases e with e | e
    · exact k5 g hg e
    · have := own_lt k3 hg; omega
theorem box_put {X : Nat → Prop} {M p r : Nat} {w : World} {xs ys : List KV} (h : BoX X M w p xs r ys) (hsm : xs.length ≤ 100000) (x : KV) :
    Calls Try.prog 14 #[.pointer (some ⟨p, 0, none⟩), .string x.k, .agg #[.int .i64 x.p, .int .i64 x.c]] w fun e w' => e = .returned (.bool (!has x.k xs)) ∧ BoX X M w' p (ins x xs) r ys ∧ Below M w w' ∧ ∀ b, X b → w'.heap[b]? = w.heap[b]? := by
  obtain ⟨h0, hX, L, h1, h2, h3⟩ := h
  refine (tput_any w h1 hsm x).mono ?_
  rintro e w' ⟨rfl, L', h4, h5, h6⟩
  have hb := fr_ge h6 (fun a ha => (h2 a ha).1) h0
  have hr := h3.lt
  obtain ⟨sk, sv, k1, k2, k3, k4, k5⟩ := h3.ex
  have no : ∀ g, g < w.heap.size → ¬ (g ∈ L ∨ X g) → ¬ (g ∈ L' ∨ X g) := fun g hg hn hm => by
    rcases hm with hm | hm
    · rcases h5.mem hm with h7 | h7
      · exact hn (.inl h7)
      · omega
    · exact hn (.inr hm)
  have sm : ∀ g, g < w.heap.size → ¬ (g ∈ L ∨ X g) → w'.heap[g]? = w.heap[g]? := fun g hg hn => h6.block g hg (fun e => hn (.inl e))
  refine ⟨rfl, ⟨Nat.le_trans h0 hb.size, fun b hx => Nat.lt_of_lt_of_le (hX b hx) hb.size, L', h4, fun a ha => ?_, ⟨h3.hB, no r hr h3.hA, sk, sv, (sm r hr h3.hA).trans k1, own_same k2 (fun b hb => sm b (own_lt k2 hb) (k4 b hb)), own_same k3 (fun b hb => sm b (own_lt k3 hb) (k5 b hb)),
    fun g hg => no g (own_lt k2 hg) (k4 g hg), fun g hg => no g (own_lt k3 hg) (k5 g hg)⟩⟩, hb, fun b hx => h6.block b (hX b hx) (fun e => (h2 b e).2 hx)⟩
  rcases h5.mem ha with h7 | h7
  · exact h2 a h7
  · exact ⟨by omega, fun e => by have := hX a e; omega⟩
theorem box_rput {X : Nat → Prop} {M p r : Nat} {w : World} {xs ys : List KV} (h : BoX X M w p xs r ys) (hsm : ys.length ≤ 100000) (x : KV) :
    Calls Try.prog 15 #[.pointer (some ⟨r, 0, none⟩), .string x.k, .agg #[.int .i64 x.p, .int .i64 x.c]] w fun e w' => e = .returned (.bool (!has x.k ys)) ∧ BoX X M w' p xs r (ins x ys) ∧ Below M w w' ∧ ∀ b, X b → w'.heap[b]? = w.heap[b]? := by
  obtain ⟨h0, hX, L, h1, h2, h3⟩ := h
  have hA : ∀ a, (a ∈ L ∨ X a) → a < w.heap.size := fun a ha => ha.elim (h1.lt a) (hX a)
  have fin : ∀ w', RTA (fun a => a ∈ L ∨ X a) w' M r (ins x ys) → Fr w.heap.size (· = r) w w' → BoX X M w' p xs r (ins x ys) ∧ Below M w w' ∧ ∀ b, X b → w'.heap[b]? = w.heap[b]? := fun w' h4 h5 => by
    have hb := h5.toBelow h0 (fun k e => e ▸ h3.hB)
    exact ⟨⟨Nat.le_trans h0 hb.size, fun b hx => Nat.lt_of_lt_of_le (hX b hx) hb.size, L, h1.fr h5 (fun a ha e => h3.hA (.inl (e ▸ ha))), h2, h4⟩, hb, fun b hx => h5.block b (hX b hx) (fun e => h3.hA (.inr (e ▸ hx)))⟩
  cases hz : has x.k ys with
  | false =>
    refine (rput_new w h3 hA h0 hsm x hz).mono ?_
    rintro e w' ⟨rfl, h4, h5⟩
    exact ⟨rfl, fin w' h4 h5⟩
  | true =>
    refine (rput_old w h3 hA h0 hsm x hz).mono ?_
    rintro e w' ⟨rfl, h4, h5⟩
    exact ⟨rfl, fin w' h4 h5⟩
end Go.Proofs.Ytejbbojephiifaa
