/- A tree and the reference's tree side by side. -/
import Derived.Test.YtejbbojephiifaaTfP
import Derived.Test.YtejbbojephiifaaTfQ
import Derived.Test.YtejbbojephiifaaTfA
namespace Go.Proofs.Ytejbbojephiifaa
open Go.RowKit

/-- Both trees, each apart from the other. -/
def Bo (M : Nat) (w : World) (p : Nat) (xs : List KV) (r : Nat) (ys : List KV) : Prop := M ≤ w.heap.size ∧ ∃ L, TA w p xs L ∧ (∀ a ∈ L, M ≤ a) ∧ RTA (· ∈ L) w M r ys
theorem Bo.below {M p r : Nat} {w w' : World} {xs ys : List KV} (h : Bo M w p xs r ys) (hb : Below w.heap.size w w') : Bo M w' p xs r ys := by
  obtain ⟨h0, L, h1, h2, h3⟩ := h
  exact ⟨Nat.le_trans h0 hb.size, L, h1.below hb, h2, h3.below hb⟩
theorem Bo.tt {M p r : Nat} {w : World} {xs ys : List KV} (h : Bo M w p xs r ys) : TT M w p xs := by
  obtain ⟨h0, L, h1, h2, _⟩ := h
  exact ⟨h0, L, h1, h2⟩
theorem Bo.rtr {M p r : Nat} {w : World} {xs ys : List KV} (h : Bo M w p xs r ys) : RTr w M r ys := by
  obtain ⟨_, L, _, _, h3⟩ := h
  exact h3.rtr
theorem RTA.move {L L' : List Nat} {w w' : World} {B r : Nat} {xs : List KV} (h : RTA (· ∈ L) w B r xs) (hf : Foot w.heap.size L L') (fr : Fr w.heap.size (· ∈ L) w w') : RTA (· ∈ L') w' B r xs := by
  have hr := h.lt
  obtain ⟨sk, sv, h1, h2, h3, h4, h5⟩ := h.ex
  have no : ∀ g, g < w.heap.size → ¬ g ∈ L → ¬ g ∈ L' := fun g hg hn hm => by
    rcases hf.mem hm with h6 | h6
    · exact hn h6
    · omega
  exact ⟨h.hB, no r hr h.hA, sk, sv, (fr.block r hr h.hA).trans h1, own_same h2 (fun b hb => fr.block b (own_lt h2 hb) (h4 b hb)), own_same h3 (fun b hb => fr.block b (own_lt h3 hb) (h5 b hb)),
    fun g hg => no g (own_lt h2 hg) (h4 g hg), fun g hg => no g (own_lt h3 hg) (h5 g hg)⟩
theorem both_put {M p r : Nat} {w : World} {xs ys : List KV} (h : Bo M w p xs r ys) (hsm : xs.length ≤ 100000) (x : KV) :
    Calls Try.prog 14 #[.pointer (some ⟨p, 0, none⟩), .string x.k, .agg #[.int .i64 x.p, .int .i64 x.c]] w fun e w' => e = .returned (.bool (!has x.k xs)) ∧ Bo M w' p (ins x xs) r ys ∧ Below M w w' := by
  obtain ⟨h0, L, h1, h2, h3⟩ := h
  refine (tput_any w h1 hsm x).mono ?_
  rintro e w' ⟨rfl, L', h4, h5, h6⟩
  have hb := fr_ge h6 h2 h0
  exact ⟨rfl, ⟨Nat.le_trans h0 hb.size, L', h4, foot_ge h5 h2 h0, h3.move h5 h6⟩, hb⟩
theorem both_rput {M p r : Nat} {w : World} {xs ys : List KV} (h : Bo M w p xs r ys) (hsm : ys.length ≤ 100000) (x : KV) :
    Calls Try.prog 15 #[.pointer (some ⟨r, 0, none⟩), .string x.k, .agg #[.int .i64 x.p, .int .i64 x.c]] w fun e w' => e = .returned (.bool (!has x.k ys)) ∧ Bo M w' p xs r (ins x ys) ∧ Below M w w' := by
  obtain ⟨h0, L, h1, h2, h3⟩ := h
  have fin : ∀ w', RTA (· ∈ L) w' M r (ins x ys) → Fr w.heap.size (· = r) w w' → Bo M w' p xs r (ins x ys) ∧ Below M w w' := fun w' h4 h5 => by
    have hb := h5.toBelow h0 (fun k e => e ▸ h3.hB)
    exact ⟨⟨Nat.le_trans h0 hb.size, L, h1.fr h5 (fun a ha e => h3.hA (e ▸ ha)), h2, h4⟩, hb⟩
  cases hz : has x.k ys with
  | false =>
    refine (rput_new w h3 h1.lt h0 hsm x hz).mono ?_
    rintro e w' ⟨rfl, h4, h5⟩
    exact ⟨rfl, fin w' h4 h5⟩
  | true =>
    refine (rput_old w h3 h1.lt h0 hsm x hz).mono ?_
    rintro e w' ⟨rfl, h4, h5⟩
    exact ⟨rfl, fin w' h4 h5⟩
theorem both_cut {M p r : Nat} {w : World} {xs ys : List KV} (h : Bo M w p xs r ys) (hsm : xs.length ≤ 100000) (k : ByteArray) :
    Calls Try.prog 12 #[.pointer (some ⟨p, 0, none⟩), .string k] w fun e w' => e = .returned (.bool (has k xs)) ∧ Bo M w' p (del k xs) r ys ∧ Below M w w' := by
  obtain ⟨h0, L, h1, h2, h3⟩ := h
  refine (tcut_any w h1 hsm k).mono ?_
  rintro e w' ⟨rfl, L', h4, h5, h6⟩
  have hb := fr_ge h6 h2 h0
  exact ⟨rfl, ⟨Nat.le_trans h0 hb.size, L', h4, foot_ge h5 h2 h0, h3.move h5 h6⟩, hb⟩
theorem both_rcut {M p r : Nat} {w : World} {xs ys : List KV} (h : Bo M w p xs r ys) (hsm : ys.length ≤ 100000) (k : ByteArray) :
    Calls Try.prog 13 #[.pointer (some ⟨r, 0, none⟩), .string k] w fun e w' => e = .returned (.bool (has k ys)) ∧ Bo M w' p xs r (del k ys) ∧ Below M w w' := by
  obtain ⟨h0, L, h1, h2, h3⟩ := h
  refine (rcut_any w h3 h1.lt h0 hsm k).mono ?_
  rintro e w' ⟨rfl, h4, h5⟩
  have hb := h5.toBelow h0 (fun k e => e ▸ h3.hB)
  exact ⟨rfl, ⟨Nat.le_trans h0 hb.size, L, h1.fr h5 (fun a ha e => h3.hA (e ▸ ha)), h2, h4⟩, hb⟩
/-- A reference's tree that is made anew. -/
theorem both_new {M p : Nat} {w w' : World} (h : TT M w p []) (hb : Below w.heap.size w w') (hr : w'.heap[w.heap.size]? = some (.cells #[.slice none 0 0, .slice none 0 0] 30 (0, 0))) : Bo M w' p [] w.heap.size [] := by
  obtain ⟨h0, L, h1, h2⟩ := h
  refine ⟨Nat.le_trans h0 hb.size, L, h1.below hb, h2, h0, fun e => by have := h1.lt _ e; omega, _, _, hr, World.ownsRow_nil _ _ _ _, World.ownsRow_nil _ _ _ _, ⟨fun g e => (by cases e), fun g e => (by cases e)⟩⟩
end Go.Proofs.Ytejbbojephiifaa
