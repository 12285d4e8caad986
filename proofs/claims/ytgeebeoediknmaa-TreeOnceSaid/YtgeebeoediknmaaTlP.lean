/- TreeOnce: what is found behind a Put, behind a Cut; a tree beside an array. -/
import Derived.Test.YtgeebeoediknmaaTlN
import Derived.Deep.RegionHeld
namespace Go.Proofs.Ytgeebeoediknmaa
open Go.RowKit

theorem has_fnd (k : ByteArray) : ∀ xs : List KV, has k xs = (fnd k xs).isSome
  | [] => rfl
  | y :: r => by
    rw [has, fnd]
    split
    · exact has_fnd k r
    · split <;> rename_i h
      · rw [h]; rfl
      · simp [h]
theorem fnd_ins (k : ByteArray) (x : KV) : ∀ xs : List KV, fnd k (ins x xs) = if k = x.k then some x else fnd k xs
  | [] => by
    show (if bL x.k k then fnd k [] else if bL k x.k then none else some x) = if k = x.k then some x else none
    by_cases h : k = x.k
    · subst h; rw [bL_irr, if_pos rfl]; simp
    · rw [if_neg h]
      cases h1 : bL x.k k with
      | true => simp [fnd]
      | false =>
        cases h2 : bL k x.k with
        | true => simp
        | false => exact absurd (bL_tri h2 h1) h
  | y :: r => by
    rw [ins]
    cases h1 : bL y.k x.k with
    | true =>
      rw [if_pos rfl, fnd, fnd, fnd_ins k x r]
      by_cases h : k = x.k
      · subst h; rw [h1, if_pos rfl]; simp
      · simp only [if_neg h]
    | false =>
      rw [if_neg (by simp)]
      cases h2 : bL x.k y.k with
      | true =>
        rw [if_pos rfl, fnd]
        by_cases h : k = x.k
        · subst h; rw [bL_irr, if_pos rfl]; simp
        · rw [if_neg h]
          cases h3 : bL x.k k with
          | true => simp
          | false =>
            cases h4 : bL k x.k with
            | true =>
              have h5 := bL_trans h4 h2
              have h6 := bL_asym h5
              rw [fnd, h6, h5]; simp
            | false => exact absurd (bL_tri h4 h3) h
      | false =>
        rw [if_neg (by simp)]
        have e := bL_tri h1 h2
        rw [fnd, fnd, e]
        by_cases h : k = x.k
        · subst h; rw [bL_irr, if_pos rfl]; simp
        · rw [if_neg h]
          cases h3 : bL x.k k with
          | true => simp
          | false =>
            cases h4 : bL k x.k with
            | true => simp
            | false => exact absurd (bL_tri h4 h3) h
theorem fnd_lt {k : ByteArray} : ∀ {xs : List KV}, (∀ y ∈ xs, bL k y.k = true) → fnd k xs = none
  | [], _ => rfl
  | y :: r, h => by
    have h1 := h y (List.mem_cons_self ..)
    rw [fnd, bL_asym h1, h1]; simp
theorem fnd_del (k k' : ByteArray) : ∀ {xs : List KV}, Rise KV.k xs → fnd k (del k' xs) = if k = k' then none else fnd k xs
  | [], _ => by simp [del, fnd]
  | y :: r, hr => by
    obtain ⟨g1, g2⟩ := List.pairwise_cons.1 hr
    rw [del]
    cases h1 : bL y.k k' with
    | true =>
      rw [if_pos rfl, fnd, fnd, fnd_del k k' g2]
      by_cases h : k = k'
      · subst h; rw [h1, if_pos rfl]; simp
      · simp only [if_neg h]
    | false =>
      rw [if_neg (by simp)]
      cases h2 : bL k' y.k with
      | true =>
        rw [if_pos rfl]
        by_cases h : k = k'
        · subst h; rw [if_pos rfl, fnd, h1, h2]; simp
        · rw [if_neg h]
      | false =>
        rw [if_neg (by simp)]
        have e := bL_tri h1 h2
        by_cases h : k = k'
        · subst h; rw [if_pos rfl]
          exact fnd_lt fun z hz => by rw [← e]; exact g1 z hz
        · rw [if_neg h, fnd]
          cases h3 : bL y.k k with
          | true => simp
          | false =>
            cases h4 : bL k y.k with
            | true => rw [fnd_lt fun z hz => bL_trans h4 (g1 z hz)]; simp
            | false => exact absurd ((bL_tri h4 h3).trans e) h

theorem tput_keep {M N N2 p : Nat} {w : World} {xs : List KV} (h : TI M N N2 w p xs) (hsm : xs.length ≤ 100000) (x : KV) :
    Calls Try.prog 14 #[.pointer (some ⟨p, 0, none⟩), .string x.k, .agg #[.int .i64 x.p, .int .i64 x.c]] w fun e w' => e = .returned (.bool (!has x.k xs)) ∧ TI M N N2 w' p (ins x xs) ∧ Below M w w' ∧ ∀ b, N ≤ b → b < N2 → w'.heap[b]? = w.heap[b]? := by
  obtain ⟨h0, h9, L, h1, h2⟩ := h
  refine (tput_any w h1 hsm x).mono ?_
  rintro e w' ⟨rfl, L', h3, h4, h5⟩
  have hb := fr_ge h5 (fun a ha => (h2 a ha).1) h0
  refine ⟨rfl, ⟨Nat.le_trans h0 hb.size, Nat.le_trans h9 hb.size, L', h3, fun a ha => ⟨foot_ge h4 (fun a ha => (h2 a ha).1) h0 a ha, ?_⟩⟩, hb, fun b b1 b2 => h5.block b (by omega) (fun hm => by have := (h2 b hm).2; omega)⟩
  rcases h4.mem ha with h6 | h6
  · exact (h2 a h6).2
  · exact .inr (by omega)
theorem TI.below {M N N2 p : Nat} {w w' : World} {xs : List KV} (h : TI M N N2 w p xs) (hb : Below w.heap.size w w') : TI M N N2 w' p xs := by
  obtain ⟨h0, h9, L, h1, h2⟩ := h
  exact ⟨Nat.le_trans h0 hb.size, Nat.le_trans h9 hb.size, L, h1.below hb, h2⟩
theorem TI.tt {M N N2 p : Nat} {w : World} {xs : List KV} (h : TI M N N2 w p xs) : TT M w p xs := by
  obtain ⟨h0, _, L, h1, h2⟩ := h
  exact ⟨h0, L, h1, fun a ha => (h2 a ha).1⟩
/-- A store beside the tree. -/
theorem TI.set {M N p i : Nat} {w : World} {xs : List KV} (h : TI M N (N + 1) w p xs) (v : Value) : TI M N (N + 1) (w.setCell ⟨N, i, none⟩ v) p xs := by
  obtain ⟨h0, h9, L, h1, h2⟩ := h
  have hs : (w.setCell ⟨N, i, none⟩ v).heap.size = w.heap.size := by simp [World.setCell]
  exact ⟨by rw [hs]; exact h0, by rw [hs]; exact h9, L, h1.same (fun a ha => Below.heap_setCell _ _ _ _ (by have := (h2 a ha).2; dsimp only; omega)), h2⟩

def nm (j : Nat) : ByteArray := ch (97 + j)
theorem nm_inj {i j : Nat} (hi : i < 16) (hj : j < 16) (h : nm i = nm j) : i = j := by
  have h1 : UInt8.ofNat (97 + i) = UInt8.ofNat (97 + j) := by
    have := congrArg (fun b : ByteArray => b.data.toList) h
    simpa [nm, ch] using this
  have h2 := congrArg UInt8.toNat h1
  simp at h2
  omega
/-- What was put last. -/
def LR (f : Nat → Nat) (xs : List KV) : Prop := ∀ j, j < 16 → (f j = 0 ∧ fnd (nm j) xs = none) ∨ (0 < f j ∧ ∃ c, fnd (nm j) xs = some ⟨nm j, (f j : Int), c⟩)
def upN (f : Nat → Nat) (k v : Nat) : Nat → Nat := fun j => if j = k then v else f j
theorem LR.has {f : Nat → Nat} {xs : List KV} (h : LR f xs) {k : Nat} (hk : k < 16) : has (nm k) xs = decide (0 < f k) := by
  rw [has_fnd]
  rcases h k hk with ⟨h1, h2⟩ | ⟨h1, c, h2⟩
  · rw [h2, h1]; rfl
  · rw [h2]; simp [h1]
theorem LR.put {f : Nat → Nat} {xs : List KV} (h : LR f xs) {k v : Nat} (hk : k < 16) (hv : 0 < v) (c : Int) : LR (upN f k v) (ins ⟨nm k, (v : Int), c⟩ xs) := fun j hj => by
  rw [fnd_ins]
  unfold upN
  by_cases e : j = k
  · subst e
    rw [if_pos rfl, if_pos rfl]
    exact .inr ⟨hv, c, rfl⟩
  · rw [if_neg e, if_neg (fun q => e (nm_inj hj hk q))]
    exact h j hj
theorem LR.cut {f : Nat → Nat} {xs : List KV} (h : LR f xs) (hr : Rise KV.k xs) {k : Nat} (hk : k < 16) : LR (upN f k 0) (del (nm k) xs) := fun j hj => by
  rw [fnd_del _ _ hr]
  unfold upN
  by_cases e : j = k
  · subst e
    rw [if_pos rfl, if_pos rfl]
    exact .inl ⟨rfl, rfl⟩
  · rw [if_neg e, if_neg (fun q => e (nm_inj hj hk q))]
    exact h j hj
/-- The array. -/
def lastV (f : Nat → Nat) : Array Value := arrV 16 fun j => .int .i64 (f j : Int)
theorem lastV_set (f : Nat → Nat) {k : Nat} (hk : k < 16) (v : Nat) : (lastV f).setIfInBounds k (.int .i64 (v : Int)) = lastV (upN f k v) := by
  unfold lastV
  rw [arrV_set _ _ hk]
  congr 1
  funext i
  unfold upN
  by_cases e : i = k <;> simp [e]
end Go.Proofs.Ytgeebeoediknmaa
