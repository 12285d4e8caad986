/- What tiles are as a page. -/
import Derived.Test.YtmijdjlpfjfjoaaLeafPut
namespace Go.Proofs.Ytmijdjlpfjfjoaa
open Go.RowKit

def cutL (l : List Int) (i : Nat) : List Int := (l.drop (26 * i)).take 26
def rdOk (l : List Int) : Prop := ∃ a k s v p c, Rd l a k s v p c 0
def noC : Nat → List Int := fun _ => []
def pgL (l : List Int) : Nat → List Int := fun i => nrm (cutL l i)
inductive Tk (la lb : List Int) : Int → (Nat → List Int) → Int → Prop
  | bad (h : tE la lb ≠ 0) : Tk la lb (tE la lb) noC 0
  | form (h : tE la lb = 0) (h2 : zerosB ((tL la lb).drop 104) = false) : Tk la lb 4 noC 0
  | cell (h : tE la lb = 0) (h2 : zerosB ((tL la lb).drop 104) = true) (i : Nat) (hi : i < 4) (h3 : ¬ rdOk (cutL (tL la lb) i)) : Tk la lb 4 noC 0
  | ok (h : tE la lb = 0) (h2 : zerosB ((tL la lb).drop 104) = true) (h3 : ∀ i, i < 4 → rdOk (cutL (tL la lb) i)) : Tk la lb 0 (pgL (tL la lb)) (tK la lb)
theorem Tk.det {la lb : List Int} {e e' n n' : Int} {c c' : Nat → List Int} (h : Tk la lb e c n) (h' : Tk la lb e' c' n') : e = e' ∧ c = c' ∧ n = n' := by
  cases h with
  | bad h => cases h' with
    | bad _ => exact ⟨rfl, rfl, rfl⟩
    | form h2 => exact absurd h2 h
    | cell h2 => exact absurd h2 h
    | ok h2 => exact absurd h2 h
  | form h h2 => cases h' with
    | bad h3 => exact absurd h h3
    | form _ _ => exact ⟨rfl, rfl, rfl⟩
    | cell _ h3 => rw [h2] at h3; cases h3
    | ok _ h3 => rw [h2] at h3; cases h3
  | cell h h2 i hi h3 => cases h' with
    | bad h4 => exact absurd h h4
    | form _ h4 => rw [h2] at h4; cases h4
    | cell _ _ _ _ _ => exact ⟨rfl, rfl, rfl⟩
    | ok _ _ h4 => exact absurd (h4 i hi) h3
  | ok h h2 h3 => cases h' with
    | bad h4 => exact absurd h h4
    | form _ h4 => rw [h2] at h4; cases h4
    | cell _ _ i hi h4 => exact absurd (h3 i hi) h4
    | ok _ _ _ => exact ⟨rfl, rfl, rfl⟩
def TkPost (w : World) (la lb : List Int) (e : Ending) (w' : World) : Prop := ∃ er c n P N K, Tk la lb er c n ∧ e = .returned (.tuple #[pgV P N K n, .int .i64 er]) ∧ Cs w' P N K c ∧ Below w.heap.size w w'

def P0 : Nat → Option Addr := fun _ => none
def N0 : Nat → Nat := fun _ => 0
theorem cs_no (w : World) : Cs w P0 N0 N0 noC := fun _ _ => ⟨rfl, slK_nil w⟩

theorem tk_no {w W : World} {la lb : List Int} {er : Int} (h : Tk la lb er noC 0) (hb : Below w.heap.size w W) : TkPost w la lb (.returned (.tuple #[pgV P0 N0 N0 0, .int .i64 er])) W :=
  ⟨er, noC, 0, P0, N0, N0, h, rfl, cs_no W, hb⟩

theorem tE_len {la lb : List Int} (h : tE la lb = 0) : (tL la lb).length = 120 := by
  unfold tL
  rw [if_pos h]
  unfold tE at h
  by_cases hl : la.length = 64 ∧ lb.length = 64
  · simp; omega
  · rw [if_neg hl] at h; cases h

theorem cut_len {l : List Int} (h : l.length = 120) {i : Nat} (hi : i < 4) : (cutL l i).length = 26 := by
  unfold cutL
  simp; omega

/-- What lies of the page behind k cells. -/
def cK (l : List Int) (k : Nat) : Nat → List Int := fun j => if j < k then nrm (cutL l j) else []
def StT (w1 wr : World) (l : List Int) (n : Int) (k : Nat) : Prop := ∃ P N K, wr.heap[w1.heap.size]? = some (pgO P N K n) ∧ Co wr (w1.heap.size + 1) P N K (cK l k) ∧ (∀ j, k ≤ j → P j = none ∧ N j = 0 ∧ K j = 0) ∧ Below w1.heap.size w1 wr ∧ w1.heap.size + 1 ≤ wr.heap.size
theorem stT_new (w1 : World) (l : List Int) (n : Int) : StT w1 (w1.alloc (pgO P0 N0 N0 n)) l n 0 :=
  ⟨P0, N0, N0, heap_alloc_new w1 _, fun j _ => ⟨rfl, World.ownsRow_nil _ _ _ _, fun x hx => by cases hx⟩, fun j _ => ⟨rfl, rfl, rfl⟩, (Below.refl _ _).alloc (Nat.le_refl _) _, by simp⟩
theorem StT.on {w1 wr w2 : World} {l : List Int} {n : Int} {k : Nat} (h : StT w1 wr l n k) (hb : Below wr.heap.size wr w2) : StT w1 w2 l n k := by
  obtain ⟨P, N, K, h1, h2, h3, h4, h5⟩ := h
  exact ⟨P, N, K, (hb.block _ (by omega)).trans h1, fun j hj => ⟨(h2 j hj).1, own_below (h2 j hj).2.1 hb, (h2 j hj).2.2⟩, h3, h4.trans (hb.mono h4.size), Nat.le_trans h5 hb.size⟩
theorem cK_lt (l : List Int) {k j : Nat} (h : j ≠ k) : cK l (k + 1) j = cK l k j := by
  unfold cK
  by_cases h1 : j < k
  · rw [if_pos h1, if_pos (by omega)]
  · rw [if_neg h1, if_neg (by omega)]
theorem cK_at (l : List Int) (k : Nat) : cK l (k + 1) k = nrm (cutL l k) := if_pos (by omega)
theorem cK_new (l : List Int) (k : Nat) : cK l k k = [] := if_neg (by omega)
theorem StT.skip {w1 wr : World} {l : List Int} {n : Int} {k : Nat} (h : StT w1 wr l n k) (he : empB (cutL l k) = true) : StT w1 wr l n (k + 1) := by
  obtain ⟨P, N, K, h1, h2, h3, h4, h5⟩ := h
  have e : ∀ j, cK l (k + 1) j = cK l k j := fun j => by
    by_cases hj : j = k
    · subst hj; rw [cK_at, cK_new, nrm, if_pos he]
    · exact cK_lt l hj
  exact ⟨P, N, K, h1, fun j hj => by rw [e j]; exact h2 j hj, fun j hj => h3 j (by omega), h4, h5⟩
theorem StT.next {w1 wr w5 : World} {l : List Int} {n : Int} {k : Nat} (h : StT w1 wr l n k) (hk : k < 4) (he : empB (cutL l k) = false) (hb : Below wr.heap.size wr w5) {p : Option Addr} {q : Nat} (ho : w5.ownsRow wr.heap.size 5 1 (.slice p (cutL l k).length q) (cutL l k).length (byteV (cutL l k))) (hok : bytesOk (cutL l k)) :
    StT w1 (w5.setCell ⟨w1.heap.size, k, none⟩ (.slice p (cutL l k).length q)) l n (k + 1) := by
  obtain ⟨P, N, K, h1, h2, h3, h4, h5⟩ := h
  have h1' := (hb.block _ (by omega)).trans h1
  refine ⟨_, _, _, pg_set h1' hk p _ q, fun j hj => ?_, fun j hj => ?_, (h4.trans (hb.mono h4.size)).setCell (p := ⟨w1.heap.size, k, none⟩) (Nat.le_refl _) _, ?_⟩
  · by_cases e : j = k
    · subst e
      simp only [upd, if_true]
      rw [cK_at, nrm, if_neg (by rw [he]; decide)]
      exact ⟨rfl, own_set (own_mono ho h5) (by omega), hok⟩
    · simp only [upd, if_neg e]
      rw [cK_lt l e]
      obtain ⟨a1, a2, a3⟩ := h2 j hj
      exact ⟨a1, own_set (own_below a2 hb) (by omega), a3⟩
  · simp only [upd, if_neg (show j ≠ k by omega)]
    exact h3 j (by omega)
  · have := hb.size; simp; omega
theorem StT.all {w1 wr : World} {l : List Int} {n : Int} (h : StT w1 wr l n 4) : ∃ P N K, wr.heap[w1.heap.size]? = some (pgO P N K n) ∧ Co wr (w1.heap.size + 1) P N K (pgL l) ∧ Below w1.heap.size w1 wr := by
  obtain ⟨P, N, K, h1, h2, h3, h4, h5⟩ := h
  refine ⟨P, N, K, h1, fun j hj => ?_, h4⟩
  have := h2 j hj
  rw [cK, if_pos hj] at this
  exact this

end Go.Proofs.Ytmijdjlpfjfjoaa
