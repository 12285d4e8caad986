/- Set. -/
import Derived.Test.YtmijdjlpfjfjoaaLeafPg
import Derived.Deep.CutBlock
namespace Go.Proofs.Ytmijdjlpfjfjoaa
open Go.RowKit

def upd {α : Type} (f : Nat → α) (k : Nat) (x : α) : Nat → α := fun i => if i = k then x else f i

theorem pg_set {w : World} {g : Nat} {P : Nat → Option Addr} {N K : Nat → Nat} {n : Int} (h : w.heap[g]? = some (pgO P N K n)) {k : Nat} (hk : k < 4) (p : Option Addr) (m q : Nat) : (w.setCell ⟨g, k, none⟩ (.slice p m q)).heap[g]? = some (pgO (upd P k p) (upd N k m) (upd K k q) n) := by
  rw [heap_setCell_same w g k _ _ _ h]
  match k, hk with
  | 0, _ => rfl
  | 1, _ => rfl
  | 2, _ => rfl
  | 3, _ => rfl

theorem pg_setN {w : World} {g : Nat} {P : Nat → Option Addr} {N K : Nat → Nat} {n : Int} (h : w.heap[g]? = some (pgO P N K n)) (m : Int) : (w.setCell ⟨g, 4, none⟩ (.int .i64 m)).heap[g]? = some (pgO P N K m) := by
  rw [heap_setCell_same w g 4 _ _ _ h]; rfl

/-- All five cells laid. -/
def finP (W : World) (g : Nat) (P : Nat → Option Addr) (N K : Nat → Nat) (n : Int) : World := ((((W.setCell ⟨g, 0, none⟩ (.slice (P 0) (N 0) (K 0))).setCell ⟨g, 1, none⟩ (.slice (P 1) (N 1) (K 1))).setCell ⟨g, 2, none⟩ (.slice (P 2) (N 2) (K 2))).setCell ⟨g, 3, none⟩ (.slice (P 3) (N 3) (K 3))).setCell ⟨g, 4, none⟩ (.int .i64 n)
theorem finP_heap {W : World} {g : Nat} {P P' : Nat → Option Addr} {N K N' K' : Nat → Nat} {n n' : Int} (h : W.heap[g]? = some (pgO P' N' K' n')) : (finP W g P N K n).heap[g]? = some (pgO P N K n) := by
  unfold finP
  have h1 := pg_set h (k := 0) (by decide) (P 0) (N 0) (K 0)
  have h2 := pg_set h1 (k := 1) (by decide) (P 1) (N 1) (K 1)
  have h3 := pg_set h2 (k := 2) (by decide) (P 2) (N 2) (K 2)
  have h4 := pg_set h3 (k := 3) (by decide) (P 3) (N 3) (K 3)
  exact pg_setN h4 n
theorem finP_below {B : Nat} {w W : World} {g : Nat} {P : Nat → Option Addr} {N K : Nat → Nat} {n : Int} (h : Below B w W) (hg : B ≤ g) : Below B w (finP W g P N K n) :=
  ((((h.setCell (p := ⟨g, 0, none⟩) hg _).setCell (p := ⟨g, 1, none⟩) hg _).setCell (p := ⟨g, 2, none⟩) hg _).setCell (p := ⟨g, 3, none⟩) hg _).setCell (p := ⟨g, 4, none⟩) hg _

/-- Four rows of the call's own. -/
def Co (w : World) (B : Nat) (P : Nat → Option Addr) (N K : Nat → Nat) (c : Nat → List Int) : Prop := ∀ i, i < 4 → N i = (c i).length ∧ w.ownsRow B 5 1 (.slice (P i) (N i) (K i)) (N i) (byteV (c i)) ∧ bytesOk (c i)
theorem Co.cs {w : World} {B : Nat} {P : Nat → Option Addr} {N K : Nat → Nat} {c : Nat → List Int} (h : Co w B P N K c) : Cs w P N K c := fun i hi => ⟨(h i hi).1, own_slK (h i hi).2.1 (h i hi).2.2⟩

theorem own_set {w : World} {B n g i : Nat} {u v : Value} {xs : List Value} (h : w.ownsRow B 5 1 v n xs) (hg : g < B) : (w.setCell ⟨g, i, none⟩ u).ownsRow B 5 1 v n xs := by
  obtain ⟨h1, ⟨e, h2⟩ | ⟨q, cap, cur, e, a, b, r⟩⟩ := h
  · exact ⟨h1, .inl ⟨e, h2⟩⟩
  · exact ⟨h1, .inr ⟨q, cap, cur, e, a, (Below.heap_setCell _ _ _ _ (show q ≠ g by omega)).trans b, r⟩⟩

theorem own_mono {w : World} {B B' n : Nat} {v : Value} {xs : List Value} (h : w.ownsRow B 5 1 v n xs) (hB : B' ≤ B) : w.ownsRow B' 5 1 v n xs := by
  obtain ⟨h1, ⟨e, h2⟩ | ⟨q, cap, cur, e, a, b, r⟩⟩ := h
  · exact ⟨h1, .inl ⟨e, h2⟩⟩
  · exact ⟨h1, .inr ⟨q, cap, cur, e, Nat.le_trans hB a, b, r⟩⟩

def setQ (n i lsn : Int) : Bool := decide (n < lsn) && decide (0 ≤ i) && decide (i < 4)
def setC (c : Nat → List Int) (n i lsn : Int) (b : List Int) : Nat → List Int := if setQ n i lsn = true then upd c i.toNat b else c
def setN (n i lsn : Int) : Int := if setQ n i lsn = true then lsn else n

/-- A page that is the call's own. -/
def PgPost (w : World) (c : Nat → List Int) (n : Int) (e : Ending) (w' : World) : Prop := ∃ P N K, e = .returned (pgV P N K n) ∧ Co w' w.heap.size P N K c ∧ Below w.heap.size w w'


/-- The state in front of the copies. -/
def Mid (w wx : World) (c : Nat → List Int) (n : Int) : Prop := ∃ P N K, wx.heap[w.heap.size]? = some (pgO P N K n) ∧ Cs w P N K c ∧ Below w.heap.size w wx ∧ ∃ P N K m, wx.heap[w.heap.size + 1]? = some (pgO P N K m)

theorem infoSl : (Try.prog.info? 22).map (·.size) = some 1 := by kernel_rfl
theorem ix_any (w : World) (P : Nat → Option Addr) (N K : Nat → Nat) {k : Nat} (hk : k < 4) : (Instr.index 33 (.agg #[.slice (P 0) (N 0) (K 0), .slice (P 1) (N 1) (K 1), .slice (P 2) (N 2) (K 2), .slice (P 3) (N 3) (K 3)]) (.int .i64 (k : Int))).run Try.prog w = .ok (.slice (P k) (N k) (K k)) w := by
  obtain ⟨i, hi, hz⟩ := Option.map_eq_some_iff.1 infoSl
  match k, hk with
  | 0, _ => simp [Instr.index, isAgg, sizeOf, typeInfo, hi, run_underlying Try.underlying33, asIntOf, go_sem]
  | 1, _ => simp [Instr.index, isAgg, sizeOf, typeInfo, hi, hz, run_underlying Try.underlying33, asIntOf, go_sem]
  | 2, _ => simp [Instr.index, isAgg, sizeOf, typeInfo, hi, hz, run_underlying Try.underlying33, asIntOf, go_sem]
  | 3, _ => simp [Instr.index, isAgg, sizeOf, typeInfo, hi, hz, run_underlying Try.underlying33, asIntOf, go_sem]

/-- k copies made. -/
def StC (w wr : World) (c : Nat → List Int) (n : Int) (k : Nat) : Prop := ∃ P N K, wr.heap[w.heap.size]? = some (pgO P N K n) ∧ (∀ j, j < k → N j = (c j).length ∧ wr.ownsRow (w.heap.size + 2) 5 1 (.slice (P j) (N j) (K j)) (N j) (byteV (c j)) ∧ bytesOk (c j)) ∧ Below w.heap.size w wr ∧ ∃ P N K m, wr.heap[w.heap.size + 1]? = some (pgO P N K m)
theorem own_sl {w : World} {B n : Nat} {v : Value} {xs : List Value} (h : w.ownsRow B 5 1 v n xs) : ∃ p q, v = .slice p n q := by
  obtain ⟨h1, ⟨e, h2⟩ | ⟨q, cap, cur, e, a, b, r⟩⟩ := h
  · subst h2; exact ⟨_, _, e⟩
  · exact ⟨_, _, e⟩
theorem StC.next {w wr w5 : World} {c : Nat → List Int} {n : Int} {k : Nat} (h : StC w wr c n k) (hk : k < 4) (hb : Below wr.heap.size wr w5) {p : Option Addr} {q : Nat} (ho : w5.ownsRow wr.heap.size 5 1 (.slice p (c k).length q) (c k).length (byteV (c k))) (hok : bytesOk (c k)) :
    StC w (w5.setCell ⟨w.heap.size, k, none⟩ (.slice p (c k).length q)) c n (k + 1) := by
  obtain ⟨P, N, K, h1, h2, h3, P', N', K', m', h4⟩ := h
  have hlt := (Array.getElem?_eq_some_iff.1 h4).1
  have h1' := (hb.block _ (by omega)).trans h1
  refine ⟨_, _, _, pg_set h1' hk p _ q, fun j hj => ?_, (h3.trans (hb.mono h3.size)).setCell (p := ⟨w.heap.size, k, none⟩) (Nat.le_refl _) _, P', N', K', m', ?_⟩
  · by_cases e : j = k
    · subst e
      simp only [upd, if_true]
      exact ⟨trivial, own_set (own_mono ho (by omega)) (by omega), hok⟩
    · simp only [upd, if_neg e]
      obtain ⟨a1, a2, a3⟩ := h2 j (by omega)
      exact ⟨a1, own_set (own_below a2 hb) (by omega), a3⟩
  · exact (Below.heap_setCell _ _ _ _ (by simp)).trans ((hb.block _ hlt).trans h4)


end Go.Proofs.Ytmijdjlpfjfjoaa
