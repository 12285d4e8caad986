/- RedoMoves: the entries in memory; a page read out of three. -/
import Derived.Test.YtmijdjlpfjfjoaaRdMvP
namespace Go.Proofs.Ytmijdjlpfjfjoaa.Rx
open Go.RowKit

def mX1 (A : Option Addr) (q : Nat) : Ex := ⟨0, 0, 0, 0, 0, .slice none 0 0, A, q, none, 0, .slice none 0 0, .slice none 0 0, .slice none 0 0⟩
def mX3 (b : Nat) : Ex := ⟨0, 0, 0, 0, 0, .slice none 0 0, none, 0, some ⟨b, 0, none⟩, 1, .slice none 0 0, .slice none 0 0, .slice none 0 0⟩
def mES (a1 a2 b1 b2 : Int) (row : List Int) (A : Option Addr) (q b : Nat) : List EX := [(mE1 a1 a2 row, mX1 A q), (mE2 a1 a2 b1 b2 row, mX1 A q), (mE3 a1 a2 b1 b2, mX3 b)]
def mvO (a1 a2 b1 b2 : Int) : Obj := .cells #[.int .i64 a1, .int .i64 a2, .int .i64 b1, .int .i64 b2] 54
def mvW (a1 a2 b1 b2 : Int) (A : Option Addr) (q b : Nat) : Array Value := #[.int .i64 1, .int .i64 0, .int .i64 0, .int .i64 0, .int .i64 0, .int .i64 0, .int .i64 a1, .int .i64 a2, .int .i64 0, .int .i64 0, .slice none 0 0, .slice A 26 q, .slice none 0 0, .slice none 0 0, .slice none 0 0, .slice none 0 0,
  .int .i64 7, .int .i64 0, .int .i64 0, .int .i64 0, .int .i64 0, .int .i64 0, .int .i64 a1, .int .i64 a2, .int .i64 b1, .int .i64 b2, .slice none 0 0, .slice A 26 q, .slice none 0 0, .slice none 0 0, .slice none 0 0, .slice none 0 0,
  .int .i64 8, .int .i64 0, .int .i64 0, .int .i64 0, .int .i64 0, .int .i64 0, .int .i64 0, .int .i64 0, .int .i64 0, .int .i64 0, .slice none 0 0, .slice none 0 0, .slice (some ⟨b, 0, none⟩) 1 1, .slice none 0 0, .slice none 0 0, .slice none 0 0]
theorem mES_fst (a1 a2 b1 b2 : Int) (row : List Int) (A : Option Addr) (q b : Nat) : (mES a1 a2 b1 b2 row A q b).map (·.1) = mL a1 a2 b1 b2 row := rfl
/-- The entries as they lie. -/
theorem mv_entries (w : World) (a1 a2 b1 b2 : Int) (row : List Int) (A : Option Addr) (q : Nat) (hl : row.length = 26) (h : SlK .u8 w (.slice A 26 q) row) :
    Els ((w.alloc (mvO a1 a2 b1 b2)).alloc (.cells (mvW a1 a2 b1 b2 A q w.heap.size) 31)) (.slice (some ⟨w.heap.size + 1, 0, none⟩) 3 3) 16 ((mES a1 a2 b1 b2 row A q w.heap.size).map enV) ∧
    ∀ o ∈ mES a1 a2 b1 b2 row A q w.heap.size, EnIn ((w.alloc (mvO a1 a2 b1 b2)).alloc (.cells (mvW a1 a2 b1 b2 A q w.heap.size) 31)) o.1 o.2 := by
  have hs1 : (w.alloc (mvO a1 a2 b1 b2)).heap.size = w.heap.size + 1 := by simp
  have hb : Below w.heap.size w ((w.alloc (mvO a1 a2 b1 b2)).alloc (.cells (mvW a1 a2 b1 b2 A q w.heap.size) 31)) := ((Below.refl _ _).alloc (Nat.le_refl _) _).alloc (by omega) _
  have hk1 : ((w.alloc (mvO a1 a2 b1 b2)).alloc (.cells (mvW a1 a2 b1 b2 A q w.heap.size) 31)).heap[w.heap.size]? = some (mvO a1 a2 b1 b2) := (Below.heap_alloc _ _ _ (by omega)).trans (heap_alloc_new w _)
  have hk2 : ((w.alloc (mvO a1 a2 b1 b2)).alloc (.cells (mvW a1 a2 b1 b2 A q w.heap.size) 31)).heap[w.heap.size + 1]? = some (.cells (mvW a1 a2 b1 b2 A q w.heap.size) 31) := by
    have := heap_alloc_new (w.alloc (mvO a1 a2 b1 b2)) (.cells (mvW a1 a2 b1 b2 A q w.heap.size) 31)
    rwa [hs1] at this
  have hrow := h.below hb (Nat.le_refl _)
  generalize (w.alloc (mvO a1 a2 b1 b2)).alloc (.cells (mvW a1 a2 b1 b2 A q w.heap.size) 31) = w6 at *
  have hc := fun m => (cell_of hk2 m).1
  have hm := fun m => (cell_of hk1 m).1
  have e1 : ∀ k, (Value.slice A 26 k) = .slice A row.length k := fun k => by rw [hl]
  refine ⟨⟨_, _, rfl, Nat.le_refl _, (fun e => by cases e), fun a ha _ => ?_⟩, fun o ho => ?_⟩
  · cases ha
    refine ⟨rfl, (Array.getElem?_eq_some_iff.1 hk2).1, fun i j hi hj => ?_⟩
    show w6.cell? ⟨w.heap.size + 1, 0 + i * 16 + j, none⟩ = _
    rw [show w6.cell? ⟨w.heap.size + 1, 0 + i * 16 + j, none⟩ = _ from hc (0 + i * 16 + j)]
    unfold mvW
    simp only [e1]
    have hi3 : i < 3 := hi
    match i, hi3 with
    | 0, _ =>
      match j, hj with
      | 0, _ | 1, _ | 2, _ | 3, _ | 4, _ | 5, _ | 6, _ | 7, _ | 8, _ | 9, _ | 10, _ | 11, _ | 12, _ | 13, _ | 14, _ | 15, _ => rfl
      | k + 16, h => exact absurd h (by omega)
    | 1, _ =>
      match j, hj with
      | 0, _ | 1, _ | 2, _ | 3, _ | 4, _ | 5, _ | 6, _ | 7, _ | 8, _ | 9, _ | 10, _ | 11, _ | 12, _ | 13, _ | 14, _ | 15, _ => rfl
      | k + 16, h => exact absurd h (by omega)
    | 2, _ =>
      match j, hj with
      | 0, _ | 1, _ | 2, _ | 3, _ | 4, _ | 5, _ | 6, _ | 7, _ | 8, _ | 9, _ | 10, _ | 11, _ | 12, _ | 13, _ | 14, _ | 15, _ => rfl
      | k + 16, h => exact absurd h (by omega)
  · have hnil : SlK .u8 w6 (.slice none 0 0) [] := slK_nil w6
    have hen : Els w6 (.slice none 0 0) 4 [] := ⟨none, 0, rfl, Nat.le_refl _, fun _ => rfl, fun a e => by cases e⟩
    have hrow' : SlK .u8 w6 (.slice A row.length q) row := by rw [hl]; exact hrow
    unfold mES at ho
    rcases List.mem_cons.1 ho with rfl | ho
    · exact ⟨hrow', hen, Nat.zero_le _, (by show row.length ≤ _; omega)⟩
    · rcases List.mem_cons.1 ho with rfl | ho
      · exact ⟨hrow', hen, Nat.zero_le _, (by show row.length ≤ _; omega)⟩
      · obtain rfl := List.mem_singleton.1 ho
        refine ⟨hnil, ⟨_, _, rfl, Nat.le_refl _, (fun e => by cases e), fun a ha _ => ?_⟩, by show 1 ≤ _; decide, Nat.zero_le _⟩
        cases ha
        refine ⟨rfl, (Array.getElem?_eq_some_iff.1 hk1).1, fun i j hi hj => ?_⟩
        have hi1 : i < 1 := hi
        show w6.cell? ⟨w.heap.size, 0 + i * 4 + j, none⟩ = _
        rw [show w6.cell? ⟨w.heap.size, 0 + i * 4 + j, none⟩ = _ from hm (0 + i * 4 + j)]
        match i, hi1, j, hj with
        | 0, _, 0, _ | 0, _, 1, _ | 0, _, 2, _ | 0, _, 3, _ => rfl
theorem P3.at {W : World} {g : Nat} {S : Nat → Pg} (h : P3 W g S) {n : Nat} (hn : n < 3) : ∃ P N K, Cs W P N K (S n).1 ∧ ∀ j v, (pgC P N K (S n).2)[j]? = some v → W.cell? ⟨g, n * 5 + j, none⟩ = some v := by
  obtain ⟨P, N, K, h1, h2⟩ := h
  refine ⟨P n, N n, K n, h2 n hn, fun j v hv => ?_⟩
  have hj : j < 5 := (Array.getElem?_eq_some_iff.1 hv).1
  rw [← hv, ← rowP_at P N K S hn hj]
  exact (cell_of h1 (n * 5 + j)).1
theorem P3.zero (w : World) {c : Array Value} (hc : c = rowP (fun _ => P0) (fun _ => N0) (fun _ => N0) (fun _ => s0)) : P3 (w.alloc (.cells c 55)) w.heap.size (fun _ => s0) := by
  subst hc
  exact ⟨fun _ => P0, fun _ => N0, fun _ => N0, heap_alloc_new w _, fun _ _ => cs_nil _⟩
theorem P3.ext {W : World} {g : Nat} {S S' : Nat → Pg} (h : P3 W g S) (he : ∀ n, n < 3 → S n = S' n) : P3 W g S' := by
  obtain ⟨P, N, K, h1, h2⟩ := h
  have e : rowP P N K S = rowP P N K S' := Hp.rowV_ext (n := 3) (k := 5) (V := fun n => pgC (P n) (N n) (K n) (S' n).2) (fun _ => rfl) (by omega) (by unfold rowP; rw [Hp.rowV_size]) fun i j hi hj => by
    rw [rowP_at P N K S hi hj, he i hi]
  exact ⟨P, N, K, e ▸ h1, fun n hn => by rw [← he n hn]; exact h2 n hn⟩
/-- A page is put where one was. -/
theorem P3.lay {W : World} {g : Nat} {S : Nat → Pg} (h : P3 W g S) {n : Nat} (hn : n < 3) : ∃ old, W.heap[g]? = some (.cells old 55 (0, 0)) ∧ old.size = 15 ∧
    ∀ P' N' K' (s : Pg), Cs W P' N' K' s.1 → P3 (W.setRow g (Hp.putRow old (n * 5) (pgC P' N' K' s.2).toList)) g (updS S n s) := by
  obtain ⟨P, N, K, h1, h2⟩ := h
  exact ⟨_, h1, by unfold rowP; rw [Hp.rowV_size], fun P' N' K' s hc => P3.put h1 h2 hn P' N' K' s hc⟩
theorem P3.cell {W : World} {g : Nat} {S : Nat → Pg} (h : P3 W g S) {n c : Nat} (hn : n < 3) (hc : c < 4) : ∃ A N K, W.cell? ⟨g, n * 5 + c, none⟩ = some (.slice A N K) ∧ SlK .u8 W (.slice A N K) ((S n).1 c) := by
  obtain ⟨P, N, K, h1, h2⟩ := h.at hn
  refine ⟨P c, N c, K c, h2 c _ ?_, (h1 c hc).2⟩
  match c, hc with
  | 0, _ | 1, _ | 2, _ | 3, _ => rfl

/-! ### small structs that are stored -/
def set3 (W : World) (b : Nat) (x y z : Value) : World := ((W.setCell ⟨b, 0, none⟩ x).setCell ⟨b, 1, none⟩ y).setCell ⟨b, 2, none⟩ z
def set2 (W : World) (b : Nat) (x y : Value) : World := (W.setCell ⟨b, 0, none⟩ x).setCell ⟨b, 1, none⟩ y
theorem set3_heap {W : World} {b : Nat} {t : TypeId} {u v w x y z : Value} (h : W.heap[b]? = some (.cells #[u, v, w] t (0, 0))) : (set3 W b x y z).heap[b]? = some (.cells #[x, y, z] t (0, 0)) := by
  unfold set3
  rw [setCell_eq_setRow W b 0 _ t (0, 0) x h]
  have h1 := setRow_heap W b _ (#[u, v, w].setIfInBounds 0 x) t _ h
  rw [setCell_eq_setRow _ b 1 _ t (0, 0) y h1]
  have h2 := setRow_heap _ b _ ((#[u, v, w].setIfInBounds 0 x).setIfInBounds 1 y) t _ h1
  rw [setCell_eq_setRow _ b 2 _ t (0, 0) z h2]
  exact setRow_heap _ b _ _ t _ h2
theorem set2_heap {W : World} {b : Nat} {t : TypeId} {u v x y : Value} (h : W.heap[b]? = some (.cells #[u, v] t (0, 0))) : (set2 W b x y).heap[b]? = some (.cells #[x, y] t (0, 0)) := by
  unfold set2
  rw [setCell_eq_setRow W b 0 _ t (0, 0) x h]
  have h1 := setRow_heap W b _ (#[u, v].setIfInBounds 0 x) t _ h
  rw [setCell_eq_setRow _ b 1 _ t (0, 0) y h1]
  exact setRow_heap _ b _ _ t _ h1
theorem set3_other (W : World) (b : Nat) (x y z : Value) {k : Nat} (hk : k ≠ b) : (set3 W b x y z).heap[k]? = W.heap[k]? := by
  unfold set3
  exact (Below.heap_setCell _ _ _ _ hk).trans ((Below.heap_setCell _ _ _ _ hk).trans (Below.heap_setCell _ _ _ _ hk))
theorem set2_other (W : World) (b : Nat) (x y : Value) {k : Nat} (hk : k ≠ b) : (set2 W b x y).heap[k]? = W.heap[k]? := by
  unfold set2
  exact (Below.heap_setCell _ _ _ _ hk).trans (Below.heap_setCell _ _ _ _ hk)
theorem set3_below {B : Nat} {w W : World} {b : Nat} {x y z : Value} (h : Below B w W) (hb : B ≤ b) : Below B w (set3 W b x y z) := by
  unfold set3
  exact ((h.setCell (p := ⟨b, 0, none⟩) hb _).setCell (p := ⟨b, 1, none⟩) hb _).setCell (p := ⟨b, 2, none⟩) hb _
theorem set2_below {B : Nat} {w W : World} {b : Nat} {x y : Value} (h : Below B w W) (hb : B ≤ b) : Below B w (set2 W b x y) := by
  unfold set2
  exact (h.setCell (p := ⟨b, 0, none⟩) hb _).setCell (p := ⟨b, 1, none⟩) hb _
end Go.Proofs.Ytmijdjlpfjfjoaa.Rx
