/- Read. -/
import Derived.Test.YtmijdjlpfjfjoaaCellP
namespace Go.Proofs.Ytmijdjlpfjfjoaa
open Go.RowKit

def RdPost (w : World) (l : List Int) (e : Ending) (w' : World) : Prop := ∃ a k s v p c er, Rd l a k s v p c er ∧ e = .returned (.tuple #[.int .i64 a, .agg #[.string k, .string s, .string v], .agg #[.int .i64 p, .int .i64 c], .int .i64 er]) ∧ Below w.heap.size w w'
def RdIs (w : World) (a : Int) (k s v : ByteArray) (p c er : Int) (e : Ending) (w' : World) : Prop := e = .returned (.tuple #[.int .i64 a, .agg #[.string k, .string s, .string v], .agg #[.int .i64 p, .int .i64 c], .int .i64 er]) ∧ Below w.heap.size w w'

theorem alloc_two (w : World) (a b : Obj) : ((w.alloc a).alloc b).heap[w.heap.size + 1]? = some b := by
  have := heap_alloc_new (w.alloc a) b
  rwa [show (w.alloc a).heap.size = w.heap.size + 1 by simp] at this





def finW (W : World) (g3 g4 : Nat) (k s v : ByteArray) (p c : Int) : World := ((((W.setCell ⟨g3, 0, none⟩ (.string k)).setCell ⟨g3, 1, none⟩ (.string s)).setCell ⟨g3, 2, none⟩ (.string v)).setCell ⟨g4, 0, none⟩ (.int .i64 p)).setCell ⟨g4, 1, none⟩ (.int .i64 c)
theorem finW_row {W : World} {g3 g4 : Nat} {k s v k' s' v' : ByteArray} {p c : Int} (h3 : W.heap[g3]? = some (rowO k' s' v')) (hne : g3 ≠ g4) : (finW W g3 g4 k s v p c).heap[g3]? = some (rowO k s v) := by
  unfold finW
  rw [Below.heap_setCell _ _ _ _ hne, Below.heap_setCell _ _ _ _ hne, heap_setCell_same _ _ _ _ _ _ (heap_setCell_same _ _ _ _ _ _ (heap_setCell_same _ _ _ _ _ _ h3))]
  rfl
theorem finW_rid {W : World} {g3 g4 : Nat} {k s v : ByteArray} {p c p' c' : Int} (h4 : W.heap[g4]? = some (ridO p' c')) (hne : g4 ≠ g3) : (finW W g3 g4 k s v p c).heap[g4]? = some (ridO p c) := by
  have h5 : (((W.setCell ⟨g3, 0, none⟩ (.string k)).setCell ⟨g3, 1, none⟩ (.string s)).setCell ⟨g3, 2, none⟩ (.string v)).heap[g4]? = some (ridO p' c') := by
    rw [Below.heap_setCell _ _ _ _ hne, Below.heap_setCell _ _ _ _ hne, Below.heap_setCell _ _ _ _ hne]; exact h4
  unfold finW
  rw [heap_setCell_same _ _ _ _ _ _ (heap_setCell_same _ _ _ _ _ _ h5)]
  rfl
theorem finW_below {B : Nat} {w W : World} {g3 g4 : Nat} {k s v : ByteArray} {p c : Int} (h : Below B w W) (h3 : B ≤ g3) (h4 : B ≤ g4) : Below B w (finW W g3 g4 k s v p c) :=
  ((((h.setCell (p := ⟨g3, 0, none⟩) h3 _).setCell (p := ⟨g3, 1, none⟩) h3 _).setCell (p := ⟨g3, 2, none⟩) h3 _).setCell (p := ⟨g4, 0, none⟩) h4 _).setCell (p := ⟨g4, 1, none⟩) h4 _

/-- The world in which Read has its two results. -/
def Two (w W : World) : Prop := Below w.heap.size w W ∧ W.heap[w.heap.size]? = some (rowO ⟨#[]⟩ ⟨#[]⟩ ⟨#[]⟩) ∧ W.heap[w.heap.size + 1]? = some (ridO 0 0)
theorem two_new (w : World) : Two w ((w.alloc (rowO ⟨#[]⟩ ⟨#[]⟩ ⟨#[]⟩)).alloc (ridO 0 0)) := ⟨((Below.refl _ _).alloc (Nat.le_refl _) _).alloc (by simp) _, (Below.heap_alloc _ _ _ (by simp)).trans (heap_alloc_new w _), alloc_two w _ _⟩
theorem Two.lt {w W : World} (h : Two w W) : w.heap.size + 1 < W.heap.size := (Array.getElem?_eq_some_iff.1 h.2.2).1
theorem Two.on {w W W' : World} (h : Two w W) (hb : Below W.heap.size W W') : Two w W' :=
  ⟨h.1.trans (hb.mono (by have := h.lt; omega)), (hb.block _ (by have := h.lt; omega)).trans h.2.1, (hb.block _ h.lt).trans h.2.2⟩
theorem Two.cells {w W : World} (h : Two w W) : (W.cell? ⟨w.heap.size, 0, none⟩ = some (.string ⟨#[]⟩) ∧ W.cell? ⟨w.heap.size, 1, none⟩ = some (.string ⟨#[]⟩) ∧ W.cell? ⟨w.heap.size, 2, none⟩ = some (.string ⟨#[]⟩) ∧ W.cell? ⟨w.heap.size + 1, 0, none⟩ = some (.int .i64 0) ∧ W.cell? ⟨w.heap.size + 1, 1, none⟩ = some (.int .i64 0)) ∧
    W.frozen? ⟨w.heap.size, 0, none⟩ = false ∧ W.frozen? ⟨w.heap.size, 1, none⟩ = false ∧ W.frozen? ⟨w.heap.size, 2, none⟩ = false ∧ W.frozen? ⟨w.heap.size + 1, 0, none⟩ = false ∧ W.frozen? ⟨w.heap.size + 1, 1, none⟩ = false :=
  ⟨⟨(cell_of h.2.1 0).1, (cell_of h.2.1 1).1, (cell_of h.2.1 2).1, (cell_of h.2.2 0).1, (cell_of h.2.2 1).1⟩, (cell_of h.2.1 0).2, (cell_of h.2.1 1).2, (cell_of h.2.1 2).2, (cell_of h.2.2 0).2, (cell_of h.2.2 1).2⟩

theorem Pt.at0 {w : World} {b off n cap : Nat} {x : Int} {l : List Int} (h : Pt w (.slice (some ⟨b, off, none⟩) n cap) (x :: l)) : w.cell? ⟨b, off, none⟩ = some (.int .u8 x) ∧ b < w.heap.size := by
  obtain ⟨b', o', cap', e, _, h2, h3⟩ := h
  injection e with e1; injection e1 with e1; injection e1 with e1 e4; subst e1 e4
  exact ⟨h3 0 (by simp), h2⟩



theorem RowNo.of {w : World} {k s v : ByteArray} {e : Ending} {w' : World} (h : RowIs w k s v false e w') : RowNo w e w' := ⟨k, s, v, h⟩




end Go.Proofs.Ytmijdjlpfjfjoaa
