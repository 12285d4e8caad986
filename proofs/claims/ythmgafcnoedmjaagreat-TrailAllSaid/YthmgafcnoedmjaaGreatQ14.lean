/- TrailAll, a part. -/
import Derived.Test.YthmgafcnoedmjaaGreatQ7
import Derived.Laws.StructEq
import Derived.Deep.QuietTactic
import Derived.BigQuiet
namespace Go.Proofs.YthmgafcnoedmjaaGreat
open Go.RowKit
theorem inE_rid (W : World) (d : Nat) (p c p' c' : Int) : (Op.equalIn (d + 2) 38 (.agg #[.int .i64 p, .int .i64 c]) (.agg #[.int .i64 p', .int .i64 c'])).run Tryz.prog W = .ok (decide (p = p' ∧ c = c')) W := by
 have hS : Tryz.prog.underlying 38 = some (.struct (Tryz.prog.fieldsOf 38)) := by kernel_rfl
 have hH : Tryz.prog.stoodInHeld 38 = false := by kernel_rfl
 have hu : Tryz.prog.underlying 3 = some (.int .i64) := Tryz.underlying3
 rw [run_equalIn_agg W (d + 1) _ _ _ hS hH]
 simp only [Program.fieldsOf, Tryz.underlying38]
 go_simp
 by_cases h1 : p = p' <;> by_cases h2 : c = c' <;> simp [h1, h2]
end Go.Proofs.YthmgafcnoedmjaaGreat
namespace Go.Proofs.YthmgafcnoedmjaaGreat
open Go.RowKit
def EqRel {α : Type} (w : World) (xs ys : List α) (i : Value) (wr : World) : Prop := ∃ k : Nat, k ≤ xs.length ∧ i = .int .i64 k ∧ xs.take k = ys.take k ∧ Below w.heap.size w wr
end Go.Proofs.YthmgafcnoedmjaaGreat
namespace Go.Proofs.YthmgafcnoedmjaaGreat
open Go.RowKit
instance mvDec : DecidableEq Mv := inferInstanceAs (DecidableEq (Int × Int × Int × Int))
instance opnDec : DecidableEq Opn := inferInstanceAs (DecidableEq (Int × Int × List Mv))
theorem Els.mv {w : World} {v : Value} {ms : List Mv} (h : Els w v 4 (ms.map mvV)) : ∃ A c, v = .slice A ms.length c := by
 obtain ⟨A, c, e, _⟩ := h.form
 rw [List.length_map] at e
 exact ⟨A, c, e⟩
end Go.Proofs.YthmgafcnoedmjaaGreat
namespace Go.Proofs.YthmgafcnoedmjaaGreat
open Go.RowKit
def numsE (e : Ent) : List Int := [e.kind, e.txn, e.unit, e.half, e.prev, e.next, e.ap, e.ac, e.tp, e.tc]
def Bx2 (w W : World) (o o' : Obj) : Prop := Below w.heap.size w W ∧ W.heap[w.heap.size]? = some o ∧ W.heap[w.heap.size + 1]? = some o'
theorem Bx2.new (w : World) (o o' : Obj) : Bx2 w ((w.alloc o).alloc o') o o' := ⟨((Below.refl _ _).alloc (Nat.le_refl _) _).alloc (by simp) _, (Below.heap_alloc _ _ _ (by simp)).trans (heap_alloc_new w _), heap_alloc2_new w o o'⟩
theorem Bx2.lt {w W : World} {o o' : Obj} (h : Bx2 w W o o') : w.heap.size + 1 < W.heap.size := (Array.getElem?_eq_some_iff.1 h.2.2).1
theorem Bx2.on {w W W' : World} {o o' : Obj} (h : Bx2 w W o o') (hb : Below W.heap.size W W') : Bx2 w W' o o' :=
 ⟨h.1.trans (hb.mono (by have := h.lt; omega)), (hb.block _ (by have := h.lt; omega)).trans h.2.1, (hb.block _ h.lt).trans h.2.2⟩
end Go.Proofs.YthmgafcnoedmjaaGreat
namespace Go.Proofs.YthmgafcnoedmjaaGreat
open Go.RowKit
def sameE (a b : Ent) : Bool := decide (numsE a = numsE b) && (decide (a.old = b.old) && (decide (a.new = b.new) && (decide (a.moves = b.moves) && (decide (a.lives = b.lives) && (decide (a.dirty = b.dirty) && decide (a.opens = b.opens))))))
theorem sameE_iff (a b : Ent) : sameE a b = true ↔ a = b := by
 unfold sameE
 simp only [Bool.and_eq_true, decide_eq_true_eq]
 constructor
 ·rintro ⟨h, h1, h2, h3, h4, h5, h6⟩
  unfold numsE at h
  simp only [List.cons.injEq, and_true] at h
  obtain ⟨q0, q1, q2, q3, q4, q5, q6, q7, q8, q9⟩ := h
  cases a; cases b
  simp only at *
  subst q0 q1 q2 q3 q4 q5 q6 q7 q8 q9 h1 h2 h3 h4 h5 h6
  rfl
 ·rintro rfl
  exact ⟨rfl, rfl, rfl, rfl, rfl, rfl, rfl⟩
structure EntLen (e : Ent) : Prop where
 moves : e.moves.length ≤ 9223372036854775807
 lives : e.lives.length ≤ 9223372036854775807
 dirty : e.dirty.length ≤ 9223372036854775807
 opens : e.opens.length ≤ 9223372036854775807
 inner : ∀ o ∈ e.opens, o.2.2.length ≤ 9223372036854775807
end Go.Proofs.YthmgafcnoedmjaaGreat
