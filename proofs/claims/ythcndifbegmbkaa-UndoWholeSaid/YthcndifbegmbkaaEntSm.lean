/- Structs compared; slices.Equal at moves, lives, dirty pages; Open units compared; sameNumbers; Same. -/
import Derived.Test.YthcndifbegmbkaaEntT
import Derived.Laws.StructEq
import Derived.Deep.QuietTactic
import Derived.BigQuiet
namespace Go.Proofs.Ythcndifbegmbkaa
open Go.RowKit

theorem infoRid2 : (Try.prog.info? 23).map (·.size) = some 2 := by kernel_rfl

theorem eqE_rid (W : World) (p c p' c' : Int) : (binOp .eql 23 (.agg #[.int .i64 p, .int .i64 c]) (.agg #[.int .i64 p', .int .i64 c'])).run Try.prog W = .ok (.bool (decide (p = p' ∧ c = c'))) W := by
  have hS : Try.prog.underlying 23 = some (.struct (Try.prog.fieldsOf 23)) := by kernel_rfl
  have hH : Try.prog.stoodInHeld 23 = false := by kernel_rfl
  have hu : Try.prog.underlying 3 = some (.int .i64) := Try.underlying3
  rw [run_eql_struct, show (10000 : Nat) = 9999 + 1 from rfl, run_equalIn_agg W 9999 _ _ _ hS hH]
  simp only [Program.fieldsOf, Try.underlying23]
  go_simp
  by_cases h1 : p = p' <;> by_cases h2 : c = c' <;> simp [h1, h2]

theorem neE_dirty (W : World) (m n : Dt) : (binOp .neq 53 (.agg #[.int .i64 m.1, .int .i64 m.2]) (.agg #[.int .i64 n.1, .int .i64 n.2])).run Try.prog W = .ok (.bool (!decide (m = n))) W := by
  obtain ⟨a, b⟩ := m
  obtain ⟨a', b'⟩ := n
  have hS : Try.prog.underlying 53 = some (.struct (Try.prog.fieldsOf 53)) := by kernel_rfl
  have hH : Try.prog.stoodInHeld 53 = false := by kernel_rfl
  have hu : Try.prog.underlying 3 = some (.int .i64) := Try.underlying3
  rw [run_neq_struct, show (10000 : Nat) = 9999 + 1 from rfl, run_equalIn_agg W 9999 _ _ _ hS hH]
  simp only [Program.fieldsOf, Try.underlying53]
  go_simp
  by_cases h1 : a = a' <;> by_cases h2 : b = b' <;> simp [h1, h2]

theorem neE_live (W : World) (m n : Lv) : (binOp .neq 51 (.agg #[.int .i64 m.1, .int .i64 m.2.1, .int .i64 m.2.2.1, .bool m.2.2.2]) (.agg #[.int .i64 n.1, .int .i64 n.2.1, .int .i64 n.2.2.1, .bool n.2.2.2])).run Try.prog W = .ok (.bool (!decide (m = n))) W := by
  obtain ⟨a, b, c, d⟩ := m
  obtain ⟨a', b', c', d'⟩ := n
  have hS : Try.prog.underlying 51 = some (.struct (Try.prog.fieldsOf 51)) := by kernel_rfl
  have hH : Try.prog.stoodInHeld 51 = false := by kernel_rfl
  have hu : Try.prog.underlying 3 = some (.int .i64) := Try.underlying3
  have hb : Try.prog.underlying 4 = some .bool := Try.underlying4
  rw [run_neq_struct, show (10000 : Nat) = 9999 + 1 from rfl, run_equalIn_agg W 9999 _ _ _ hS hH]
  simp only [Program.fieldsOf, Try.underlying51]
  go_simp
  by_cases h1 : a = a' <;> by_cases h2 : b = b' <;> by_cases h3 : c = c' <;> by_cases h4 : d = d' <;> simp [h1, h2, h3, h4]

theorem inE_rid (W : World) (d : Nat) (p c p' c' : Int) : (Op.equalIn (d + 2) 23 (.agg #[.int .i64 p, .int .i64 c]) (.agg #[.int .i64 p', .int .i64 c'])).run Try.prog W = .ok (decide (p = p' ∧ c = c')) W := by
  have hS : Try.prog.underlying 23 = some (.struct (Try.prog.fieldsOf 23)) := by kernel_rfl
  have hH : Try.prog.stoodInHeld 23 = false := by kernel_rfl
  have hu : Try.prog.underlying 3 = some (.int .i64) := Try.underlying3
  rw [run_equalIn_agg W (d + 1) _ _ _ hS hH]
  simp only [Program.fieldsOf, Try.underlying23]
  go_simp
  by_cases h1 : p = p' <;> by_cases h2 : c = c' <;> simp [h1, h2]

theorem neE_move (W : World) (m n : Mv) : (binOp .neq 49 (.agg #[.int .i64 m.1, .int .i64 m.2.1, .int .i64 m.2.2.1, .int .i64 m.2.2.2]) (.agg #[.int .i64 n.1, .int .i64 n.2.1, .int .i64 n.2.2.1, .int .i64 n.2.2.2])).run Try.prog W = .ok (.bool (!decide (m = n))) W := by
  obtain ⟨a, b, c, d⟩ := m
  obtain ⟨a', b', c', d'⟩ := n
  have hS : Try.prog.underlying 49 = some (.struct (Try.prog.fieldsOf 49)) := by kernel_rfl
  have hH : Try.prog.stoodInHeld 49 = false := by kernel_rfl
  rw [run_neq_struct, show (10000 : Nat) = 9999 + 1 from rfl, run_equalIn_agg W 9999 _ _ _ hS hH]
  simp only [Program.fieldsOf, Try.underlying49]
  have r1 := fun W => inE_rid W 9997 a b a' b'
  have r2 := fun W => inE_rid W 9997 c d c' d'
  have i1 := infoRid2
  clear hS hH
  go_simp
  by_cases h1 : a = a' <;> by_cases h2 : b = b' <;> by_cases h3 : c = c' <;> by_cases h4 : d = d' <;> simp [h1, h2, h3, h4]

theorem in_of_ne {t : TypeId} {W : World} {xs ys : Array Value} {b : Bool} (h : (binOp .neq t (.agg xs) (.agg ys)).run Try.prog W = .ok (.bool (!b)) W) : (Op.equalIn 10000 t (.agg xs) (.agg ys)).run Try.prog W = .ok b W := by
  rw [run_neq_struct] at h
  generalize (Op.equalIn 10000 t (.agg xs) (.agg ys)).run Try.prog W = r at h
  cases r with
  | ok c w' =>
    simp only [Result.andThen] at h
    injection h with h1 h2
    subst h2
    injection h1 with h3
    have : c = b := by cases c <;> cases b <;> simp_all
    rw [this]
  | _ => simp [Result.andThen] at h
end Go.Proofs.Ythcndifbegmbkaa
namespace Go.Proofs.Ythcndifbegmbkaa
open Go.RowKit

def EqRel {α : Type} (w : World) (xs ys : List α) (i : Value) (wr : World) : Prop := ∃ k : Nat, k ≤ xs.length ∧ i = .int .i64 k ∧ xs.take k = ys.take k ∧ Below w.heap.size w wr




end Go.Proofs.Ythcndifbegmbkaa
namespace Go.Proofs.Ythcndifbegmbkaa
open Go.RowKit

instance mvDec : DecidableEq Mv := inferInstanceAs (DecidableEq (Int × Int × Int × Int))
instance opnDec : DecidableEq Opn := inferInstanceAs (DecidableEq (Int × Int × List Mv))


theorem Els.mv {w : World} {v : Value} {ms : List Mv} (h : Els w v 4 (ms.map mvV)) : ∃ A c, v = .slice A ms.length c := by
  obtain ⟨A, c, e, _⟩ := h.form
  rw [List.length_map] at e
  exact ⟨A, c, e⟩


end Go.Proofs.Ythcndifbegmbkaa
namespace Go.Proofs.Ythcndifbegmbkaa
open Go.RowKit

def numsE (e : Ent) : List Int := [e.kind, e.txn, e.unit, e.half, e.prev, e.next, e.ap, e.ac, e.tp, e.tc]

/-- The world behind two boxes. -/
def Bx2 (w W : World) (o o' : Obj) : Prop := Below w.heap.size w W ∧ W.heap[w.heap.size]? = some o ∧ W.heap[w.heap.size + 1]? = some o'
theorem Bx2.new (w : World) (o o' : Obj) : Bx2 w ((w.alloc o).alloc o') o o' := ⟨((Below.refl _ _).alloc (Nat.le_refl _) _).alloc (by simp) _, (Below.heap_alloc _ _ _ (by simp)).trans (heap_alloc_new w _), heap_alloc2_new w o o'⟩
theorem Bx2.lt {w W : World} {o o' : Obj} (h : Bx2 w W o o') : w.heap.size + 1 < W.heap.size := (Array.getElem?_eq_some_iff.1 h.2.2).1
theorem Bx2.on {w W W' : World} {o o' : Obj} (h : Bx2 w W o o') (hb : Below W.heap.size W W') : Bx2 w W' o o' :=
  ⟨h.1.trans (hb.mono (by have := h.lt; omega)), (hb.block _ (by have := h.lt; omega)).trans h.2.1, (hb.block _ h.lt).trans h.2.2⟩


end Go.Proofs.Ythcndifbegmbkaa
namespace Go.Proofs.Ythcndifbegmbkaa
open Go.RowKit

def sameE (a b : Ent) : Bool := decide (numsE a = numsE b) && (decide (a.old = b.old) && (decide (a.new = b.new) && (decide (a.moves = b.moves) && (decide (a.lives = b.lives) && (decide (a.dirty = b.dirty) && decide (a.opens = b.opens))))))
theorem sameE_iff (a b : Ent) : sameE a b = true ↔ a = b := by
  unfold sameE
  simp only [Bool.and_eq_true, decide_eq_true_eq]
  constructor
  · rintro ⟨h, h1, h2, h3, h4, h5, h6⟩
    unfold numsE at h
    simp only [List.cons.injEq, and_true] at h
    obtain ⟨q0, q1, q2, q3, q4, q5, q6, q7, q8, q9⟩ := h
    cases a; cases b
    simp only at *
    subst q0 q1 q2 q3 q4 q5 q6 q7 q8 q9 h1 h2 h3 h4 h5 h6
    rfl
  · rintro rfl
    exact ⟨rfl, rfl, rfl, rfl, rfl, rfl, rfl⟩

/-- Lists that are no longer than memory may be. -/
structure EntLen (e : Ent) : Prop where
  moves : e.moves.length ≤ 9223372036854775807
  lives : e.lives.length ≤ 9223372036854775807
  dirty : e.dirty.length ≤ 9223372036854775807
  opens : e.opens.length ≤ 9223372036854775807
  inner : ∀ o ∈ e.opens, o.2.2.length ≤ 9223372036854775807


end Go.Proofs.Ythcndifbegmbkaa
