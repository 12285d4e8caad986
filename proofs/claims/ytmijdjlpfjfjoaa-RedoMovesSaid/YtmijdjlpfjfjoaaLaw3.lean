/- Structs compared; the boxes of a law's arguments. -/
import Derived.Test.YtmijdjlpfjfjoaaCellT
import Derived.Test.YtmijdjlpfjfjoaaRow
import Derived.Lib.SmallJoins
import Derived.Laws.StructEq
namespace Go.Proofs.Ytmijdjlpfjfjoaa
open Go.RowKit Go.Joins Go.ChangeShapes Go.WideShapes

theorem toList_iff (a b : ByteArray) : a.toList = b.toList ↔ a = b := by
  refine ⟨fun e => ?_, fun e => by rw [e]⟩
  rw [toList_eq, toList_eq] at e
  cases a; cases b
  simp only at e
  congr
  exact Array.ext' e

theorem eql_row (W : World) (k s v k' s' v' : ByteArray) : (binOp .eql 52 (.agg #[.string k, .string s, .string v]) (.agg #[.string k', .string s', .string v'])).run Try.prog W = .ok (.bool (decide (k = k' ∧ s = s' ∧ v = v'))) W := by
  have hS : Try.prog.underlying 52 = some (.struct (Try.prog.fieldsOf 52)) := by kernel_rfl
  have hH : Try.prog.stoodInHeld 52 = false := by kernel_rfl
  have hu : Try.prog.underlying 9 = some .string := Try.underlying9
  rw [run_eql_struct, show (10000 : Nat) = 9999 + 1 from rfl, run_equalIn_agg W 9999 _ _ _ hS hH]
  simp only [Program.fieldsOf, Try.underlying52]
  go_simp
  simp only [toList_iff]
  by_cases h1 : k = k' <;> by_cases h2 : s = s' <;> by_cases h3 : v = v' <;> simp [h1, h2, h3]

theorem eql_rid (W : World) (p c p' c' : Int) : (binOp .eql 25 (.agg #[.int .i64 p, .int .i64 c]) (.agg #[.int .i64 p', .int .i64 c'])).run Try.prog W = .ok (.bool (decide (p = p' ∧ c = c'))) W := by
  have hS : Try.prog.underlying 25 = some (.struct (Try.prog.fieldsOf 25)) := by kernel_rfl
  have hH : Try.prog.stoodInHeld 25 = false := by kernel_rfl
  have hu : Try.prog.underlying 3 = some (.int .i64) := Try.underlying3
  rw [run_eql_struct, show (10000 : Nat) = 9999 + 1 from rfl, run_equalIn_agg W 9999 _ _ _ hS hH]
  simp only [Program.fieldsOf, Try.underlying25]
  go_simp
  by_cases h1 : p = p' <;> by_cases h2 : c = c' <;> simp [h1, h2]

/-- The world in which a law's two boxes lie. -/
def Bx (w W : World) (o1 o2 : Obj) : Prop := Below w.heap.size w W ∧ W.heap[w.heap.size]? = some o1 ∧ W.heap[w.heap.size + 1]? = some o2
theorem bx_new (w : World) (o1 o2 : Obj) : Bx w ((w.alloc o1).alloc o2) o1 o2 := ⟨((Below.refl _ _).alloc (Nat.le_refl _) _).alloc (by simp) _, (Below.heap_alloc _ _ _ (by simp)).trans (heap_alloc_new w _), alloc_two w _ _⟩
theorem Bx.lt {w W : World} {o1 o2 : Obj} (h : Bx w W o1 o2) : w.heap.size + 1 < W.heap.size := (Array.getElem?_eq_some_iff.1 h.2.2).1
theorem Bx.on {w W W' : World} {o1 o2 : Obj} (h : Bx w W o1 o2) (hb : Below W.heap.size W W') : Bx w W' o1 o2 :=
  ⟨h.1.trans (hb.mono (by have := h.lt; omega)), (hb.block _ (by have := h.lt; omega)).trans h.2.1, (hb.block _ h.lt).trans h.2.2⟩

-- A row, or a place, by value: what comes in.
section
variable {H : Type} {enc : TypeId × Value → H} {w : World} {base : Nat} {spare : Nat → Bool} {held : Bool}
set_option maxRecDepth 100000 in
theorem open_row {r : Reach} {b0 : Nat} {v : Value} {d : DataW H} {p : List MemPlace} (hv : Value.okWide Try.prog w r b0 52 v) (h : DataW.Trod enc Try.prog w base spare held 52 v d p) : ∃ k s t : ByteArray, v = .agg #[.string k, .string s, .string t] := by
  obtain ⟨v0, v1, v2, y0, y1, y2, n, rfl, _, _, h0, h1, h2⟩ := open_agg3 Try.underlying52 (by kernel_rfl) (by kernel_rfl) hv h
  obtain ⟨k, e0, _⟩ := DataW.trod_string Try.underlying9 h0
  obtain ⟨s, e1, _⟩ := DataW.trod_string Try.underlying9 h1
  obtain ⟨t, e2, _⟩ := DataW.trod_string Try.underlying9 h2
  simp at e0 e1 e2
  exact ⟨k, s, t, by rw [e0, e1, e2]⟩
set_option maxRecDepth 100000 in
theorem open_rid {r : Reach} {b0 : Nat} {v : Value} {d : DataW H} {p : List MemPlace} (hv : Value.okWide Try.prog w r b0 25 v) (h : DataW.Trod enc Try.prog w base spare held 25 v d p) : ∃ a c : Int, v = .agg #[.int .i64 a, .int .i64 c] := by
  obtain ⟨v0, v1, y0, y1, n, rfl, _, _, h0, h1⟩ := open_agg2 Try.underlying25 (by kernel_rfl) (by kernel_rfl) hv h
  obtain ⟨a, e0, _⟩ := DataW.trod_int Try.underlying3 h0
  obtain ⟨c, e1, _⟩ := DataW.trod_int Try.underlying3 h1
  simp at e0 e1
  exact ⟨a, c, by rw [e0, e1]⟩
end
end Go.Proofs.Ytmijdjlpfjfjoaa
