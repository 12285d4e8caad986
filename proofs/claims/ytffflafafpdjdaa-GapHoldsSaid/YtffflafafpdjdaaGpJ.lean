/- The iterator over the cells of some pages: what it gives as a value; the nil map's. -/
import Derived.Test.YtffflafafpdjdaaGpI
namespace Go.Proofs.Ytffflafafpdjdaa
open Go.RowKit Go.Shelf
attribute [local go_sem] Oper.semAt_some

set_option maxRecDepth 100000 in
theorem all1_nil {α : Type} (n : Nat) (_hn : 1 ≤ n) (l bm bf bt bc : Nat) (J Jx : List α → World → Prop)
    (W : World) (hB : W.cell? ⟨bm, 0, none⟩ = some (.pointer none)) (h0 : J [] W) :
    CallsIn Fence.wide n Try.prog 28 #[.func (.yield l) #[] #[], .pointer (some ⟨bm, 0, none⟩), .pointer (some ⟨bf, 0, none⟩), .pointer (some ⟨bt, 0, none⟩), .pointer (some ⟨bc, 0, none⟩)] W fun e W' => (∃ v, e = .returned v) ∧
      ((∃ ys, ys = [] ∧ J ys W') ∨ (∃ pre, pre <+: [] ∧ Jx pre W')) := by
  refine callsIn_of_wp Try.func28 rfl trivial ?_ rfl
  simp only [Try.ntmps28, List.size_toArray, List.length_cons, List.length_nil, Nat.reduceAdd, Nat.reduceSub, Array.replicate_succ, Array.replicate_zero, List.push_toArray, List.append_toArray, List.nil_append, List.cons_append]
  gi_wp2
  refine bodyPost_ret (results_none rfl _ _ _) rfl ?_
  exact ⟨⟨_, rfl⟩, .inl ⟨[], rfl, h0⟩⟩

/-- What all hands back: a closure over four boxes. -/
def clo (b : Nat) : Value := .func (.func 28) #[] #[.pointer (some ⟨b, 0, none⟩), .pointer (some ⟨b + 1, 0, none⟩), .pointer (some ⟨b + 2, 0, none⟩), .pointer (some ⟨b + 3, 0, none⟩)]
set_option maxRecDepth 100000 in
theorem all_in (n : Nat) (p0 : Option Addr) (from' to' cells : Int) (w : World) :
    CallsIn Fence.wide n Try.prog 25 #[.pointer p0, .int .i64 from', .int .i64 to', .int .i64 cells] w fun e w' => e = .returned (clo w.heap.size) ∧ Below w.heap.size w w' ∧ w'.heap.size = w.heap.size + 4 ∧
      w'.cell? ⟨w.heap.size, 0, none⟩ = some (.pointer p0) ∧ w'.cell? ⟨w.heap.size + 1, 0, none⟩ = some (.int .i64 from') ∧ w'.cell? ⟨w.heap.size + 2, 0, none⟩ = some (.int .i64 to') ∧ w'.cell? ⟨w.heap.size + 3, 0, none⟩ = some (.int .i64 cells) := by
  refine callsIn_of_wp Try.func25 rfl trivial ?_ rfl
  simp only [Try.ntmps25, List.size_toArray, List.length_cons, List.length_nil, Nat.reduceAdd, Nat.reduceSub, Array.replicate_succ, Array.replicate_zero, List.push_toArray, List.append_toArray, List.nil_append, List.cons_append]
  gi_wp2
  go_ret
  have s1 : ∀ (x : World) (cs : Array Value) (t : TypeId), (x.alloc (.cells cs t)).heap.size = x.heap.size + 1 := fun x cs t => by simp
  have B1 := (Below.refl w.heap.size w).alloc (Nat.le_refl _) (.cells #[.pointer p0] 24)
  have B2 := B1.alloc (by rw [s1]; omega) (.cells #[.int .i64 from'] 3)
  have B3 := B2.alloc (by rw [s1, s1]; omega) (.cells #[.int .i64 to'] 3)
  have B4 := B3.alloc (by rw [s1, s1, s1]; omega) (.cells #[.int .i64 cells] 3)
  refine ⟨rfl, B4, by rw [s1, s1, s1, s1], ?_, ?_, ?_, ?_⟩
  · rw [al_old (by rw [s1, s1, s1]; show w.heap.size < _; omega), al_old (by rw [s1, s1]; show w.heap.size < _; omega), al_old (by rw [s1]; show w.heap.size < _; omega)]
    exact (al_new w _ _ 0).1
  · rw [al_old (by rw [s1, s1, s1]; show w.heap.size + 1 < _; omega), al_old (by rw [s1, s1]; show w.heap.size + 1 < _; omega)]
    have := (al_new (w.alloc (.cells #[.pointer p0] 24)) #[.int .i64 from'] 3 0).1
    rw [s1] at this
    exact this
  · rw [al_old (by rw [s1, s1, s1]; show w.heap.size + 2 < _; omega)]
    have := (al_new ((w.alloc (.cells #[.pointer p0] 24)).alloc (.cells #[.int .i64 from'] 3)) #[.int .i64 to'] 3 0).1
    rw [s1, s1] at this
    exact this
  · have := (al_new (((w.alloc (.cells #[.pointer p0] 24)).alloc (.cells #[.int .i64 from'] 3)).alloc (.cells #[.int .i64 to'] 3)) #[.int .i64 cells] 3 0).1
    rw [s1, s1, s1] at this
    exact this

/-- The boxes of a closure. -/
def bxs (b : Nat) : Array Value := #[.pointer (some ⟨b, 0, none⟩), .pointer (some ⟨b + 1, 0, none⟩), .pointer (some ⟨b + 2, 0, none⟩), .pointer (some ⟨b + 3, 0, none⟩)]
theorem all_stops (n : Nat) (hn : 1 ≤ n) (b g N : Nat) (from' to' cells : Int) (hN : N ≤ 32) (w : World) (hB : Box4 w b g N from' to' cells) (hg : g < w.heap.size) (hb : b + 4 ≤ w.heap.size) :
    SeqStopsK Fence.wide n Try.prog 28 (bxs b) encR (Kq g b) (fun ys => ys = All N from' to' cells) (fun pre => pre <+: All N from' to' cells) 200 w := fun l J Jx W hW hJ _ hY h0 =>
  all1_in n hn l b g N from' to' cells hN J Jx (fun s W m h => hJ s W _ none h ⟨rfl, rfl, rfl, Nat.le_refl _, fun _ _ _ => rfl⟩ (fun r e => by cases e)) hY W (hB.below (Kq.of_below hW hg hb)) h0
theorem nil_stops {α : Type} {encs : α → Array Value} {Kp : World → World → Prop} (n : Nat) (hn : 1 ≤ n) (b : Nat) (w : World) (hB : w.cell? ⟨b, 0, none⟩ = some (.pointer none)) (hb : b < w.heap.size) :
    SeqStopsK Fence.wide n Try.prog 28 (bxs b) encs Kp (fun ys => ys = []) (fun pre => pre <+: []) 200 w := fun l J Jx W hW _ _ _ h0 =>
  all1_nil n hn l b (b + 1) (b + 2) (b + 3) J Jx W ((hW.cell (p := ⟨b, 0, none⟩) hb).trans hB) h0
theorem Kq_b {g b : Nat} {w : World} (hg : g < w.heap.size) (hb : b + 4 ≤ w.heap.size) (W : World) (l : Nat) (o o' : Obj) (hl : w.heap.size ≤ l) (h : W.heap[l]? = some o) (_ : o.isCells = false) (_ : o.isWalk = false) : Kq g b W (W.putObj l o') := fun k hk => by
  exact (grownBy_putObj' W l o').block k (by have := (Array.getElem?_eq_some_iff.1 h).1; omega) (fun e => by cases e; omega)
end Go.Proofs.Ytffflafafpdjdaa
