/- sameNumbers. -/
import Derived.Test.YtbjfhlcfnohiiaaEntQo
namespace Go.Proofs.Ytbjfhlcfnohiiaa
open Go.RowKit

def numsE (e : Ent) : List Int := [e.kind, e.txn, e.unit, e.half, e.prev, e.next, e.ap, e.ac, e.tp, e.tc]

/-- The world behind two boxes. -/
def Bx2 (w W : World) (o o' : Obj) : Prop := Below w.heap.size w W ∧ W.heap[w.heap.size]? = some o ∧ W.heap[w.heap.size + 1]? = some o'
theorem Bx2.new (w : World) (o o' : Obj) : Bx2 w ((w.alloc o).alloc o') o o' := ⟨((Below.refl _ _).alloc (Nat.le_refl _) _).alloc (by simp) _, (Below.heap_alloc _ _ _ (by simp)).trans (heap_alloc_new w _), heap_alloc2_new w o o'⟩
theorem Bx2.lt {w W : World} {o o' : Obj} (h : Bx2 w W o o') : w.heap.size + 1 < W.heap.size := (Array.getElem?_eq_some_iff.1 h.2.2).1
theorem Bx2.on {w W W' : World} {o o' : Obj} (h : Bx2 w W o o') (hb : Below W.heap.size W W') : Bx2 w W' o o' :=
  ⟨h.1.trans (hb.mono (by have := h.lt; omega)), (hb.block _ (by have := h.lt; omega)).trans h.2.1, (hb.block _ h.lt).trans h.2.2⟩

set_option maxRecDepth 100000 in
set_option maxHeartbeats 4000000 in
theorem sameNums_any (w : World) (a b : Ent) {A1 A2 A3 A4 A5 A6 B1 B2 B3 B4 B5 B6 : Option Addr} {n1 c1 n2 c2 n3 c3 n4 c4 n5 c5 n6 c6 m1 d1 m2 d2 m3 d3 m4 d4 m5 d5 m6 d6 : Nat} :
    Calls Try.prog 41 #[.agg (entC a (.slice A1 n1 c1) (.slice A2 n2 c2) (.slice A3 n3 c3) (.slice A4 n4 c4) (.slice A5 n5 c5) (.slice A6 n6 c6)), .agg (entC b (.slice B1 m1 d1) (.slice B2 m2 d2) (.slice B3 m3 d3) (.slice B4 m4 d4) (.slice B5 m5 d5) (.slice B6 m6 d6))] w fun e w' => e = .returned (.bool (decide (numsE a = numsE b))) ∧ Below w.heap.size w w' := by
  obtain ⟨W, hW⟩ : ∃ W, W = (w.alloc (entO a (.slice A1 n1 c1) (.slice A2 n2 c2) (.slice A3 n3 c3) (.slice A4 n4 c4) (.slice A5 n5 c5) (.slice A6 n6 c6))).alloc (entO b (.slice B1 m1 d1) (.slice B2 m2 d2) (.slice B3 m3 d3) (.slice B4 m4 d4) (.slice B5 m5 d5) (.slice B6 m6 d6)) := ⟨_, rfl⟩
  have HB : Hid (Bx2 w W (entO a (.slice A1 n1 c1) (.slice A2 n2 c2) (.slice A3 n3 c3) (.slice A4 n4 c4) (.slice A5 n5 c5) (.slice A6 n6 c6)) (entO b (.slice B1 m1 d1) (.slice B2 m2 d2) (.slice B3 m3 d3) (.slice B4 m4 d4) (.slice B5 m5 d5) (.slice B6 m6 d6))) := by rw [hW]; exact Bx2.new w _ _
  have hcase : (a.kind = b.kind ∧ a.txn = b.txn ∧ a.unit = b.unit ∧ a.half = b.half ∧ a.prev = b.prev ∧ a.next = b.next ∧ a.ap = b.ap ∧ a.ac = b.ac ∧ a.tp = b.tp ∧ a.tc = b.tc) ∨ (¬ a.kind = b.kind) ∨ (a.kind = b.kind ∧ ¬ a.txn = b.txn) ∨ (a.kind = b.kind ∧ a.txn = b.txn ∧ ¬ a.unit = b.unit) ∨ (a.kind = b.kind ∧ a.txn = b.txn ∧ a.unit = b.unit ∧ ¬ a.half = b.half) ∨ (a.kind = b.kind ∧ a.txn = b.txn ∧ a.unit = b.unit ∧ a.half = b.half ∧ ¬ a.prev = b.prev) ∨ (a.kind = b.kind ∧ a.txn = b.txn ∧ a.unit = b.unit ∧ a.half = b.half ∧ a.prev = b.prev ∧ ¬ a.next = b.next) ∨ (a.kind = b.kind ∧ a.txn = b.txn ∧ a.unit = b.unit ∧ a.half = b.half ∧ a.prev = b.prev ∧ a.next = b.next ∧ ¬ a.ap = b.ap) ∨ (a.kind = b.kind ∧ a.txn = b.txn ∧ a.unit = b.unit ∧ a.half = b.half ∧ a.prev = b.prev ∧ a.next = b.next ∧ a.ap = b.ap ∧ ¬ a.ac = b.ac) ∨ (a.kind = b.kind ∧ a.txn = b.txn ∧ a.unit = b.unit ∧ a.half = b.half ∧ a.prev = b.prev ∧ a.next = b.next ∧ a.ap = b.ap ∧ a.ac = b.ac ∧ ¬ a.tp = b.tp) ∨ (a.kind = b.kind ∧ a.txn = b.txn ∧ a.unit = b.unit ∧ a.half = b.half ∧ a.prev = b.prev ∧ a.next = b.next ∧ a.ap = b.ap ∧ a.ac = b.ac ∧ a.tp = b.tp ∧ ¬ a.tc = b.tc) := by
    by_cases q0 : a.kind = b.kind
    rotate_left
    · simp [q0]
    by_cases q1 : a.txn = b.txn
    rotate_left
    · simp [q1, q0]
    by_cases q2 : a.unit = b.unit
    rotate_left
    · simp [q2, q0, q1]
    by_cases q3 : a.half = b.half
    rotate_left
    · simp [q3, q0, q1, q2]
    by_cases q4 : a.prev = b.prev
    rotate_left
    · simp [q4, q0, q1, q2, q3]
    by_cases q5 : a.next = b.next
    rotate_left
    · simp [q5, q0, q1, q2, q3, q4]
    by_cases q6 : a.ap = b.ap
    rotate_left
    · simp [q6, q0, q1, q2, q3, q4, q5]
    by_cases q7 : a.ac = b.ac
    rotate_left
    · simp [q7, q0, q1, q2, q3, q4, q5, q6]
    by_cases q8 : a.tp = b.tp
    rotate_left
    · simp [q8, q0, q1, q2, q3, q4, q5, q6, q7]
    by_cases q9 : a.tc = b.tc
    rotate_left
    · simp [q9, q0, q1, q2, q3, q4, q5, q6, q7, q8]
    exact .inl ⟨q0, q1, q2, q3, q4, q5, q6, q7, q8, q9⟩
  rcases hcase with ⟨q0, q1, q2, q3, q4, q5, q6, q7, q8, q9⟩ | q0 | ⟨q0, q1⟩ | ⟨q0, q1, q2⟩ | ⟨q0, q1, q2, q3⟩ | ⟨q0, q1, q2, q3, q4⟩ | ⟨q0, q1, q2, q3, q4, q5⟩ | ⟨q0, q1, q2, q3, q4, q5, q6⟩ | ⟨q0, q1, q2, q3, q4, q5, q6, q7⟩ | ⟨q0, q1, q2, q3, q4, q5, q6, q7, q8⟩ | ⟨q0, q1, q2, q3, q4, q5, q6, q7, q8, q9⟩
  · have HD : Hid (decide (numsE a = numsE b) = true) := Lib.hid (decide_eq_true (by unfold numsE; rw [q0, q1, q2, q3, q4, q5, q6, q7, q8, q9]))
    have x0 : W.cell? ⟨w.heap.size, 0, none⟩ = some (.int .i64 a.kind) := (cell_of HB.out.2.1 0).1
    have y0 : W.cell? ⟨w.heap.size + 1, 0, none⟩ = some (.int .i64 b.kind) := (cell_of HB.out.2.2 0).1
    have x1 : W.cell? ⟨w.heap.size, 1, none⟩ = some (.int .i64 a.txn) := (cell_of HB.out.2.1 1).1
    have y1 : W.cell? ⟨w.heap.size + 1, 1, none⟩ = some (.int .i64 b.txn) := (cell_of HB.out.2.2 1).1
    have x2 : W.cell? ⟨w.heap.size, 2, none⟩ = some (.int .i64 a.unit) := (cell_of HB.out.2.1 2).1
    have y2 : W.cell? ⟨w.heap.size + 1, 2, none⟩ = some (.int .i64 b.unit) := (cell_of HB.out.2.2 2).1
    have x3 : W.cell? ⟨w.heap.size, 3, none⟩ = some (.int .i64 a.half) := (cell_of HB.out.2.1 3).1
    have y3 : W.cell? ⟨w.heap.size + 1, 3, none⟩ = some (.int .i64 b.half) := (cell_of HB.out.2.2 3).1
    have x4 : W.cell? ⟨w.heap.size, 4, none⟩ = some (.int .i64 a.prev) := (cell_of HB.out.2.1 4).1
    have y4 : W.cell? ⟨w.heap.size + 1, 4, none⟩ = some (.int .i64 b.prev) := (cell_of HB.out.2.2 4).1
    have x5 : W.cell? ⟨w.heap.size, 5, none⟩ = some (.int .i64 a.next) := (cell_of HB.out.2.1 5).1
    have y5 : W.cell? ⟨w.heap.size + 1, 5, none⟩ = some (.int .i64 b.next) := (cell_of HB.out.2.2 5).1
    have x6 : W.cell? ⟨w.heap.size, 6, none⟩ = some (.int .i64 a.ap) := (cell_of HB.out.2.1 6).1
    have y6 : W.cell? ⟨w.heap.size + 1, 6, none⟩ = some (.int .i64 b.ap) := (cell_of HB.out.2.2 6).1
    have x7 : W.cell? ⟨w.heap.size, 7, none⟩ = some (.int .i64 a.ac) := (cell_of HB.out.2.1 7).1
    have y7 : W.cell? ⟨w.heap.size + 1, 7, none⟩ = some (.int .i64 b.ac) := (cell_of HB.out.2.2 7).1
    have x8 : W.cell? ⟨w.heap.size, 8, none⟩ = some (.int .i64 a.tp) := (cell_of HB.out.2.1 8).1
    have y8 : W.cell? ⟨w.heap.size + 1, 8, none⟩ = some (.int .i64 b.tp) := (cell_of HB.out.2.2 8).1
    have x9 : W.cell? ⟨w.heap.size, 9, none⟩ = some (.int .i64 a.tc) := (cell_of HB.out.2.1 9).1
    have y9 : W.cell? ⟨w.heap.size + 1, 9, none⟩ = some (.int .i64 b.tc) := (cell_of HB.out.2.2 9).1
    have r0 : (a.kind == b.kind) = true := beq_iff_eq.2 q0
    clear q0
    have r1 : (a.txn == b.txn) = true := beq_iff_eq.2 q1
    clear q1
    have r2 : (a.unit == b.unit) = true := beq_iff_eq.2 q2
    clear q2
    have r3 : (a.half == b.half) = true := beq_iff_eq.2 q3
    clear q3
    have r4 : (a.prev == b.prev) = true := beq_iff_eq.2 q4
    clear q4
    have r5 : (a.next == b.next) = true := beq_iff_eq.2 q5
    clear q5
    have Q6 := Lib.hid q6
    clear q6
    have Q7 := Lib.hid q7
    clear q7
    have Q8 := Lib.hid q8
    clear q8
    have Q9 := Lib.hid q9
    clear q9
    show Calls _ _ #[.agg #[.int .i64 a.kind, .int .i64 a.txn, .int .i64 a.unit, .int .i64 a.half, .int .i64 a.prev, .int .i64 a.next, .int .i64 a.ap, .int .i64 a.ac, .int .i64 a.tp, .int .i64 a.tc, _, _, _, _, _, _], .agg #[.int .i64 b.kind, .int .i64 b.txn, .int .i64 b.unit, .int .i64 b.half, .int .i64 b.prev, .int .i64 b.next, .int .i64 b.ap, .int .i64 b.ac, .int .i64 b.tp, .int .i64 b.tc, _, _, _, _, _, _]] _ _
    go_enter Try.func41, Try.ntmps41
    go_upto_region 1 with (fail)
    show Code.wp _ _ _ _ ((w.alloc (entO a (.slice A1 n1 c1) (.slice A2 n2 c2) (.slice A3 n3 c3) (.slice A4 n4 c4) (.slice A5 n5 c5) (.slice A6 n6 c6))).alloc (entO b (.slice B1 m1 d1) (.slice B2 m2 d2) (.slice B3 m3 d3) (.slice B4 m4 d4) (.slice B5 m5 d5) (.slice B6 m6 d6)))
    rw [← hW]
    clear hW
    have q6 := Q6.out
    have q7 := Q7.out
    have q8 := Q8.out
    have q9 := Q9.out
    go_wp2
    go_ret
    rw [HD.out]
    exact ⟨rfl, HB.out.1⟩
  · have HD : Hid (decide (numsE a = numsE b) = false) := Lib.hid (decide_eq_false (fun e => q0 (by have h := congrArg (fun l => l[0]?) e; simpa [numsE] using h)))
    have x0 : W.cell? ⟨w.heap.size, 0, none⟩ = some (.int .i64 a.kind) := (cell_of HB.out.2.1 0).1
    have y0 : W.cell? ⟨w.heap.size + 1, 0, none⟩ = some (.int .i64 b.kind) := (cell_of HB.out.2.2 0).1
    have r0 : (a.kind == b.kind) = false := beq_eq_false_iff_ne.2 q0
    clear q0
    show Calls _ _ #[.agg #[.int .i64 a.kind, .int .i64 a.txn, .int .i64 a.unit, .int .i64 a.half, .int .i64 a.prev, .int .i64 a.next, .int .i64 a.ap, .int .i64 a.ac, .int .i64 a.tp, .int .i64 a.tc, _, _, _, _, _, _], .agg #[.int .i64 b.kind, .int .i64 b.txn, .int .i64 b.unit, .int .i64 b.half, .int .i64 b.prev, .int .i64 b.next, .int .i64 b.ap, .int .i64 b.ac, .int .i64 b.tp, .int .i64 b.tc, _, _, _, _, _, _]] _ _
    go_enter Try.func41, Try.ntmps41
    go_upto_region 1 with (fail)
    show Code.wp _ _ _ _ ((w.alloc (entO a (.slice A1 n1 c1) (.slice A2 n2 c2) (.slice A3 n3 c3) (.slice A4 n4 c4) (.slice A5 n5 c5) (.slice A6 n6 c6))).alloc (entO b (.slice B1 m1 d1) (.slice B2 m2 d2) (.slice B3 m3 d3) (.slice B4 m4 d4) (.slice B5 m5 d5) (.slice B6 m6 d6)))
    rw [← hW]
    clear hW
    go_wp2
    go_ret
    rw [HD.out]
    exact ⟨rfl, HB.out.1⟩
  · have HD : Hid (decide (numsE a = numsE b) = false) := Lib.hid (decide_eq_false (fun e => q1 (by have h := congrArg (fun l => l[1]?) e; simpa [numsE] using h)))
    have x0 : W.cell? ⟨w.heap.size, 0, none⟩ = some (.int .i64 a.kind) := (cell_of HB.out.2.1 0).1
    have y0 : W.cell? ⟨w.heap.size + 1, 0, none⟩ = some (.int .i64 b.kind) := (cell_of HB.out.2.2 0).1
    have x1 : W.cell? ⟨w.heap.size, 1, none⟩ = some (.int .i64 a.txn) := (cell_of HB.out.2.1 1).1
    have y1 : W.cell? ⟨w.heap.size + 1, 1, none⟩ = some (.int .i64 b.txn) := (cell_of HB.out.2.2 1).1
    have r0 : (a.kind == b.kind) = true := beq_iff_eq.2 q0
    clear q0
    have r1 : (a.txn == b.txn) = false := beq_eq_false_iff_ne.2 q1
    clear q1
    show Calls _ _ #[.agg #[.int .i64 a.kind, .int .i64 a.txn, .int .i64 a.unit, .int .i64 a.half, .int .i64 a.prev, .int .i64 a.next, .int .i64 a.ap, .int .i64 a.ac, .int .i64 a.tp, .int .i64 a.tc, _, _, _, _, _, _], .agg #[.int .i64 b.kind, .int .i64 b.txn, .int .i64 b.unit, .int .i64 b.half, .int .i64 b.prev, .int .i64 b.next, .int .i64 b.ap, .int .i64 b.ac, .int .i64 b.tp, .int .i64 b.tc, _, _, _, _, _, _]] _ _
    go_enter Try.func41, Try.ntmps41
    go_upto_region 1 with (fail)
    show Code.wp _ _ _ _ ((w.alloc (entO a (.slice A1 n1 c1) (.slice A2 n2 c2) (.slice A3 n3 c3) (.slice A4 n4 c4) (.slice A5 n5 c5) (.slice A6 n6 c6))).alloc (entO b (.slice B1 m1 d1) (.slice B2 m2 d2) (.slice B3 m3 d3) (.slice B4 m4 d4) (.slice B5 m5 d5) (.slice B6 m6 d6)))
    rw [← hW]
    clear hW
    go_wp2
    go_ret
    rw [HD.out]
    exact ⟨rfl, HB.out.1⟩
  · have HD : Hid (decide (numsE a = numsE b) = false) := Lib.hid (decide_eq_false (fun e => q2 (by have h := congrArg (fun l => l[2]?) e; simpa [numsE] using h)))
    have x0 : W.cell? ⟨w.heap.size, 0, none⟩ = some (.int .i64 a.kind) := (cell_of HB.out.2.1 0).1
    have y0 : W.cell? ⟨w.heap.size + 1, 0, none⟩ = some (.int .i64 b.kind) := (cell_of HB.out.2.2 0).1
    have x1 : W.cell? ⟨w.heap.size, 1, none⟩ = some (.int .i64 a.txn) := (cell_of HB.out.2.1 1).1
    have y1 : W.cell? ⟨w.heap.size + 1, 1, none⟩ = some (.int .i64 b.txn) := (cell_of HB.out.2.2 1).1
    have x2 : W.cell? ⟨w.heap.size, 2, none⟩ = some (.int .i64 a.unit) := (cell_of HB.out.2.1 2).1
    have y2 : W.cell? ⟨w.heap.size + 1, 2, none⟩ = some (.int .i64 b.unit) := (cell_of HB.out.2.2 2).1
    have r0 : (a.kind == b.kind) = true := beq_iff_eq.2 q0
    clear q0
    have r1 : (a.txn == b.txn) = true := beq_iff_eq.2 q1
    clear q1
    have r2 : (a.unit == b.unit) = false := beq_eq_false_iff_ne.2 q2
    clear q2
    show Calls _ _ #[.agg #[.int .i64 a.kind, .int .i64 a.txn, .int .i64 a.unit, .int .i64 a.half, .int .i64 a.prev, .int .i64 a.next, .int .i64 a.ap, .int .i64 a.ac, .int .i64 a.tp, .int .i64 a.tc, _, _, _, _, _, _], .agg #[.int .i64 b.kind, .int .i64 b.txn, .int .i64 b.unit, .int .i64 b.half, .int .i64 b.prev, .int .i64 b.next, .int .i64 b.ap, .int .i64 b.ac, .int .i64 b.tp, .int .i64 b.tc, _, _, _, _, _, _]] _ _
    go_enter Try.func41, Try.ntmps41
    go_upto_region 1 with (fail)
    show Code.wp _ _ _ _ ((w.alloc (entO a (.slice A1 n1 c1) (.slice A2 n2 c2) (.slice A3 n3 c3) (.slice A4 n4 c4) (.slice A5 n5 c5) (.slice A6 n6 c6))).alloc (entO b (.slice B1 m1 d1) (.slice B2 m2 d2) (.slice B3 m3 d3) (.slice B4 m4 d4) (.slice B5 m5 d5) (.slice B6 m6 d6)))
    rw [← hW]
    clear hW
    go_wp2
    go_ret
    rw [HD.out]
    exact ⟨rfl, HB.out.1⟩
  · have HD : Hid (decide (numsE a = numsE b) = false) := Lib.hid (decide_eq_false (fun e => q3 (by have h := congrArg (fun l => l[3]?) e; simpa [numsE] using h)))
    have x0 : W.cell? ⟨w.heap.size, 0, none⟩ = some (.int .i64 a.kind) := (cell_of HB.out.2.1 0).1
    have y0 : W.cell? ⟨w.heap.size + 1, 0, none⟩ = some (.int .i64 b.kind) := (cell_of HB.out.2.2 0).1
    have x1 : W.cell? ⟨w.heap.size, 1, none⟩ = some (.int .i64 a.txn) := (cell_of HB.out.2.1 1).1
    have y1 : W.cell? ⟨w.heap.size + 1, 1, none⟩ = some (.int .i64 b.txn) := (cell_of HB.out.2.2 1).1
    have x2 : W.cell? ⟨w.heap.size, 2, none⟩ = some (.int .i64 a.unit) := (cell_of HB.out.2.1 2).1
    have y2 : W.cell? ⟨w.heap.size + 1, 2, none⟩ = some (.int .i64 b.unit) := (cell_of HB.out.2.2 2).1
    have x3 : W.cell? ⟨w.heap.size, 3, none⟩ = some (.int .i64 a.half) := (cell_of HB.out.2.1 3).1
    have y3 : W.cell? ⟨w.heap.size + 1, 3, none⟩ = some (.int .i64 b.half) := (cell_of HB.out.2.2 3).1
    have r0 : (a.kind == b.kind) = true := beq_iff_eq.2 q0
    clear q0
    have r1 : (a.txn == b.txn) = true := beq_iff_eq.2 q1
    clear q1
    have r2 : (a.unit == b.unit) = true := beq_iff_eq.2 q2
    clear q2
    have r3 : (a.half == b.half) = false := beq_eq_false_iff_ne.2 q3
    clear q3
    show Calls _ _ #[.agg #[.int .i64 a.kind, .int .i64 a.txn, .int .i64 a.unit, .int .i64 a.half, .int .i64 a.prev, .int .i64 a.next, .int .i64 a.ap, .int .i64 a.ac, .int .i64 a.tp, .int .i64 a.tc, _, _, _, _, _, _], .agg #[.int .i64 b.kind, .int .i64 b.txn, .int .i64 b.unit, .int .i64 b.half, .int .i64 b.prev, .int .i64 b.next, .int .i64 b.ap, .int .i64 b.ac, .int .i64 b.tp, .int .i64 b.tc, _, _, _, _, _, _]] _ _
    go_enter Try.func41, Try.ntmps41
    go_upto_region 1 with (fail)
    show Code.wp _ _ _ _ ((w.alloc (entO a (.slice A1 n1 c1) (.slice A2 n2 c2) (.slice A3 n3 c3) (.slice A4 n4 c4) (.slice A5 n5 c5) (.slice A6 n6 c6))).alloc (entO b (.slice B1 m1 d1) (.slice B2 m2 d2) (.slice B3 m3 d3) (.slice B4 m4 d4) (.slice B5 m5 d5) (.slice B6 m6 d6)))
    rw [← hW]
    clear hW
    go_wp2
    go_ret
    rw [HD.out]
    exact ⟨rfl, HB.out.1⟩
  · have HD : Hid (decide (numsE a = numsE b) = false) := Lib.hid (decide_eq_false (fun e => q4 (by have h := congrArg (fun l => l[4]?) e; simpa [numsE] using h)))
    have x0 : W.cell? ⟨w.heap.size, 0, none⟩ = some (.int .i64 a.kind) := (cell_of HB.out.2.1 0).1
    have y0 : W.cell? ⟨w.heap.size + 1, 0, none⟩ = some (.int .i64 b.kind) := (cell_of HB.out.2.2 0).1
    have x1 : W.cell? ⟨w.heap.size, 1, none⟩ = some (.int .i64 a.txn) := (cell_of HB.out.2.1 1).1
    have y1 : W.cell? ⟨w.heap.size + 1, 1, none⟩ = some (.int .i64 b.txn) := (cell_of HB.out.2.2 1).1
    have x2 : W.cell? ⟨w.heap.size, 2, none⟩ = some (.int .i64 a.unit) := (cell_of HB.out.2.1 2).1
    have y2 : W.cell? ⟨w.heap.size + 1, 2, none⟩ = some (.int .i64 b.unit) := (cell_of HB.out.2.2 2).1
    have x3 : W.cell? ⟨w.heap.size, 3, none⟩ = some (.int .i64 a.half) := (cell_of HB.out.2.1 3).1
    have y3 : W.cell? ⟨w.heap.size + 1, 3, none⟩ = some (.int .i64 b.half) := (cell_of HB.out.2.2 3).1
    have x4 : W.cell? ⟨w.heap.size, 4, none⟩ = some (.int .i64 a.prev) := (cell_of HB.out.2.1 4).1
    have y4 : W.cell? ⟨w.heap.size + 1, 4, none⟩ = some (.int .i64 b.prev) := (cell_of HB.out.2.2 4).1
    have r0 : (a.kind == b.kind) = true := beq_iff_eq.2 q0
    clear q0
    have r1 : (a.txn == b.txn) = true := beq_iff_eq.2 q1
    clear q1
    have r2 : (a.unit == b.unit) = true := beq_iff_eq.2 q2
    clear q2
    have r3 : (a.half == b.half) = true := beq_iff_eq.2 q3
    clear q3
    have r4 : (a.prev == b.prev) = false := beq_eq_false_iff_ne.2 q4
    clear q4
    show Calls _ _ #[.agg #[.int .i64 a.kind, .int .i64 a.txn, .int .i64 a.unit, .int .i64 a.half, .int .i64 a.prev, .int .i64 a.next, .int .i64 a.ap, .int .i64 a.ac, .int .i64 a.tp, .int .i64 a.tc, _, _, _, _, _, _], .agg #[.int .i64 b.kind, .int .i64 b.txn, .int .i64 b.unit, .int .i64 b.half, .int .i64 b.prev, .int .i64 b.next, .int .i64 b.ap, .int .i64 b.ac, .int .i64 b.tp, .int .i64 b.tc, _, _, _, _, _, _]] _ _
    go_enter Try.func41, Try.ntmps41
    go_upto_region 1 with (fail)
    show Code.wp _ _ _ _ ((w.alloc (entO a (.slice A1 n1 c1) (.slice A2 n2 c2) (.slice A3 n3 c3) (.slice A4 n4 c4) (.slice A5 n5 c5) (.slice A6 n6 c6))).alloc (entO b (.slice B1 m1 d1) (.slice B2 m2 d2) (.slice B3 m3 d3) (.slice B4 m4 d4) (.slice B5 m5 d5) (.slice B6 m6 d6)))
    rw [← hW]
    clear hW
    go_wp2
    go_ret
    rw [HD.out]
    exact ⟨rfl, HB.out.1⟩
  · have HD : Hid (decide (numsE a = numsE b) = false) := Lib.hid (decide_eq_false (fun e => q5 (by have h := congrArg (fun l => l[5]?) e; simpa [numsE] using h)))
    have x0 : W.cell? ⟨w.heap.size, 0, none⟩ = some (.int .i64 a.kind) := (cell_of HB.out.2.1 0).1
    have y0 : W.cell? ⟨w.heap.size + 1, 0, none⟩ = some (.int .i64 b.kind) := (cell_of HB.out.2.2 0).1
    have x1 : W.cell? ⟨w.heap.size, 1, none⟩ = some (.int .i64 a.txn) := (cell_of HB.out.2.1 1).1
    have y1 : W.cell? ⟨w.heap.size + 1, 1, none⟩ = some (.int .i64 b.txn) := (cell_of HB.out.2.2 1).1
    have x2 : W.cell? ⟨w.heap.size, 2, none⟩ = some (.int .i64 a.unit) := (cell_of HB.out.2.1 2).1
    have y2 : W.cell? ⟨w.heap.size + 1, 2, none⟩ = some (.int .i64 b.unit) := (cell_of HB.out.2.2 2).1
    have x3 : W.cell? ⟨w.heap.size, 3, none⟩ = some (.int .i64 a.half) := (cell_of HB.out.2.1 3).1
    have y3 : W.cell? ⟨w.heap.size + 1, 3, none⟩ = some (.int .i64 b.half) := (cell_of HB.out.2.2 3).1
    have x4 : W.cell? ⟨w.heap.size, 4, none⟩ = some (.int .i64 a.prev) := (cell_of HB.out.2.1 4).1
    have y4 : W.cell? ⟨w.heap.size + 1, 4, none⟩ = some (.int .i64 b.prev) := (cell_of HB.out.2.2 4).1
    have x5 : W.cell? ⟨w.heap.size, 5, none⟩ = some (.int .i64 a.next) := (cell_of HB.out.2.1 5).1
    have y5 : W.cell? ⟨w.heap.size + 1, 5, none⟩ = some (.int .i64 b.next) := (cell_of HB.out.2.2 5).1
    have r0 : (a.kind == b.kind) = true := beq_iff_eq.2 q0
    clear q0
    have r1 : (a.txn == b.txn) = true := beq_iff_eq.2 q1
    clear q1
    have r2 : (a.unit == b.unit) = true := beq_iff_eq.2 q2
    clear q2
    have r3 : (a.half == b.half) = true := beq_iff_eq.2 q3
    clear q3
    have r4 : (a.prev == b.prev) = true := beq_iff_eq.2 q4
    clear q4
    have r5 : (a.next == b.next) = false := beq_eq_false_iff_ne.2 q5
    clear q5
    show Calls _ _ #[.agg #[.int .i64 a.kind, .int .i64 a.txn, .int .i64 a.unit, .int .i64 a.half, .int .i64 a.prev, .int .i64 a.next, .int .i64 a.ap, .int .i64 a.ac, .int .i64 a.tp, .int .i64 a.tc, _, _, _, _, _, _], .agg #[.int .i64 b.kind, .int .i64 b.txn, .int .i64 b.unit, .int .i64 b.half, .int .i64 b.prev, .int .i64 b.next, .int .i64 b.ap, .int .i64 b.ac, .int .i64 b.tp, .int .i64 b.tc, _, _, _, _, _, _]] _ _
    go_enter Try.func41, Try.ntmps41
    go_upto_region 1 with (fail)
    show Code.wp _ _ _ _ ((w.alloc (entO a (.slice A1 n1 c1) (.slice A2 n2 c2) (.slice A3 n3 c3) (.slice A4 n4 c4) (.slice A5 n5 c5) (.slice A6 n6 c6))).alloc (entO b (.slice B1 m1 d1) (.slice B2 m2 d2) (.slice B3 m3 d3) (.slice B4 m4 d4) (.slice B5 m5 d5) (.slice B6 m6 d6)))
    rw [← hW]
    clear hW
    go_wp2
    go_ret
    rw [HD.out]
    exact ⟨rfl, HB.out.1⟩
  · have HD : Hid (decide (numsE a = numsE b) = false) := Lib.hid (decide_eq_false (fun e => q6 (by have h := congrArg (fun l => l[6]?) e; simpa [numsE] using h)))
    have x0 : W.cell? ⟨w.heap.size, 0, none⟩ = some (.int .i64 a.kind) := (cell_of HB.out.2.1 0).1
    have y0 : W.cell? ⟨w.heap.size + 1, 0, none⟩ = some (.int .i64 b.kind) := (cell_of HB.out.2.2 0).1
    have x1 : W.cell? ⟨w.heap.size, 1, none⟩ = some (.int .i64 a.txn) := (cell_of HB.out.2.1 1).1
    have y1 : W.cell? ⟨w.heap.size + 1, 1, none⟩ = some (.int .i64 b.txn) := (cell_of HB.out.2.2 1).1
    have x2 : W.cell? ⟨w.heap.size, 2, none⟩ = some (.int .i64 a.unit) := (cell_of HB.out.2.1 2).1
    have y2 : W.cell? ⟨w.heap.size + 1, 2, none⟩ = some (.int .i64 b.unit) := (cell_of HB.out.2.2 2).1
    have x3 : W.cell? ⟨w.heap.size, 3, none⟩ = some (.int .i64 a.half) := (cell_of HB.out.2.1 3).1
    have y3 : W.cell? ⟨w.heap.size + 1, 3, none⟩ = some (.int .i64 b.half) := (cell_of HB.out.2.2 3).1
    have x4 : W.cell? ⟨w.heap.size, 4, none⟩ = some (.int .i64 a.prev) := (cell_of HB.out.2.1 4).1
    have y4 : W.cell? ⟨w.heap.size + 1, 4, none⟩ = some (.int .i64 b.prev) := (cell_of HB.out.2.2 4).1
    have x5 : W.cell? ⟨w.heap.size, 5, none⟩ = some (.int .i64 a.next) := (cell_of HB.out.2.1 5).1
    have y5 : W.cell? ⟨w.heap.size + 1, 5, none⟩ = some (.int .i64 b.next) := (cell_of HB.out.2.2 5).1
    have x6 : W.cell? ⟨w.heap.size, 6, none⟩ = some (.int .i64 a.ap) := (cell_of HB.out.2.1 6).1
    have y6 : W.cell? ⟨w.heap.size + 1, 6, none⟩ = some (.int .i64 b.ap) := (cell_of HB.out.2.2 6).1
    have x7 : W.cell? ⟨w.heap.size, 7, none⟩ = some (.int .i64 a.ac) := (cell_of HB.out.2.1 7).1
    have y7 : W.cell? ⟨w.heap.size + 1, 7, none⟩ = some (.int .i64 b.ac) := (cell_of HB.out.2.2 7).1
    have r0 : (a.kind == b.kind) = true := beq_iff_eq.2 q0
    clear q0
    have r1 : (a.txn == b.txn) = true := beq_iff_eq.2 q1
    clear q1
    have r2 : (a.unit == b.unit) = true := beq_iff_eq.2 q2
    clear q2
    have r3 : (a.half == b.half) = true := beq_iff_eq.2 q3
    clear q3
    have r4 : (a.prev == b.prev) = true := beq_iff_eq.2 q4
    clear q4
    have r5 : (a.next == b.next) = true := beq_iff_eq.2 q5
    clear q5
    have Q6 := Lib.hid q6
    clear q6
    show Calls _ _ #[.agg #[.int .i64 a.kind, .int .i64 a.txn, .int .i64 a.unit, .int .i64 a.half, .int .i64 a.prev, .int .i64 a.next, .int .i64 a.ap, .int .i64 a.ac, .int .i64 a.tp, .int .i64 a.tc, _, _, _, _, _, _], .agg #[.int .i64 b.kind, .int .i64 b.txn, .int .i64 b.unit, .int .i64 b.half, .int .i64 b.prev, .int .i64 b.next, .int .i64 b.ap, .int .i64 b.ac, .int .i64 b.tp, .int .i64 b.tc, _, _, _, _, _, _]] _ _
    go_enter Try.func41, Try.ntmps41
    go_upto_region 1 with (fail)
    show Code.wp _ _ _ _ ((w.alloc (entO a (.slice A1 n1 c1) (.slice A2 n2 c2) (.slice A3 n3 c3) (.slice A4 n4 c4) (.slice A5 n5 c5) (.slice A6 n6 c6))).alloc (entO b (.slice B1 m1 d1) (.slice B2 m2 d2) (.slice B3 m3 d3) (.slice B4 m4 d4) (.slice B5 m5 d5) (.slice B6 m6 d6)))
    rw [← hW]
    clear hW
    have q6 := Q6.out
    go_wp2
    go_ret
    rw [HD.out]
    exact ⟨rfl, HB.out.1⟩
  · have HD : Hid (decide (numsE a = numsE b) = false) := Lib.hid (decide_eq_false (fun e => q7 (by have h := congrArg (fun l => l[7]?) e; simpa [numsE] using h)))
    have x0 : W.cell? ⟨w.heap.size, 0, none⟩ = some (.int .i64 a.kind) := (cell_of HB.out.2.1 0).1
    have y0 : W.cell? ⟨w.heap.size + 1, 0, none⟩ = some (.int .i64 b.kind) := (cell_of HB.out.2.2 0).1
    have x1 : W.cell? ⟨w.heap.size, 1, none⟩ = some (.int .i64 a.txn) := (cell_of HB.out.2.1 1).1
    have y1 : W.cell? ⟨w.heap.size + 1, 1, none⟩ = some (.int .i64 b.txn) := (cell_of HB.out.2.2 1).1
    have x2 : W.cell? ⟨w.heap.size, 2, none⟩ = some (.int .i64 a.unit) := (cell_of HB.out.2.1 2).1
    have y2 : W.cell? ⟨w.heap.size + 1, 2, none⟩ = some (.int .i64 b.unit) := (cell_of HB.out.2.2 2).1
    have x3 : W.cell? ⟨w.heap.size, 3, none⟩ = some (.int .i64 a.half) := (cell_of HB.out.2.1 3).1
    have y3 : W.cell? ⟨w.heap.size + 1, 3, none⟩ = some (.int .i64 b.half) := (cell_of HB.out.2.2 3).1
    have x4 : W.cell? ⟨w.heap.size, 4, none⟩ = some (.int .i64 a.prev) := (cell_of HB.out.2.1 4).1
    have y4 : W.cell? ⟨w.heap.size + 1, 4, none⟩ = some (.int .i64 b.prev) := (cell_of HB.out.2.2 4).1
    have x5 : W.cell? ⟨w.heap.size, 5, none⟩ = some (.int .i64 a.next) := (cell_of HB.out.2.1 5).1
    have y5 : W.cell? ⟨w.heap.size + 1, 5, none⟩ = some (.int .i64 b.next) := (cell_of HB.out.2.2 5).1
    have x6 : W.cell? ⟨w.heap.size, 6, none⟩ = some (.int .i64 a.ap) := (cell_of HB.out.2.1 6).1
    have y6 : W.cell? ⟨w.heap.size + 1, 6, none⟩ = some (.int .i64 b.ap) := (cell_of HB.out.2.2 6).1
    have x7 : W.cell? ⟨w.heap.size, 7, none⟩ = some (.int .i64 a.ac) := (cell_of HB.out.2.1 7).1
    have y7 : W.cell? ⟨w.heap.size + 1, 7, none⟩ = some (.int .i64 b.ac) := (cell_of HB.out.2.2 7).1
    have r0 : (a.kind == b.kind) = true := beq_iff_eq.2 q0
    clear q0
    have r1 : (a.txn == b.txn) = true := beq_iff_eq.2 q1
    clear q1
    have r2 : (a.unit == b.unit) = true := beq_iff_eq.2 q2
    clear q2
    have r3 : (a.half == b.half) = true := beq_iff_eq.2 q3
    clear q3
    have r4 : (a.prev == b.prev) = true := beq_iff_eq.2 q4
    clear q4
    have r5 : (a.next == b.next) = true := beq_iff_eq.2 q5
    clear q5
    have Q6 := Lib.hid q6
    clear q6
    have Q7 := Lib.hid q7
    clear q7
    show Calls _ _ #[.agg #[.int .i64 a.kind, .int .i64 a.txn, .int .i64 a.unit, .int .i64 a.half, .int .i64 a.prev, .int .i64 a.next, .int .i64 a.ap, .int .i64 a.ac, .int .i64 a.tp, .int .i64 a.tc, _, _, _, _, _, _], .agg #[.int .i64 b.kind, .int .i64 b.txn, .int .i64 b.unit, .int .i64 b.half, .int .i64 b.prev, .int .i64 b.next, .int .i64 b.ap, .int .i64 b.ac, .int .i64 b.tp, .int .i64 b.tc, _, _, _, _, _, _]] _ _
    go_enter Try.func41, Try.ntmps41
    go_upto_region 1 with (fail)
    show Code.wp _ _ _ _ ((w.alloc (entO a (.slice A1 n1 c1) (.slice A2 n2 c2) (.slice A3 n3 c3) (.slice A4 n4 c4) (.slice A5 n5 c5) (.slice A6 n6 c6))).alloc (entO b (.slice B1 m1 d1) (.slice B2 m2 d2) (.slice B3 m3 d3) (.slice B4 m4 d4) (.slice B5 m5 d5) (.slice B6 m6 d6)))
    rw [← hW]
    clear hW
    have q6 := Q6.out
    have q7 := Q7.out
    go_wp2
    go_ret
    rw [HD.out]
    exact ⟨rfl, HB.out.1⟩
  · have HD : Hid (decide (numsE a = numsE b) = false) := Lib.hid (decide_eq_false (fun e => q8 (by have h := congrArg (fun l => l[8]?) e; simpa [numsE] using h)))
    have x0 : W.cell? ⟨w.heap.size, 0, none⟩ = some (.int .i64 a.kind) := (cell_of HB.out.2.1 0).1
    have y0 : W.cell? ⟨w.heap.size + 1, 0, none⟩ = some (.int .i64 b.kind) := (cell_of HB.out.2.2 0).1
    have x1 : W.cell? ⟨w.heap.size, 1, none⟩ = some (.int .i64 a.txn) := (cell_of HB.out.2.1 1).1
    have y1 : W.cell? ⟨w.heap.size + 1, 1, none⟩ = some (.int .i64 b.txn) := (cell_of HB.out.2.2 1).1
    have x2 : W.cell? ⟨w.heap.size, 2, none⟩ = some (.int .i64 a.unit) := (cell_of HB.out.2.1 2).1
    have y2 : W.cell? ⟨w.heap.size + 1, 2, none⟩ = some (.int .i64 b.unit) := (cell_of HB.out.2.2 2).1
    have x3 : W.cell? ⟨w.heap.size, 3, none⟩ = some (.int .i64 a.half) := (cell_of HB.out.2.1 3).1
    have y3 : W.cell? ⟨w.heap.size + 1, 3, none⟩ = some (.int .i64 b.half) := (cell_of HB.out.2.2 3).1
    have x4 : W.cell? ⟨w.heap.size, 4, none⟩ = some (.int .i64 a.prev) := (cell_of HB.out.2.1 4).1
    have y4 : W.cell? ⟨w.heap.size + 1, 4, none⟩ = some (.int .i64 b.prev) := (cell_of HB.out.2.2 4).1
    have x5 : W.cell? ⟨w.heap.size, 5, none⟩ = some (.int .i64 a.next) := (cell_of HB.out.2.1 5).1
    have y5 : W.cell? ⟨w.heap.size + 1, 5, none⟩ = some (.int .i64 b.next) := (cell_of HB.out.2.2 5).1
    have x6 : W.cell? ⟨w.heap.size, 6, none⟩ = some (.int .i64 a.ap) := (cell_of HB.out.2.1 6).1
    have y6 : W.cell? ⟨w.heap.size + 1, 6, none⟩ = some (.int .i64 b.ap) := (cell_of HB.out.2.2 6).1
    have x7 : W.cell? ⟨w.heap.size, 7, none⟩ = some (.int .i64 a.ac) := (cell_of HB.out.2.1 7).1
    have y7 : W.cell? ⟨w.heap.size + 1, 7, none⟩ = some (.int .i64 b.ac) := (cell_of HB.out.2.2 7).1
    have x8 : W.cell? ⟨w.heap.size, 8, none⟩ = some (.int .i64 a.tp) := (cell_of HB.out.2.1 8).1
    have y8 : W.cell? ⟨w.heap.size + 1, 8, none⟩ = some (.int .i64 b.tp) := (cell_of HB.out.2.2 8).1
    have x9 : W.cell? ⟨w.heap.size, 9, none⟩ = some (.int .i64 a.tc) := (cell_of HB.out.2.1 9).1
    have y9 : W.cell? ⟨w.heap.size + 1, 9, none⟩ = some (.int .i64 b.tc) := (cell_of HB.out.2.2 9).1
    have r0 : (a.kind == b.kind) = true := beq_iff_eq.2 q0
    clear q0
    have r1 : (a.txn == b.txn) = true := beq_iff_eq.2 q1
    clear q1
    have r2 : (a.unit == b.unit) = true := beq_iff_eq.2 q2
    clear q2
    have r3 : (a.half == b.half) = true := beq_iff_eq.2 q3
    clear q3
    have r4 : (a.prev == b.prev) = true := beq_iff_eq.2 q4
    clear q4
    have r5 : (a.next == b.next) = true := beq_iff_eq.2 q5
    clear q5
    have Q6 := Lib.hid q6
    clear q6
    have Q7 := Lib.hid q7
    clear q7
    have Q8 := Lib.hid q8
    clear q8
    show Calls _ _ #[.agg #[.int .i64 a.kind, .int .i64 a.txn, .int .i64 a.unit, .int .i64 a.half, .int .i64 a.prev, .int .i64 a.next, .int .i64 a.ap, .int .i64 a.ac, .int .i64 a.tp, .int .i64 a.tc, _, _, _, _, _, _], .agg #[.int .i64 b.kind, .int .i64 b.txn, .int .i64 b.unit, .int .i64 b.half, .int .i64 b.prev, .int .i64 b.next, .int .i64 b.ap, .int .i64 b.ac, .int .i64 b.tp, .int .i64 b.tc, _, _, _, _, _, _]] _ _
    go_enter Try.func41, Try.ntmps41
    go_upto_region 1 with (fail)
    show Code.wp _ _ _ _ ((w.alloc (entO a (.slice A1 n1 c1) (.slice A2 n2 c2) (.slice A3 n3 c3) (.slice A4 n4 c4) (.slice A5 n5 c5) (.slice A6 n6 c6))).alloc (entO b (.slice B1 m1 d1) (.slice B2 m2 d2) (.slice B3 m3 d3) (.slice B4 m4 d4) (.slice B5 m5 d5) (.slice B6 m6 d6)))
    rw [← hW]
    clear hW
    have q6 := Q6.out
    have q7 := Q7.out
    have q8 := Q8.out
    go_wp2
    go_ret
    rw [HD.out]
    exact ⟨rfl, HB.out.1⟩
  · have HD : Hid (decide (numsE a = numsE b) = false) := Lib.hid (decide_eq_false (fun e => q9 (by have h := congrArg (fun l => l[9]?) e; simpa [numsE] using h)))
    have x0 : W.cell? ⟨w.heap.size, 0, none⟩ = some (.int .i64 a.kind) := (cell_of HB.out.2.1 0).1
    have y0 : W.cell? ⟨w.heap.size + 1, 0, none⟩ = some (.int .i64 b.kind) := (cell_of HB.out.2.2 0).1
    have x1 : W.cell? ⟨w.heap.size, 1, none⟩ = some (.int .i64 a.txn) := (cell_of HB.out.2.1 1).1
    have y1 : W.cell? ⟨w.heap.size + 1, 1, none⟩ = some (.int .i64 b.txn) := (cell_of HB.out.2.2 1).1
    have x2 : W.cell? ⟨w.heap.size, 2, none⟩ = some (.int .i64 a.unit) := (cell_of HB.out.2.1 2).1
    have y2 : W.cell? ⟨w.heap.size + 1, 2, none⟩ = some (.int .i64 b.unit) := (cell_of HB.out.2.2 2).1
    have x3 : W.cell? ⟨w.heap.size, 3, none⟩ = some (.int .i64 a.half) := (cell_of HB.out.2.1 3).1
    have y3 : W.cell? ⟨w.heap.size + 1, 3, none⟩ = some (.int .i64 b.half) := (cell_of HB.out.2.2 3).1
    have x4 : W.cell? ⟨w.heap.size, 4, none⟩ = some (.int .i64 a.prev) := (cell_of HB.out.2.1 4).1
    have y4 : W.cell? ⟨w.heap.size + 1, 4, none⟩ = some (.int .i64 b.prev) := (cell_of HB.out.2.2 4).1
    have x5 : W.cell? ⟨w.heap.size, 5, none⟩ = some (.int .i64 a.next) := (cell_of HB.out.2.1 5).1
    have y5 : W.cell? ⟨w.heap.size + 1, 5, none⟩ = some (.int .i64 b.next) := (cell_of HB.out.2.2 5).1
    have x6 : W.cell? ⟨w.heap.size, 6, none⟩ = some (.int .i64 a.ap) := (cell_of HB.out.2.1 6).1
    have y6 : W.cell? ⟨w.heap.size + 1, 6, none⟩ = some (.int .i64 b.ap) := (cell_of HB.out.2.2 6).1
    have x7 : W.cell? ⟨w.heap.size, 7, none⟩ = some (.int .i64 a.ac) := (cell_of HB.out.2.1 7).1
    have y7 : W.cell? ⟨w.heap.size + 1, 7, none⟩ = some (.int .i64 b.ac) := (cell_of HB.out.2.2 7).1
    have x8 : W.cell? ⟨w.heap.size, 8, none⟩ = some (.int .i64 a.tp) := (cell_of HB.out.2.1 8).1
    have y8 : W.cell? ⟨w.heap.size + 1, 8, none⟩ = some (.int .i64 b.tp) := (cell_of HB.out.2.2 8).1
    have x9 : W.cell? ⟨w.heap.size, 9, none⟩ = some (.int .i64 a.tc) := (cell_of HB.out.2.1 9).1
    have y9 : W.cell? ⟨w.heap.size + 1, 9, none⟩ = some (.int .i64 b.tc) := (cell_of HB.out.2.2 9).1
    have r0 : (a.kind == b.kind) = true := beq_iff_eq.2 q0
    clear q0
    have r1 : (a.txn == b.txn) = true := beq_iff_eq.2 q1
    clear q1
    have r2 : (a.unit == b.unit) = true := beq_iff_eq.2 q2
    clear q2
    have r3 : (a.half == b.half) = true := beq_iff_eq.2 q3
    clear q3
    have r4 : (a.prev == b.prev) = true := beq_iff_eq.2 q4
    clear q4
    have r5 : (a.next == b.next) = true := beq_iff_eq.2 q5
    clear q5
    have Q6 := Lib.hid q6
    clear q6
    have Q7 := Lib.hid q7
    clear q7
    have Q8 := Lib.hid q8
    clear q8
    have Q9 := Lib.hid q9
    clear q9
    show Calls _ _ #[.agg #[.int .i64 a.kind, .int .i64 a.txn, .int .i64 a.unit, .int .i64 a.half, .int .i64 a.prev, .int .i64 a.next, .int .i64 a.ap, .int .i64 a.ac, .int .i64 a.tp, .int .i64 a.tc, _, _, _, _, _, _], .agg #[.int .i64 b.kind, .int .i64 b.txn, .int .i64 b.unit, .int .i64 b.half, .int .i64 b.prev, .int .i64 b.next, .int .i64 b.ap, .int .i64 b.ac, .int .i64 b.tp, .int .i64 b.tc, _, _, _, _, _, _]] _ _
    go_enter Try.func41, Try.ntmps41
    go_upto_region 1 with (fail)
    show Code.wp _ _ _ _ ((w.alloc (entO a (.slice A1 n1 c1) (.slice A2 n2 c2) (.slice A3 n3 c3) (.slice A4 n4 c4) (.slice A5 n5 c5) (.slice A6 n6 c6))).alloc (entO b (.slice B1 m1 d1) (.slice B2 m2 d2) (.slice B3 m3 d3) (.slice B4 m4 d4) (.slice B5 m5 d5) (.slice B6 m6 d6)))
    rw [← hW]
    clear hW
    have q6 := Q6.out
    have q7 := Q7.out
    have q8 := Q8.out
    have q9 := Q9.out
    go_wp2
    go_ret
    rw [HD.out]
    exact ⟨rfl, HB.out.1⟩

end Go.Proofs.Ytbjfhlcfnohiiaa
