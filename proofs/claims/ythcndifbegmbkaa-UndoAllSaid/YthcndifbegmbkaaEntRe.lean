/- The reference's SameEntry. -/
import Derived.Test.YthcndifbegmbkaaEntRo
import Derived.Test.YthcndifbegmbkaaEntRe1
import Derived.Test.YthcndifbegmbkaaEntRe2
import Derived.Test.YthcndifbegmbkaaEntRe3
import Derived.Test.YthcndifbegmbkaaEntRe4
import Derived.Test.YthcndifbegmbkaaEntRe5
namespace Go.Proofs.Ythcndifbegmbkaa
open Go.RowKit

set_option maxRecDepth 100000 in
set_option maxHeartbeats 4000000 in
theorem rsame_any (w : World) (a b : Ent) {s1 s2 s3 s4 s5 s6 t1 t2 t3 t4 t5 t6 : Value} (hs : EntS w s1 s2 s3 s4 s5 s6 a) (ht : EntS w t1 t2 t3 t4 t5 t6 b) (hl : EntLen a) :
    Calls Try.prog 10 #[.agg (entC a s1 s2 s3 s4 s5 s6), .agg (entC b t1 t2 t3 t4 t5 t6)] w fun e w' => e = .returned (.bool (sameE a b)) ∧ Below w.heap.size w w' := by
  by_cases q0 : a.kind = b.kind
  rotate_left
  · exact rsame_1 w a b hs ht hl (.inl q0)
  by_cases q1 : a.txn = b.txn
  rotate_left
  · exact rsame_1 w a b hs ht hl (.inr (.inl ⟨q0, q1⟩))
  by_cases q2 : a.unit = b.unit
  rotate_left
  · exact rsame_1 w a b hs ht hl (.inr (.inr (.inl ⟨q0, q1, q2⟩)))
  by_cases q3 : a.half = b.half
  rotate_left
  · exact rsame_1 w a b hs ht hl (.inr (.inr (.inr (.inl ⟨q0, q1, q2, q3⟩))))
  by_cases q4 : a.prev = b.prev
  rotate_left
  · exact rsame_1 w a b hs ht hl (.inr (.inr (.inr (.inr ⟨q0, q1, q2, q3, q4⟩))))
  by_cases q5 : a.next = b.next
  rotate_left
  · exact rsame_2 w a b hs ht hl (.inl ⟨q0, q1, q2, q3, q4, q5⟩)
  by_cases q6 : a.ap = b.ap
  rotate_left
  · exact rsame_2 w a b hs ht hl (.inr (.inl ⟨q0, q1, q2, q3, q4, q5, q6⟩))
  by_cases q7 : a.ac = b.ac
  rotate_left
  · exact rsame_2 w a b hs ht hl (.inr (.inr (.inl ⟨q0, q1, q2, q3, q4, q5, q6, q7⟩)))
  by_cases q8 : a.tp = b.tp
  rotate_left
  · exact rsame_2 w a b hs ht hl (.inr (.inr (.inr (.inl ⟨q0, q1, q2, q3, q4, q5, q6, q7, q8⟩))))
  by_cases q9 : a.tc = b.tc
  rotate_left
  · exact rsame_2 w a b hs ht hl (.inr (.inr (.inr (.inr ⟨q0, q1, q2, q3, q4, q5, q6, q7, q8, q9⟩))))
  cases r0 : decide (a.old = b.old)
  · exact rsame_3 w a b hs ht hl (.inl ⟨q0, q1, q2, q3, q4, q5, q6, q7, q8, q9, r0⟩)
  cases r1 : decide (a.new = b.new)
  · exact rsame_3 w a b hs ht hl (.inr (.inl ⟨q0, q1, q2, q3, q4, q5, q6, q7, q8, q9, r0, r1⟩))
  cases r2 : decide (a.moves = b.moves)
  · exact rsame_3 w a b hs ht hl (.inr (.inr ⟨q0, q1, q2, q3, q4, q5, q6, q7, q8, q9, r0, r1, r2⟩))
  cases r3 : decide (a.lives = b.lives)
  · exact rsame_4 w a b hs ht hl (.inl ⟨q0, q1, q2, q3, q4, q5, q6, q7, q8, q9, r0, r1, r2, r3⟩)
  cases r4 : decide (a.dirty = b.dirty)
  · exact rsame_4 w a b hs ht hl (.inr ⟨q0, q1, q2, q3, q4, q5, q6, q7, q8, q9, r0, r1, r2, r3, r4⟩)
  cases r5 : decide (a.opens = b.opens)
  · exact rsame_5 w a b hs ht hl (.inl ⟨q0, q1, q2, q3, q4, q5, q6, q7, q8, q9, r0, r1, r2, r3, r4, r5⟩)
  exact rsame_5 w a b hs ht hl (.inr ⟨q0, q1, q2, q3, q4, q5, q6, q7, q8, q9, r0, r1, r2, r3, r4, r5⟩)

end Go.Proofs.Ythcndifbegmbkaa
