/- EntryApart: its walk. -/
import Derived.Test.YtkfebibnpincpaaEApM
import Derived.Deep.CutBlock
namespace Go.Proofs.Ytkfebibnpincpaa.entryApart
open Go.ChangeShapes Go.WideShapes Go.ChangeAt Go.RowKit

def Fin (w : World) (e : Ending) (w' : World) : Prop := e = .returned (.bool true) ∧ Below w.heap.size w w'

/-- A store into an entry's variable, at the entry's own numbers or lists. -/
theorem bz_set {w W : World} {g i : Nat} {v : Value} {e f : Ent} {s1 s2 s3 s4 s5 s6 t1 t2 t3 t4 t5 t6 : Value} (hb : W.heap[g]? = some (.cells (entC e s1 s2 s3 s4 s5 s6) 30 (0, 0))) (hB : Below w.heap.size w W) (hg : w.heap.size ≤ g) (hs : EntS w t1 t2 t3 t4 t5 t6 f)
    (he : (entC e s1 s2 s3 s4 s5 s6).setIfInBounds i v = entC f t1 t2 t3 t4 t5 t6) : Bz g f t1 t2 t3 t4 t5 t6 (W.setCell ⟨g, i, none⟩ v) ∧ Below w.heap.size w (W.setCell ⟨g, i, none⟩ v) ∧ ∀ k, k ≠ g → (W.setCell ⟨g, i, none⟩ v).heap[k]? = W.heap[k]? := by
  have h1 : Below w.heap.size w (W.setCell ⟨g, i, none⟩ v) := hB.trans ⟨rfl, rfl, rfl, by simp, fun k hk => setCell_far _ _ _ _ (by omega)⟩
  refine ⟨⟨?_, hs.below h1 (Nat.le_refl _)⟩, h1, fun k hk => setCell_far _ _ _ _ hk⟩
  rw [heap_setCell_same W g i _ _ _ hb, he]

/-- Behind the switch. -/
def Sw (w : World) (g : Nat) (h : Int) (e : Ent) (s1 s2 s3 s4 s5 s6 : Value) (W : World) : Prop :=
  Below w.heap.size w W ∧ W.heap[w.heap.size]? = some (.cells (entC e s1 s2 s3 s4 s5 s6) 30 (0, 0)) ∧ ∃ f T1 k1 d1 T2 k2 d2 T3 k3 d3 T4 k4 d4 T5 k5 d5 T6 k6 d6, Bz g f (.slice T1 k1 d1) (.slice T2 k2 d2) (.slice T3 k3 d3) (.slice T4 k4 d4) (.slice T5 k5 d5) (.slice T6 k6 d6) W ∧ EntI f ∧ ApR h e f

set_option maxRecDepth 100000 in
set_option maxHeartbeats 4000000 in
theorem walk (w : World) (e : Ent) {s1 s2 s3 s4 s5 s6 : Value} (hs : EntS w s1 s2 s3 s4 s5 s6 e) (hi : EntI e) (a : Int) (ha : 0 ≤ a ∧ a < 256) :
    Calls Try.prog 7 #[.agg (entC e s1 s2 s3 s4 s5 s6), .int .u8 a] w (Fin w) := by
  obtain ⟨A1, c1, A2, c2, A3, c3, A4, c4, A5, c5, A6, c6, rfl, rfl, rfl, rfl, rfl, rfl⟩ := hs.form
  obtain ⟨n1, hn1⟩ : ∃ n, n = e.old.length := ⟨_, rfl⟩
  rw [← hn1] at hs ⊢
  obtain ⟨n2, hn2⟩ : ∃ n, n = e.new.length := ⟨_, rfl⟩
  rw [← hn2] at hs ⊢
  obtain ⟨n3, hn3⟩ : ∃ n, n = e.moves.length := ⟨_, rfl⟩
  rw [← hn3] at hs ⊢
  obtain ⟨n4, hn4⟩ : ∃ n, n = e.lives.length := ⟨_, rfl⟩
  rw [← hn4] at hs ⊢
  obtain ⟨n5, hn5⟩ : ∃ n, n = e.dirty.length := ⟨_, rfl⟩
  rw [← hn5] at hs ⊢
  obtain ⟨n6, hn6⟩ : ∃ n, n = e.opens.length := ⟨_, rfl⟩
  rw [← hn6] at hs ⊢
  have HN3 := Lib.hid hn3
  clear hn1 hn2 hn3 hn4 hn5 hn6
  have HI := Lib.hid hi
  have HS := Lib.hid hs
  obtain ⟨W, hW⟩ : ∃ W, W = w.alloc (entO e (.slice A1 n1 c1) (.slice A2 n2 c2) (.slice A3 n3 c3) (.slice A4 n4 c4) (.slice A5 n5 c5) (.slice A6 n6 c6)) := ⟨_, rfl⟩
  have hB0 : Below w.heap.size w W := by rw [hW]; exact (Below.refl _ _).alloc (Nat.le_refl _) _
  have hZ0 : Bz w.heap.size e (.slice A1 n1 c1) (.slice A2 n2 c2) (.slice A3 n3 c3) (.slice A4 n4 c4) (.slice A5 n5 c5) (.slice A6 n6 c6) W := ⟨by rw [hW]; exact heap_alloc_new w _, hs.below hB0 (Nat.le_refl _)⟩
  have HB0 := Lib.hid hB0
  have HZ0 := Lib.hid hZ0
  clear hs hi hB0 hZ0
  show Calls _ _ #[.agg #[.int .i64 e.kind, .int .i64 e.txn, .int .i64 e.unit, .int .i64 e.half, .int .i64 e.prev, .int .i64 e.next, .int .i64 e.ap, .int .i64 e.ac, .int .i64 e.tp, .int .i64 e.tc, _, _, _, _, _, _], _] _ _
  go_enter Try.func7, Try.ntmps7
  go_upto_region 1 with (fail)
  show Code.wp _ _ _ _ (w.alloc (entO e (.slice A1 n1 c1) (.slice A2 n2 c2) (.slice A3 n3 c3) (.slice A4 n4 c4) (.slice A5 n5 c5) (.slice A6 n6 c6)))
  rw [← hW]
  clear hW
  go_wp2_with fail
  refine (begun_any W).mono ?_
  rintro r w2 ⟨rfl, hb2⟩
  have HB2 := Lib.hid (below_on HB0.out hb2)
  have HZ2 := Lib.hid (HZ0.out.on hb2)
  clear HB0 HZ0 hb2
  have HZI := Lib.hid (infoEntC e (.slice A1 n1 c1) (.slice A2 n2 c2) (.slice A3 n3 c3) (.slice A4 n4 c4) (.slice A5 n5 c5) (.slice A6 n6 c6))
  have HL := Lib.hid (light_any w2 e HZ2.out.s)
  go_wp2_with (with_reducible refine wpList_load_row rfl 30 (.tmp 2) rfl w.heap.size rfl 30 _ (0, 0) _ HZ2.out.bx Try.underlying30 rfl HZI.out ?_)
  refine HL.out.mono ?_
  rintro r w3 ⟨b, rfl, hb3, hlg⟩
  have HB3 := Lib.hid (below_on HB2.out hb3)
  have HZ3 := Lib.hid (HZ2.out.on hb3)
  clear HB2 HZ2 hb3 hlg HL
  cases b with
  | false =>
    go_wp2
    go_ret
    exact ⟨rfl, HB3.out⟩
  | true =>
    have HM := Lib.hid (may_any w3 e HZ3.out.s HI.out)
    go_wp2_with ((with_reducible refine wpList_load_rowG ?_ 30 (.tmp 2) rfl w.heap.size rfl 30 _ (0, 0) _ HZ3.out.bx Try.underlying30 rfl HZI.out ?_); · rfl)
    refine HM.out.mono ?_
    rintro r w4 ⟨rfl, hb4⟩
    have HB4 := Lib.hid (below_on HB3.out hb4)
    have HZ4 := Lib.hid (HZ3.out.on hb4)
    clear HB3 HZ3 hb4 HM
    cases hEB : entB e with
    | false =>
      clear hEB
      go_wp2
      go_ret
      exact ⟨rfl, HB4.out⟩
    | true =>
      have HEB := Lib.hid hEB
      clear hEB
      have HBo := Lib.hid (heap_alloc_new w4 (.cells #[.int .i64 0, .int .i64 0, .int .i64 0, .int .i64 0, .int .i64 0, .int .i64 0, .int .i64 0, .int .i64 0, .int .i64 0, .int .i64 0, .slice none 0 0, .slice none 0 0, .slice none 0 0, .slice none 0 0, .slice none 0 0, .slice none 0 0] 30))
      have HZA := Lib.hid (entC_all e A1 A2 A3 A4 A5 A6 n1 c1 n2 c2 n3 c3 n4 c4 n5 c5 n6 c6)
      have HZN := Lib.hid (show (#[.int .i64 0, .int .i64 0, .int .i64 0, .int .i64 0, .int .i64 0, .int .i64 0, .int .i64 0, .int .i64 0, .int .i64 0, .int .i64 0, .slice none 0 0, .slice none 0 0, .slice none 0 0, .slice none 0 0, .slice none 0 0, .slice none 0 0] : Array Value).size = (entC e (.slice A1 n1 c1) (.slice A2 n2 c2) (.slice A3 n3 c3) (.slice A4 n4 c4) (.slice A5 n5 c5) (.slice A6 n6 c6)).size from rfl)
      have HSA := Lib.hid (setRow_alloc w4 #[.int .i64 0, .int .i64 0, .int .i64 0, .int .i64 0, .int .i64 0, .int .i64 0, .int .i64 0, .int .i64 0, .int .i64 0, .int .i64 0, .slice none 0 0, .slice none 0 0, .slice none 0 0, .slice none 0 0, .slice none 0 0, .slice none 0 0] (entC e (.slice A1 n1 c1) (.slice A2 n2 c2) (.slice A3 n3 c3) (.slice A4 n4 c4) (.slice A5 n5 c5) (.slice A6 n6 c6)) 30)
      have HZ4' := Lib.hid ((Below.heap_alloc w4 (.cells #[.int .i64 0, .int .i64 0, .int .i64 0, .int .i64 0, .int .i64 0, .int .i64 0, .int .i64 0, .int .i64 0, .int .i64 0, .int .i64 0, .slice none 0 0, .slice none 0 0, .slice none 0 0, .slice none 0 0, .slice none 0 0, .slice none 0 0] 30) _ ((Array.getElem?_eq_some_iff.1 HZ4.out.bx).1)).trans HZ4.out.bx)
      go_upto_region 6 with (first
        | (with_reducible refine wpList_load_row rfl 30 (.tmp 2) rfl w.heap.size rfl 30 _ (0, 0) _ HZ4.out.bx Try.underlying30 rfl HZI.out ?_)
        | (with_reducible refine wpList_load_row rfl 30 (.tmp 2) rfl w.heap.size rfl 30 _ (0, 0) _ HZ4'.out Try.underlying30 rfl HZI.out ?_)
        | (with_reducible refine wpList_store_row rfl 30 (.tmp 5) (.tmp 17) rfl w4.heap.size _ rfl rfl 30 _ HBo.out HZI.out HZN.out HZA.out ?_))
      rw [HSA.out]
      obtain ⟨w5, HW5, hx5, hbx5⟩ : ∃ W, Hid (w4.alloc (.cells (entC e (.slice A1 n1 c1) (.slice A2 n2 c2) (.slice A3 n3 c3) (.slice A4 n4 c4) (.slice A5 n5 c5) (.slice A6 n6 c6)) 30) = W) ∧ W.heap[w4.heap.size]? = some (.cells (entC e (.slice A1 n1 c1) (.slice A2 n2 c2) (.slice A3 n3 c3) (.slice A4 n4 c4) (.slice A5 n5 c5) (.slice A6 n6 c6)) 30 (0, 0)) ∧ Below w4.heap.size w4 W := ⟨_, Lib.hid rfl, heap_alloc_new w4 _, (Below.refl _ _).alloc (Nat.le_refl _) _⟩
      rw [HW5.out]
      have HB5 := Lib.hid (below_on HB4.out hbx5)
      have HZ5 := Lib.hid (HZ4.out.on hbx5)
      have HBX5 := Lib.hid hx5
      have HG5' : Hid (w.heap.size < w4.heap.size) := (Array.getElem?_eq_some_iff.1 HZ4.out.bx).1
      have HG5 := Lib.hid (Nat.le_of_lt HG5'.out)
      clear HBo HZA HZN HSA HZ4' HW5 hx5 hbx5 HB4 HZ4
      generalize w4.heap.size = g5 at *
      simp only [Act.put]
      have ha0 := ha.1
      have ha1 := ha.2
      go_upto_block 0 with (fail)
      go_cut [19, 20] (fun _ _ wx => Sw w g5 (a % 10) e (.slice A1 n1 c1) (.slice A2 n2 c2) (.slice A3 n3 c3) (.slice A4 n4 c4) (.slice A5 n5 c5) (.slice A6 n6 c6) wx)
      case first =>
          have hcase : a % 10 = 0 ∨ a % 10 = 1 ∨ a % 10 = 2 ∨ a % 10 = 3 ∨ a % 10 = 4 ∨ a % 10 = 5 ∨ a % 10 = 6 ∨ a % 10 = 7 ∨ a % 10 = 8 ∨ a % 10 = 9 := by omega
          clear ha
          rcases hcase with hh | hh | hh | hh | hh | hh | hh | hh | hh | hh
          · have x0 : w5.cell? ⟨g5, 1, none⟩ = some (.int .i64 e.txn) := (cell_of HBX5.out 1).1
            have f0 := (cell_of HBX5.out 1).2
            have HEB' := HEB.out
            simp only [entB, plB, Bool.and_eq_true] at HEB'
            obtain ⟨⟨⟨⟨⟨⟨⟨⟨⟨⟨⟨⟨⟨⟨hk, q0⟩, q1⟩, q2⟩, q3⟩, q4⟩, q5⟩, q6⟩, q7⟩, ho⟩, hn⟩, hm⟩, hl⟩, hd⟩, hp⟩ := HEB'
            have hf : entB { e with txn := x1 e.txn } = true := by
              simp only [entB, plB, Bool.and_eq_true]
              exact ⟨⟨⟨⟨⟨⟨⟨⟨⟨⟨⟨⟨⟨⟨hk, q0⟩, (x1_fit q1 (by decide)).1⟩, q2⟩, q3⟩, q4⟩, q5⟩, q6⟩, q7⟩, ho⟩, hn⟩, hm⟩, hl⟩, hd⟩, hp⟩
            have hne : { e with txn := x1 e.txn } ≠ e := fun hx => (x1_fit q1 (by decide)).2 (congrArg Ent.txn hx)
            have hI : EntI { e with txn := x1 e.txn } := { HI.out with txn := x1_I q1 (by decide) }
            have hS := bz_set (i := 1) (v := .int .i64 (x1 e.txn)) (f := { e with txn := x1 e.txn }) HBX5.out HB5.out HG5.out (show EntS w (.slice A1 n1 c1) (.slice A2 n2 c2) (.slice A3 n3 c3) (.slice A4 n4 c4) (.slice A5 n5 c5) (.slice A6 n6 c6) { e with txn := x1 e.txn } from ⟨HS.out.old, HS.out.new, HS.out.moves, HS.out.lives, HS.out.dirty, HS.out.opens⟩) rfl
            have hfin : Sw w g5 0 e (.slice A1 n1 c1) (.slice A2 n2 c2) (.slice A3 n3 c3) (.slice A4 n4 c4) (.slice A5 n5 c5) (.slice A6 n6 c6) (w5.setCell ⟨g5, 1, none⟩ (.int .i64 (x1 e.txn))) := ⟨hS.2.1, (hS.2.2 _ (Nat.ne_of_lt HG5'.out)).trans HZ5.out.bx, _, _, _, _, _, _, _, _, _, _, _, _, _, _, _, _, _, _, _, hS.1, hI, .inr (.inr (.inr ⟨by decide, hf, hne⟩))⟩
            have HFIN := Lib.hid hfin
            clear hk q0 q1 q2 q3 q4 q5 q6 q7 ho hn hm hl hd hp hf hne hI hS hfin
            go_wp2
            go_meet
            rw [hh]
            exact HFIN.out
          · have x0 : w5.cell? ⟨g5, 4, none⟩ = some (.int .i64 e.prev) := (cell_of HBX5.out 4).1
            have f0 := (cell_of HBX5.out 4).2
            have HEB' := HEB.out
            simp only [entB, plB, Bool.and_eq_true] at HEB'
            obtain ⟨⟨⟨⟨⟨⟨⟨⟨⟨⟨⟨⟨⟨⟨hk, q0⟩, q1⟩, q2⟩, q3⟩, q4⟩, q5⟩, q6⟩, q7⟩, ho⟩, hn⟩, hm⟩, hl⟩, hd⟩, hp⟩ := HEB'
            have hf : entB { e with prev := x1 e.prev } = true := by
              simp only [entB, plB, Bool.and_eq_true]
              exact ⟨⟨⟨⟨⟨⟨⟨⟨⟨⟨⟨⟨⟨⟨hk, q0⟩, q1⟩, q2⟩, q3⟩, (x1_fit q4 (by decide)).1⟩, q5⟩, q6⟩, q7⟩, ho⟩, hn⟩, hm⟩, hl⟩, hd⟩, hp⟩
            have hne : { e with prev := x1 e.prev } ≠ e := fun hx => (x1_fit q4 (by decide)).2 (congrArg Ent.prev hx)
            have hI : EntI { e with prev := x1 e.prev } := { HI.out with prev := x1_I q4 (by decide) }
            have hS := bz_set (i := 4) (v := .int .i64 (x1 e.prev)) (f := { e with prev := x1 e.prev }) HBX5.out HB5.out HG5.out (show EntS w (.slice A1 n1 c1) (.slice A2 n2 c2) (.slice A3 n3 c3) (.slice A4 n4 c4) (.slice A5 n5 c5) (.slice A6 n6 c6) { e with prev := x1 e.prev } from ⟨HS.out.old, HS.out.new, HS.out.moves, HS.out.lives, HS.out.dirty, HS.out.opens⟩) rfl
            have hfin : Sw w g5 1 e (.slice A1 n1 c1) (.slice A2 n2 c2) (.slice A3 n3 c3) (.slice A4 n4 c4) (.slice A5 n5 c5) (.slice A6 n6 c6) (w5.setCell ⟨g5, 4, none⟩ (.int .i64 (x1 e.prev))) := ⟨hS.2.1, (hS.2.2 _ (Nat.ne_of_lt HG5'.out)).trans HZ5.out.bx, _, _, _, _, _, _, _, _, _, _, _, _, _, _, _, _, _, _, _, hS.1, hI, .inr (.inr (.inr ⟨by decide, hf, hne⟩))⟩
            have HFIN := Lib.hid hfin
            clear hk q0 q1 q2 q3 q4 q5 q6 q7 ho hn hm hl hd hp hf hne hI hS hfin
            go_wp2
            go_meet
            rw [hh]
            exact HFIN.out
          · have x0 : w5.cell? ⟨g5, 5, none⟩ = some (.int .i64 e.next) := (cell_of HBX5.out 5).1
            have f0 := (cell_of HBX5.out 5).2
            have HEB' := HEB.out
            simp only [entB, plB, Bool.and_eq_true] at HEB'
            obtain ⟨⟨⟨⟨⟨⟨⟨⟨⟨⟨⟨⟨⟨⟨hk, q0⟩, q1⟩, q2⟩, q3⟩, q4⟩, q5⟩, q6⟩, q7⟩, ho⟩, hn⟩, hm⟩, hl⟩, hd⟩, hp⟩ := HEB'
            have hf : entB { e with next := x1 e.next } = true := by
              simp only [entB, plB, Bool.and_eq_true]
              exact ⟨⟨⟨⟨⟨⟨⟨⟨⟨⟨⟨⟨⟨⟨hk, q0⟩, q1⟩, q2⟩, q3⟩, q4⟩, (x1_fit q5 (by decide)).1⟩, q6⟩, q7⟩, ho⟩, hn⟩, hm⟩, hl⟩, hd⟩, hp⟩
            have hne : { e with next := x1 e.next } ≠ e := fun hx => (x1_fit q5 (by decide)).2 (congrArg Ent.next hx)
            have hI : EntI { e with next := x1 e.next } := { HI.out with next := x1_I q5 (by decide) }
            have hS := bz_set (i := 5) (v := .int .i64 (x1 e.next)) (f := { e with next := x1 e.next }) HBX5.out HB5.out HG5.out (show EntS w (.slice A1 n1 c1) (.slice A2 n2 c2) (.slice A3 n3 c3) (.slice A4 n4 c4) (.slice A5 n5 c5) (.slice A6 n6 c6) { e with next := x1 e.next } from ⟨HS.out.old, HS.out.new, HS.out.moves, HS.out.lives, HS.out.dirty, HS.out.opens⟩) rfl
            have hfin : Sw w g5 2 e (.slice A1 n1 c1) (.slice A2 n2 c2) (.slice A3 n3 c3) (.slice A4 n4 c4) (.slice A5 n5 c5) (.slice A6 n6 c6) (w5.setCell ⟨g5, 5, none⟩ (.int .i64 (x1 e.next))) := ⟨hS.2.1, (hS.2.2 _ (Nat.ne_of_lt HG5'.out)).trans HZ5.out.bx, _, _, _, _, _, _, _, _, _, _, _, _, _, _, _, _, _, _, _, hS.1, hI, .inr (.inr (.inr ⟨by decide, hf, hne⟩))⟩
            have HFIN := Lib.hid hfin
            clear hk q0 q1 q2 q3 q4 q5 q6 q7 ho hn hm hl hd hp hf hne hI hS hfin
            go_wp2
            go_meet
            rw [hh]
            exact HFIN.out
          · have x0 : w5.cell? ⟨g5, 7, none⟩ = some (.int .i64 e.ac) := (cell_of HBX5.out 7).1
            have f0 := (cell_of HBX5.out 7).2
            have HEB' := HEB.out
            simp only [entB, plB, Bool.and_eq_true] at HEB'
            obtain ⟨⟨⟨⟨⟨⟨⟨⟨⟨⟨⟨⟨⟨⟨hk, q0⟩, q1⟩, q2⟩, q3⟩, q4⟩, q5⟩, q6⟩, q7⟩, ho⟩, hn⟩, hm⟩, hl⟩, hd⟩, hp⟩ := HEB'
            have hf : entB { e with ac := x1 e.ac } = true := by
              simp only [entB, plB, Bool.and_eq_true]
              exact ⟨⟨⟨⟨⟨⟨⟨⟨⟨⟨⟨⟨⟨⟨hk, q0⟩, q1⟩, q2⟩, q3⟩, q4⟩, q5⟩, ⟨q6.1, (x1_fit q6.2 (by decide)).1⟩⟩, q7⟩, ho⟩, hn⟩, hm⟩, hl⟩, hd⟩, hp⟩
            have hne : { e with ac := x1 e.ac } ≠ e := fun hx => (x1_fit q6.2 (by decide)).2 (congrArg Ent.ac hx)
            have hI : EntI { e with ac := x1 e.ac } := { HI.out with ac := x1_I q6.2 (by decide) }
            have hS := bz_set (i := 7) (v := .int .i64 (x1 e.ac)) (f := { e with ac := x1 e.ac }) HBX5.out HB5.out HG5.out (show EntS w (.slice A1 n1 c1) (.slice A2 n2 c2) (.slice A3 n3 c3) (.slice A4 n4 c4) (.slice A5 n5 c5) (.slice A6 n6 c6) { e with ac := x1 e.ac } from ⟨HS.out.old, HS.out.new, HS.out.moves, HS.out.lives, HS.out.dirty, HS.out.opens⟩) rfl
            have hfin : Sw w g5 3 e (.slice A1 n1 c1) (.slice A2 n2 c2) (.slice A3 n3 c3) (.slice A4 n4 c4) (.slice A5 n5 c5) (.slice A6 n6 c6) (w5.setCell ⟨g5, 7, none⟩ (.int .i64 (x1 e.ac))) := ⟨hS.2.1, (hS.2.2 _ (Nat.ne_of_lt HG5'.out)).trans HZ5.out.bx, _, _, _, _, _, _, _, _, _, _, _, _, _, _, _, _, _, _, _, hS.1, hI, .inr (.inr (.inr ⟨by decide, hf, hne⟩))⟩
            have HFIN := Lib.hid hfin
            clear hk q0 q1 q2 q3 q4 q5 q6 q7 ho hn hm hl hd hp hf hne hI hS hfin
            go_wp2
            go_meet
            rw [hh]
            exact HFIN.out
          · have x0 : w5.cell? ⟨g5, 8, none⟩ = some (.int .i64 e.tp) := (cell_of HBX5.out 8).1
            have f0 := (cell_of HBX5.out 8).2
            have HEB' := HEB.out
            simp only [entB, plB, Bool.and_eq_true] at HEB'
            obtain ⟨⟨⟨⟨⟨⟨⟨⟨⟨⟨⟨⟨⟨⟨hk, q0⟩, q1⟩, q2⟩, q3⟩, q4⟩, q5⟩, q6⟩, q7⟩, ho⟩, hn⟩, hm⟩, hl⟩, hd⟩, hp⟩ := HEB'
            have hf : entB { e with tp := x1 e.tp } = true := by
              simp only [entB, plB, Bool.and_eq_true]
              exact ⟨⟨⟨⟨⟨⟨⟨⟨⟨⟨⟨⟨⟨⟨hk, q0⟩, q1⟩, q2⟩, q3⟩, q4⟩, q5⟩, q6⟩, ⟨(x1_fit q7.1 (by decide)).1, q7.2⟩⟩, ho⟩, hn⟩, hm⟩, hl⟩, hd⟩, hp⟩
            have hne : { e with tp := x1 e.tp } ≠ e := fun hx => (x1_fit q7.1 (by decide)).2 (congrArg Ent.tp hx)
            have hI : EntI { e with tp := x1 e.tp } := { HI.out with tp := x1_I q7.1 (by decide) }
            have hS := bz_set (i := 8) (v := .int .i64 (x1 e.tp)) (f := { e with tp := x1 e.tp }) HBX5.out HB5.out HG5.out (show EntS w (.slice A1 n1 c1) (.slice A2 n2 c2) (.slice A3 n3 c3) (.slice A4 n4 c4) (.slice A5 n5 c5) (.slice A6 n6 c6) { e with tp := x1 e.tp } from ⟨HS.out.old, HS.out.new, HS.out.moves, HS.out.lives, HS.out.dirty, HS.out.opens⟩) rfl
            have hfin : Sw w g5 4 e (.slice A1 n1 c1) (.slice A2 n2 c2) (.slice A3 n3 c3) (.slice A4 n4 c4) (.slice A5 n5 c5) (.slice A6 n6 c6) (w5.setCell ⟨g5, 8, none⟩ (.int .i64 (x1 e.tp))) := ⟨hS.2.1, (hS.2.2 _ (Nat.ne_of_lt HG5'.out)).trans HZ5.out.bx, _, _, _, _, _, _, _, _, _, _, _, _, _, _, _, _, _, _, _, hS.1, hI, .inr (.inr (.inr ⟨by decide, hf, hne⟩))⟩
            have HFIN := Lib.hid hfin
            clear hk q0 q1 q2 q3 q4 q5 q6 q7 ho hn hm hl hd hp hf hne hI hS hfin
            go_wp2
            go_meet
            rw [hh]
            exact HFIN.out
          · have x0 : w5.cell? ⟨g5, 2, none⟩ = some (.int .i64 e.unit) := (cell_of HBX5.out 2).1
            have f0 := (cell_of HBX5.out 2).2
            have HEB' := HEB.out
            simp only [entB, plB, Bool.and_eq_true] at HEB'
            obtain ⟨⟨⟨⟨⟨⟨⟨⟨⟨⟨⟨⟨⟨⟨hk, q0⟩, q1⟩, q2⟩, q3⟩, q4⟩, q5⟩, q6⟩, q7⟩, ho⟩, hn⟩, hm⟩, hl⟩, hd⟩, hp⟩ := HEB'
            have hf : entB { e with unit := x1 e.unit } = true := by
              simp only [entB, plB, Bool.and_eq_true]
              exact ⟨⟨⟨⟨⟨⟨⟨⟨⟨⟨⟨⟨⟨⟨hk, q0⟩, q1⟩, (x1_fit q2 (by decide)).1⟩, q3⟩, q4⟩, q5⟩, q6⟩, q7⟩, ho⟩, hn⟩, hm⟩, hl⟩, hd⟩, hp⟩
            have hne : { e with unit := x1 e.unit } ≠ e := fun hx => (x1_fit q2 (by decide)).2 (congrArg Ent.unit hx)
            have hI : EntI { e with unit := x1 e.unit } := { HI.out with unit := x1_I q2 (by decide) }
            have hS := bz_set (i := 2) (v := .int .i64 (x1 e.unit)) (f := { e with unit := x1 e.unit }) HBX5.out HB5.out HG5.out (show EntS w (.slice A1 n1 c1) (.slice A2 n2 c2) (.slice A3 n3 c3) (.slice A4 n4 c4) (.slice A5 n5 c5) (.slice A6 n6 c6) { e with unit := x1 e.unit } from ⟨HS.out.old, HS.out.new, HS.out.moves, HS.out.lives, HS.out.dirty, HS.out.opens⟩) rfl
            have hfin : Sw w g5 5 e (.slice A1 n1 c1) (.slice A2 n2 c2) (.slice A3 n3 c3) (.slice A4 n4 c4) (.slice A5 n5 c5) (.slice A6 n6 c6) (w5.setCell ⟨g5, 2, none⟩ (.int .i64 (x1 e.unit))) := ⟨hS.2.1, (hS.2.2 _ (Nat.ne_of_lt HG5'.out)).trans HZ5.out.bx, _, _, _, _, _, _, _, _, _, _, _, _, _, _, _, _, _, _, _, hS.1, hI, .inr (.inr (.inr ⟨by decide, hf, hne⟩))⟩
            have HFIN := Lib.hid hfin
            clear hk q0 q1 q2 q3 q4 q5 q6 q7 ho hn hm hl hd hp hf hne hI hS hfin
            go_wp2
            go_meet
            rw [hh]
            exact HFIN.out
          · have x0 : w5.cell? ⟨g5, 3, none⟩ = some (.int .i64 e.half) := (cell_of HBX5.out 3).1
            have f0 := (cell_of HBX5.out 3).2
            have HEB' := HEB.out
            simp only [entB, plB, Bool.and_eq_true] at HEB'
            obtain ⟨⟨⟨⟨⟨⟨⟨⟨⟨⟨⟨⟨⟨⟨hk, q0⟩, q1⟩, q2⟩, q3⟩, q4⟩, q5⟩, q6⟩, q7⟩, ho⟩, hn⟩, hm⟩, hl⟩, hd⟩, hp⟩ := HEB'
            have hf : entB { e with half := x1 e.half } = true := by
              simp only [entB, plB, Bool.and_eq_true]
              exact ⟨⟨⟨⟨⟨⟨⟨⟨⟨⟨⟨⟨⟨⟨hk, q0⟩, q1⟩, q2⟩, (x1_fit q3 (by decide)).1⟩, q4⟩, q5⟩, q6⟩, q7⟩, ho⟩, hn⟩, hm⟩, hl⟩, hd⟩, hp⟩
            have hne : { e with half := x1 e.half } ≠ e := fun hx => (x1_fit q3 (by decide)).2 (congrArg Ent.half hx)
            have hI : EntI { e with half := x1 e.half } := { HI.out with half := x1_I q3 (by decide) }
            have hS := bz_set (i := 3) (v := .int .i64 (x1 e.half)) (f := { e with half := x1 e.half }) HBX5.out HB5.out HG5.out (show EntS w (.slice A1 n1 c1) (.slice A2 n2 c2) (.slice A3 n3 c3) (.slice A4 n4 c4) (.slice A5 n5 c5) (.slice A6 n6 c6) { e with half := x1 e.half } from ⟨HS.out.old, HS.out.new, HS.out.moves, HS.out.lives, HS.out.dirty, HS.out.opens⟩) rfl
            have hfin : Sw w g5 6 e (.slice A1 n1 c1) (.slice A2 n2 c2) (.slice A3 n3 c3) (.slice A4 n4 c4) (.slice A5 n5 c5) (.slice A6 n6 c6) (w5.setCell ⟨g5, 3, none⟩ (.int .i64 (x1 e.half))) := ⟨hS.2.1, (hS.2.2 _ (Nat.ne_of_lt HG5'.out)).trans HZ5.out.bx, _, _, _, _, _, _, _, _, _, _, _, _, _, _, _, _, _, _, _, hS.1, hI, .inr (.inr (.inr ⟨by decide, hf, hne⟩))⟩
            have HFIN := Lib.hid hfin
            clear hk q0 q1 q2 q3 q4 q5 q6 q7 ho hn hm hl hd hp hf hne hI hS hfin
            go_wp2
            go_meet
            rw [hh]
            exact HFIN.out
          · obtain ⟨E1, p1, r1, W1, hr1, E2, p2, r2, W2, hr2, hs2, hown, hb2⟩ := app_mv w5 (HS.out.moves.below HB5.out (Nat.le_refl _)) (by have := lst_40 (show lstB mvB e.moves = true from by have := HEB.out; simp only [entB, Bool.and_eq_true] at this; exact this.1.1.1.2); omega)
            have x2 : w5.cell? ⟨w.heap.size, 12, none⟩ = some (.slice A3 n3 c3) := (cell_of HZ5.out.bx 12).1
            have x3 : (w5.alloc (.cells #[] 52)).cell? ⟨w.heap.size, 12, none⟩ = some (.slice A3 n3 c3) := (cell_of ((Below.heap_alloc _ _ _ (Array.getElem?_eq_some_iff.1 HZ5.out.bx).1).trans HZ5.out.bx) 12).1
            have hlt5 : g5 < w5.heap.size := (Array.getElem?_eq_some_iff.1 HBX5.out).1
            have hg2 : W2.heap[g5]? = some (.cells (entC e (.slice A1 n1 c1) (.slice A2 n2 c2) (.slice A3 n3 c3) (.slice A4 n4 c4) (.slice A5 n5 c5) (.slice A6 n6 c6)) 30 (0, 0)) := (hb2.block _ hlt5).trans HBX5.out
            have y0 : W2.cell? ⟨g5, 12, none⟩ = some (.slice A3 n3 c3) := (cell_of hg2 12).1
            have z0 := (cell_of hg2 12).2
            have hB2 := below_on HB5.out hb2
            have hB3 : Below w.heap.size w (W2.setCell ⟨g5, 12, none⟩ (.slice E2 p2 r2)) := hB2.trans ⟨rfl, rfl, rfl, by simp, fun k hk => setCell_far _ _ _ _ (by have := HG5'.out; omega)⟩
            have hmv : ∀ m ∈ e.moves ++ [mv0], mvI m := fun m hm => by
              rcases List.mem_append.1 hm with hm | hm
              · exact HI.out.moves m hm
              · obtain rfl : m = mv0 := by simpa using hm
                exact ⟨⟨by decide, by decide⟩, ⟨by decide, by decide⟩, ⟨by decide, by decide⟩, ⟨by decide, by decide⟩⟩
            have hI : EntI { e with moves := e.moves ++ [mv0] } := { HI.out with moves := hmv }
            have hfin : Sw w g5 7 e (.slice A1 n1 c1) (.slice A2 n2 c2) (.slice A3 n3 c3) (.slice A4 n4 c4) (.slice A5 n5 c5) (.slice A6 n6 c6) (W2.setCell ⟨g5, 12, none⟩ (.slice E2 p2 r2)) := by
              refine ⟨hB3, (setCell_far _ _ _ _ (Nat.ne_of_lt HG5'.out)).trans ((hb2.block _ (Array.getElem?_eq_some_iff.1 HZ5.out.bx).1).trans HZ5.out.bx), { e with moves := e.moves ++ [mv0] }, A1, n1, c1, A2, n2, c2, E2, p2, r2, A4, n4, c4, A5, n5, c5, A6, n6, c6, ⟨?_, ?_⟩, hI, .inr (.inr (.inl ⟨rfl, rfl⟩))⟩
              · rw [heap_setCell_same _ _ _ _ _ _ hg2]; rfl
              · exact ⟨HS.out.old.below hB3 (Nat.le_refl _), HS.out.new.below hB3 (Nat.le_refl _), hs2.at (fun _ b hb hl => setCell_far _ _ _ _ (by have := hown b hb; omega)), HS.out.lives.below hB3 (Nat.le_refl _), HS.out.dirty.below hB3 (Nat.le_refl _), HS.out.opens.below hB3 (Nat.le_refl _)⟩
            have HFIN := Lib.hid hfin
            have HR1 := Lib.hid hr1
            have HR2 := Lib.hid hr2
            clear hr1 hr2 hs2 hown hb2 hlt5 hg2 hB2 hB3 hI hmv hfin
            go_wp2_with (at_builtin; first | (with_reducible refine Lib.wpList_append_run _ rfl _ _ _ _ rfl _ _ rfl rfl _ _ (HR1.out _) ?_) | (with_reducible refine Lib.wpList_append_run _ rfl _ _ _ _ rfl _ _ rfl rfl _ _ (HR2.out _) ?_))
            go_meet
            rw [hh]
            exact HFIN.out
          · have hz : ∀ W : World, W.heap[w.heap.size]? = some (.cells (entC e (.slice A1 n1 c1) (.slice A2 n2 c2) (.slice A3 n3 c3) (.slice A4 n4 c4) (.slice A5 n5 c5) (.slice A6 n6 c6)) 30 (0, 0)) → W.cell? ⟨w.heap.size, 11, none⟩ = some (.slice A2 n2 c2) ∧ W.cell? ⟨w.heap.size, 10, none⟩ = some (.slice A1 n1 c1) := fun W h => ⟨(cell_of h 11).1, (cell_of h 10).1⟩
            have hg1 : (w5.setCell ⟨g5, 10, none⟩ (.slice A2 n2 c2)).drew.heap[g5]? = some (.cells ((entC e (.slice A1 n1 c1) (.slice A2 n2 c2) (.slice A3 n3 c3) (.slice A4 n4 c4) (.slice A5 n5 c5) (.slice A6 n6 c6)).setIfInBounds 10 (.slice A2 n2 c2)) 30 (0, 0)) := heap_setCell_same w5 _ _ _ _ _ HBX5.out
            have hg2 : (w5.setCell ⟨g5, 11, none⟩ (.slice A1 n1 c1)).drew.heap[g5]? = some (.cells ((entC e (.slice A1 n1 c1) (.slice A2 n2 c2) (.slice A3 n3 c3) (.slice A4 n4 c4) (.slice A5 n5 c5) (.slice A6 n6 c6)).setIfInBounds 11 (.slice A1 n1 c1)) 30 (0, 0)) := heap_setCell_same w5 _ _ _ _ _ HBX5.out
            have hfar : ∀ i v, (w5.setCell ⟨g5, i, none⟩ v).drew.heap[w.heap.size]? = some (.cells (entC e (.slice A1 n1 c1) (.slice A2 n2 c2) (.slice A3 n3 c3) (.slice A4 n4 c4) (.slice A5 n5 c5) (.slice A6 n6 c6)) 30 (0, 0)) := fun i v => (setCell_far _ _ _ _ (Nat.ne_of_lt HG5'.out)).trans HZ5.out.bx
            obtain ⟨x1, x2⟩ := hz w5 HZ5.out.bx
            obtain ⟨x1', x2'⟩ := hz w5.drew HZ5.out.bx
            obtain ⟨x3, x4⟩ := hz _ (hfar 10 (.slice A2 n2 c2))
            obtain ⟨x5, x6⟩ := hz _ (hfar 11 (.slice A1 n1 c1))
            have y1 : w5.drew.cell? ⟨g5, 10, none⟩ = some (.slice A1 n1 c1) := (cell_of (w := w5.drew) HBX5.out 10).1
            have z1 := (cell_of (w := w5.drew) HBX5.out 10).2
            have y2 : w5.drew.cell? ⟨g5, 11, none⟩ = some (.slice A2 n2 c2) := (cell_of (w := w5.drew) HBX5.out 11).1
            have z2 := (cell_of (w := w5.drew) HBX5.out 11).2
            have y3 : (w5.setCell ⟨g5, 10, none⟩ (.slice A2 n2 c2)).drew.cell? ⟨g5, 11, none⟩ = some (.slice A2 n2 c2) := (cell_of hg1 11).1
            have z3 := (cell_of hg1 11).2
            have y4 : (w5.setCell ⟨g5, 11, none⟩ (.slice A1 n1 c1)).drew.cell? ⟨g5, 10, none⟩ = some (.slice A1 n1 c1) := (cell_of hg2 10).1
            have z4 := (cell_of hg2 10).2
            have hI : EntI { e with old := e.new, new := e.old } := { HI.out with }
            have hfin : ∀ W : World, W.heap[g5]? = some (.cells (entC { e with old := e.new, new := e.old } (.slice A2 n2 c2) (.slice A1 n1 c1) (.slice A3 n3 c3) (.slice A4 n4 c4) (.slice A5 n5 c5) (.slice A6 n6 c6)) 30 (0, 0)) → Below w.heap.size w W → W.heap[w.heap.size]? = some (.cells (entC e (.slice A1 n1 c1) (.slice A2 n2 c2) (.slice A3 n3 c3) (.slice A4 n4 c4) (.slice A5 n5 c5) (.slice A6 n6 c6)) 30 (0, 0)) → Sw w g5 8 e (.slice A1 n1 c1) (.slice A2 n2 c2) (.slice A3 n3 c3) (.slice A4 n4 c4) (.slice A5 n5 c5) (.slice A6 n6 c6) W := fun W h1 h2 h3 => ⟨h2, h3, { e with old := e.new, new := e.old }, A2, n2, c2, A1, n1, c1, A3, n3, c3, A4, n4, c4, A5, n5, c5, A6, n6, c6, ⟨h1, HS.out.new.below h2 (Nat.le_refl _), HS.out.old.below h2 (Nat.le_refl _), HS.out.moves.below h2 (Nat.le_refl _), HS.out.lives.below h2 (Nat.le_refl _), HS.out.dirty.below h2 (Nat.le_refl _), HS.out.opens.below h2 (Nat.le_refl _)⟩, hI, .inr (.inl ⟨rfl, rfl⟩)⟩
            have hB : ∀ i v j u, Below w.heap.size w (((w5.setCell ⟨g5, i, none⟩ v).setCell ⟨g5, j, none⟩ u).drew) := fun i v j u => HB5.out.trans (Below.drew ⟨rfl, rfl, rfl, by simp, fun k hk => (setCell_far _ _ _ _ (by have := HG5'.out; omega)).trans (setCell_far _ _ _ _ (by have := HG5'.out; omega))⟩)
            have f1 : Sw w g5 8 e (.slice A1 n1 c1) (.slice A2 n2 c2) (.slice A3 n3 c3) (.slice A4 n4 c4) (.slice A5 n5 c5) (.slice A6 n6 c6) ((w5.setCell ⟨g5, 10, none⟩ (.slice A2 n2 c2)).setCell ⟨g5, 11, none⟩ (.slice A1 n1 c1)).drew := hfin _ ((heap_setCell_same _ _ _ _ _ _ (show (w5.setCell ⟨g5, 10, none⟩ (.slice A2 n2 c2)).heap[g5]? = _ from hg1)).trans rfl) (hB _ _ _ _) ((setCell_far _ _ _ _ (Nat.ne_of_lt HG5'.out)).trans (hfar _ _))
            have f2 : Sw w g5 8 e (.slice A1 n1 c1) (.slice A2 n2 c2) (.slice A3 n3 c3) (.slice A4 n4 c4) (.slice A5 n5 c5) (.slice A6 n6 c6) ((w5.setCell ⟨g5, 11, none⟩ (.slice A1 n1 c1)).setCell ⟨g5, 10, none⟩ (.slice A2 n2 c2)).drew := hfin _ ((heap_setCell_same _ _ _ _ _ _ (show (w5.setCell ⟨g5, 11, none⟩ (.slice A1 n1 c1)).heap[g5]? = _ from hg2)).trans rfl) (hB _ _ _ _) ((setCell_far _ _ _ _ (Nat.ne_of_lt HG5'.out)).trans (hfar _ _))
            have F1 := Lib.hid f1
            have F2 := Lib.hid f2
            clear hz hg1 hg2 hfar hI hfin hB f1 f2
            go_upto_region 24 with (fail)
            go_region
            all_goals go_wp2
            all_goals go_meet
            all_goals rw [hh]
            all_goals first | exact F1.out | exact F2.out
          · go_wp2
            go_meet
            rw [hh]
            exact ⟨HB5.out, HZ5.out.bx, e, _, _, _, _, _, _, _, _, _, _, _, _, _, _, _, _, _, _, ⟨HBX5.out, HS.out.below HB5.out (Nat.le_refl _)⟩, HI.out, .inl ⟨rfl, rfl⟩⟩
      case rest =>
        obtain ⟨hB, hX, f, T1, k1, d1, T2, k2, d2, T3, k3, d3, T4, k4, d4, T5, k5, d5, T6, k6, d6, hf, hfI, hR⟩ := hcut
        have HB6 := Lib.hid hB
        have HZ6 : Hid (Bz w.heap.size e (.slice A1 n1 c1) (.slice A2 n2 c2) (.slice A3 n3 c3) (.slice A4 n4 c4) (.slice A5 n5 c5) (.slice A6 n6 c6) wc) := ⟨hX, HS.out.below hB (Nat.le_refl _)⟩
        have HF6 := Lib.hid hf
        have HFI := Lib.hid hfI
        have HR := Lib.hid hR
        have HZF := Lib.hid (infoEntC f (.slice T1 k1 d1) (.slice T2 k2 d2) (.slice T3 k3 d3) (.slice T4 k4 d4) (.slice T5 k5 d5) (.slice T6 k6 d6))
        clear hB hX hf hfI hR HB5 HZ5 HBX5 HG5 HG5'
        generalize wc = w6 at *
        have x1 : w6.cell? ⟨w.heap.size, 10, none⟩ = some (.slice A1 n1 c1) := (cell_of HZ6.out.bx 10).1
        have x2 : w6.cell? ⟨w.heap.size, 11, none⟩ = some (.slice A2 n2 c2) := (cell_of HZ6.out.bx 11).1
        have v1 := conv_slK (HZ6.out.s.old)
        have v2 := conv_slK (HZ6.out.s.new)
        have HE := Lib.hid (bstr_eqlE (HZ6.out.s.old).ok (HZ6.out.s.new).ok)
        go_upto_region 25 with (fail)
        go_cut [6] (fun u wx => u = .bool (sameE e f) ∧ w6 = wx)
        case first =>
          by_cases h9 : a % 10 = 9
          · have hq : sameE e f = true := (sameE_iff e f).2 ((apR_same HR.out).2 (.inl h9)).symm
            have HQ := Lib.hid hq
            clear hq HE
            go_wp2
            go_meet
            exact ⟨by rw [HQ.out], rfl⟩
          · by_cases h8 : a % 10 = 8
            · have hq : sameE e f = decide (e.old = e.new) := by
                rw [Bool.eq_iff_iff, sameE_iff, decide_eq_true_eq, eq_comm, apR_same HR.out]
                constructor
                · rintro (k | ⟨_, k⟩)
                  · exact absurd k h9
                  · exact k
                · intro k; exact .inr ⟨h8, k⟩
              have HQ := Lib.hid hq
              clear hq
              go_wp2
              go_meet
              refine ⟨?_, rfl⟩
              rw [HQ.out, ← HE.out]
            · have hq : sameE e f = false := by
                rw [← Bool.not_eq_true, sameE_iff, eq_comm, apR_same HR.out]
                rintro (k | ⟨k, _⟩)
                · exact h9 k
                · exact h8 k
              have HQ := Lib.hid hq
              clear hq HE
              go_wp2
              go_meet
              exact ⟨by rw [HQ.out]; simp [h9], rfl⟩
        case rest =>
          obtain ⟨rfl, rfl⟩ := hcut
          have HM := Lib.hid (may_any w6 f HF6.out.s HFI.out)
          clear x1 x2 v1 v2 HE
          go_wp2_with (with_reducible refine wpList_load_row rfl 30 (.tmp 5) rfl g5 rfl 30 _ (0, 0) _ HF6.out.bx Try.underlying30 rfl HZF.out ?_)
          refine HM.out.mono ?_
          rintro r w7 ⟨rfl, hb7⟩
          have HB7 := Lib.hid (below_on HB6.out hb7)
          have HZ7 := Lib.hid (HZ6.out.on hb7)
          have HF7 := Lib.hid (HF6.out.on hb7)
          clear HB6 HZ6 HF6 HM hb7
          rcases apR_may HEB.out HR.out with hf | ⟨hf, h7, h40⟩
          · have HP := Lib.hid (show sameE e f = decide (putL e = putL f) by rw [Bool.eq_iff_iff, sameE_iff, decide_eq_true_eq, putL_same HEB.out hf, eq_comm])
            have HQ := Lib.hid (same_any w7 e f HZ7.out.s HF7.out.s (entB_len HEB.out))
            rw [hf]
            have HQE := Lib.hid (entB_len HEB.out)
            have HPO := Lib.hid (show bytesOk (putL e) by rw [putL_yes HEB.out]; exact entL_okE HZ7.out.s.old.ok HZ7.out.s.new.ok)
            have HPF := Lib.hid (show bytesOk (putL f) by rw [putL_yes hf]; exact entL_okE HF7.out.s.old.ok HF7.out.s.new.ok)
            obtain ⟨q, hq⟩ : ∃ q, q = sameE e f := ⟨_, rfl⟩
            rw [← hq] at HP
            rw [← hq]
            have HS0 : Hid (∀ W, Below w7.heap.size w7 W → Below w7.heap.size w7 W ∧ W.heap[w.heap.size]? = some (.cells (entC e (.slice A1 n1 c1) (.slice A2 n2 c2) (.slice A3 n3 c3) (.slice A4 n4 c4) (.slice A5 n5 c5) (.slice A6 n6 c6)) 30 (0, 0)) ∧ W.heap[g5]? = some (.cells (entC f (.slice T1 k1 d1) (.slice T2 k2 d2) (.slice T3 k3 d3) (.slice T4 k4 d4) (.slice T5 k5 d5) (.slice T6 k6 d6)) 30 (0, 0))) := fun W h => ⟨h, (HZ7.out.on h).bx, (HF7.out.on h).bx⟩
            have HSM : Hid (∀ W, Below w7.heap.size w7 W → Calls Try.prog 19 #[.agg (entC e (.slice A1 n1 c1) (.slice A2 n2 c2) (.slice A3 n3 c3) (.slice A4 n4 c4) (.slice A5 n5 c5) (.slice A6 n6 c6)), .agg (entC f (.slice T1 k1 d1) (.slice T2 k2 d2) (.slice T3 k3 d3) (.slice T4 k4 d4) (.slice T5 k5 d5) (.slice T6 k6 d6))] W fun r w' => r = .returned (.bool q) ∧ Below W.heap.size W w') := fun W h => by
              rw [hq]
              exact same_any W e f (HZ7.out.on h).s (HF7.out.on h).s HQE.out
            have HP1 : Hid (∀ W, Below w7.heap.size w7 W → Calls Try.prog 16 #[.agg (entC e (.slice A1 n1 c1) (.slice A2 n2 c2) (.slice A3 n3 c3) (.slice A4 n4 c4) (.slice A5 n5 c5) (.slice A6 n6 c6))] W fun r w' => ∃ A m c, r = .returned (.slice A m c) ∧ SlK .u8 w' (.slice A m c) (putL e) ∧ Below W.heap.size W w') := fun W h => (put_any W e (HZ7.out.on h).s HI.out).mono fun r w' ⟨A, m, c, e1, e2, e3⟩ => ⟨A, m, c, e1, own_slK e2 HPO.out, e3⟩
            have HP2 : Hid (∀ W, Below w7.heap.size w7 W → Calls Try.prog 16 #[.agg (entC f (.slice T1 k1 d1) (.slice T2 k2 d2) (.slice T3 k3 d3) (.slice T4 k4 d4) (.slice T5 k5 d5) (.slice T6 k6 d6))] W fun r w' => ∃ A m c, r = .returned (.slice A m c) ∧ SlK .u8 w' (.slice A m c) (putL f) ∧ Below W.heap.size W w') := fun W h => (put_any W f (HF7.out.on h).s HFI.out).mono fun r w' ⟨A, m, c, e1, e2, e3⟩ => ⟨A, m, c, e1, own_slK e2 HPF.out, e3⟩
            have HEQ := Lib.hid (bstr_eqlE HPO.out HPF.out)
            rw [← HP.out] at HEQ
            clear hf hq HP HQ
            generalize putL e = Le at *
            generalize putL f = Lf at *
            have D0 := (Below.refl w7.heap.size w7).drew
            go_upto_region 28 with (fail)
            refine wp_region_held_drew (S := (fun W : World => Below w7.heap.size w7 W ∧ W.heap[w.heap.size]? = some (.cells (entC e (.slice A1 n1 c1) (.slice A2 n2 c2) (.slice A3 n3 c3) (.slice A4 n4 c4) (.slice A5 n5 c5) (.slice A6 n6 c6)) 30 (0, 0)) ∧ W.heap[g5]? = some (.cells (entC f (.slice T1 k1 d1) (.slice T2 k2 d2) (.slice T3 k3 d3) (.slice T4 k4 d4) (.slice T5 k5 d5) (.slice T6 k6 d6)) 30 (0, 0)))) (by kernel_rfl) (HS0.out _ D0) (fun hHeld => ?_)
            refine wpAnyH_take (i := 0) (oi := ⟨_, _, _, _, _, _⟩) (v := .agg (entC e (.slice A1 n1 c1) (.slice A2 n2 c2) (.slice A3 n3 c3) (.slice A4 n4 c4) (.slice A5 n5 c5) (.slice A6 n6 c6))) rfl (by kernel_rfl) (by kernel_rfl) (by kernel_rfl) (fun _ _ _ h => h) (Or.inl ⟨by rfl, fun W hSW => ?_⟩) (by assumption) ?_
            · exact held_row 30 (.tmp 2) (by rfl) w.heap.size (by rfl) 30 _ (0, 0) _ hSW.2.1 Try.underlying30 rfl HZI.out
            try simp only [Act.put, List.setIfInBounds_toArray, List.set_cons_zero, List.set_cons_succ]
            refine wpAnyH_take (i := 1) (oi := ⟨_, _, _, _, _, _⟩) (v := .agg (entC f (.slice T1 k1 d1) (.slice T2 k2 d2) (.slice T3 k3 d3) (.slice T4 k4 d4) (.slice T5 k5 d5) (.slice T6 k6 d6))) rfl (by kernel_rfl) (by kernel_rfl) (by kernel_rfl) (fun _ _ _ h => h) (Or.inl ⟨by rfl, fun W hSW => ?_⟩) (by assumption) ?_
            · exact held_row 30 (.tmp 5) (by rfl) g5 (by rfl) 30 _ (0, 0) _ hSW.2.2 Try.underlying30 rfl HZF.out
            try simp only [Act.put, List.setIfInBounds_toArray, List.set_cons_zero, List.set_cons_succ]
            refine wpAnyH_take (i := 3) (oi := ⟨_, _, _, _, _, _⟩) (v := ?_) rfl (by kernel_rfl) (by kernel_rfl) (by kernel_rfl) (fun _ _ _ h => h) (Or.inl ⟨by rfl, ?_⟩) (by assumption) ?_
            rotate_left
            · intro W hSW
              try dsimp only at hSW
              go_simp
              try with_reducible rfl
            rotate_left
            try simp only [Act.put, List.setIfInBounds_toArray, List.set_cons_zero, List.set_cons_succ]
            refine wpAnyH_ready (rs := [2]) (by kernel_rfl) (by simp) ?_
            refine AllReadyH.cons (o := ⟨_, _, _, _, _, _⟩) rfl (fun K hK => ?_) AllReadyH.nil
            rw [if_pos (by rfl)]
            go_simp
            go_at_call 19
            refine (HSM.out _ D0).mono ?_
            rintro r w8 ⟨rfl, hb0⟩
            have D8 := D0.trans (hb0.mono D0.size)
            go_wp2_with fail
            refine hK.out _ _ (HS0.out _ D8) (fun hHeld => ?_)
            clear hK K
            try simp only [Act.put, List.setIfInBounds_toArray, List.set_cons_zero, List.set_cons_succ]
            refine wpAnyH_take (i := 4) (oi := ⟨_, _, _, _, _, _⟩) (v := ?_) rfl (by kernel_rfl) (by kernel_rfl) (by kernel_rfl) (fun _ _ _ h => h) (Or.inl ⟨by rfl, ?_⟩) (by assumption) ?_
            rotate_left
            · intro W hSW
              try dsimp only at hSW
              go_simp
              try with_reducible rfl
            rotate_left
            try simp only [Act.put, List.setIfInBounds_toArray, List.set_cons_zero, List.set_cons_succ]
            refine wpAnyH_take (i := 5) (oi := ⟨_, _, _, _, _, _⟩) (v := ?_) rfl (by kernel_rfl) (by kernel_rfl) (by kernel_rfl) (fun _ _ _ h => h) (Or.inl ⟨by rfl, ?_⟩) (by assumption) ?_
            rotate_left
            · intro W hSW
              try dsimp only at hSW
              go_simp
              try with_reducible rfl
            rotate_left
            try simp only [Act.put, List.setIfInBounds_toArray, List.set_cons_zero, List.set_cons_succ]
            refine wpAnyH_take (i := 6) (oi := ⟨_, _, _, _, _, _⟩) (v := .agg (entC e (.slice A1 n1 c1) (.slice A2 n2 c2) (.slice A3 n3 c3) (.slice A4 n4 c4) (.slice A5 n5 c5) (.slice A6 n6 c6))) rfl (by kernel_rfl) (by kernel_rfl) (by kernel_rfl) (fun _ _ _ h => h) (Or.inl ⟨by rfl, fun W hSW => ?_⟩) (by assumption) ?_
            · exact held_row 30 (.tmp 2) (by rfl) w.heap.size (by rfl) 30 _ (0, 0) _ hSW.2.1 Try.underlying30 rfl HZI.out
            try simp only [Act.put, List.setIfInBounds_toArray, List.set_cons_zero, List.set_cons_succ]
            refine wpAnyH_take (i := 9) (oi := ⟨_, _, _, _, _, _⟩) (v := .agg (entC f (.slice T1 k1 d1) (.slice T2 k2 d2) (.slice T3 k3 d3) (.slice T4 k4 d4) (.slice T5 k5 d5) (.slice T6 k6 d6))) rfl (by kernel_rfl) (by kernel_rfl) (by kernel_rfl) (fun _ _ _ h => h) (Or.inl ⟨by rfl, fun W hSW => ?_⟩) (by assumption) ?_
            · exact held_row 30 (.tmp 5) (by rfl) g5 (by rfl) 30 _ (0, 0) _ hSW.2.2 Try.underlying30 rfl HZF.out
            try simp only [Act.put, List.setIfInBounds_toArray, List.set_cons_zero, List.set_cons_succ]
            refine wpAnyH_take (i := 13) (oi := ⟨_, _, _, _, _, _⟩) (v := ?_) rfl (by kernel_rfl) (by kernel_rfl) (by kernel_rfl) (fun _ _ _ h => h) (Or.inl ⟨by rfl, ?_⟩) (by assumption) ?_
            rotate_left
            · intro W hSW
              try dsimp only at hSW
              go_simp
              try with_reducible rfl
            rotate_left
            try simp only [Act.put, List.setIfInBounds_toArray, List.set_cons_zero, List.set_cons_succ]
            refine wpAnyH_ready (rs := [7]) (by kernel_rfl) (by simp) ?_
            refine AllReadyH.cons (o := ⟨_, _, _, _, _, _⟩) rfl (fun K hK => ?_) AllReadyH.nil
            rw [if_pos (by rfl)]
            go_simp
            go_at_call 16
            refine (HP1.out _ D8).mono ?_
            rintro r w9 ⟨A, m, c, rfl, hsl, hb0⟩
            have D9 := D8.trans (hb0.mono D8.size)
            go_wp2_with fail
            refine hK.out _ _ (HS0.out _ D9) (fun hHeld => ?_)
            clear hK K
            try simp only [Act.put, List.setIfInBounds_toArray, List.set_cons_zero, List.set_cons_succ]
            have HSL9 := Lib.hid hsl
            have hMore : (Below w7.heap.size w7 w9 ∧ w9.heap[w.heap.size]? = some (.cells (entC e (.slice A1 n1 c1) (.slice A2 n2 c2) (.slice A3 n3 c3) (.slice A4 n4 c4) (.slice A5 n5 c5) (.slice A6 n6 c6)) 30 (0, 0)) ∧ w9.heap[g5]? = some (.cells (entC f (.slice T1 k1 d1) (.slice T2 k2 d2) (.slice T3 k3 d3) (.slice T4 k4 d4) (.slice T5 k5 d5) (.slice T6 k6 d6)) 30 (0, 0))) ∧ Below w9.heap.size w9 w9 ∧ (convert 24 9 (.slice A m c)).run Try.prog w9 = .ok (.string (bstr Le)) w9 := ⟨HS0.out _ D9, Below.refl _ _, conv_slK hsl⟩
            refine wpAnyH_more (S' := fun W : World => (Below w7.heap.size w7 W ∧ W.heap[w.heap.size]? = some (.cells (entC e (.slice A1 n1 c1) (.slice A2 n2 c2) (.slice A3 n3 c3) (.slice A4 n4 c4) (.slice A5 n5 c5) (.slice A6 n6 c6)) 30 (0, 0)) ∧ W.heap[g5]? = some (.cells (entC f (.slice T1 k1 d1) (.slice T2 k2 d2) (.slice T3 k3 d3) (.slice T4 k4 d4) (.slice T5 k5 d5) (.slice T6 k6 d6)) 30 (0, 0))) ∧ Below w9.heap.size w9 W ∧ (convert 24 9 (.slice A m c)).run Try.prog W = .ok (.string (bstr Le)) W) (fun W h => h.1) _ _ _ _ ?_
            clear hsl
            refine wpAnyH_take (i := 8) (oi := ⟨_, _, _, _, _, _⟩) (v := ?_) rfl (by kernel_rfl) (by kernel_rfl) (by kernel_rfl) (fun _ _ _ h => h) (Or.inl ⟨by rfl, ?_⟩) (by assumption) ?_
            rotate_left
            · intro W hSW
              try dsimp only at hSW
              go_simp
              try with_reducible rfl
            rotate_left
            try simp only [Act.put, List.setIfInBounds_toArray, List.set_cons_zero, List.set_cons_succ]
            refine wpAnyH_ready (rs := [10]) (by kernel_rfl) (by simp) ?_
            refine AllReadyH.cons (o := ⟨_, _, _, _, _, _⟩) rfl (fun K hK => ?_) AllReadyH.nil
            rw [if_pos (by rfl)]
            go_simp
            go_at_call 16
            refine (HP2.out _ D9).mono ?_
            rintro r w10 ⟨A2, m2, c2, rfl, hsl2, hb0⟩
            have D10 := D9.trans (hb0.mono D9.size)
            go_wp2_with fail
            refine hK.out _ _ ⟨HS0.out _ D10, hb0, conv_slK (HSL9.out.below hb0 (Nat.le_refl _))⟩ (fun hHeld => ?_)
            clear hK K
            try simp only [Act.put, List.setIfInBounds_toArray, List.set_cons_zero, List.set_cons_succ]
            have v11 := conv_slK hsl2
            refine wpAnyH_ready (rs := [11]) (by kernel_rfl) (by simp) ?_
            refine AllReadyH.cons (o := ⟨_, _, _, _, _, _⟩) rfl (fun K hK => ?_) AllReadyH.nil
            rw [if_pos (by rfl)]
            go_simp
            refine hK.out _ _ hHeld (fun hHeld => ?_)
            clear hK K
            try simp only [Act.put, List.setIfInBounds_toArray, List.set_cons_zero, List.set_cons_succ]
            refine wpAnyH_take (i := 12) (oi := ⟨_, _, _, _, _, _⟩) (v := ?_) rfl (by kernel_rfl) (by kernel_rfl) (by kernel_rfl) (fun _ _ _ h => h) (Or.inl ⟨by rfl, ?_⟩) (by assumption) ?_
            rotate_left
            · intro W hSW
              try dsimp only at hSW
              go_simp
              try with_reducible rfl
            rotate_left
            try simp only [Act.put, List.setIfInBounds_toArray, List.set_cons_zero, List.set_cons_succ]
            refine wpAnyH_take (i := 14) (oi := ⟨_, _, _, _, _, _⟩) (v := ?_) rfl (by kernel_rfl) (by kernel_rfl) (by kernel_rfl) (fun _ _ _ h => h) (Or.inl ⟨by rfl, ?_⟩) (by assumption) ?_
            rotate_left
            · intro W hSW
              try dsimp only at hSW
              go_simp
              try with_reducible rfl
            rotate_left
            try simp only [Act.put, List.setIfInBounds_toArray, List.set_cons_zero, List.set_cons_succ]
            refine wpAnyH_take (i := 15) (oi := ⟨_, _, _, _, _, _⟩) (v := ?_) rfl (by kernel_rfl) (by kernel_rfl) (by kernel_rfl) (fun _ _ _ h => h) (Or.inl ⟨by rfl, ?_⟩) (by assumption) ?_
            rotate_left
            · intro W hSW
              try dsimp only at hSW
              go_simp
              try with_reducible rfl
            rotate_left
            try simp only [Act.put, List.setIfInBounds_toArray, List.set_cons_zero, List.set_cons_succ]
            refine wpAnyH_take (i := 16) (oi := ⟨_, _, _, _, _, _⟩) (v := ?_) rfl (by kernel_rfl) (by kernel_rfl) (by kernel_rfl) (fun _ _ _ h => h) (Or.inl ⟨by rfl, ?_⟩) (by assumption) ?_
            rotate_left
            · intro W hSW
              try dsimp only at hSW
              go_simp
              try with_reducible rfl
            rotate_left
            try simp only [Act.put, List.setIfInBounds_toArray, List.set_cons_zero, List.set_cons_succ]
            refine wpAnyH_done (by kernel_rfl) ?_ _
            go_wp2
            go_ret
            exact ⟨ret_bE (show (((bstr Le).toList == (bstr Lf).toList) == q) = true by rw [HEQ.out]; exact beq_self_eq_true _), HB7.out.trans (D10.mono HB7.out.size)⟩
          · rw [hf]
            have hn : n3 = 40 := by rw [HN3.out, h40]
            subst hn
            have y1 : w7.cell? ⟨w.heap.size, 12, none⟩ = some (.slice A3 40 c3) := (cell_of HZ7.out.bx 12).1
            clear hf h40
            go_wp2
            go_ret
            exact ⟨rfl, HB7.out⟩
end Go.Proofs.Ytkfebibnpincpaa.entryApart
