/- The writer: its state, need, number. -/
import Derived.Test.YtemmhligohebfaaEnt
import Derived.Deep.AppendLies
import Derived.Deep.RegionLaw
namespace Go.Proofs.Ytemmhligohebfaa
open Go.RowKit

/-- The writer in block p, with the bytes that it has gathered, and whether something was wrong. -/
def WS (w : World) (p : Nat) (v : Value) (l : List Int) (bad : Bool) : Prop := w.heap[p]? = some (.cells #[v, .bool bad] 113 (0, 0)) ∧ w.ownsRow (p + 1) 5 1 v l.length (byteV l)

/-- Only the writer and its row have turned. -/
structure Wr (p : Nat) (w : World) (v : Value) (w' : World) (v' : Value) : Prop where
  os : w'.os = w.os
  tape : w'.tape = w.tape
  output : w'.output = w.output
  size : w.heap.size ≤ w'.heap.size
  block : ∀ k, k < w.heap.size → k ≠ p → v.ownBlock ≠ some k → w'.heap[k]? = w.heap[k]? ∧ v'.ownBlock ≠ some k

theorem Wr.refl (p : Nat) (w : World) (v : Value) : Wr p w v w v := ⟨rfl, rfl, rfl, Nat.le_refl _, fun _ _ _ h => ⟨rfl, h⟩⟩
theorem Wr.trans {p : Nat} {a b c : World} {u v x : Value} (h : Wr p a u b v) (k : Wr p b v c x) : Wr p a u c x :=
  ⟨k.os.trans h.os, k.tape.trans h.tape, k.output.trans h.output, Nat.le_trans h.size k.size, fun i hi h1 h2 => by
    obtain ⟨a1, a2⟩ := h.block i hi h1 h2
    obtain ⟨b1, b2⟩ := k.block i (Nat.lt_of_lt_of_le hi h.size) h1 a2
    exact ⟨b1.trans a1, b2⟩⟩
theorem Wr.alloc (p : Nat) (w : World) (v : Value) (o : Obj) : Wr p w v (w.alloc o) v := ⟨rfl, rfl, rfl, by simp, fun k hk _ h => ⟨Below.heap_alloc w _ k hk, h⟩⟩
theorem WS.lt {w : World} {p : Nat} {v : Value} {l : List Int} {bad : Bool} (h : WS w p v l bad) : p < w.heap.size := (Array.getElem?_eq_some_iff.1 h.1).1
theorem WS.far {w : World} {p : Nat} {v : Value} {l : List Int} {bad : Bool} (h : WS w p v l bad) {k : Nat} (hk : k ≤ p) : v.ownBlock ≠ some k := fun e => by
  have := h.2.lt k e; omega
theorem Wr.below {p : Nat} {w w' : World} {v v' : Value} {l : List Int} {bad : Bool} (h : WS w p v l bad) (k : Wr p w v w' v') : Below p w w' :=
  ⟨k.os, k.tape, k.output, k.size, fun i hi => (k.block i (Nat.lt_trans hi h.lt) (by omega) (h.far (by omega))).1⟩
theorem own_bel {w w' : World} {B n : Nat} {v : Value} {xs : List Value} {e : TypeId} {sz : Nat} (h : w.ownsRow B e sz v n xs) (hb : Below w.heap.size w w') : w'.ownsRow B e sz v n xs := by
  obtain ⟨h1, ⟨e, h2⟩ | ⟨g, cap, cur, e, a, b, r⟩⟩ := h
  · exact ⟨h1, .inl ⟨e, h2⟩⟩
  · exact ⟨h1, .inr ⟨g, cap, cur, e, a, (hb.block g (Array.getElem?_eq_some_iff.1 b).1).trans b, r⟩⟩
theorem own_at {w w' : World} {B n : Nat} {v : Value} {xs : List Value} {e : TypeId} {sz : Nat} (h : w.ownsRow B e sz v n xs) (hb : ∀ k, v.ownBlock = some k → w'.heap[k]? = w.heap[k]?) : w'.ownsRow B e sz v n xs := by
  obtain ⟨h1, ⟨e, h2⟩ | ⟨g, cap, cur, e, a, b, r⟩⟩ := h
  · exact ⟨h1, .inl ⟨e, h2⟩⟩
  · subst e
    exact ⟨h1, .inr ⟨g, cap, cur, rfl, a, (hb g rfl).trans b, r⟩⟩
theorem WS.on {w w' : World} {p : Nat} {v : Value} {l : List Int} {bad : Bool} (h : WS w p v l bad) (hb : Below w.heap.size w w') : WS w' p v l bad := ⟨(hb.block p h.lt).trans h.1, own_bel h.2 hb⟩
theorem WS.alloc {w : World} {p : Nat} {v : Value} {l : List Int} {bad : Bool} (h : WS w p v l bad) (o : Obj) : WS (w.alloc o) p v l bad := h.on ((Below.refl _ _).alloc (Nat.le_refl _) _)
theorem WS.drew {w : World} {p : Nat} {v : Value} {l : List Int} {bad : Bool} (h : WS w p v l bad) : WS w.drew p v l bad := h
theorem WS.c0 {w : World} {p : Nat} {v : Value} {l : List Int} {bad : Bool} (h : WS w p v l bad) : w.cell? ⟨p, 0, none⟩ = some v := (cell_of h.1 0).1
theorem WS.c1 {w : World} {p : Nat} {v : Value} {l : List Int} {bad : Bool} (h : WS w p v l bad) : w.cell? ⟨p, 1, none⟩ = some (.bool bad) := (cell_of h.1 1).1
theorem WS.f {w : World} {p : Nat} {v : Value} {l : List Int} {bad : Bool} (h : WS w p v l bad) (i : Nat) : w.frozen? ⟨p, i, none⟩ = false := (cell_of h.1 i).2
theorem setCell_far (w : World) (g i : Nat) (v : Value) {k : Nat} (h : k ≠ g) : (w.setCell ⟨g, i, none⟩ v).heap[k]? = w.heap[k]? := Below.heap_setCell _ _ _ _ h

/-- The mark is set. -/
theorem WS.mark {w : World} {p : Nat} {v : Value} {l : List Int} {bad : Bool} (h : WS w p v l bad) (b : Bool) : WS (w.setCell ⟨p, 1, none⟩ (.bool b)) p v l b ∧ Wr p w v (w.setCell ⟨p, 1, none⟩ (.bool b)) v := by
  refine ⟨⟨?_, own_at h.2 fun k hk => setCell_far _ _ _ _ (fun e => h.far (Nat.le_refl p) (by rw [hk, e]))⟩, ⟨rfl, rfl, rfl, by simp, fun k _ hk h2 => ⟨setCell_far _ _ _ _ hk, h2⟩⟩⟩
  rw [heap_setCell_same w p 1 _ _ _ h.1]
  rfl

/-- Something is appended, and the new row is set. -/
theorem WS.put {w w1 : World} {p : Nat} {v v' : Value} {l : List Int} {bad : Bool} (h : WS w p v l bad) {xs : List Int} (ho : w1.ownsRow (p + 1) 5 1 v' (l ++ xs).length (byteV (l ++ xs))) (hg : w.grownBy w1 v.ownBlock)
    (hv : v'.ownBlock = v.ownBlock ∨ ∀ k, v'.ownBlock = some k → w.heap.size ≤ k) : WS (w1.setCell ⟨p, 0, none⟩ v') p v' (l ++ xs) bad ∧ Wr p w v (w1.setCell ⟨p, 0, none⟩ v') v' := by
  have hp : w1.heap[p]? = some (.cells #[v, .bool bad] 113 (0, 0)) := (hg.block p h.lt (fun e => h.far (Nat.le_refl p) e.symm)).trans h.1
  refine ⟨⟨?_, own_at ho fun k hk => setCell_far _ _ _ _ (fun e => by have := ho.lt k hk; omega)⟩, ⟨hg.os, hg.tape, hg.output, by simpa using hg.size, fun k hk hkp h2 => ⟨(setCell_far _ _ _ _ hkp).trans (hg.block k hk (fun e => h2 e.symm)), fun e => ?_⟩⟩⟩
  · rw [heap_setCell_same w1 p 0 _ _ _ hp]
    rfl
  · rcases hv with hv | hv
    · exact h2 (by rw [← hv, e])
    · have := hv k e; omega

set_option maxRecDepth 100000 in
set_option maxHeartbeats 400000 in
theorem need_any {w : World} {p : Nat} {v : Value} {l : List Int} {bad : Bool} (h : WS w p v l bad) (b : Bool) :
    Calls Try.prog 61 #[.pointer (some ⟨p, 0, none⟩), .bool b] w fun e w' => e = .returned (.bool b) ∧ WS w' p v l (bad || !b) ∧ Wr p w v w' v := by
  have c1 := h.c1
  have f1 := h.f 1
  have HH := Lib.hid h
  clear h
  cases bad <;> cases b
  all_goals
    go_enter Try.func61, Try.ntmps61
    go_wp2
    go_ret
    exact ⟨rfl, HH.out.mark _⟩

end Go.Proofs.Ytemmhligohebfaa
