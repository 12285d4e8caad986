/- readStub. -/
import Derived.Test.YtolfmgbkbmphkaaRead
namespace Go.Proofs.Ytolfmgbkbmphkaa
open Go.RowKit

def StubIs (w : World) (p c : Int) (b : Bool) (e : Ending) (w' : World) : Prop := e = .returned (.tuple #[.agg #[.int .i64 p, .int .i64 c], .bool b]) ∧ Below w.heap.size w w'

set_option maxRecDepth 100000 in
set_option maxHeartbeats 1000000 in
theorem readStub_any (w : World) (b off cap : Nat) (p c : Int) (r : List Int) (h : Pt w (.slice (some ⟨b, off, none⟩) 25 cap) (p :: c :: r)) (hok : bytesOk (p :: c :: r)) (q z : Bool) (hq : placeB p c = q) (hz : zerosB r = z) :
    Calls Try.prog 42 #[.slice (some ⟨b, off, none⟩) 25 cap] w (StubIs w p c (q && z)) := by
  have hc := h.lenEq
  have hb : b < w.heap.size := by obtain ⟨b', o', cap', e, _, h2, _⟩ := h; injection e with e1; injection e1 with e1; injection e1 with e1; omega
  have x0 : w.cell? ⟨b, off, none⟩ = some (.int .u8 p) := by
    obtain ⟨b', o', cap', e, _, _, h3⟩ := h
    injection e with e1; injection e1 with e1; injection e1 with e1 e4; subst e1 e4
    exact h3 0 (by simp)
  have x1 : w.cell? ⟨b, off + 1, none⟩ = some (.int .u8 c) := by
    obtain ⟨b', o', cap', e, _, _, h3⟩ := h
    injection e with e1; injection e1 with e1; injection e1 with e1 e4; subst e1 e4
    exact h3 1 (by simp)
  have hl : r.length = 23 := by have := hc.1; simpa using this
  have hr : Pt w (.slice (some ⟨b, off + 2, none⟩) 23 (cap - 2)) r := h.cut (k := 2) (by omega) (fun _ => rfl) (by omega) (by omega)
  have p0 := hok p (by simp)
  have c0 := hok c (by simp)
  obtain ⟨p0, p1⟩ := p0
  obtain ⟨c0, c1⟩ := c0
  have hcap : 25 ≤ cap := hc.2
  have i1 : (2 : Int) ≤ (cap : Int) := by omega
  have i2 : ¬ cap = 2 := by omega
  have y0 : ∀ o, (w.alloc o).cell? ⟨b, off, none⟩ = some (.int .u8 p) := fun o => (World.cell?_alloc_lt w o ⟨b, off, none⟩ hb).trans x0
  have y1 : ∀ o, (w.alloc o).cell? ⟨b, off + 1, none⟩ = some (.int .u8 c) := fun o => (World.cell?_alloc_lt w o ⟨b, off + 1, none⟩ hb).trans x1
  have e0 := y0 (ridO 0 0)
  have e1 := y1 (ridO 0 0)
  have HRt := Lib.hid hr
  have HQ := Lib.hid hq
  have HZ := Lib.hid hz
  have HL := Lib.hid hl
  have hB : Below w.heap.size w (w.alloc (ridO 0 0)) := (Below.refl _ _).alloc (Nat.le_refl _) _
  have kb := heap_alloc_new w (ridO 0 0)
  clear h hok hc hl hr y0 y1 x0 x1 hq hz
  go_enter Try.func42, Try.ntmps42
  go_upto_region 1 with (fail)
  have ze : w.alloc (.cells #[.int .i64 0, .int .i64 0] 41) = w.alloc (ridO 0 0) := rfl
  rw [ze]
  have hs1 : w.heap.size < (w.alloc (ridO 0 0)).heap.size := by simp
  generalize w.alloc (ridO 0 0) = w1 at *
  have d0 := (cell_of (cs := #[.int .i64 0, .int .i64 0]) kb 0)
  have d1 := (cell_of (cs := #[.int .i64 0, .int .i64 0]) kb 1)
  obtain ⟨d0, g0⟩ := d0
  obtain ⟨d1, g1⟩ := d1
  have KB := Lib.hid kb
  have HB := Lib.hid hB
  clear kb hB ze
  have hne : ¬ b = w.heap.size := by omega
  go_region
  go_wp2
  have hk4 : ((w1.setCell ⟨w.heap.size, 0, none⟩ (.int .i64 p)).setCell ⟨w.heap.size, 1, none⟩ (.int .i64 c)).drew.heap[w.heap.size]? = some (ridO p c) := by
    show ((w1.setCell ⟨w.heap.size, 0, none⟩ (.int .i64 p)).setCell ⟨w.heap.size, 1, none⟩ (.int .i64 c)).heap[w.heap.size]? = some (ridO p c)
    rw [heap_setCell_same _ _ _ _ _ _ (heap_setCell_same _ _ _ _ _ _ KB.out)]; rfl
  have hB4 : Below w.heap.size w ((w1.setCell ⟨w.heap.size, 0, none⟩ (.int .i64 p)).setCell ⟨w.heap.size, 1, none⟩ (.int .i64 c)).drew := ((HB.out.setCell (p := ⟨w.heap.size, 0, none⟩) (Nat.le_refl _) _).setCell (p := ⟨w.heap.size, 1, none⟩) (Nat.le_refl _) _).drew
  have hz4 : w.heap.size < ((w1.setCell ⟨w.heap.size, 0, none⟩ (.int .i64 p)).setCell ⟨w.heap.size, 1, none⟩ (.int .i64 c)).drew.heap.size := by simp; exact hs1
  clear d0 d1 g0 g1 e0 e1 hs1
  generalize ((w1.setCell ⟨w.heap.size, 0, none⟩ (.int .i64 p)).setCell ⟨w.heap.size, 1, none⟩ (.int .i64 c)).drew = w4 at *
  have d0 := (cell_of (cs := #[.int .i64 p, .int .i64 c]) hk4 0)
  have d1 := (cell_of (cs := #[.int .i64 p, .int .i64 c]) hk4 1)
  obtain ⟨d0, g0⟩ := d0
  obtain ⟨d1, g1⟩ := d1
  have HB4 := Lib.hid hB4
  clear hk4 hB4 KB HB
  have HP : Hid (∀ W, Calls Try.prog 49 #[.agg #[.int .i64 p, .int .i64 c]] W fun e w' => e = .returned (.bool q) ∧ w' = W.alloc (ridO p c)) := fun W => by
    have := place_any W p c
    rw [HQ.out] at this
    exact this
  have HZ2 : Hid (∀ W, Below w.heap.size w W → Calls Try.prog 40 #[.slice (some ⟨b, off + 2, none⟩) 23 (cap - 2)] W fun e w' => e = .returned (.bool z) ∧ w' = W) := fun W hW => by
    have := zeros_any W _ r (HRt.out.below hW (Nat.le_refl _)) (by have := HL.out; omega)
    rw [HZ.out] at this
    exact this
  have Z1 := Lib.hid (HZ2.out (w4.alloc (ridO p c)) (HB4.out.alloc (by omega) _))
  have Z2 := Lib.hid (HZ2.out (w4.drew.alloc (ridO p c)) (HB4.out.drew.alloc (show w.heap.size ≤ w4.heap.size by omega) _))
  clear HRt HQ HZ HL
  cases q
  · rw [Bool.false_and]
    first | (go_region_with (go_at_call 49; refine (HP.out _).mono ?_; rintro e w5 ⟨rfl, rfl⟩)) | skip
    all_goals go_wp2
    all_goals
      refine bodyPost_ret (v := .tuple #[.agg #[.int .i64 p, .int .i64 c], .bool false]) ?_ rfl ?_
    all_goals first
      | exact ⟨rfl, ((((HB4.out.setCell (p := ⟨w.heap.size, 0, none⟩) (Nat.le_refl _) _).setCell (p := ⟨w.heap.size, 1, none⟩) (Nat.le_refl _) _).alloc (by simp; omega) _).drew)⟩
      | simp [results, Try.results42, go_sem, d0, d1, hz4, Act.put]
  · rw [Bool.true_and]
    go_region_with (first | (go_at_call 49; refine (HP.out _).mono ?_; rintro e w5 ⟨rfl, rfl⟩) | (go_at_call 40; first | (refine Z1.out.mono ?_; rintro e w5 ⟨rfl, rfl⟩) | (refine Z2.out.mono ?_; rintro e w5 ⟨rfl, rfl⟩)))
    all_goals go_wp2
    all_goals
      refine bodyPost_ret (v := .tuple #[.agg #[.int .i64 p, .int .i64 c], .bool z]) ?_ rfl ?_
    all_goals first
      | exact ⟨rfl, ((((HB4.out.setCell (p := ⟨w.heap.size, 0, none⟩) (Nat.le_refl _) _).setCell (p := ⟨w.heap.size, 1, none⟩) (Nat.le_refl _) _).alloc (by simp; omega) _).drew)⟩
      | simp [results, Try.results42, go_sem, d0, d1, hz4, Act.put]
end Go.Proofs.Ytolfmgbkbmphkaa
