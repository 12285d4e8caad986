/- PoolNone, a part. -/
import Derived.Test.YtljbhdldfffpfaaGreatQn23
namespace Go.Proofs.YtljbhdldfffpfaaGreat.Lf
open Go.Proofs.YtljbhdldfffpfaaGreat
open Go.RowKit

/-- The parts of a row's bytes behind its kind. -/
structure Prt (L : List Int) (c1 : Int) (t1 : List Int) (c2 : Int) (t2 : List Int) (c3 : Int) (t3 : List Int) : Prop where
  e1 : L = c1 :: t1
  e2 : t1.drop 8 = c2 :: t2
  e3 : t2.drop 6 = c3 :: t3
  l1 : t1.length = 24
  l2 : t2.length = 15
  l3 : t3.length = 8
  o1 : bytesOk (c1 :: t1)
  o2 : bytesOk (c2 :: t2)
  o3 : bytesOk (c3 :: t3)
theorem prt_of {L : List Int} (h : L.length = 25) (ho : bytesOk L) : ∃ c1 t1 c2 t2 c3 t3, Prt L c1 t1 c2 t2 c3 t3 := by
  obtain ⟨c1, t1, rfl⟩ : ∃ c t, L = c :: t := by cases L with
    | nil => simp at h
    | cons c t => exact ⟨c, t, rfl⟩
  have h1 : t1.length = 24 := by simpa using h
  have g2 : (t1.drop 8).length = 16 := by rw [List.length_drop]; omega
  obtain ⟨c2, t2, e2⟩ : ∃ c t, t1.drop 8 = c :: t := by cases hd : t1.drop 8 with
    | nil => rw [hd] at g2; simp at g2
    | cons c t => exact ⟨c, t, rfl⟩
  have h2 : t2.length = 15 := by rw [e2] at g2; simpa using g2
  have g3 : (t2.drop 6).length = 9 := by rw [List.length_drop]; omega
  obtain ⟨c3, t3, e3⟩ : ∃ c t, t2.drop 6 = c :: t := by cases hd : t2.drop 6 with
    | nil => rw [hd] at g3; simp at g3
    | cons c t => exact ⟨c, t, rfl⟩
  have h3 : t3.length = 8 := by rw [e3] at g3; simpa using g3
  have o1 : bytesOk t1 := fun x hx => ho x (by simp [hx])
  have o2 : bytesOk (c2 :: t2) := by rw [← e2]; exact ok_drop o1 8
  have o3 : bytesOk (c3 :: t3) := by rw [← e3]; exact ok_drop (fun x hx => o2 x (by simp [hx])) 6
  exact ⟨c1, t1, c2, t2, c3, t3, rfl, e2, e3, h1, h2, h3, ho, o2, o3⟩

def RowIs (w : World) (k s v : ByteArray) (b : Bool) (e : Ending) (w' : World) : Prop := e = .returned (.tuple #[.agg #[.string k, .string s, .string v], .bool b]) ∧ Below w.heap.size w w'
def RowNo (w : World) (e : Ending) (w' : World) : Prop := ∃ k s v, e = .returned (.tuple #[.agg #[.string k, .string s, .string v], .bool false]) ∧ Below w.heap.size w w'

set_option maxRecDepth 100000 in
set_option maxHeartbeats 1000000 in
theorem readRow_ok (w : World) (v : Value) {L : List Int} {c1 : Int} {t1 : List Int} {c2 : Int} {t2 : List Int} {c3 : Int} {t3 : List Int} (P : Prt L c1 t1 c2 t2 c3 t3) (h : Pt w v L) (b1 : partB c1 t1 8 = true) (b2 : partB c2 t2 6 = true) (b3 : partB c3 t3 8 = true) (b : Bool) (hm : mayB (partS c1 t1) (partS c2 t2) (partS c3 t3) = b) :
    Calls Tryz.prog 129 #[v] w (RowIs w (partS c1 t1) (partS c2 t2) (partS c3 t3) b) := by
  have hk1 : partR c1 t1 8 = partS c1 t1 := by rw [partR, if_pos b1]
  have hk2 : partR c2 t2 6 = partS c2 t2 := by rw [partR, if_pos b2]
  have hk3 : partR c3 t3 8 = partS c3 t3 := by rw [partR, if_pos b3]
  have f1 := fun W V (hp : Pt W V (c1 :: t1)) => cut_any W V c1 t1 8 (Or.inl rfl) hp P.o1 (by rw [P.l1]; omega) (by rw [P.l1]; omega)
  have f2 := fun W V (hp : Pt W V (c2 :: t2)) => cut_any W V c2 t2 6 (Or.inr rfl) hp P.o2 (by rw [P.l2]; omega) (by rw [P.l2]; omega)
  have f3 := fun W V (hp : Pt W V (c3 :: t3)) => cut_any W V c3 t3 8 (Or.inl rfl) hp P.o3 (by rw [P.l3]; omega) (by rw [P.l3]; omega)
  rw [hk1, b1, P.e2] at f1
  rw [hk2, b2, P.e3] at f2
  rw [hk3, b3] at f3
  rw [P.e1] at h
  have HP := Lib.hid h
  have F1 := Lib.hid f1
  have F2 := Lib.hid f2
  have F3 := Lib.hid f3
  have HM := Lib.hid hm
  clear f1 f2 f3 hk1 hk2 hk3 b1 b2 b3 P h hm
  generalize partS c1 t1 = k1 at *
  generalize partS c2 t2 = k2 at *
  generalize partS c3 t3 = k3 at *
  go_enter Tryz.func129, Tryz.ntmps129
  go_wp2_with fail
  refine (F1.out _ _ (HP.out.below (B := w.heap.size) ((Below.refl _ _).alloc (Nat.le_refl _) _) (Nat.le_refl _))).mono ?_
  rintro e w1 ⟨r1, n1, rfl, p1, rfl⟩
  go_wp2_with fail
  refine (F2.out _ _ p1).mono ?_
  rintro e w1 ⟨r2, n2, rfl, p2, rfl⟩
  rw [World.drewN_drewN] at p2
  clear p1
  go_wp2_with fail
  refine (F3.out _ _ p2).mono ?_
  rintro e w3 ⟨r3, n3, rfl, p3, hw⟩
  have hB : Below w.heap.size w w3 := by rw [hw]; exact ((Below.refl _ _).alloc (Nat.le_refl _) _).trans ((below_drewN _ _ _).trans (below_drewN _ _ _))
  have kb : w3.heap[w.heap.size]? = some (rowO ⟨#[]⟩ ⟨#[]⟩ ⟨#[]⟩) := by rw [hw]; exact heap_alloc_new w _
  clear p2 p3 hw
  have c0 := (cell_of (cs := #[.string ⟨#[]⟩, .string ⟨#[]⟩, .string ⟨#[]⟩]) kb 0)
  have c1 := (cell_of (cs := #[.string ⟨#[]⟩, .string ⟨#[]⟩, .string ⟨#[]⟩]) kb 1)
  have c2 := (cell_of (cs := #[.string ⟨#[]⟩, .string ⟨#[]⟩, .string ⟨#[]⟩]) kb 2)
  obtain ⟨c0, g0⟩ := c0
  obtain ⟨c1, g1⟩ := c1
  obtain ⟨c2, g2⟩ := c2
  have KB := Lib.hid kb
  have HB := Lib.hid hB
  clear kb hB
  go_wp2
  have hk4 : (((w3.setCell ⟨w.heap.size, 0, none⟩ (.string k1)).setCell ⟨w.heap.size, 1, none⟩ (.string k2)).setCell ⟨w.heap.size, 2, none⟩ (.string k3)).heap[w.heap.size]? = some (rowO k1 k2 k3) := by
    rw [heap_setCell_same _ _ _ _ _ _ (heap_setCell_same _ _ _ _ _ _ (heap_setCell_same _ _ _ _ _ _ KB.out))]; rfl
  have hB4 : Below w.heap.size w (((w3.setCell ⟨w.heap.size, 0, none⟩ (.string k1)).setCell ⟨w.heap.size, 1, none⟩ (.string k2)).setCell ⟨w.heap.size, 2, none⟩ (.string k3)) := ((HB.out.setCell (p := ⟨w.heap.size, 0, none⟩) (Nat.le_refl _) _).setCell (p := ⟨w.heap.size, 1, none⟩) (Nat.le_refl _) _).setCell (p := ⟨w.heap.size, 2, none⟩) (Nat.le_refl _) _
  clear c0 c1 c2 g0 g1 g2
  generalize ((w3.setCell ⟨w.heap.size, 0, none⟩ (.string k1)).setCell ⟨w.heap.size, 1, none⟩ (.string k2)).setCell ⟨w.heap.size, 2, none⟩ (.string k3) = w4 at *
  have c0 := (cell_of (cs := #[.string k1, .string k2, .string k3]) hk4 0)
  have c1 := (cell_of (cs := #[.string k1, .string k2, .string k3]) hk4 1)
  have c2 := (cell_of (cs := #[.string k1, .string k2, .string k3]) hk4 2)
  obtain ⟨c0, g0⟩ := c0
  obtain ⟨c1, g1⟩ := c1
  obtain ⟨c2, g2⟩ := c2
  have HB4 := Lib.hid hB4
  have HZ4 := Lib.hid hB4.size
  clear hk4 hB4 KB HB
  have hz : w.heap.size < w4.heap.size := by
    have := HZ4.out
    by_cases h : w.heap.size < w4.heap.size
    · exact h
    · exfalso
      have : w4.cell? ⟨w.heap.size, 0, none⟩ = none := by simp [World.cell?, Array.getElem?_eq_none (show w4.heap.size ≤ w.heap.size by omega)]
      rw [this] at c0; cases c0
  go_region_with (go_at_call 161; refine (may_any _ k1 k2 k3).mono ?_; rintro e w5 ⟨rfl, rfl⟩)
  all_goals go_wp2
  all_goals
    refine bodyPost_ret (v := .tuple #[.agg #[.string k1, .string k2, .string k3], .bool (mayB k1 k2 k3)]) ?_ rfl ?_
  all_goals first
    | exact ⟨by rw [HM.out], (((((HB4.out.setCell (p := ⟨w.heap.size, 0, none⟩) (Nat.le_refl _) _).setCell (p := ⟨w.heap.size, 1, none⟩) (Nat.le_refl _) _).setCell (p := ⟨w.heap.size, 2, none⟩) (Nat.le_refl _) _).alloc (by simp; omega) _).drew)⟩
    | simp [results, Tryz.results129, go_sem, c0, c1, c2, hz, Act.put]

set_option maxRecDepth 100000 in
set_option maxHeartbeats 4000000 in
theorem readRow_no (w : World) (v : Value) {L : List Int} {c1 : Int} {t1 : List Int} {c2 : Int} {t2 : List Int} {c3 : Int} {t3 : List Int} (P : Prt L c1 t1 c2 t2 c3 t3) (h : Pt w v L) (hq : (partB c1 t1 8 && partB c2 t2 6 && partB c3 t3 8) = false) :
    Calls Tryz.prog 129 #[v] w (RowNo w) := by
  have f1 := fun W V (hp : Pt W V (c1 :: t1)) => cut_any W V c1 t1 8 (Or.inl rfl) hp P.o1 (by rw [P.l1]; omega) (by rw [P.l1]; omega)
  have f2 := fun W V (hp : Pt W V (c2 :: t2)) => cut_any W V c2 t2 6 (Or.inr rfl) hp P.o2 (by rw [P.l2]; omega) (by rw [P.l2]; omega)
  have f3 := fun W V (hp : Pt W V (c3 :: t3)) => cut_any W V c3 t3 8 (Or.inl rfl) hp P.o3 (by rw [P.l3]; omega) (by rw [P.l3]; omega)
  rw [P.e2] at f1
  rw [P.e3] at f2
  rw [P.e1] at h
  have HP := Lib.hid h
  generalize partR c1 t1 8 = k1 at *
  generalize partR c2 t2 6 = k2 at *
  generalize partR c3 t3 8 = k3 at *
  generalize partB c1 t1 8 = q1 at *
  generalize partB c2 t2 6 = q2 at *
  generalize partB c3 t3 8 = q3 at *
  have F1 := Lib.hid f1
  have F2 := Lib.hid f2
  have F3 := Lib.hid f3
  clear f1 f2 f3 P h
  obtain rfl | ⟨rfl, rfl⟩ | ⟨rfl, rfl, rfl⟩ : q1 = false ∨ (q1 = true ∧ q2 = false) ∨ (q1 = true ∧ q2 = true ∧ q3 = false) := by
    cases q1 <;> cases q2 <;> cases q3 <;> simp_all
  all_goals
    clear hq
    go_enter Tryz.func129, Tryz.ntmps129
    go_wp2_with fail
    refine (F1.out _ _ (HP.out.below (B := w.heap.size) ((Below.refl _ _).alloc (Nat.le_refl _) _) (Nat.le_refl _))).mono ?_
    rintro e w1 ⟨r1, n1, rfl, p1, rfl⟩
    go_wp2_with fail
    refine (F2.out _ _ p1).mono ?_
    rintro e w1 ⟨r2, n2, rfl, p2, rfl⟩
    rw [World.drewN_drewN] at p2
    clear p1
    go_wp2_with fail
    refine (F3.out _ _ p2).mono ?_
    rintro e w3 ⟨r3, n3, rfl, p3, hw⟩
    have hB : Below w.heap.size w w3 := by rw [hw]; exact ((Below.refl _ _).alloc (Nat.le_refl _) _).trans ((below_drewN _ _ _).trans (below_drewN _ _ _))
    have kb : w3.heap[w.heap.size]? = some (rowO ⟨#[]⟩ ⟨#[]⟩ ⟨#[]⟩) := by rw [hw]; exact heap_alloc_new w _
    clear p2 p3 hw
    have c0 := (cell_of (cs := #[.string ⟨#[]⟩, .string ⟨#[]⟩, .string ⟨#[]⟩]) kb 0)
    have c1 := (cell_of (cs := #[.string ⟨#[]⟩, .string ⟨#[]⟩, .string ⟨#[]⟩]) kb 1)
    have c2 := (cell_of (cs := #[.string ⟨#[]⟩, .string ⟨#[]⟩, .string ⟨#[]⟩]) kb 2)
    obtain ⟨c0, g0⟩ := c0
    obtain ⟨c1, g1⟩ := c1
    obtain ⟨c2, g2⟩ := c2
    have KB := Lib.hid kb
    have HB := Lib.hid hB
    clear kb hB
    go_wp2
    have hk4 : (((w3.setCell ⟨w.heap.size, 0, none⟩ (.string k1)).setCell ⟨w.heap.size, 1, none⟩ (.string k2)).setCell ⟨w.heap.size, 2, none⟩ (.string k3)).heap[w.heap.size]? = some (rowO k1 k2 k3) := by
      rw [heap_setCell_same _ _ _ _ _ _ (heap_setCell_same _ _ _ _ _ _ (heap_setCell_same _ _ _ _ _ _ KB.out))]; rfl
    have hB4 : Below w.heap.size w (((w3.setCell ⟨w.heap.size, 0, none⟩ (.string k1)).setCell ⟨w.heap.size, 1, none⟩ (.string k2)).setCell ⟨w.heap.size, 2, none⟩ (.string k3)) := ((HB.out.setCell (p := ⟨w.heap.size, 0, none⟩) (Nat.le_refl _) _).setCell (p := ⟨w.heap.size, 1, none⟩) (Nat.le_refl _) _).setCell (p := ⟨w.heap.size, 2, none⟩) (Nat.le_refl _) _
    clear c0 c1 c2 g0 g1 g2
    generalize ((w3.setCell ⟨w.heap.size, 0, none⟩ (.string k1)).setCell ⟨w.heap.size, 1, none⟩ (.string k2)).setCell ⟨w.heap.size, 2, none⟩ (.string k3) = w4 at *
    have c0 := (cell_of (cs := #[.string k1, .string k2, .string k3]) hk4 0)
    have c1 := (cell_of (cs := #[.string k1, .string k2, .string k3]) hk4 1)
    have c2 := (cell_of (cs := #[.string k1, .string k2, .string k3]) hk4 2)
    obtain ⟨c0, g0⟩ := c0
    obtain ⟨c1, g1⟩ := c1
    obtain ⟨c2, g2⟩ := c2
    have HB4 := Lib.hid hB4
    have HZ4 := Lib.hid hB4.size
    clear hk4 hB4 KB HB
    have hz : w.heap.size < w4.heap.size := by
      have := HZ4.out
      by_cases h : w.heap.size < w4.heap.size
      · exact h
      · exfalso
        have : w4.cell? ⟨w.heap.size, 0, none⟩ = none := by simp [World.cell?, Array.getElem?_eq_none (show w4.heap.size ≤ w.heap.size by omega)]
        rw [this] at c0; cases c0
    go_region
  all_goals go_wp2
  all_goals
    refine bodyPost_ret (v := .tuple #[.agg #[.string k1, .string k2, .string k3], .bool false]) ?_ rfl ?_
  all_goals first
    | exact ⟨k1, k2, k3, rfl, (((((HB4.out.setCell (p := ⟨w.heap.size, 0, none⟩) (Nat.le_refl _) _).setCell (p := ⟨w.heap.size, 1, none⟩) (Nat.le_refl _) _).setCell (p := ⟨w.heap.size, 2, none⟩) (Nat.le_refl _) _)).drew)⟩
    | simp [results, Tryz.results129, go_sem, c0, c1, c2]
end Go.Proofs.YtljbhdldfffpfaaGreat.Lf
namespace Go.Proofs.YtljbhdldfffpfaaGreat.Lf
open Go.Proofs.YtljbhdldfffpfaaGreat
open Go.RowKit

def StubIs (w : World) (p c : Int) (b : Bool) (e : Ending) (w' : World) : Prop := e = .returned (.tuple #[.agg #[.int .i64 p, .int .i64 c], .bool b]) ∧ Below w.heap.size w w'

set_option maxRecDepth 100000 in
set_option maxHeartbeats 1000000 in
theorem readStub_any (w : World) (b off cap : Nat) (p c : Int) (r : List Int) (h : Pt w (.slice (some ⟨b, off, none⟩) 25 cap) (p :: c :: r)) (hok : bytesOk (p :: c :: r)) (q z : Bool) (hq : placeB p c = q) (hz : zerosB r = z) :
    Calls Tryz.prog 130 #[.slice (some ⟨b, off, none⟩) 25 cap] w (StubIs w p c (q && z)) := by
  have hc := h.lenEq
  have hb : b < w.heap.size := by obtain ⟨b', o', cap', e, _, h2, _⟩ := h; injection e with e1; injection e1 with e1; injection e1 with e1; omega
  have x0 : w.cell? ⟨b, off, none⟩ = some (.int .u8 p) := by
    obtain ⟨b', o', cap', e, _, _, h3⟩ := h
    injection e with e1; injection e1 with e1; injection e1 with e1 e4; subst e1 e4
    exact h3 0 (by simp)
  have x1 : w.cell? ⟨b, off + 1, none⟩ = some (.int .u8 c) := by
    obtain ⟨b', o', cap', e, _, _, h3⟩ := h
    injection e with e1; injection e1 with e1; injection e1 with e1 e4; subst e1 e4
    exact h3 1 (by simp)
  have hl : r.length = 23 := by have := hc.1; simpa using this
  have hr : Pt w (.slice (some ⟨b, off + 2, none⟩) 23 (cap - 2)) r := h.cut (k := 2) (by omega) (fun _ => rfl) (by omega) (by omega)
  have p0 := hok p (by simp)
  have c0 := hok c (by simp)
  obtain ⟨p0, p1⟩ := p0
  obtain ⟨c0, c1⟩ := c0
  have hcap : 25 ≤ cap := hc.2
  have i1 : (2 : Int) ≤ (cap : Int) := by omega
  have i2 : ¬ cap = 2 := by omega
  have y0 : ∀ o, (w.alloc o).cell? ⟨b, off, none⟩ = some (.int .u8 p) := fun o => (World.cell?_alloc_lt w o ⟨b, off, none⟩ hb).trans x0
  have y1 : ∀ o, (w.alloc o).cell? ⟨b, off + 1, none⟩ = some (.int .u8 c) := fun o => (World.cell?_alloc_lt w o ⟨b, off + 1, none⟩ hb).trans x1
  have e0 := y0 (ridO 0 0)
  have e1 := y1 (ridO 0 0)
  have HRt := Lib.hid hr
  have HQ := Lib.hid hq
  have HZ := Lib.hid hz
  have HL := Lib.hid hl
  have hB : Below w.heap.size w (w.alloc (ridO 0 0)) := (Below.refl _ _).alloc (Nat.le_refl _) _
  have kb := heap_alloc_new w (ridO 0 0)
  clear h hok hc hl hr y0 y1 x0 x1 hq hz
  go_enter Tryz.func130, Tryz.ntmps130
  go_upto_region 1 with (fail)
  have ze : w.alloc (.cells #[.int .i64 0, .int .i64 0] 49) = w.alloc (ridO 0 0) := rfl
  rw [ze]
  have hs1 : w.heap.size < (w.alloc (ridO 0 0)).heap.size := by simp
  generalize w.alloc (ridO 0 0) = w1 at *
  have d0 := (cell_of (cs := #[.int .i64 0, .int .i64 0]) kb 0)
  have d1 := (cell_of (cs := #[.int .i64 0, .int .i64 0]) kb 1)
  obtain ⟨d0, g0⟩ := d0
  obtain ⟨d1, g1⟩ := d1
  have KB := Lib.hid kb
  have HB := Lib.hid hB
  clear kb hB ze
  have hne : ¬ b = w.heap.size := by omega
  go_region
  go_wp2
  have hk4 : ((w1.setCell ⟨w.heap.size, 0, none⟩ (.int .i64 p)).setCell ⟨w.heap.size, 1, none⟩ (.int .i64 c)).drew.heap[w.heap.size]? = some (ridO p c) := by
    show ((w1.setCell ⟨w.heap.size, 0, none⟩ (.int .i64 p)).setCell ⟨w.heap.size, 1, none⟩ (.int .i64 c)).heap[w.heap.size]? = some (ridO p c)
    rw [heap_setCell_same _ _ _ _ _ _ (heap_setCell_same _ _ _ _ _ _ KB.out)]; rfl
  have hB4 : Below w.heap.size w ((w1.setCell ⟨w.heap.size, 0, none⟩ (.int .i64 p)).setCell ⟨w.heap.size, 1, none⟩ (.int .i64 c)).drew := ((HB.out.setCell (p := ⟨w.heap.size, 0, none⟩) (Nat.le_refl _) _).setCell (p := ⟨w.heap.size, 1, none⟩) (Nat.le_refl _) _).drew
  have hz4 : w.heap.size < ((w1.setCell ⟨w.heap.size, 0, none⟩ (.int .i64 p)).setCell ⟨w.heap.size, 1, none⟩ (.int .i64 c)).drew.heap.size := by simp; exact hs1
  clear d0 d1 g0 g1 e0 e1 hs1
  generalize ((w1.setCell ⟨w.heap.size, 0, none⟩ (.int .i64 p)).setCell ⟨w.heap.size, 1, none⟩ (.int .i64 c)).drew = w4 at *
  have d0 := (cell_of (cs := #[.int .i64 p, .int .i64 c]) hk4 0)
  have d1 := (cell_of (cs := #[.int .i64 p, .int .i64 c]) hk4 1)
  obtain ⟨d0, g0⟩ := d0
  obtain ⟨d1, g1⟩ := d1
  have HB4 := Lib.hid hB4
  clear hk4 hB4 KB HB
  have HP : Hid (∀ W, Calls Tryz.prog 162 #[.agg #[.int .i64 p, .int .i64 c]] W fun e w' => e = .returned (.bool q) ∧ w' = W.alloc (ridO p c)) := fun W => by
    have := place_any W p c
    rw [HQ.out] at this
    exact this
  have HZ2 : Hid (∀ W, Below w.heap.size w W → Calls Tryz.prog 128 #[.slice (some ⟨b, off + 2, none⟩) 23 (cap - 2)] W fun e w' => e = .returned (.bool z) ∧ w' = W) := fun W hW => by
    have := zeros_any W _ r (HRt.out.below hW (Nat.le_refl _)) (by have := HL.out; omega)
    rw [HZ.out] at this
    exact this
  have Z1 := Lib.hid (HZ2.out (w4.alloc (ridO p c)) (HB4.out.alloc (by omega) _))
  have Z2 := Lib.hid (HZ2.out (w4.drew.alloc (ridO p c)) (HB4.out.drew.alloc (show w.heap.size ≤ w4.heap.size by omega) _))
  clear HRt HQ HZ HL
  cases q
  · rw [Bool.false_and]
    first | (go_region_with (go_at_call 162; refine (HP.out _).mono ?_; rintro e w5 ⟨rfl, rfl⟩)) | skip
    all_goals go_wp2
    all_goals
      refine bodyPost_ret (v := .tuple #[.agg #[.int .i64 p, .int .i64 c], .bool false]) ?_ rfl ?_
    all_goals first
      | exact ⟨rfl, ((((HB4.out.setCell (p := ⟨w.heap.size, 0, none⟩) (Nat.le_refl _) _).setCell (p := ⟨w.heap.size, 1, none⟩) (Nat.le_refl _) _).alloc (by simp; omega) _).drew)⟩
      | simp [results, Tryz.results130, go_sem, d0, d1, hz4, Act.put]
  · rw [Bool.true_and]
    go_region_with (first | (go_at_call 162; refine (HP.out _).mono ?_; rintro e w5 ⟨rfl, rfl⟩) | (go_at_call 128; first | (refine Z1.out.mono ?_; rintro e w5 ⟨rfl, rfl⟩) | (refine Z2.out.mono ?_; rintro e w5 ⟨rfl, rfl⟩)))
    all_goals go_wp2
    all_goals
      refine bodyPost_ret (v := .tuple #[.agg #[.int .i64 p, .int .i64 c], .bool z]) ?_ rfl ?_
    all_goals first
      | exact ⟨rfl, ((((HB4.out.setCell (p := ⟨w.heap.size, 0, none⟩) (Nat.le_refl _) _).setCell (p := ⟨w.heap.size, 1, none⟩) (Nat.le_refl _) _).alloc (by simp; omega) _).drew)⟩
      | simp [results, Tryz.results130, go_sem, d0, d1, hz4, Act.put]
end Go.Proofs.YtljbhdldfffpfaaGreat.Lf
