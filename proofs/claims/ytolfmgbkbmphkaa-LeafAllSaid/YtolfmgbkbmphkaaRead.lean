/- readRow. -/
import Derived.Test.YtolfmgbkbmphkaaText
namespace Go.Proofs.Ytolfmgbkbmphkaa
open Go.RowKit

/-- The parts of a row's bytes behind its kind. -/
structure Prt (L : List Int) (c1 : Int) (t1 : List Int) (c2 : Int) (t2 : List Int) (c3 : Int) (t3 : List Int) : Prop where
  e1 : L = c1 :: t1
  e2 : t1.drop 8 = c2 :: t2
  e3 : t2.drop 6 = c3 :: t3
  l1 : t1.length = 24
  l2 : t2.length = 15
  l3 : t3.length = 8
  o1 : bytesOk (c1 :: t1)
  o2 : bytesOk (c2 :: t2)
  o3 : bytesOk (c3 :: t3)
theorem prt_of {L : List Int} (h : L.length = 25) (ho : bytesOk L) : ∃ c1 t1 c2 t2 c3 t3, Prt L c1 t1 c2 t2 c3 t3 := by
  obtain ⟨c1, t1, rfl⟩ : ∃ c t, L = c :: t := by cases L with
    | nil => simp at h
    | cons c t => exact ⟨c, t, rfl⟩
  have h1 : t1.length = 24 := by simpa using h
  have g2 : (t1.drop 8).length = 16 := by rw [List.length_drop]; omega
  obtain ⟨c2, t2, e2⟩ : ∃ c t, t1.drop 8 = c :: t := by cases hd : t1.drop 8 with
    | nil => rw [hd] at g2; simp at g2
    | cons c t => exact ⟨c, t, rfl⟩
  have h2 : t2.length = 15 := by rw [e2] at g2; simpa using g2
  have g3 : (t2.drop 6).length = 9 := by rw [List.length_drop]; omega
  obtain ⟨c3, t3, e3⟩ : ∃ c t, t2.drop 6 = c :: t := by cases hd : t2.drop 6 with
    | nil => rw [hd] at g3; simp at g3
    | cons c t => exact ⟨c, t, rfl⟩
  have h3 : t3.length = 8 := by rw [e3] at g3; simpa using g3
  have o1 : bytesOk t1 := fun x hx => ho x (by simp [hx])
  have o2 : bytesOk (c2 :: t2) := by rw [← e2]; exact ok_drop o1 8
  have o3 : bytesOk (c3 :: t3) := by rw [← e3]; exact ok_drop (fun x hx => o2 x (by simp [hx])) 6
  exact ⟨c1, t1, c2, t2, c3, t3, rfl, e2, e3, h1, h2, h3, ho, o2, o3⟩

def RowIs (w : World) (k s v : ByteArray) (b : Bool) (e : Ending) (w' : World) : Prop := e = .returned (.tuple #[.agg #[.string k, .string s, .string v], .bool b]) ∧ Below w.heap.size w w'
def RowNo (w : World) (e : Ending) (w' : World) : Prop := ∃ k s v, e = .returned (.tuple #[.agg #[.string k, .string s, .string v], .bool false]) ∧ Below w.heap.size w w'

set_option maxRecDepth 100000 in
set_option maxHeartbeats 1000000 in
theorem readRow_ok (w : World) (v : Value) {L : List Int} {c1 : Int} {t1 : List Int} {c2 : Int} {t2 : List Int} {c3 : Int} {t3 : List Int} (P : Prt L c1 t1 c2 t2 c3 t3) (h : Pt w v L) (b1 : partB c1 t1 8 = true) (b2 : partB c2 t2 6 = true) (b3 : partB c3 t3 8 = true) (b : Bool) (hm : mayB (partS c1 t1) (partS c2 t2) (partS c3 t3) = b) :
    Calls Try.prog 41 #[v] w (RowIs w (partS c1 t1) (partS c2 t2) (partS c3 t3) b) := by
  have hk1 : partR c1 t1 8 = partS c1 t1 := by rw [partR, if_pos b1]
  have hk2 : partR c2 t2 6 = partS c2 t2 := by rw [partR, if_pos b2]
  have hk3 : partR c3 t3 8 = partS c3 t3 := by rw [partR, if_pos b3]
  have f1 := fun W V (hp : Pt W V (c1 :: t1)) => cut_any W V c1 t1 8 (Or.inl rfl) hp P.o1 (by rw [P.l1]; omega) (by rw [P.l1]; omega)
  have f2 := fun W V (hp : Pt W V (c2 :: t2)) => cut_any W V c2 t2 6 (Or.inr rfl) hp P.o2 (by rw [P.l2]; omega) (by rw [P.l2]; omega)
  have f3 := fun W V (hp : Pt W V (c3 :: t3)) => cut_any W V c3 t3 8 (Or.inl rfl) hp P.o3 (by rw [P.l3]; omega) (by rw [P.l3]; omega)
  rw [hk1, b1, P.e2] at f1
  rw [hk2, b2, P.e3] at f2
  rw [hk3, b3] at f3
  rw [P.e1] at h
  have HP := Lib.hid h
  have F1 := Lib.hid f1
  have F2 := Lib.hid f2
  have F3 := Lib.hid f3
  have HM := Lib.hid hm
  clear f1 f2 f3 hk1 hk2 hk3 b1 b2 b3 P h hm
  generalize partS c1 t1 = k1 at *
  generalize partS c2 t2 = k2 at *
  generalize partS c3 t3 = k3 at *
  go_enter Try.func41, Try.ntmps41
  go_wp2_with fail
  refine (F1.out _ _ (HP.out.below (B := w.heap.size) ((Below.refl _ _).alloc (Nat.le_refl _) _) (Nat.le_refl _))).mono ?_
  rintro e w1 ⟨r1, n1, rfl, p1, rfl⟩
  go_wp2_with fail
  refine (F2.out _ _ p1).mono ?_
  rintro e w1 ⟨r2, n2, rfl, p2, rfl⟩
  rw [World.drewN_drewN] at p2
  clear p1
  go_wp2_with fail
  refine (F3.out _ _ p2).mono ?_
  rintro e w3 ⟨r3, n3, rfl, p3, hw⟩
  have hB : Below w.heap.size w w3 := by rw [hw]; exact ((Below.refl _ _).alloc (Nat.le_refl _) _).trans ((below_drewN _ _ _).trans (below_drewN _ _ _))
  have kb : w3.heap[w.heap.size]? = some (rowO ⟨#[]⟩ ⟨#[]⟩ ⟨#[]⟩) := by rw [hw]; exact heap_alloc_new w _
  clear p2 p3 hw
  have c0 := (cell_of (cs := #[.string ⟨#[]⟩, .string ⟨#[]⟩, .string ⟨#[]⟩]) kb 0)
  have c1 := (cell_of (cs := #[.string ⟨#[]⟩, .string ⟨#[]⟩, .string ⟨#[]⟩]) kb 1)
  have c2 := (cell_of (cs := #[.string ⟨#[]⟩, .string ⟨#[]⟩, .string ⟨#[]⟩]) kb 2)
  obtain ⟨c0, g0⟩ := c0
  obtain ⟨c1, g1⟩ := c1
  obtain ⟨c2, g2⟩ := c2
  have KB := Lib.hid kb
  have HB := Lib.hid hB
  clear kb hB
  go_wp2
  have hk4 : (((w3.setCell ⟨w.heap.size, 0, none⟩ (.string k1)).setCell ⟨w.heap.size, 1, none⟩ (.string k2)).setCell ⟨w.heap.size, 2, none⟩ (.string k3)).heap[w.heap.size]? = some (rowO k1 k2 k3) := by
    rw [heap_setCell_same _ _ _ _ _ _ (heap_setCell_same _ _ _ _ _ _ (heap_setCell_same _ _ _ _ _ _ KB.out))]; rfl
  have hB4 : Below w.heap.size w (((w3.setCell ⟨w.heap.size, 0, none⟩ (.string k1)).setCell ⟨w.heap.size, 1, none⟩ (.string k2)).setCell ⟨w.heap.size, 2, none⟩ (.string k3)) := ((HB.out.setCell (p := ⟨w.heap.size, 0, none⟩) (Nat.le_refl _) _).setCell (p := ⟨w.heap.size, 1, none⟩) (Nat.le_refl _) _).setCell (p := ⟨w.heap.size, 2, none⟩) (Nat.le_refl _) _
  clear c0 c1 c2 g0 g1 g2
  generalize ((w3.setCell ⟨w.heap.size, 0, none⟩ (.string k1)).setCell ⟨w.heap.size, 1, none⟩ (.string k2)).setCell ⟨w.heap.size, 2, none⟩ (.string k3) = w4 at *
  have c0 := (cell_of (cs := #[.string k1, .string k2, .string k3]) hk4 0)
  have c1 := (cell_of (cs := #[.string k1, .string k2, .string k3]) hk4 1)
  have c2 := (cell_of (cs := #[.string k1, .string k2, .string k3]) hk4 2)
  obtain ⟨c0, g0⟩ := c0
  obtain ⟨c1, g1⟩ := c1
  obtain ⟨c2, g2⟩ := c2
  have HB4 := Lib.hid hB4
  have HZ4 := Lib.hid hB4.size
  clear hk4 hB4 KB HB
  have hz : w.heap.size < w4.heap.size := by
    have := HZ4.out
    by_cases h : w.heap.size < w4.heap.size
    · exact h
    · exfalso
      have : w4.cell? ⟨w.heap.size, 0, none⟩ = none := by simp [World.cell?, Array.getElem?_eq_none (show w4.heap.size ≤ w.heap.size by omega)]
      rw [this] at c0; cases c0
  go_region_with (go_at_call 48; refine (may_any _ k1 k2 k3).mono ?_; rintro e w5 ⟨rfl, rfl⟩)
  all_goals go_wp2
  all_goals
    refine bodyPost_ret (v := .tuple #[.agg #[.string k1, .string k2, .string k3], .bool (mayB k1 k2 k3)]) ?_ rfl ?_
  all_goals first
    | exact ⟨by rw [HM.out], (((((HB4.out.setCell (p := ⟨w.heap.size, 0, none⟩) (Nat.le_refl _) _).setCell (p := ⟨w.heap.size, 1, none⟩) (Nat.le_refl _) _).setCell (p := ⟨w.heap.size, 2, none⟩) (Nat.le_refl _) _).alloc (by simp; omega) _).drew)⟩
    | simp [results, Try.results41, go_sem, c0, c1, c2, hz, Act.put]

set_option maxRecDepth 100000 in
set_option maxHeartbeats 4000000 in
theorem readRow_no (w : World) (v : Value) {L : List Int} {c1 : Int} {t1 : List Int} {c2 : Int} {t2 : List Int} {c3 : Int} {t3 : List Int} (P : Prt L c1 t1 c2 t2 c3 t3) (h : Pt w v L) (hq : (partB c1 t1 8 && partB c2 t2 6 && partB c3 t3 8) = false) :
    Calls Try.prog 41 #[v] w (RowNo w) := by
  have f1 := fun W V (hp : Pt W V (c1 :: t1)) => cut_any W V c1 t1 8 (Or.inl rfl) hp P.o1 (by rw [P.l1]; omega) (by rw [P.l1]; omega)
  have f2 := fun W V (hp : Pt W V (c2 :: t2)) => cut_any W V c2 t2 6 (Or.inr rfl) hp P.o2 (by rw [P.l2]; omega) (by rw [P.l2]; omega)
  have f3 := fun W V (hp : Pt W V (c3 :: t3)) => cut_any W V c3 t3 8 (Or.inl rfl) hp P.o3 (by rw [P.l3]; omega) (by rw [P.l3]; omega)
  rw [P.e2] at f1
  rw [P.e3] at f2
  rw [P.e1] at h
  have HP := Lib.hid h
  generalize partR c1 t1 8 = k1 at *
  generalize partR c2 t2 6 = k2 at *
  generalize partR c3 t3 8 = k3 at *
  generalize partB c1 t1 8 = q1 at *
  generalize partB c2 t2 6 = q2 at *
  generalize partB c3 t3 8 = q3 at *
  have F1 := Lib.hid f1
  have F2 := Lib.hid f2
  have F3 := Lib.hid f3
  clear f1 f2 f3 P h
  obtain rfl | ⟨rfl, rfl⟩ | ⟨rfl, rfl, rfl⟩ : q1 = false ∨ (q1 = true ∧ q2 = false) ∨ (q1 = true ∧ q2 = true ∧ q3 = false) := by
    cases q1 <;> cases q2 <;> cases q3 <;> simp_all
  all_goals
    clear hq
    go_enter Try.func41, Try.ntmps41
    go_wp2_with fail
    refine (F1.out _ _ (HP.out.below (B := w.heap.size) ((Below.refl _ _).alloc (Nat.le_refl _) _) (Nat.le_refl _))).mono ?_
    rintro e w1 ⟨r1, n1, rfl, p1, rfl⟩
    go_wp2_with fail
    refine (F2.out _ _ p1).mono ?_
    rintro e w1 ⟨r2, n2, rfl, p2, rfl⟩
    rw [World.drewN_drewN] at p2
    clear p1
    go_wp2_with fail
    refine (F3.out _ _ p2).mono ?_
    rintro e w3 ⟨r3, n3, rfl, p3, hw⟩
    have hB : Below w.heap.size w w3 := by rw [hw]; exact ((Below.refl _ _).alloc (Nat.le_refl _) _).trans ((below_drewN _ _ _).trans (below_drewN _ _ _))
    have kb : w3.heap[w.heap.size]? = some (rowO ⟨#[]⟩ ⟨#[]⟩ ⟨#[]⟩) := by rw [hw]; exact heap_alloc_new w _
    clear p2 p3 hw
    have c0 := (cell_of (cs := #[.string ⟨#[]⟩, .string ⟨#[]⟩, .string ⟨#[]⟩]) kb 0)
    have c1 := (cell_of (cs := #[.string ⟨#[]⟩, .string ⟨#[]⟩, .string ⟨#[]⟩]) kb 1)
    have c2 := (cell_of (cs := #[.string ⟨#[]⟩, .string ⟨#[]⟩, .string ⟨#[]⟩]) kb 2)
    obtain ⟨c0, g0⟩ := c0
    obtain ⟨c1, g1⟩ := c1
    obtain ⟨c2, g2⟩ := c2
    have KB := Lib.hid kb
    have HB := Lib.hid hB
    clear kb hB
    go_wp2
    have hk4 : (((w3.setCell ⟨w.heap.size, 0, none⟩ (.string k1)).setCell ⟨w.heap.size, 1, none⟩ (.string k2)).setCell ⟨w.heap.size, 2, none⟩ (.string k3)).heap[w.heap.size]? = some (rowO k1 k2 k3) := by
      rw [heap_setCell_same _ _ _ _ _ _ (heap_setCell_same _ _ _ _ _ _ (heap_setCell_same _ _ _ _ _ _ KB.out))]; rfl
    have hB4 : Below w.heap.size w (((w3.setCell ⟨w.heap.size, 0, none⟩ (.string k1)).setCell ⟨w.heap.size, 1, none⟩ (.string k2)).setCell ⟨w.heap.size, 2, none⟩ (.string k3)) := ((HB.out.setCell (p := ⟨w.heap.size, 0, none⟩) (Nat.le_refl _) _).setCell (p := ⟨w.heap.size, 1, none⟩) (Nat.le_refl _) _).setCell (p := ⟨w.heap.size, 2, none⟩) (Nat.le_refl _) _
    clear c0 c1 c2 g0 g1 g2
    generalize ((w3.setCell ⟨w.heap.size, 0, none⟩ (.string k1)).setCell ⟨w.heap.size, 1, none⟩ (.string k2)).setCell ⟨w.heap.size, 2, none⟩ (.string k3) = w4 at *
    have c0 := (cell_of (cs := #[.string k1, .string k2, .string k3]) hk4 0)
    have c1 := (cell_of (cs := #[.string k1, .string k2, .string k3]) hk4 1)
    have c2 := (cell_of (cs := #[.string k1, .string k2, .string k3]) hk4 2)
    obtain ⟨c0, g0⟩ := c0
    obtain ⟨c1, g1⟩ := c1
    obtain ⟨c2, g2⟩ := c2
    have HB4 := Lib.hid hB4
    have HZ4 := Lib.hid hB4.size
    clear hk4 hB4 KB HB
    have hz : w.heap.size < w4.heap.size := by
      have := HZ4.out
      by_cases h : w.heap.size < w4.heap.size
      · exact h
      · exfalso
        have : w4.cell? ⟨w.heap.size, 0, none⟩ = none := by simp [World.cell?, Array.getElem?_eq_none (show w4.heap.size ≤ w.heap.size by omega)]
        rw [this] at c0; cases c0
    go_region
  all_goals go_wp2
  all_goals
    refine bodyPost_ret (v := .tuple #[.agg #[.string k1, .string k2, .string k3], .bool false]) ?_ rfl ?_
  all_goals first
    | exact ⟨k1, k2, k3, rfl, (((((HB4.out.setCell (p := ⟨w.heap.size, 0, none⟩) (Nat.le_refl _) _).setCell (p := ⟨w.heap.size, 1, none⟩) (Nat.le_refl _) _).setCell (p := ⟨w.heap.size, 2, none⟩) (Nat.le_refl _) _)).drew)⟩
    | simp [results, Try.results41, go_sem, c0, c1, c2]
end Go.Proofs.Ytolfmgbkbmphkaa
