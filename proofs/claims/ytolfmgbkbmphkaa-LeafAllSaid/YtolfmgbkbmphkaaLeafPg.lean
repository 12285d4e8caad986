/- Pages in memory; Same, and the reference's. -/
import Derived.Test.YtolfmgbkbmphkaaLeafE
import Derived.Test.YtolfmgbkbmphkaaLaw3
import Derived.Test.YtolfmgbkbmphkaaSame
namespace Go.Proofs.Ytolfmgbkbmphkaa
open Go.RowKit

/-- A page's value: four slices, a number. -/
def pgV (P : Nat → Option Addr) (N K : Nat → Nat) (n : Int) : Value := .agg #[.slice (P 0) (N 0) (K 0), .slice (P 1) (N 1) (K 1), .slice (P 2) (N 2) (K 2), .slice (P 3) (N 3) (K 3), .int .i64 n]
def pgC (P : Nat → Option Addr) (N K : Nat → Nat) (n : Int) : Array Value := #[.slice (P 0) (N 0) (K 0), .slice (P 1) (N 1) (K 1), .slice (P 2) (N 2) (K 2), .slice (P 3) (N 3) (K 3), .int .i64 n]
def pgO (P : Nat → Option Addr) (N K : Nat → Nat) (n : Int) : Obj := .cells (pgC P N K n) 25
def Cs (w : World) (P : Nat → Option Addr) (N K : Nat → Nat) (c : Nat → List Int) : Prop := ∀ i, i < 4 → N i = (c i).length ∧ SlK .u8 w (.slice (P i) (N i) (K i)) (c i)

theorem pg_cell {w : World} {g : Nat} {P : Nat → Option Addr} {N K : Nat → Nat} {n : Int} (h : w.heap[g]? = some (pgO P N K n)) : (∀ i, i < 4 → w.cell? ⟨g, i, none⟩ = some (.slice (P i) (N i) (K i))) ∧ w.cell? ⟨g, 4, none⟩ = some (.int .i64 n) ∧ ∀ i, w.frozen? ⟨g, i, none⟩ = false := by
  have hc := fun i => cell_of (cs := pgC P N K n) h i
  refine ⟨fun i hi => ?_, (hc 4).1, fun i => (hc i).2⟩
  rw [(hc i).1]
  match i, hi with
  | 0, _ => rfl
  | 1, _ => rfl
  | 2, _ => rfl
  | 3, _ => rfl

theorem Cs.below {w w' : World} {P : Nat → Option Addr} {N K : Nat → Nat} {c : Nat → List Int} (h : Cs w P N K c) {B : Nat} (hb : Below B w w') (hB : w.heap.size ≤ B) : Cs w' P N K c := fun i hi => ⟨(h i hi).1, (h i hi).2.below hb hB⟩

/-- Same, by cells. -/
def pgSame (c c' : Nat → List Int) (n n' : Int) : Bool := (List.range 4).all (fun i => sameB (c i) (c' i)) && decide (n = n')
theorem pgSame_no {c c' : Nat → List Int} {n n' : Int} {k : Nat} (hk : k < 4) (h : sameB (c k) (c' k) = false) : pgSame c c' n n' = false := by
  unfold pgSame
  cases e : (List.range 4).all (fun i => sameB (c i) (c' i))
  · rfl
  · rw [List.all_eq_true] at e
    have := e k (List.mem_range.2 hk)
    rw [h] at this; cases this
theorem pgSame_all {c c' : Nat → List Int} {n n' : Int} (h : ∀ j, j < 4 → sameB (c j) (c' j) = true) : pgSame c c' n n' = decide (n = n') := by
  unfold pgSame
  rw [List.all_eq_true.2 (fun x hx => h x (List.mem_range.1 hx)), Bool.true_and]

set_option maxRecDepth 100000 in
set_option maxHeartbeats 1000000 in
theorem same_any (w : World) (P : Nat → Option Addr) (N K : Nat → Nat) (n : Int) (c : Nat → List Int) (P' : Nat → Option Addr) (N' K' : Nat → Nat) (n' : Int) (c' : Nat → List Int) (h : Cs w P N K c) (h' : Cs w P' N' K' c') :
    Calls Try.prog 17 #[pgV P N K n, pgV P' N' K' n'] w fun e w' => e = .returned (.bool (pgSame c c' n n')) ∧ Below w.heap.size w w' := by
  unfold pgV
  have hbx := bx_new w (pgO P N K n) (pgO P' N' K' n')
  have HH := Lib.hid (h.below hbx.1 (Nat.le_refl _))
  have HH' := Lib.hid (h'.below hbx.1 (Nat.le_refl _))
  have HBx := Lib.hid hbx
  clear h h' hbx
  go_enter Try.func17, Try.ntmps17
  go_upto_region 1 with (fail)
  show Code.wp _ _ _ _ ((w.alloc (pgO P N K n)).alloc (pgO P' N' K' n'))
  generalize (w.alloc (pgO P N K n)).alloc (pgO P' N' K' n') = w1 at *
  have HR : Hid (Below w1.heap.size w1 w1) := Below.refl _ _
  go_wp2
  go_loopw [6] (fun i wr => ∃ k : Nat, k ≤ 4 ∧ (∀ j, j < k → sameB (c j) (c' j) = true) ∧ i = .int .i64 k ∧ Hid (Bx w wr (pgO P N K n) (pgO P' N' K' n')) ∧ Hid (Below w1.heap.size w1 wr)) (fun i _ => 4 - (intOf i).toNat)
  case atStart => exact ⟨0, by omega, fun j h => by omega, rfl, HBx, HR⟩
  case round =>
    obtain ⟨k, hk, hz, rfl, HB2, HR2⟩ := hrel
    have HZ := Lib.hid hz
    have C1 := Lib.hid (pg_cell HB2.out.2.1)
    have C2 := Lib.hid (pg_cell HB2.out.2.2)
    clear hz HR HBx
    by_cases hlt : k < 4
    · have c1 := C1.out.1 k hlt
      have c2 := C2.out.1 k hlt
      have hs := fun W (hW : Below wr.heap.size wr W) => sameCell_any W _ _ _ _ ((HH.out k hlt).2.below (HR2.out.trans (hW.mono HR2.out.size)) (Nat.le_refl _)) ((HH'.out k hlt).2.below (HR2.out.trans (hW.mono HR2.out.size)) (Nat.le_refl _))
      clear HH HH' C1 C2
      cases hq : sameB (c k) (c' k)
      · rw [hq] at hs
        have HS := Lib.hid hs
        have HF : Hid (pgSame c c' n n' = false) := pgSame_no hlt hq
        clear hs hq
        go_upto_region 4 with (fail)
        go_region_with (go_at_call 31; refine (HS.out _ (by first | exact Below.refl _ _ | exact (Below.refl _ _).drew)).mono ?_; rintro e w5 ⟨rfl, rfl⟩)
        all_goals go_wp2
        all_goals go_ret
        all_goals exact ⟨ret_b HF.out.symm, by first | exact HB2.out.1 | exact HB2.out.1.drew⟩
      · rw [hq] at hs
        have HS := Lib.hid hs
        have HZ2 : Hid (∀ j, j < k + 1 → sameB (c j) (c' j) = true) := fun j hj => by
          by_cases e : j = k
          · subst e; exact hq
          · exact HZ.out j (by omega)
        have HB3 := HB2.out.on ((Below.refl wr.heap.size wr).drew)
        have HR3 := HR2.out.drew
        have HB3' := Lib.hid HB3
        have HR3' := Lib.hid HR3
        clear hs hq HB3 HR3
        go_upto_region 4 with (fail)
        go_region_with (go_at_call 31; refine (HS.out _ (by first | exact Below.refl _ _ | exact (Below.refl _ _).drew)).mono ?_; rintro e w5 ⟨rfl, rfl⟩)
        all_goals go_wp2
        all_goals go_roundw
        all_goals first
          | exact ⟨k + 1, by omega, HZ2.out, by go_num, by first | exact HB3' | exact HB2, by first | exact HR3' | exact HR2⟩
          | (simp [intOf]; omega)
    · obtain rfl : k = 4 := by omega
      have c1 := C1.out.2.1
      have c2 := C2.out.2.1
      have HF : Hid (pgSame c c' n n' = decide (n = n')) := pgSame_all HZ.out
      clear HH HH' C1 C2
      go_wp2
      go_ret
      exact ⟨ret_b (HF.out.symm ▸ rfl), HB2.out.1⟩

end Go.Proofs.Ytolfmgbkbmphkaa
