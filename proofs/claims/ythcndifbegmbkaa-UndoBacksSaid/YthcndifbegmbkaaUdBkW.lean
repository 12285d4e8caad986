/- UndoBacks' walk. -/
import Derived.Test.YthcndifbegmbkaaUdL
namespace Go.Proofs.Ythcndifbegmbkaa.Ud
open Go.RowKit

theorem neE_ridS (W : World) (p c : Int) : (binOp .neq 23 (.agg #[.int .i64 p, .int .i64 c]) (.agg #[.int .i64 p, .int .i64 c])).run Try.prog W = .ok (.bool false) W := by
  have hS : Try.prog.underlying 23 = some (.struct (Try.prog.fieldsOf 23)) := by kernel_rfl
  have hH : Try.prog.stoodInHeld 23 = false := by kernel_rfl
  have hu : Try.prog.underlying 3 = some (.int .i64) := Try.underlying3
  rw [run_neq_struct, show (10000 : Nat) = 9999 + 1 from rfl, run_equalIn_agg W 9999 _ _ _ hS hH]
  simp only [Program.fieldsOf, Try.underlying23]
  go_simp

def eS (txn page cell prev : Int) (old now : List Int) : Ent := ⟨1, txn, 0, 0, prev, 0, page, cell, 0, 0, old, now, [], [], [], []⟩
set_option maxRecDepth 100000 in
set_option maxHeartbeats 4000000 in
theorem undoBacks_any (w : World) (txn page cell prev last : Int) (b1 : 0 ≤ txn ∧ txn ≤ 255) (b2 : 0 ≤ page ∧ page ≤ 255) (b3 : 0 ≤ cell ∧ cell ≤ 255) (b4 : 0 ≤ prev ∧ prev ≤ 65535) (b5 : 0 ≤ last ∧ last ≤ 65535) {so sn : Value} (old now : List Int) (ho : SlW w so old) (hn : SlW w sn now) :
    Calls Try.prog 6 #[.int .u8 txn, .int .u8 page, .int .u8 cell, .int .u16 prev, .int .u16 last, so, sn] w fun r w' => r = .returned (.bool true) ∧ Below w.heap.size w w' := by
  obtain ⟨A5, c5, rfl, -⟩ := ho.form
  obtain ⟨A6, c6, rfl, -⟩ := hn.form
  have HO := Lib.hid ho
  have HN := Lib.hid hn
  have W1 : IntKind.i64.wrap txn = txn := IntWalk.i64_in _ (by omega)
  have W2 : IntKind.i64.wrap page = page := IntWalk.i64_in _ (by omega)
  have W3 : IntKind.i64.wrap cell = cell := IntWalk.i64_in _ (by omega)
  have W4 : IntKind.i64.wrap prev = prev := IntWalk.i64_in _ (by omega)
  have W5 : IntKind.i64.wrap last = last := IntWalk.i64_in _ (by omega)
  have HW := Lib.hid (And.intro W1 (And.intro W2 (And.intro W3 (And.intro W4 W5))))
  clear ho hn b1 b2 b3 b4 b5 W1 W2 W3 W4 W5
  go_enter Try.func6, Try.ntmps6
  go_wp2_with fail
  refine (begun17 w).mono ?_
  rintro r w1 ⟨rfl, hb1⟩
  have HB1 := Lib.hid hb1
  clear hb1
  by_cases g1 : 30 < old.length
  · have g2 : (30 : Int) < (old.length : Int) := by omega
    clear g1
    go_wp2
    go_ret
    exact ⟨rfl, HB1.out⟩
  have g2 : ¬ (30 : Int) < (old.length : Int) := by omega
  by_cases g3 : 30 < now.length
  · have g4 : (30 : Int) < (now.length : Int) := by omega
    clear g1 g3
    go_wp2
    go_ret
    exact ⟨rfl, HB1.out⟩
  have g4 : ¬ (30 : Int) < (now.length : Int) := by omega
  have HL := Lib.hid (show old.length ≤ 30 by omega)
  clear g1 g3
  go_upto_region 5 with fail
  obtain ⟨W1, W2, W3, W4, W5⟩ := HW.out
  clear g2 g4
  have HBo1 := Lib.hid (heap_alloc_new w1 (.cells #[.int .i64 0, .int .i64 0, .int .i64 0, .int .i64 0, .int .i64 0, .int .i64 0, .int .i64 0, .int .i64 0, .int .i64 0, .int .i64 0, .slice none 0 0, .slice none 0 0, .slice none 0 0, .slice none 0 0, .slice none 0 0, .slice none 0 0] 30))
  have HZI1 := Lib.hid (infoEntC (eS txn page cell prev old now) (.slice A5 old.length c5) (.slice A6 now.length c6) (.slice none 0 0) (.slice none 0 0) (.slice none 0 0) (.slice none 0 0))
  have HZA1 := Lib.hid (entC_all (eS txn page cell prev old now) A5 A6 none none none none old.length c5 now.length c6 0 0 0 0 0 0 0 0)
  have HZN1 := Lib.hid (show (#[.int .i64 0, .int .i64 0, .int .i64 0, .int .i64 0, .int .i64 0, .int .i64 0, .int .i64 0, .int .i64 0, .int .i64 0, .int .i64 0, .slice none 0 0, .slice none 0 0, .slice none 0 0, .slice none 0 0, .slice none 0 0, .slice none 0 0] : Array Value).size = (entC (eS txn page cell prev old now) (.slice A5 old.length c5) (.slice A6 now.length c6) (.slice none 0 0) (.slice none 0 0) (.slice none 0 0) (.slice none 0 0)).size from rfl)
  have HSA1 := Lib.hid (setRow_alloc w1 #[.int .i64 0, .int .i64 0, .int .i64 0, .int .i64 0, .int .i64 0, .int .i64 0, .int .i64 0, .int .i64 0, .int .i64 0, .int .i64 0, .slice none 0 0, .slice none 0 0, .slice none 0 0, .slice none 0 0, .slice none 0 0, .slice none 0 0] (entC (eS txn page cell prev old now) (.slice A5 old.length c5) (.slice A6 now.length c6) (.slice none 0 0) (.slice none 0 0) (.slice none 0 0) (.slice none 0 0)) 30)
  have HAL1 : Hid (Below w1.heap.size w1 (w1.alloc (.cells (entC (eS txn page cell prev old now) (.slice A5 old.length c5) (.slice A6 now.length c6) (.slice none 0 0) (.slice none 0 0) (.slice none 0 0) (.slice none 0 0)) 30))) := (Below.refl _ _).alloc (Nat.le_refl _) _
  have HBE1 := Lib.hid (heap_alloc_new w1 (.cells (entC (eS txn page cell prev old now) (.slice A5 old.length c5) (.slice A6 now.length c6) (.slice none 0 0) (.slice none 0 0) (.slice none 0 0) (.slice none 0 0)) 30))
  go_upto_region 6 with (with_reducible refine wpList_store_row rfl 30 (.tmp 15) (.tmp 41) rfl w1.heap.size _ rfl rfl 30 _ HBo1.out HZI1.out HZN1.out HZA1.out ?_)
  rw [HSA1.out]
  have HB2 := Lib.hid (HB1.out.trans (HAL1.out.mono HB1.out.size))
  have HP := Lib.hid (back_yes (w1.alloc (.cells (entC (eS txn page cell prev old now) (.slice A5 old.length c5) (.slice A6 now.length c6) (.slice none 0 0) (.slice none 0 0) (.slice none 0 0) (.slice none 0 0)) 30)) (eS txn page cell prev old now) (.slice A5 old.length c5) (.slice A6 now.length c6) (.slice none 0 0) (.slice none 0 0) (.slice none 0 0) (.slice none 0 0) last rfl (HO.out.below HB2.out (Nat.le_refl _)) (by have := HL.out; show old.length ≤ 100000; omega))
  clear HBo1 HZA1 HZN1 HSA1 HAL1
  generalize w1.alloc (.cells (entC (eS txn page cell prev old now) (.slice A5 old.length c5) (.slice A6 now.length c6) (.slice none 0 0) (.slice none 0 0) (.slice none 0 0) (.slice none 0 0)) 30) = w2 at *
  go_wp2_with (with_reducible refine wpList_load_row rfl 30 (.tmp 15) rfl w1.heap.size rfl 30 _ (0, 0) _ HBE1.out Try.underlying30 rfl HZI1.out ?_)
  refine HP.out.mono ?_
  rintro r w3 ⟨A, q, hr, hown, hok, hb3⟩
  have hr' : r = .returned (.tuple #[.agg (entC (bkE (eS txn page cell prev old now) last) (.slice none 0 0) (.slice A old.length q) (.slice none 0 0) (.slice none 0 0) (.slice none 0 0) (.slice none 0 0)), .bool true]) := hr
  clear hr
  subst hr'
  have hsl : SlK .u8 w3 (.slice A old.length q) old := own_slK hown hok
  have HB3 := Lib.hid (HB2.out.trans (hb3.mono HB2.out.size))
  have HL1 : w1.heap.size < w2.heap.size := (Array.getElem?_eq_some_iff.1 HBE1.out).1
  have HBE1' := Lib.hid ((hb3.block _ HL1).trans HBE1.out)
  have HL2 : w1.heap.size < w3.heap.size := Nat.lt_of_lt_of_le HL1 hb3.size
  have HLL := Lib.hid HL2
  clear hown hok hb3 HP HB2 HBE1 HL1 HL2
  have HBo2 := Lib.hid (heap_alloc_new w3 (.cells #[.int .i64 0, .int .i64 0, .int .i64 0, .int .i64 0, .int .i64 0, .int .i64 0, .int .i64 0, .int .i64 0, .int .i64 0, .int .i64 0, .slice none 0 0, .slice none 0 0, .slice none 0 0, .slice none 0 0, .slice none 0 0, .slice none 0 0] 30))
  have HZI2 := Lib.hid (infoEntC (bkE (eS txn page cell prev old now) last) (.slice none 0 0) (.slice A old.length q) (.slice none 0 0) (.slice none 0 0) (.slice none 0 0) (.slice none 0 0))
  have HZA2 := Lib.hid (entC_all (bkE (eS txn page cell prev old now) last) none A none none none none 0 0 old.length q 0 0 0 0 0 0 0 0)
  have HZN2 := Lib.hid (show (#[.int .i64 0, .int .i64 0, .int .i64 0, .int .i64 0, .int .i64 0, .int .i64 0, .int .i64 0, .int .i64 0, .int .i64 0, .int .i64 0, .slice none 0 0, .slice none 0 0, .slice none 0 0, .slice none 0 0, .slice none 0 0, .slice none 0 0] : Array Value).size = (entC (bkE (eS txn page cell prev old now) last) (.slice none 0 0) (.slice A old.length q) (.slice none 0 0) (.slice none 0 0) (.slice none 0 0) (.slice none 0 0)).size from rfl)
  have HSA2 := Lib.hid (setRow_alloc w3 #[.int .i64 0, .int .i64 0, .int .i64 0, .int .i64 0, .int .i64 0, .int .i64 0, .int .i64 0, .int .i64 0, .int .i64 0, .int .i64 0, .slice none 0 0, .slice none 0 0, .slice none 0 0, .slice none 0 0, .slice none 0 0, .slice none 0 0] (entC (bkE (eS txn page cell prev old now) last) (.slice none 0 0) (.slice A old.length q) (.slice none 0 0) (.slice none 0 0) (.slice none 0 0) (.slice none 0 0)) 30)
  have HAL2 : Hid (Below w3.heap.size w3 (w3.alloc (.cells (entC (bkE (eS txn page cell prev old now) last) (.slice none 0 0) (.slice A old.length q) (.slice none 0 0) (.slice none 0 0) (.slice none 0 0) (.slice none 0 0)) 30))) := (Below.refl _ _).alloc (Nat.le_refl _) _
  have HBE2 := Lib.hid (heap_alloc_new w3 (.cells (entC (bkE (eS txn page cell prev old now) last) (.slice none 0 0) (.slice A old.length q) (.slice none 0 0) (.slice none 0 0) (.slice none 0 0) (.slice none 0 0)) 30))
  have HSL := Lib.hid (hsl.below HAL2.out (Nat.le_refl _))
  clear hsl
  go_upto_region 7 with (with_reducible refine wpList_store_row rfl 30 (.tmp 16) (.tmp 47) rfl w3.heap.size _ rfl rfl 30 _ HBo2.out HZI2.out HZN2.out HZA2.out ?_)
  rw [HSA2.out]
  have HB4 := Lib.hid (HB3.out.trans (HAL2.out.mono HB3.out.size))
  have HBE3 := Lib.hid ((HAL2.out.block _ HLL.out).trans HBE1'.out)
  have HOO := Lib.hid (HO.out.below HB4.out (Nat.le_refl _))
  clear HBo2 HZA2 HZN2 HSA2 HAL2 HBE1' HB3
  generalize w3.alloc (.cells (entC (bkE (eS txn page cell prev old now) last) (.slice none 0 0) (.slice A old.length q) (.slice none 0 0) (.slice none 0 0) (.slice none 0 0) (.slice none 0 0)) 30) = w4 at *
  have k0 : w4.cell? ⟨w3.heap.size, 0, none⟩ = some (.int .i64 2) := (cell_of HBE2.out 0).1
  have k1 : w4.cell? ⟨w3.heap.size, 1, none⟩ = some (.int .i64 txn) := (cell_of HBE2.out 1).1
  have k4 : w4.cell? ⟨w3.heap.size, 4, none⟩ = some (.int .i64 last) := (cell_of HBE2.out 4).1
  have k5 : w4.cell? ⟨w3.heap.size, 5, none⟩ = some (.int .i64 prev) := (cell_of HBE2.out 5).1
  have k6 : w4.cell? ⟨w3.heap.size, 6, none⟩ = some (.int .i64 page) := (cell_of HBE2.out 6).1
  have k7 : w4.cell? ⟨w3.heap.size, 7, none⟩ = some (.int .i64 cell) := (cell_of HBE2.out 7).1
  have k10 : w4.cell? ⟨w3.heap.size, 10, none⟩ = some (.slice none 0 0) := (cell_of HBE2.out 10).1
  have k11 : w4.cell? ⟨w3.heap.size, 11, none⟩ = some (.slice A old.length q) := (cell_of HBE2.out 11).1
  have m1 : w4.cell? ⟨w1.heap.size, 1, none⟩ = some (.int .i64 txn) := (cell_of HBE3.out 1).1
  have m6 : w4.cell? ⟨w1.heap.size, 6, none⟩ = some (.int .i64 page) := (cell_of HBE3.out 6).1
  have m7 : w4.cell? ⟨w1.heap.size, 7, none⟩ = some (.int .i64 cell) := (cell_of HBE3.out 7).1
  have hc1 := conv_slK HSL.out
  have hc2 := conv_slW HOO.out
  have hne := neE_ridS w4 page cell
  go_upto_region 9 with fail
  clear k0 k1 k4 k5 k6 k7 k10 k11 m1 m6 m7 hc1 hc2 hne
  have HP := Lib.hid (back_no w4 (bkE (eS txn page cell prev old now) last) (.slice none 0 0) (.slice A old.length q) (.slice none 0 0) (.slice none 0 0) (.slice none 0 0) (.slice none 0 0) 1 (by show ¬ (2 : Int) = 1; omega))
  go_wp2_with (with_reducible refine wpList_load_row rfl 30 (.tmp 16) rfl w3.heap.size rfl 30 _ (0, 0) _ HBE2.out Try.underlying30 rfl HZI2.out ?_)
  refine HP.out.mono ?_
  rintro r w5 ⟨rfl, hb5⟩
  have HL4 : w3.heap.size < w4.heap.size := (Array.getElem?_eq_some_iff.1 HBE2.out).1
  have hb6 : Below w5.heap.size w5 (w5.alloc (.cells zE 30)) := (Below.refl _ _).alloc (Nat.le_refl _) _
  have hb46 : Below w4.heap.size w4 (w5.alloc (.cells zE 30)) := hb5.trans (hb6.mono hb5.size)
  have HB6 := Lib.hid (HB4.out.trans (hb46.mono HB4.out.size))
  have HBE4 := Lib.hid ((hb46.block _ HL4).trans HBE2.out)
  have HBE5 := Lib.hid ((hb46.block _ (Nat.lt_trans HLL.out HL4)).trans HBE3.out)
  have HBo := Lib.hid (heap_alloc_new w5 (.cells #[.int .i64 0, .int .i64 0, .int .i64 0, .int .i64 0, .int .i64 0, .int .i64 0, .int .i64 0, .int .i64 0, .int .i64 0, .int .i64 0, .slice none 0 0, .slice none 0 0, .slice none 0 0, .slice none 0 0, .slice none 0 0, .slice none 0 0] 30))
  have HYI := Lib.hid (show (Try.prog.info? 30).map (·.size) = some zE.size from infoEnt)
  have HZN := Lib.hid (show (#[.int .i64 0, .int .i64 0, .int .i64 0, .int .i64 0, .int .i64 0, .int .i64 0, .int .i64 0, .int .i64 0, .int .i64 0, .int .i64 0, .slice none 0 0, .slice none 0 0, .slice none 0 0, .slice none 0 0, .slice none 0 0, .slice none 0 0] : Array Value).size = zE.size from rfl)
  have HZA := Lib.hid (show zE.all (·.oneCell') = true from by simp [zE, Value.oneCell'])
  have HSA := Lib.hid (setRow_alloc w5 #[.int .i64 0, .int .i64 0, .int .i64 0, .int .i64 0, .int .i64 0, .int .i64 0, .int .i64 0, .int .i64 0, .int .i64 0, .int .i64 0, .slice none 0 0, .slice none 0 0, .slice none 0 0, .slice none 0 0, .slice none 0 0, .slice none 0 0] zE 30)
  clear hb5 hb6 hb46 HL4 HB4 HBE2 HBE3 HP
  go_upto_region 10 with (with_reducible refine wpList_store_row rfl 30 (.tmp 18) (.tmp 101) rfl w5.heap.size _ rfl rfl 30 _ HBo.out HYI.out HZN.out HZA.out ?_)
  rw [HSA.out]
  clear HBo HYI HZN HZA HSA
  generalize w5.alloc (.cells zE 30) = w6 at *
  have HP := Lib.hid (next_any w6 (bkE (eS txn page cell prev old now) last) (.slice none 0 0) (.slice A old.length q) (.slice none 0 0) (.slice none 0 0) (.slice none 0 0) (.slice none 0 0) 9)
  go_wp2_with ((with_reducible refine wpList_load_rowG ?_ 30 (.tmp 16) rfl w3.heap.size rfl 30 _ (0, 0) _ HBE4.out Try.underlying30 rfl HZI2.out ?_); · rfl)
  refine HP.out.mono ?_
  rintro r w7 ⟨hr, hb7⟩
  have hr' : r = .returned (.int .i64 prev) := hr
  clear hr
  subst hr'
  have HL6 : w1.heap.size < w6.heap.size := (Array.getElem?_eq_some_iff.1 HBE5.out).1
  have HBE7 := Lib.hid ((hb7.block _ HL6).trans HBE5.out)
  have HB7 := Lib.hid (HB6.out.trans (hb7.mono HB6.out.size))
  have HQ := Lib.hid (next_any w7 (eS txn page cell prev old now) (.slice A5 old.length c5) (.slice A6 now.length c6) (.slice none 0 0) (.slice none 0 0) (.slice none 0 0) (.slice none 0 0) 9)
  clear hb7 HL6 HP HBE4 HBE5 HB6
  go_wp2_with ((with_reducible refine wpList_load_rowG ?_ 30 (.tmp 15) rfl w1.heap.size rfl 30 _ (0, 0) _ HBE7.out Try.underlying30 rfl HZI1.out ?_); · rfl)
  refine HQ.out.mono ?_
  rintro r w8 ⟨hr, hb8⟩
  have hr' : r = .returned (.int .i64 9) := hr
  clear hr
  subst hr'
  have HB8 := Lib.hid (HB7.out.trans (hb8.mono HB7.out.size))
  clear hb8 HQ HBE7 HB7
  go_wp2
  go_ret
  exact ⟨rfl, HB8.out⟩
end Go.Proofs.Ythcndifbegmbkaa.Ud
