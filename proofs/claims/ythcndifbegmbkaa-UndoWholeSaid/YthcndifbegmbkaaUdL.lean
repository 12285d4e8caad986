/- begun of whimlaw17. -/
import Derived.Test.YthcndifbegmbkaaUdB
import Derived.Lib.SlBytesConst
namespace Go.Proofs.Ythcndifbegmbkaa.Ud
open Go.RowKit

def e17 : Ent := ⟨1, 2, 0, 0, 3, 0, 0, 0, 0, 0, [120], [], [], [], [], []⟩
def e05e : Ent := ⟨5, 0, 0, 0, 0, 0, 0, 0, 0, 0, [], [], [], [], [], []⟩
def eB : Ent := ⟨2, 2, 0, 0, 9, 3, 0, 0, 0, 0, [], [120], [], [], [], []⟩
theorem bstr_x : bstr [120] = ⟨#[120]⟩ := by decide +kernel

set_option maxRecDepth 100000 in
set_option maxHeartbeats 4000000 in
theorem begun17 (w : World) : Calls Try.prog 7 #[] w fun r w' => r = .returned (.bool true) ∧ Below w.heap.size w w' := by
  have hb1 : Below w.heap.size w (w.alloc (.cells #[.int .u8 120] 5 (1, 2))) := (Below.refl w.heap.size w).alloc (Nat.le_refl _) (.cells #[.int .u8 120] 5 (1, 2))
  have hone : SlK .u8 (w.alloc (.cells #[.int .u8 120] 5 (1, 2))) (.slice (some ⟨w.heap.size, 0, none⟩) 1 1) [120] := Pt.slK ⟨_, 0, 1, rfl, Nat.le_refl _, by simp, fun j hj => by
    have hj : j < 1 := hj
    obtain rfl : j = 0 := by omega
    exact World.cell?_alloc_mark w #[.int .u8 120] 5 (1, 2) 0⟩ (fun x h => by simp at h; omega)
  have HP := Lib.hid (back_yes (w.alloc (.cells #[.int .u8 120] 5 (1, 2))) e17 (.slice (some ⟨w.heap.size, 0, none⟩) 1 1) (.slice none 0 0) (.slice none 0 0) (.slice none 0 0) (.slice none 0 0) (.slice none 0 0) 9 rfl hone.sw (by decide))
  have HB1 := Lib.hid hb1
  have hcv := Lib.run_convert_bytes_const (P := Try.prog) w 24 5 #[.int .u8 120] 1 1 Try.underlying24 Try.underlying5
  simp only [List.size_toArray, List.length_cons, List.length_nil] at hcv
  clear hb1 hone
  go_enter Try.func7, Try.ntmps7
  go_wp2_with fail
  refine HP.out.mono ?_
  rintro r w2 ⟨A, q, hr, ho, hok, hb2⟩
  have hr' : r = .returned (.tuple #[.agg (entC eB (.slice none 0 0) (.slice A 1 q) (.slice none 0 0) (.slice none 0 0) (.slice none 0 0) (.slice none 0 0)), .bool true]) := hr
  clear hr
  subst hr'
  have hsl : SlK .u8 w2 (.slice A 1 q) [120] := own_slK ho hok
  have HB2 := Lib.hid (HB1.out.trans (hb2.mono HB1.out.size))
  clear ho hok hb2 HP HB1
  have HBo := Lib.hid (heap_alloc_new w2 (.cells #[.int .i64 0, .int .i64 0, .int .i64 0, .int .i64 0, .int .i64 0, .int .i64 0, .int .i64 0, .int .i64 0, .int .i64 0, .int .i64 0, .slice none 0 0, .slice none 0 0, .slice none 0 0, .slice none 0 0, .slice none 0 0, .slice none 0 0] 30))
  have HZI := Lib.hid (infoEntC eB (.slice none 0 0) (.slice A 1 q) (.slice none 0 0) (.slice none 0 0) (.slice none 0 0) (.slice none 0 0))
  have HZA := Lib.hid (entC_all eB none A none none none none 0 0 1 q 0 0 0 0 0 0 0 0)
  have HZN := Lib.hid (show (#[.int .i64 0, .int .i64 0, .int .i64 0, .int .i64 0, .int .i64 0, .int .i64 0, .int .i64 0, .int .i64 0, .int .i64 0, .int .i64 0, .slice none 0 0, .slice none 0 0, .slice none 0 0, .slice none 0 0, .slice none 0 0, .slice none 0 0] : Array Value).size = (entC eB (.slice none 0 0) (.slice A 1 q) (.slice none 0 0) (.slice none 0 0) (.slice none 0 0) (.slice none 0 0)).size from rfl)
  have HSA := Lib.hid (setRow_alloc w2 #[.int .i64 0, .int .i64 0, .int .i64 0, .int .i64 0, .int .i64 0, .int .i64 0, .int .i64 0, .int .i64 0, .int .i64 0, .int .i64 0, .slice none 0 0, .slice none 0 0, .slice none 0 0, .slice none 0 0, .slice none 0 0, .slice none 0 0] (entC eB (.slice none 0 0) (.slice A 1 q) (.slice none 0 0) (.slice none 0 0) (.slice none 0 0) (.slice none 0 0)) 30)
  have hb3 : Below w2.heap.size w2 (w2.alloc (.cells (entC eB (.slice none 0 0) (.slice A 1 q) (.slice none 0 0) (.slice none 0 0) (.slice none 0 0) (.slice none 0 0)) 30)) := (Below.refl _ _).alloc (Nat.le_refl _) _
  have HS3 := Lib.hid (hsl.below hb3 (Nat.le_refl _))
  have HBE := Lib.hid (heap_alloc_new w2 (.cells (entC eB (.slice none 0 0) (.slice A 1 q) (.slice none 0 0) (.slice none 0 0) (.slice none 0 0) (.slice none 0 0)) 30))
  have HB3 := Lib.hid (HB2.out.trans (hb3.mono HB2.out.size))
  clear hsl hb3
  go_upto_region 2 with (with_reducible refine wpList_store_row rfl 30 (.tmp 1) (.tmp 10) rfl w2.heap.size _ rfl rfl 30 _ HBo.out HZI.out HZN.out HZA.out ?_)
  rw [HSA.out]
  have HW2 := Lib.hid HB2.out.size
  have HP := Lib.hid (back_no (w2.alloc (.cells (entC eB (.slice none 0 0) (.slice A 1 q) (.slice none 0 0) (.slice none 0 0) (.slice none 0 0) (.slice none 0 0)) 30)) e05e (.slice none 0 0) (.slice none 0 0) (.slice none 0 0) (.slice none 0 0) (.slice none 0 0) (.slice none 0 0) 9 (by decide))
  clear HBo HZA HZN HSA HB2
  generalize w2.alloc (.cells (entC eB (.slice none 0 0) (.slice A 1 q) (.slice none 0 0) (.slice none 0 0) (.slice none 0 0) (.slice none 0 0)) 30) = w3 at *
  go_wp2_with fail
  refine HP.out.mono ?_
  rintro r w4 ⟨rfl, hb4⟩
  have HB4 := Lib.hid (HB3.out.trans (hb4.mono HB3.out.size))
  have hl3 : w2.heap.size < w3.heap.size := (Array.getElem?_eq_some_iff.1 HBE.out).1
  have hb5 : Below w4.heap.size w4 (w4.alloc (.cells zE 30)) := (Below.refl _ _).alloc (Nat.le_refl _) _
  have hb35 : Below w3.heap.size w3 (w4.alloc (.cells zE 30)) := hb4.trans (hb5.mono hb4.size)
  have HB5 := Lib.hid (HB3.out.trans (hb35.mono HB3.out.size))
  have HBE5 := Lib.hid ((hb35.block _ hl3).trans HBE.out)
  have HS5 := Lib.hid (HS3.out.below hb35 (Nat.le_refl _))
  have HBo := Lib.hid (heap_alloc_new w4 (.cells #[.int .i64 0, .int .i64 0, .int .i64 0, .int .i64 0, .int .i64 0, .int .i64 0, .int .i64 0, .int .i64 0, .int .i64 0, .int .i64 0, .slice none 0 0, .slice none 0 0, .slice none 0 0, .slice none 0 0, .slice none 0 0, .slice none 0 0] 30))
  have HYI := Lib.hid (show (Try.prog.info? 30).map (·.size) = some zE.size from infoEnt)
  have HZN := Lib.hid (show (#[.int .i64 0, .int .i64 0, .int .i64 0, .int .i64 0, .int .i64 0, .int .i64 0, .int .i64 0, .int .i64 0, .int .i64 0, .int .i64 0, .slice none 0 0, .slice none 0 0, .slice none 0 0, .slice none 0 0, .slice none 0 0, .slice none 0 0] : Array Value).size = zE.size from rfl)
  have HZA := Lib.hid (show zE.all (·.oneCell') = true from by simp [zE, Value.oneCell'])
  have HSA := Lib.hid (setRow_alloc w4 #[.int .i64 0, .int .i64 0, .int .i64 0, .int .i64 0, .int .i64 0, .int .i64 0, .int .i64 0, .int .i64 0, .int .i64 0, .int .i64 0, .slice none 0 0, .slice none 0 0, .slice none 0 0, .slice none 0 0, .slice none 0 0, .slice none 0 0] zE 30)
  clear hb4 hl3 hb5 hb35 HB4 HB3 HBE HS3 HP
  go_upto_region 3 with (with_reducible refine wpList_store_row rfl 30 (.tmp 3) (.tmp 15) rfl w4.heap.size _ rfl rfl 30 _ HBo.out HYI.out HZN.out HZA.out ?_)
  rw [HSA.out]
  have HP := Lib.hid (next_any (w4.alloc (.cells zE 30)) eB (.slice none 0 0) (.slice A 1 q) (.slice none 0 0) (.slice none 0 0) (.slice none 0 0) (.slice none 0 0) 10)
  clear HBo HYI HZN HZA HSA
  generalize w4.alloc (.cells zE 30) = w5 at *
  have k0 : w5.cell? ⟨w2.heap.size, 0, none⟩ = some (.int .i64 2) := (cell_of HBE5.out 0).1
  have k1 : w5.cell? ⟨w2.heap.size, 1, none⟩ = some (.int .i64 2) := (cell_of HBE5.out 1).1
  have k4 : w5.cell? ⟨w2.heap.size, 4, none⟩ = some (.int .i64 9) := (cell_of HBE5.out 4).1
  have k5 : w5.cell? ⟨w2.heap.size, 5, none⟩ = some (.int .i64 3) := (cell_of HBE5.out 5).1
  have k9 : w5.cell? ⟨w2.heap.size, 11, none⟩ = some (.slice A 1 q) := (cell_of HBE5.out 11).1
  have hc := conv_slK HS5.out
  rw [bstr_x] at hc
  go_wp2_with ((with_reducible refine wpList_load_rowG ?_ 30 (.tmp 1) rfl w2.heap.size rfl 30 _ (0, 0) _ HBE5.out Try.underlying30 rfl HZI.out ?_); · rfl)
  refine HP.out.mono ?_
  rintro r w6 ⟨hr, hb6⟩
  have hr' : r = .returned (.int .i64 3) := hr
  clear hr
  subst hr'
  have HB6 := Lib.hid (HB5.out.trans (hb6.mono HB5.out.size))
  clear hb6 HP k0 k1 k4 k5 k9 hc
  go_wp2
  go_ret
  exact ⟨rfl, HB6.out⟩
end Go.Proofs.Ythcndifbegmbkaa.Ud
