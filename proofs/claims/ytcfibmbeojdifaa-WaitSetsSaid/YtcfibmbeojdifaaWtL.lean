/- wait: begun answers true. -/
import Derived.Test.YtcfibmbeojdifaaWtD
namespace Go.Proofs.Ytcfibmbeojdifaa
open Go.RowKit Go.Maps Go.WideMaps

theorem rdI_lit1 (w : World) (k : Int) : RdI (w.alloc (.cells #[.int .i64 k] 3)) (.slice (some ⟨w.heap.size, 0, none⟩) 1 1) [k] :=
  ⟨_, _, rfl, fun j hj => ⟨w.heap.size, 0, rfl, by simp, by
    obtain rfl : j = 0 := by simpa using hj
    exact (cell_of (heap_alloc_new w (.cells #[.int .i64 k] 3)) 0).1⟩⟩
theorem mmb_none {b c : Nat} (h : MMb b (fun _ => none) c) : c = b := by
  rcases h with h | ⟨l, hl⟩
  · exact h
  · cases hl
theorem wf_small {i : Int} (h : -1000000 ≤ i) (h2 : i ≤ 1000000) : Wf i := WalkArith.wf_i64 (by omega)

def e1 : List (Int × Int) := [(1, 2)]
def e2 : List (Int × Int) := [(1, 2), (2, 1)]
theorem set1 : setE [] 1 [2] = e1 := by decide
theorem set2 : setE e1 2 [1] = e2 := by decide
theorem cyc1 : cyB e1 1 = false := cyB_no fun h => by
  have : (1 : Int) = 2 := way_closed (es := e1) (who := 1) (S := fun y => y = 2) (fun y hy => by simp [e1] at hy; exact hy) (fun x hx y hy => by subst hx; simp [e1] at hy) h
  cases this
theorem cyc2 : cyB e2 1 = true := cyB_yes (.more (.one (y := 2) (by simp [e2])) (by simp [e2]))

set_option maxRecDepth 100000 in
set_option maxHeartbeats 1000000 in
theorem begun_any (w : World) : Calls Try.prog 7 #[] w fun e w' => e = .returned (.bool true) ∧ Below w.heap.size w w' := by
  have CN := new_gr w
  go_enter Try.func7, Try.ntmps7
  go_upto_region 4 with (first | (go_at_call 8; refine CN.mono ?_; rintro e w1 ⟨rfl, h1, hb1⟩))
  have HB1 := Lib.hid hb1
  have H1 := Lib.hid h1
  have HBB : Hid (w.heap.size ≤ w1.heap.size) := hb1.size
  clear CN hb1 h1
  generalize w.heap.size + 1 = p at *
  have a1 : Below w1.heap.size w1 (w1.alloc (.cells #[.int .i64 2] 3)) := (Below.refl _ _).alloc (Nat.le_refl _) _
  have CS := set_any _ (H1.out.on_ a1) (by decide) (x := 1) (wf_small (by decide) (by decide)) (on := [2]) (by decide) (fun y hy => by simp at hy; subst hy; exact wf_small (by decide) (by decide)) (rdI_lit1 w1 2)
  rw [set1] at CS
  have HA1 := Lib.hid (HB1.out.trans (a1.mono HBB.out))
  clear a1
  go_upto_region 5 with (first | (go_at_call 13; refine CS.mono ?_; rintro e w2 ⟨rfl, ob2, h2, hb2, _⟩))
  have HB2 := Lib.hid (HA1.out.trans hb2)
  have CC := cycle_any w2 h2 (by decide) (who := 1) (wf_small (by decide) (by decide))
  rw [cyc1] at CC
  have H2 := Lib.hid h2
  clear CS h2 hb2 HA1 H1 HB1
  go_upto_region 6 with (first | (go_at_call 17; refine CC.mono ?_; rintro e w3 ⟨rfl, hb3⟩))
  have h3 := H2.out.on_ hb3
  have HB3 := Lib.hid (HB2.out.trans (hb3.mono HB2.out.size))
  have a3 : Below w3.heap.size w3 (w3.alloc (.cells #[.int .i64 1] 3)) := (Below.refl _ _).alloc (Nat.le_refl _) _
  have CS := set_any _ (h3.on_ a3) (by decide) (x := 2) (wf_small (by decide) (by decide)) (on := [1]) (by decide) (fun y hy => by simp at hy; subst hy; exact wf_small (by decide) (by decide)) (rdI_lit1 w3 1)
  rw [set2] at CS
  have HA3 := Lib.hid (HB3.out.trans (a3.mono HB3.out.size))
  clear a3 CC hb3 h3 H2 HB2
  go_upto_region 7 with (first | (go_at_call 13; refine CS.mono ?_; rintro e w4 ⟨rfl, ob4, h4, hb4, _⟩))
  have HB4 := Lib.hid (HA3.out.trans hb4)
  have CO := on_any w4 h4 (by decide) (x := 1) (wf_small (by decide) (by decide))
  have H4 := Lib.hid h4
  clear CS h4 hb4 HA3 HB3
  go_upto_region 8 with (first | (go_at_call 15; refine CO.mono ?_; rintro e w5 ⟨v, rfl, hS, hb5⟩))
  rw [show rowL e2 1 = [2] from by decide] at hS
  rcases hS.shape with ⟨e0, _⟩ | ⟨g, cap, cur, rfl, hg1, hg2, hg3, hg4⟩
  · cases e0
  have CC := cycle_any w5 (H4.out.on_ hb5) (by decide) (who := 1) (wf_small (by decide) (by decide))
  rw [cyc2] at CC
  have HB5 := Lib.hid (HB4.out.trans (hb5.mono HB4.out.size))
  have HG : Hid (g < w5.heap.size ∧ w5.cell? ⟨g, 0, none⟩ = some (.int .i64 2)) := ⟨hg2, (cell_of hg3 0).1.trans (hg4 0 (by simp))⟩
  clear CO hS hg1 hg2 hg3 hg4 hb5 H4 HB4
  dsimp only [List.length_cons, List.length_nil, Nat.zero_add]
  go_wp2_with (first | (go_at_call 17; refine CC.mono ?_; rintro e w6 ⟨rfl, hb6⟩; have hg6 : w6.cell? ⟨g, 0, none⟩ = some (.int .i64 2) := (hb6.cell (p := ⟨g, 0, none⟩) HG.out.1).trans HG.out.2))
  go_ret
  exact ⟨rfl, HB5.out.trans (hb6.mono HB5.out.size)⟩
end Go.Proofs.Ytcfibmbeojdifaa
