/- begun. -/
import Derived.Test.YtmijdjlpfjfjoaaRdA
import Derived.Test.YtmijdjlpfjfjoaaRfT
namespace Go.Proofs.Ytmijdjlpfjfjoaa.Rx
open Go.RowKit

def e7 : En := ⟨1, 3, 1, 0, 0, rowL ⟨#[97]⟩ ⟨#[]⟩ ⟨#[]⟩, []⟩
def x7 (A : Option Addr) (q : Nat) : Ex := ⟨0, 0, 0, 0, 0, .slice none 0 0, A, q, none, 0, .slice none 0 0, .slice none 0 0, .slice none 0 0⟩
theorem may7 : mayB ⟨#[97]⟩ ⟨#[]⟩ ⟨#[]⟩ = true := by decide
theorem new7 : e7.new.length = 26 := rowL_len may7
theorem els_nil (w : World) (k : Nat) : Els w (.slice none 0 0) k [] := ⟨none, 0, rfl, Nat.le_refl _, fun _ => rfl, fun a e => by cases e⟩
theorem cs_nil (w : World) : Cs w P0 N0 N0 (fun _ => []) := fun _ _ => ⟨rfl, slK_nil w⟩
theorem tl7 : tl e7 = [(3, 1, e7.new)] := tl_set (.inl rfl)
theorem apc7a : apc 0 3 e7 5 = true := by unfold apc; rw [tl7]; rfl
theorem apc7b : apc 5 3 e7 5 = false := rfl
theorem apN7 : apN 0 3 e7 5 = 5 := by unfold apN; rw [apc7a, if_pos rfl]
theorem apC7 : (apC (fun _ => []) 0 3 e7 5 1).length = 26 := by unfold apC; rw [apc7a, if_pos rfl, tl7]; exact new7
theorem pgs7 : pgs (tl e7) = [3] := by rw [tl7]; decide

theorem c7_len : ∀ i, i < 4 → (apC (fun _ => []) 0 3 e7 5 i).length ≤ 100000 := by
  intro i hi
  unfold apC
  split
  · exact giv_len (tl_len (by rw [new7]; omega)) (fun _ _ => Nat.zero_le _) i hi
  · exact Nat.zero_le _
theorem own_one {w : World} {B : Nat} {v x : Value} (h : w.ownsRow B 3 1 v 1 [x]) : ∃ g q, v = .slice (some ⟨g, 0, none⟩) 1 q ∧ w.cell? ⟨g, 0, none⟩ = some x := by
  have h1 := own_els (xs := [[x]]) h rfl (fun y hy => by obtain rfl := List.mem_singleton.1 hy; rfl)
  obtain ⟨A, c, rfl, h2⟩ := h1
  obtain ⟨b, off, rfl, h3, h4⟩ := Els.one (i := 0) ⟨A, c, rfl, h2⟩ (by simp)
  obtain ⟨-, ⟨e, -⟩ | ⟨g, cap, cur, e, -⟩⟩ := h
  · cases e
  · cases e
    exact ⟨_, _, rfl, by simpa using h4 0 (by omega)⟩
set_option maxRecDepth 100000 in
set_option maxHeartbeats 2000000 in
theorem begun16 (w : World) : Calls Try.prog 7 #[] w fun r w' => r = .returned (.bool true) ∧ Below w.heap.size w w' := by
  have HRo := Lib.hid (rrow_ok w ⟨#[97]⟩ ⟨#[]⟩ ⟨#[]⟩ may7)
  go_enter Try.func7, Try.ntmps7
  go_upto_region 3 with (go_at_call 15; refine HRo.out.mono ?_; rintro r w1 ⟨v, rfl, ho, hb1⟩; clear HRo; obtain ⟨A, q, rfl⟩ := own_sl ho; have H1 := Lib.hid (And.intro (own_slK ho (rowL_ok may7)) hb1); clear ho hb1)
  show Code.wp _ _ _ _ (w1.alloc (.cells (enC e7 (x7 A q)) 31))
  have hal := (Below.refl w1.heap.size w1).alloc (Nat.le_refl _) (.cells (enC e7 (x7 A q)) 31)
  have HX := Lib.hid (show (w1.alloc (.cells (enC e7 (x7 A q)) 31)).heap[w1.heap.size]? = some (.cells (enC e7 (x7 A q)) 31 (0, 0)) from heap_alloc_new w1 _)
  have HE : Hid (EnIn (w1.alloc (.cells (enC e7 (x7 A q)) 31)) e7 (x7 A q)) := ⟨by rw [new7]; exact H1.out.1.below hal (Nat.le_refl _), els_nil _ 4, Nat.zero_le _, by rw [new7]; omega⟩
  have HB := Lib.hid (H1.out.2.trans (hal.mono H1.out.2.size))
  have HS : Hid ((w1.alloc (.cells (enC e7 (x7 A q)) 31)).heap.size = w1.heap.size + 1) := by show _ = _; simp
  generalize w1.alloc (.cells (enC e7 (x7 A q)) 31) = w2 at *
  have HI := Lib.hid (infoE2 e7 (x7 A q))
  have HA : Hid (Calls Try.prog 9 #[.agg #[.slice none 0 0, .slice none 0 0, .slice none 0 0, .slice none 0 0, .int .i64 0], .int .i64 3, .agg (enC e7 (x7 A q)), .int .i64 5] w2 fun r w' => ∃ P N K, r = .returned (.tuple #[pgV P N K 5, .bool true]) ∧ Cs w' P N K (apC (fun _ => []) 0 3 e7 5) ∧ Below w2.heap.size w2 w') := (apply_any w2 P0 N0 N0 0 (fun _ => []) 3 e7 (x7 A q) 5 (cs_nil w2) (fun _ _ => Nat.zero_le _) HE.out).mono fun r w' ⟨P, N, K, h1, h2, h3⟩ => ⟨P, N, K, by rw [h1, apN7, apc7a], h2, h3⟩
  clear hal H1
  go_upto_region 4 with (first
    | (with_reducible refine wpList_load_row rfl 31 (.tmp 3) rfl w1.heap.size rfl 31 _ (0, 0) _ HX.out Try.underlying31 rfl HI.out ?_)
    | (go_at_call 9; refine HA.out.mono ?_; rintro r w3 ⟨P3, N3, K3, rfl, hc3, hb3⟩; clear HA; unfold pgV))
  show Code.wp _ _ _ _ (w3.alloc (pgO P3 N3 K3 5))
  have hal := (Below.refl w3.heap.size w3).alloc (Nat.le_refl _) (pgO P3 N3 K3 5)
  have hb4 := hb3.trans (hal.mono hb3.size)
  have HC4 := Lib.hid (hc3.below hal (Nat.le_refl _))
  have HP4 := Lib.hid (show (w3.alloc (pgO P3 N3 K3 5)).heap[w3.heap.size]? = some (pgO P3 N3 K3 5) from heap_alloc_new w3 _)
  have HX4 := Lib.hid ((hb4.block _ (by have := HS.out; omega)).trans HX.out)
  have HB4 := Lib.hid (HB.out.trans (hb4.mono HB.out.size))
  have HE4 := Lib.hid (HE.out.below hb4 (Nat.le_refl _))
  have HW4 : Hid ((w3.alloc (pgO P3 N3 K3 5)).heap.size = w3.heap.size + 1 ∧ w1.heap.size < w3.heap.size) := ⟨by simp, by have := hb3.size; have := HS.out; omega⟩
  generalize w3.alloc (pgO P3 N3 K3 5) = w4 at *
  obtain ⟨c0, c1, c2, c3, c4⟩ := pg5 HP4.out
  have HA : Hid (Calls Try.prog 9 #[.agg #[.slice (P3 0) (N3 0) (K3 0), .slice (P3 1) (N3 1) (K3 1), .slice (P3 2) (N3 2) (K3 2), .slice (P3 3) (N3 3) (K3 3), .int .i64 5], .int .i64 3, .agg (enC e7 (x7 A q)), .int .i64 5] w4 fun r w' => ∃ P N K, r = .returned (.tuple #[pgV P N K 5, .bool false]) ∧ Below w4.heap.size w4 w') := (apply_any w4 P3 N3 K3 5 _ 3 e7 (x7 A q) 5 HC4.out c7_len HE4.out).mono fun r w' ⟨P, N, K, h1, h2, h3⟩ => ⟨P, N, K, by rw [h1, apN, apc7b]; rfl, h3⟩
  clear hal hb4 hc3 hb3 HX HE HB
  go_upto_region 5 with (first
    | (with_reducible refine wpList_load_row rfl 31 (.tmp 3) rfl w1.heap.size rfl 31 _ (0, 0) _ HX4.out Try.underlying31 rfl HI.out ?_)
    | (go_at_call 9; refine HA.out.mono ?_; rintro r w5 ⟨P5, N5, K5, rfl, hb5⟩; clear HA; unfold pgV))
  show Code.wp _ _ _ _ (w5.alloc (pgO P5 N5 K5 5))
  have hb6 := hb5.trans (((Below.refl w5.heap.size w5).alloc (Nat.le_refl _) (pgO P5 N5 K5 5)).mono hb5.size)
  have HP6 := Lib.hid ((hb6.block _ (by have := HW4.out; omega)).trans HP4.out)
  have HX6 := Lib.hid ((hb6.block _ (by have := HW4.out; omega)).trans HX4.out)
  have HB6 := Lib.hid (HB4.out.trans (hb6.mono HB4.out.size))
  have HE6 := Lib.hid (HE4.out.below hb6 (Nat.le_refl _))
  have HN1 : Hid (N3 1 = 26) := (HC4.out 1 (by omega)).1.trans apC7
  clear c0 c1 c2 c3 c4 hb5 hb6 HP4 HX4 HB4 HE4 HC4
  generalize w5.alloc (pgO P5 N5 K5 5) = w6 at *
  have HPa : Hid (Calls Try.prog 12 #[.agg (enC e7 (x7 A q))] w6 fun r w' => ∃ v, r = .returned v ∧ w'.ownsRow w6.heap.size 3 1 v 1 [.int .i64 3] ∧ Below w6.heap.size w6 w') := ((callsIn_wide (n := 8)).1 (pages_in w6 e7 (x7 A q) HE6.out)).mono fun r w' ⟨v, h1, h2, h3⟩ => ⟨v, h1, by rw [pgs7] at h2; exact h2, h3⟩
  go_wp2_with (first
    | (with_reducible refine wpList_load_row rfl 31 (.tmp 3) rfl w1.heap.size rfl 31 _ (0, 0) _ HX6.out Try.underlying31 rfl HI.out ?_)
    | (go_at_call 12; refine HPa.out.mono ?_; rintro r w7 ⟨v, rfl, ho7, hb7⟩; clear HPa; obtain ⟨g7, q7, rfl, z0⟩ := own_one ho7; have h7 := (hb7.block _ (Array.getElem?_eq_some_iff.1 HP6.out).1).trans HP6.out; obtain ⟨c0, c1, c2, c3, c4⟩ := pg5 h7; rw [HN1.out] at c1; have HB7 := Lib.hid (HB6.out.trans (hb7.mono HB6.out.size)); clear hb7 ho7 h7))
  go_ret
  exact ⟨rfl, HB7.out⟩
end Go.Proofs.Ytmijdjlpfjfjoaa.Rx
