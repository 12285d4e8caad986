/- gap does something: begun. -/
import Derived.Test.YtffflafafpdjdaaGpX
import Derived.Test.YtffflafafpdjdaaGpE
namespace Go.Proofs.Ytffflafafpdjdaa
open Go.RowKit Go.Maps Go.WideMaps

theorem next_g (w : World) {g b1 b2 m : Nat} {s : St} (h : GA w g b1 b2 m s) (from' to' cells who : Int) : Calls Try.prog 15 #[.pointer (some ⟨g, 0, none⟩), .int .i64 from', .int .i64 to', .int .i64 cells, .int .i64 who] w fun e w' => e = .returned (nxV ((All s.N from' to' cells).find? (okX s who))) ∧ Below w.heap.size w w' := callsIn_wide.1 (next_in w h from' to' cells who)
theorem used_g (w : World) {g b1 b2 m : Nat} {s : St} (h : GA w g b1 b2 m s) (from' to' : Int) : Calls Try.prog 18 #[.pointer (some ⟨g, 0, none⟩), .int .i64 from', .int .i64 to'] w fun e w' => e = .returned (.int .i64 (cntB s.u (All s.N from' to' 4) : Nat)) ∧ Below w.heap.size w w' := callsIn_wide.1 (used_in w h from' to')
theorem held_g (w : World) {g b1 b2 m : Nat} {s : St} (h : GA w g b1 b2 m s) (from' to' : Int) : Calls Try.prog 19 #[.pointer (some ⟨g, 0, none⟩), .int .i64 from', .int .i64 to'] w fun e w' => e = .returned (.int .i64 (cntB s.isH (All s.N from' to' 4) : Nat)) ∧ Below w.heap.size w w' := callsIn_wide.1 (held_in w h from' to')

noncomputable def sB : St := ((St.new 2).useS 0 0 true).holdS 1 0 1
theorem all_24 : All 2 0 2 4 = [(0, 0), (0, 1), (0, 2), (0, 3), (1, 0), (1, 1), (1, 2), (1, 3)] := by rfl
theorem sB_u (p c : Int) : sB.u p c = decide (p = 0 ∧ c = 0) := by
  show upR (fun _ _ => false) 0 0 true p c = _
  unfold upR
  split <;> simp_all
theorem sB_h (p c : Int) : sB.h p c = if p = 0 ∧ c = 1 then some 1 else none := by
  show upR (fun _ _ => none) 0 1 (some 1) p c = _
  unfold upR
  split <;> simp_all
theorem sB_next2 : nxV ((All 2 0 2 4).find? (okX sB 2)) = .tuple #[.agg #[.int .i64 0, .int .i64 2], .bool true] := by
  rw [all_24, find_pre (pre := [(0, 0), (0, 1)]) (x := (0, 2))]
  · rfl
  · intro y hy
    simp only [List.mem_cons, List.mem_nil_iff, or_false] at hy
    rcases hy with rfl | rfl <;> simp [okX, St.free', oth, sB_u, sB_h]
  · simp [okX, St.free', oth, sB_u, sB_h]
  · exact ⟨_, rfl⟩
theorem sB_next1 : nxV ((All 2 0 2 4).find? (okX sB 1)) = .tuple #[.agg #[.int .i64 0, .int .i64 1], .bool true] := by
  rw [all_24, find_pre (pre := [(0, 0)]) (x := (0, 1))]
  · rfl
  · intro y hy
    simp only [List.mem_cons, List.mem_nil_iff, or_false] at hy
    subst hy
    simp [okX, St.free', oth, sB_u, sB_h]
  · simp [okX, St.free', oth, sB_u, sB_h]
  · exact ⟨_, rfl⟩
theorem sB_used : cntB sB.u (All 2 0 2 4) = 1 := by
  rw [all_24]; simp [cntB, sB_u]
theorem sB_held : cntB sB.isH (All 2 0 2 4) = 1 := by
  rw [all_24]; simp [cntB, St.isH, sB_u, sB_h]
theorem fr_below {w w1 w' : World} {g b1 b2 : Nat} (hb : Below w.heap.size w w1) (hk : ∀ k, Bk g b1 b2 k → w.heap.size ≤ k) (hf : Fr w1.heap.size (Bk g b1 b2) w1 w') : Below w.heap.size w w' := hb.trans (hf.below hb.size hk)

set_option maxRecDepth 100000 in
set_option maxHeartbeats 1000000 in
theorem begun_any (w : World) : Calls Try.prog 6 #[] w fun e w' => e = .returned (.bool true) ∧ Below w.heap.size w w' := by
  have HN := Lib.hid (new_g w 2)
  go_enter Try.func6, Try.ntmps6
  go_upto_region 4 with (go_at_call 7; refine HN.out.mono ?_; rintro e w1 ⟨g, b1, b2, rfl, hG, hB, hK⟩)
  have HU := Lib.hid (use_g w1 hG (by unfold maxLen; omega) (p := 0) (c := 0) (wf_small (by omega)) (wf_small (by omega)) true)
  rw [inB_yes (N := (St.new (pgs 2)).N) (p := 0) (c := 0) (by show (0 : Int) ≤ 0 ∧ (0 : Int) < ((2 : Nat) : Int) ∧ (0 : Int) ≤ 0 ∧ (0 : Int) < 4; omega), if_pos rfl] at HU
  have HK := Lib.hid hK
  have HB := Lib.hid hB
  clear hG hB hK HN
  go_upto_region 5 with (go_at_call 9; refine HU.out.mono ?_; rintro e w2 ⟨rfl, hG2, hF2⟩)
  have HH := Lib.hid (hold_g w2 hG2 (by unfold maxLen; omega) (p := 0) (c := 1) (who := 1) (wf_small (by omega)) (wf_small (by omega)) (wf_small (by omega)))
  have e1 : canHold ((St.new (pgs 2)).useS 0 0 true) 1 0 1 = true := by
    unfold canHold oth
    rw [inB_yes (by show (0 : Int) ≤ 0 ∧ (0 : Int) < ((2 : Nat) : Int) ∧ (0 : Int) ≤ 1 ∧ (1 : Int) < 4; omega)]; rfl
  have e2 : ((St.new (pgs 2)).useS 0 0 true).hold 1 0 1 = sB := by
    have := e1
    unfold canHold at this
    simp only [Bool.and_eq_true, Bool.not_eq_true'] at this
    rw [St.hold, if_pos this]; rfl
  rw [e1, e2] at HH
  have HB2 := Lib.hid (fr_below HB.out HK.out hF2)
  clear e1 e2 hG2 hF2 HU HB
  go_upto_region 6 with (go_at_call 11; refine HH.out.mono ?_; rintro e w3 ⟨rfl, hG3, hF3⟩)
  have HN2 := Lib.hid (next_g w3 hG3 0 2 4 2)
  rw [show sB.N = 2 from rfl, sB_next2] at HN2
  have HG3 := Lib.hid hG3
  have HB3 := Lib.hid (HB2.out.trans (hF3.below HB2.out.size HK.out))
  clear hG3 hF3 HH HB2
  go_upto_region 7 with (go_at_call 15; refine HN2.out.mono ?_; rintro e w4 ⟨rfl, hb4⟩)
  have a0 := (al_new w4 #[.int .i64 0, .int .i64 2] 29 1).1
  have z0 : w4.heap.size < (w4.alloc (.cells #[.int .i64 0, .int .i64 2] 29)).heap.size := by simp
  have hb5 := hb4.alloc hb4.size (.cells #[.int .i64 0, .int .i64 2] 29)
  have HG5 := Lib.hid (HG3.out.on_ hb5)
  have HB5 := Lib.hid (HB3.out.trans (hb5.mono HB3.out.size))
  generalize (w4.alloc (.cells #[.int .i64 0, .int .i64 2] 29)) = w5 at *
  generalize w4.heap.size = r1 at *
  clear hb4 hb5 HN2 HG3 HB3
  have HN3 := Lib.hid (next_g w5 HG5.out 0 2 4 1)
  rw [show sB.N = 2 from rfl, sB_next1] at HN3
  go_upto_region 8 with (go_at_call 15; refine HN3.out.mono ?_; rintro e w6 ⟨rfl, hb6⟩)
  have a1 := (hb6.cell (p := ⟨r1, 1, none⟩) z0).trans a0
  have a2 := (al_old (o := .cells #[.int .i64 0, .int .i64 1] 29) (a := ⟨r1, 1, none⟩) (Nat.lt_of_lt_of_le z0 hb6.size)).trans a1
  have a3 := (al_new w6 #[.int .i64 0, .int .i64 1] 29 1).1
  have hb7 := hb6.alloc hb6.size (.cells #[.int .i64 0, .int .i64 1] 29)
  have HG7 := Lib.hid (HG5.out.on_ hb7)
  have HB7 := Lib.hid (HB5.out.trans (hb7.mono HB5.out.size))
  generalize (w6.alloc (.cells #[.int .i64 0, .int .i64 1] 29)) = w7 at *
  generalize w6.heap.size = r2 at *
  clear a0 a1 z0 hb6 hb7 HG5 HB5 HN3
  have HU7 := Lib.hid (used_g w7 HG7.out 0 2)
  rw [show sB.N = 2 from rfl, sB_used] at HU7
  go_wp2_with (first
    | (go_at_call 18; refine HU7.out.mono ?_; rintro e w8 ⟨rfl, hb8⟩)
    | (go_at_call 19; refine (held_g w8 (HG7.out.on_ hb8) 0 2).mono ?_; rintro e w9 ⟨rfl, hb9⟩; rw [show sB.N = 2 from rfl, sB_held]))
  go_ret
  exact ⟨rfl, HB7.out.trans ((hb8.trans (hb9.mono hb8.size)).mono HB7.out.size)⟩
end Go.Proofs.Ytffflafafpdjdaa
