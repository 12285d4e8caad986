/- TreeAll: the walk. -/
import Derived.Test.YtejbbojephiifaaTgA
import Derived.Test.YtejbbojephiifaaTlS
import Derived.Deep.RegionHeld
namespace Go.Proofs.Ytejbbojephiifaa
open Go.RowKit

theorem wrapB (y : Int) : IntKind.u8.wrap y = y % 256 := by
  unfold IntKind.wrap
  simp [IntKind.signed, IntKind.bits]
theorem cutM_len (most : Int) (l : List KV) : (cutM most l).length ≤ l.length := by
  unfold cutM
  split
  · exact Nat.le_refl _
  · rw [List.length_take]; exact Nat.min_le_right _ _

set_option maxRecDepth 100000 in
set_option maxHeartbeats 8000000 in
theorem all_walk (w : World) (v : Value) (l : List Int) (hl : SlK .u16 w v l) :
    Calls Try.prog 3 #[v] w fun e w' => e = .returned (.bool true) ∧ Below w.heap.size w w' := by
  obtain ⟨pv, cap, rfl, _⟩ := id hl
  have HL := Lib.hid hl
  clear hl
  go_enter Try.func3, Try.ntmps3
  go_wp2_with fail
  refine (begun_any w).mono ?_
  rintro e w1 ⟨rfl, b1⟩
  by_cases hll : l.length ≤ 200
  · go_wp2_with fail
    refine tnew.mono ?_
    rintro e w2 ⟨p, rfl, t2, b2⟩
    have HB2 := Lib.hid (b1.trans (b2.mono b1.size))
    generalize hM : w1.heap.size = M at *
    have HM : Hid (w.heap.size ≤ M) := hM ▸ b1.size
    have HT2 := Lib.hid t2
    clear b1 b2 hM t2
    obtain ⟨n, hn⟩ : ∃ n, l.length = n := ⟨_, rfl⟩
    have HLN := Lib.hid hn
    have hn200 : n ≤ 200 := by omega
    rw [hn]
    clear hll hn
    go_wp2_with fail
    have hal := (Below.refl w2.heap.size w2).alloc (Nat.le_refl _) (.cells #[.slice none 0 0, .slice none 0 0] 30)
    have HBO := Lib.hid (both_new HT2.out hal (heap_alloc_new w2 (.cells #[.slice none 0 0, .slice none 0 0] 30)))
    have HBW := Lib.hid (HB2.out.trans (hal.mono HB2.out.size))
    generalize w2.alloc (.cells #[.slice none 0 0, .slice none 0 0] 30) = w3 at *
    generalize w2.heap.size = r at *
    clear hal HB2 HT2
    go_loopw [5] (fun i wr => ∃ j : Nat, j ≤ n ∧ i = .int .i64 j ∧ Hid (∃ xs, xs.length ≤ j ∧ Bo M wr p xs r xs ∧ Below w.heap.size w wr)) (fun i _ => n - intN i)
    case atStart => exact ⟨0, Nat.zero_le _, rfl, [], Nat.le_refl _, HBO.out, HBW.out⟩
    case round =>
      obtain ⟨j, hj, rfl, HR⟩ := hrel
      clear HBO HBW
      by_cases hlt : j < n
      · obtain ⟨xs, hx, bo, br⟩ := HR.out
        obtain ⟨ab, ao, x0, rfl, hx16, hab, hcell⟩ := sl_at (i := j) HL.out br (by have := HLN.out; omega)
        obtain ⟨x, rfl, hx9⟩ := u16_nat hx16
        have HO := Lib.hid bo
        have HB := Lib.hid br
        have HC := Lib.hid ((World.cell?_of_block (br.block ab hab)).symm.trans hcell)
        clear bo br HR hx16
        have hwr : IntKind.u8.wrap (x : Int) = ((x % 256 : Nat) : Int) := (wrapB _).trans (by omega)
        go_wp2_with fail
        refine (key_any wr (x % 256) (by omega)).mono ?_
        rintro e w4 ⟨rfl, b4⟩
        have HB4 := Lib.hid (HB.out.trans (b4.mono HB.out.size))
        have HO4 := Lib.hid (HO.out.below b4)
        clear HB HO b4 hcell hwr
        have hcell := (World.cell?_of_block (HB4.out.block ab hab)).trans HC.out
        generalize keyN (x % 256) = k
        go_upto_if 42 with (fail)
        go_cut [] (fun wx => ∃ ys, ys.length ≤ j + 1 ∧ Bo M wx p ys r ys ∧ Below w.heap.size w wx)
        case first =>
          by_cases hm : x / 256 % 3 = 0
          · have e1 : (((x : Int) / 256 % 3) == 0) = true := beq_iff_eq.2 (by omega)
            go_wp2_with fail
            refine (both_cut HO4.out (by omega) k).mono ?_
            rintro e w5 ⟨rfl, o5, b5⟩
            have HO5 := Lib.hid o5
            have HB5 := Lib.hid (HB4.out.trans (b5.mono HM.out))
            clear o5 b5 HO4 HB4 hcell
            go_wp2_with fail
            refine (both_rcut HO5.out (by omega) k).mono ?_
            rintro e w6 ⟨rfl, o6, b6⟩
            have HF : Hid (∃ ys, ys.length ≤ j + 1 ∧ Bo M w6 p ys r ys ∧ Below w.heap.size w w6) := ⟨_, Nat.le_trans (by have := del_len k xs; omega : (del k xs).length ≤ xs.length) (by omega), o6, HB5.out.trans (b6.mono HM.out)⟩
            clear o6 b6 HO5 HB5
            generalize has k xs = hz
            go_wp2_with fail
            go_meet
            exact HF.out
          · have e1 : (((x : Int) / 256 % 3) == 0) = false := beq_eq_false_iff_ne.2 (by omega)
            go_upto_region 14 with (fail)
            have hb0 := (Below.refl w4.heap.size w4).alloc (Nat.le_refl _) (.cells #[.int .i64 (j : Int), .int .i64 0] 35)
            have hx0 := heap_alloc_new w4 (.cells #[.int .i64 (j : Int), .int .i64 0] 35)
            have HBX := Lib.hid ((HO4.out.aside hb0 (Nat.le_refl _) (lt_of_heap hx0)).drew)
            have HB0 : Hid (Below w.heap.size w (w4.alloc (.cells #[.int .i64 (j : Int), .int .i64 0] 35)).drew) := (HB4.out.trans (hb0.mono HB4.out.size)).drew
            have HLI : Hid ((ins ⟨k, (j : Int), 0⟩ xs).length ≤ j + 1) := by
              show _ ≤ _
              rw [ins_len]; split <;> omega
            generalize w4.alloc (.cells #[.int .i64 (j : Int), .int .i64 0] 35) = w40 at *
            generalize w4.heap.size = nb at *
            have HX : Hid (w40.drew.heap[nb]? = some (.cells #[.int .i64 (j : Int), .int .i64 0] 35 (0, 0))) := hx0
            clear hb0 hx0 HO4 HB4 hcell e1
            refine wp_region_held_drew (S := fun W : World => W.heap[nb]? = some (.cells #[.int .i64 (j : Int), .int .i64 0] 35 (0, 0))) (by kernel_rfl) HX.out (fun hHeld => ?_)
            refine wpAnyH_take (i := 0) (oi := ⟨_, _, _, _, _, _⟩) (v := ?_) rfl (by kernel_rfl) (by kernel_rfl) (by kernel_rfl) (fun _ _ _ h => h) (Or.inl ⟨by rfl, ?_⟩) (by assumption) ?_
            rotate_left
            · intro W hSW
              try dsimp only at hSW
              go_simp
              try with_reducible rfl
            rotate_left
            try simp only [Act.put, List.setIfInBounds_toArray, List.set_cons_zero, List.set_cons_succ]
            refine wpAnyH_take (i := 1) (oi := ⟨_, _, _, _, _, _⟩) (v := ?_) rfl (by kernel_rfl) (by kernel_rfl) (by kernel_rfl) (fun _ _ _ h => h) (Or.inl ⟨by rfl, ?_⟩) (by assumption) ?_
            rotate_left
            · intro W hSW
              try dsimp only at hSW
              go_simp
              try with_reducible rfl
            rotate_left
            try simp only [Act.put, List.setIfInBounds_toArray, List.set_cons_zero, List.set_cons_succ]
            refine wpAnyH_take (i := 4) (oi := ⟨_, _, _, _, _, _⟩) (v := ?_) rfl (by kernel_rfl) (by kernel_rfl) (by kernel_rfl) (fun _ _ _ h => h) (Or.inl ⟨by rfl, ?_⟩) (by assumption) ?_
            rotate_left
            · intro W hSW
              try dsimp only at hSW
              go_simp
              try with_reducible rfl
            rotate_left
            try simp only [Act.put, List.setIfInBounds_toArray, List.set_cons_zero, List.set_cons_succ]
            refine wpAnyH_take (i := 5) (oi := ⟨_, _, _, _, _, _⟩) (v := ?_) rfl (by kernel_rfl) (by kernel_rfl) (by kernel_rfl) (fun _ _ _ h => h) (Or.inl ⟨by rfl, ?_⟩) (by assumption) ?_
            rotate_left
            · intro W hSW
              try dsimp only at hSW
              go_simp
              try with_reducible rfl
            rotate_left
            try simp only [Act.put, List.setIfInBounds_toArray, List.set_cons_zero, List.set_cons_succ]
            refine wpAnyH_take (i := 2) (oi := ⟨_, _, _, _, _, _⟩) (v := .agg #[.int .i64 (j : Int), .int .i64 0]) rfl (by kernel_rfl) (by kernel_rfl) (by kernel_rfl) (fun _ _ _ h => h) (Or.inl ⟨by rfl, fun W hSW => ?_⟩) (by assumption) ?_
            · exact held_row 35 (.tmp 7) (by rfl) nb (by rfl) 35 _ (0, 0) _ hSW undRID rfl (szRIDz _ _)
            try simp only [Act.put, List.setIfInBounds_toArray, List.set_cons_zero, List.set_cons_succ]
            refine wpAnyH_take (i := 6) (oi := ⟨_, _, _, _, _, _⟩) (v := .agg #[.int .i64 (j : Int), .int .i64 0]) rfl (by kernel_rfl) (by kernel_rfl) (by kernel_rfl) (fun _ _ _ h => h) (Or.inl ⟨by rfl, fun W hSW => ?_⟩) (by assumption) ?_
            · exact held_row 35 (.tmp 7) (by rfl) nb (by rfl) 35 _ (0, 0) _ hSW undRID rfl (szRIDz _ _)
            try simp only [Act.put, List.setIfInBounds_toArray, List.set_cons_zero, List.set_cons_succ]
            refine wpAnyH_ready (rs := [3]) (by kernel_rfl) (by simp) ?_
            refine AllReadyH.cons (o := ⟨_, _, _, _, _, _⟩) rfl (fun K hK => ?_) AllReadyH.nil
            rw [if_pos (by rfl)]
            go_simp
            go_at_call 14
            refine (box_put HBX.out (by omega) ⟨k, (j : Int), 0⟩).mono ?_
            rintro e w5 ⟨rfl, o5, b5, k5⟩
            have HS5 := (k5 nb rfl).trans hHeld
            have HO5 := Lib.hid o5
            have HB5 := Lib.hid (HB0.out.trans (b5.mono HM.out))
            clear o5 b5 k5 HBX
            go_wp2_with fail
            refine hK.out _ _ HS5 (fun hHeld => ?_)
            clear hK K
            try simp only [Act.put, List.setIfInBounds_toArray, List.set_cons_zero, List.set_cons_succ]
            refine wpAnyH_ready (rs := [7]) (by kernel_rfl) (by simp) ?_
            refine AllReadyH.cons (o := ⟨_, _, _, _, _, _⟩) rfl (fun K hK => ?_) AllReadyH.nil
            rw [if_pos (by rfl)]
            go_simp
            go_at_call 15
            refine (box_rput HO5.out (by omega) ⟨k, (j : Int), 0⟩).mono ?_
            rintro e w6 ⟨rfl, o6, b6, k6⟩
            have HS6 := (k6 nb rfl).trans hHeld
            have HF : Hid (∃ ys, ys.length ≤ j + 1 ∧ Bo M w6 p ys r ys ∧ Below w.heap.size w w6) := ⟨_, HLI.out, o6.bo, HB5.out.trans (b6.mono HM.out)⟩
            clear o6 b6 k6 HO5 HB5
            go_wp2_with fail
            refine hK.out _ _ HS6 (fun hHeld => ?_)
            clear hK K
            try simp only [Act.put, List.setIfInBounds_toArray, List.set_cons_zero, List.set_cons_succ]
            generalize has k xs = hz
            refine wpAnyH_take (i := 8) (oi := ⟨_, _, _, _, _, _⟩) (v := ?_) rfl (by kernel_rfl) (by kernel_rfl) (by kernel_rfl) (fun _ _ _ h => h) (Or.inl ⟨by rfl, ?_⟩) (by assumption) ?_
            rotate_left
            · intro W hSW
              try dsimp only at hSW
              go_simp
              try with_reducible rfl
            rotate_left
            try simp only [Act.put, List.setIfInBounds_toArray, List.set_cons_zero, List.set_cons_succ]
            refine wpAnyH_done (by kernel_rfl) ?_ _
            go_wp2
            go_meet
            exact HF.out
        case rest =>
          have HU := Lib.hid hcut
          clear hcut HO4 HB4 hcell
          obtain ⟨ys, hyl, oy, by4⟩ := HU.out
          have HOY := Lib.hid oy
          have HBY := Lib.hid by4
          clear HU oy by4
          go_wp2_with fail
          refine (tget HOY.out.tt k).mono ?_
          rintro e w7 ⟨rfl, _, b7⟩
          obtain ⟨pp, cc, bb, hfv⟩ : ∃ pp cc bb, fndV (fnd k ys) = .tuple #[.agg #[.int .i64 pp, .int .i64 cc], .bool bb] := by
            unfold fndV
            split
            · exact ⟨_, _, _, rfl⟩
            · exact ⟨_, _, _, rfl⟩
          have HFV := Lib.hid hfv
          rw [hfv]
          clear hfv
          go_upto_region 17 with (fail)
          have h8 := heap_alloc_new w7 (.cells #[.int .i64 pp, .int .i64 cc] 35)
          have b8 := (Below.refl w7.heap.size w7).alloc (Nat.le_refl _) (.cells #[.int .i64 pp, .int .i64 cc] 35)
          have HO8 := Lib.hid ((HOY.out.below b7).below b8)
          have HB8 := Lib.hid ((HBY.out.trans (b7.mono HBY.out.size)).trans (b8.mono (HBY.out.trans (b7.mono HBY.out.size)).size))
          generalize w7.alloc (.cells #[.int .i64 pp, .int .i64 cc] 35) = w8 at *
          generalize w7.heap.size = n8 at *
          have H8 := Lib.hid h8
          clear h8 b8 b7 HOY HBY
          have HRG := Lib.hid (rget_any w8 HO8.out.rtr (by omega) k)
          rw [HFV.out] at HRG
          go_upto_region 18 with (go_at_call 17; refine HRG.out.mono ?_; rintro e w9 ⟨rfl, b9⟩; have HB9 := Lib.hid b9; clear b9)
          have h10 := heap_alloc_new w9 (.cells #[.int .i64 pp, .int .i64 cc] 35)
          have b10 := (Below.refl w9.heap.size w9).alloc (Nat.le_refl _) (.cells #[.int .i64 pp, .int .i64 cc] 35)
          have b80 := HB9.out.trans (b10.mono HB9.out.size)
          have HOZ := Lib.hid (HO8.out.below b80)
          have HBZ := Lib.hid (HB8.out.trans (b80.mono HB8.out.size))
          have h80 := (b80.block n8 (lt_of_heap H8.out)).trans H8.out
          generalize w9.alloc (.cells #[.int .i64 pp, .int .i64 cc] 35) = w10 at *
          generalize w9.heap.size = n10 at *
          obtain ⟨sk, sv, hrz, hkz, _⟩ := HOZ.out.rtr.ex
          obtain ⟨pk, ck, rfl⟩ := own_sl hkz
          obtain ⟨m, hm⟩ : ∃ m, ys.length = m := ⟨_, rfl⟩
          have HY1 : Hid (ys.length ≤ 100000) := by show _ ≤ _; omega
          have HMM := Lib.hid hm
          rw [hm] at hrz
          have HS : Hid (∀ W : World, Below w10.heap.size w10 W → W.heap[n8]? = some (.cells #[.int .i64 pp, .int .i64 cc] 35 (0, 0)) ∧ W.heap[n10]? = some (.cells #[.int .i64 pp, .int .i64 cc] 35 (0, 0)) ∧ W.cell? ⟨r, 0, none⟩ = some (.slice pk m ck)) := fun W hb => ⟨(hb.block n8 (lt_of_heap h80)).trans h80, (hb.block n10 (lt_of_heap h10)).trans h10, (World.cell?_of_block (hb.block r (lt_of_heap hrz))).trans (cell_of hrz 0).1⟩
          have hyl2 : m ≤ j + 1 := by omega
          clear h10 b10 b80 h80 hrz hkz hm HB9 HRG HO8 HB8 H8 HFV hyl
          refine wp_region_held_drew (S := fun W : World => W.heap[n8]? = some (.cells #[.int .i64 pp, .int .i64 cc] 35 (0, 0)) ∧ W.heap[n10]? = some (.cells #[.int .i64 pp, .int .i64 cc] 35 (0, 0)) ∧ W.cell? ⟨r, 0, none⟩ = some (.slice pk m ck)) (by kernel_rfl) (HS.out _ (Below.refl _ w10).drew) (fun hHeld => ?_)
          have HD := Lib.hid (Below.refl w10.heap.size w10).drew
          generalize w10.drew = w11 at *
          refine wpAnyH_take (i := 0) (oi := ⟨_, _, _, _, _, _⟩) (v := .agg #[.int .i64 pp, .int .i64 cc]) rfl (by kernel_rfl) (by kernel_rfl) (by kernel_rfl) (fun _ _ _ h => h) (Or.inl ⟨by rfl, fun W hSW => ?_⟩) (by assumption) ?_
          · exact held_row 35 (.tmp 8) (by rfl) n8 (by rfl) 35 _ (0, 0) _ hSW.1 undRID rfl (szRIDz _ _)
          try simp only [Act.put, List.setIfInBounds_toArray, List.set_cons_zero, List.set_cons_succ]
          refine wpAnyH_take (i := 1) (oi := ⟨_, _, _, _, _, _⟩) (v := .agg #[.int .i64 pp, .int .i64 cc]) rfl (by kernel_rfl) (by kernel_rfl) (by kernel_rfl) (fun _ _ _ h => h) (Or.inl ⟨by rfl, fun W hSW => ?_⟩) (by assumption) ?_
          · exact held_row 35 (.tmp 10) (by rfl) n10 (by rfl) 35 _ (0, 0) _ hSW.2.1 undRID rfl (szRIDz _ _)
          try simp only [Act.put, List.setIfInBounds_toArray, List.set_cons_zero, List.set_cons_succ]
          refine wpAnyH_take (i := 2) (oi := ⟨_, _, _, _, _, _⟩) (v := .bool false) rfl (by kernel_rfl) (by kernel_rfl) (by kernel_rfl) (fun _ _ _ h => h) (Or.inl ⟨by rfl, fun W hSW => ?_⟩) (by assumption) ?_
          · clear hSW
            go_simp
          try simp only [Act.put, List.setIfInBounds_toArray, List.set_cons_zero, List.set_cons_succ]
          refine wpAnyH_take (i := 3) (oi := ⟨_, _, _, _, _, _⟩) (v := ?_) rfl (by kernel_rfl) (by kernel_rfl) (by kernel_rfl) (fun _ _ _ h => h) (Or.inl ⟨by rfl, ?_⟩) (by assumption) ?_
          rotate_left
          · intro W hSW
            try dsimp only at hSW
            go_simp
            try with_reducible rfl
          rotate_left
          try simp only [Act.put, List.setIfInBounds_toArray, List.set_cons_zero, List.set_cons_succ]
          refine wpAnyH_take (i := 4) (oi := ⟨_, _, _, _, _, _⟩) (v := ?_) rfl (by kernel_rfl) (by kernel_rfl) (by kernel_rfl) (fun _ _ _ h => h) (Or.inl ⟨by rfl, ?_⟩) (by assumption) ?_
          rotate_left
          · intro W hSW
            try dsimp only at hSW
            go_simp
            try with_reducible rfl
          rotate_left
          try simp only [Act.put, List.setIfInBounds_toArray, List.set_cons_zero, List.set_cons_succ]
          refine wpAnyH_take (i := 5) (oi := ⟨_, _, _, _, _, _⟩) (v := ?_) rfl (by kernel_rfl) (by kernel_rfl) (by kernel_rfl) (fun _ _ _ h => h) (Or.inl ⟨by rfl, ?_⟩) (by assumption) ?_
          rotate_left
          · intro W hSW
            try dsimp only at hSW
            go_simp
            try with_reducible rfl
          rotate_left
          try simp only [Act.put, List.setIfInBounds_toArray, List.set_cons_zero, List.set_cons_succ]
          refine wpAnyH_take (i := 6) (oi := ⟨_, _, _, _, _, _⟩) (v := .bool false) rfl (by kernel_rfl) (by kernel_rfl) (by kernel_rfl) (fun _ _ _ h => h) (Or.inl ⟨by rfl, fun W hSW => ?_⟩) (by assumption) ?_
          · clear hSW
            go_simp
          try simp only [Act.put, List.setIfInBounds_toArray, List.set_cons_zero, List.set_cons_succ]
          refine wpAnyH_take (i := 7) (oi := ⟨_, _, _, _, _, _⟩) (v := ?_) rfl (by kernel_rfl) (by kernel_rfl) (by kernel_rfl) (fun _ _ _ h => h) (Or.inl ⟨by rfl, ?_⟩) (by assumption) ?_
          rotate_left
          · intro W hSW
            try dsimp only at hSW
            go_simp
            try with_reducible rfl
          rotate_left
          try simp only [Act.put, List.setIfInBounds_toArray, List.set_cons_zero, List.set_cons_succ]
          refine wpAnyH_take (i := 8) (oi := ⟨_, _, _, _, _, _⟩) (v := ?_) rfl (by kernel_rfl) (by kernel_rfl) (by kernel_rfl) (fun _ _ _ h => h) (Or.inl ⟨by rfl, ?_⟩) (by assumption) ?_
          rotate_left
          · intro W hSW
            try dsimp only at hSW
            go_simp
            try with_reducible rfl
          rotate_left
          try simp only [Act.put, List.setIfInBounds_toArray, List.set_cons_zero, List.set_cons_succ]
          refine wpAnyH_take (i := 9) (oi := ⟨_, _, _, _, _, _⟩) (v := ?_) rfl (by kernel_rfl) (by kernel_rfl) (by kernel_rfl) (fun _ _ _ h => h) (Or.inl ⟨by rfl, ?_⟩) (by assumption) ?_
          rotate_left
          · intro W hSW
            try dsimp only at hSW
            go_simp
            try with_reducible rfl
          rotate_left
          try simp only [Act.put, List.setIfInBounds_toArray, List.set_cons_zero, List.set_cons_succ]
          refine wpAnyH_take (i := 11) (oi := ⟨_, _, _, _, _, _⟩) (v := ?_) rfl (by kernel_rfl) (by kernel_rfl) (by kernel_rfl) (fun _ _ _ h => h) (Or.inl ⟨by rfl, ?_⟩) (by assumption) ?_
          rotate_left
          · intro W hSW
            try dsimp only at hSW
            go_simp
            try with_reducible rfl
          rotate_left
          try simp only [Act.put, List.setIfInBounds_toArray, List.set_cons_zero, List.set_cons_succ]
          refine wpAnyH_take (i := 12) (oi := ⟨_, _, _, _, _, _⟩) (v := ?_) rfl (by kernel_rfl) (by kernel_rfl) (by kernel_rfl) (fun _ _ _ h => h) (Or.inl ⟨by rfl, ?_⟩) (by assumption) ?_
          rotate_left
          · intro W hSW
            try dsimp only at hSW
            go_simp
            try with_reducible rfl
          rotate_left
          try simp only [Act.put, List.setIfInBounds_toArray, List.set_cons_zero, List.set_cons_succ]
          refine wpAnyH_take (i := 13) (oi := ⟨_, _, _, _, _, _⟩) (v := ?_) rfl (by kernel_rfl) (by kernel_rfl) (by kernel_rfl) (fun _ _ _ h => h) (Or.inl ⟨by rfl, ?_⟩) (by assumption) ?_
          rotate_left
          · intro W hSW
            try dsimp only at hSW
            go_simp
            try with_reducible rfl
          rotate_left
          try simp only [Act.put, List.setIfInBounds_toArray, List.set_cons_zero, List.set_cons_succ]
          refine wpAnyH_take (i := 14) (oi := ⟨_, _, _, _, _, _⟩) (v := .slice pk m ck) rfl (by kernel_rfl) (by kernel_rfl) (by kernel_rfl) (fun _ _ _ h => h) (Or.inl ⟨by rfl, fun W hSW => ?_⟩) (by assumption) ?_
          · have hS := hSW.2.2
            clear hSW
            go_simp
          try simp only [Act.put, List.setIfInBounds_toArray, List.set_cons_zero, List.set_cons_succ]
          refine wpAnyH_take (i := 15) (oi := ⟨_, _, _, _, _, _⟩) (v := ?_) rfl (by kernel_rfl) (by kernel_rfl) (by kernel_rfl) (fun _ _ _ h => h) (Or.inl ⟨by rfl, ?_⟩) (by assumption) ?_
          rotate_left
          · intro W hSW
            try dsimp only at hSW
            go_simp
            try with_reducible rfl
          rotate_left
          try simp only [Act.put, List.setIfInBounds_toArray, List.set_cons_zero, List.set_cons_succ]
          refine wpAnyH_ready (rs := [10]) (by kernel_rfl) (by simp) ?_
          refine AllReadyH.cons (o := ⟨_, _, _, _, _, _⟩) rfl (fun K hK => ?_) AllReadyH.nil
          rw [if_pos (by rfl)]
          go_simp
          go_at_call 18
          refine (tlen (HOZ.out.below HD.out).tt).mono ?_
          rintro e w12 ⟨rfl, _, b12⟩
          rw [HMM.out]
          have HD2 := Lib.hid (HD.out.trans (b12.mono HD.out.size))
          clear b12 HD
          go_wp2_with fail
          refine hK.out _ _ (HS.out _ HD2.out) (fun hHeld => ?_)
          clear hK K
          try simp only [Act.put, List.setIfInBounds_toArray, List.set_cons_zero, List.set_cons_succ]
          refine wpAnyH_take (i := 16) (oi := ⟨_, _, _, _, _, _⟩) (v := .bool false) rfl (by kernel_rfl) (by kernel_rfl) (by kernel_rfl) (fun _ _ _ h => h) (Or.inl ⟨by rfl, fun W hSW => ?_⟩) (by assumption) ?_
          · clear hSW
            go_simp
          try simp only [Act.put, List.setIfInBounds_toArray, List.set_cons_zero, List.set_cons_succ]
          refine wpAnyH_take (i := 17) (oi := ⟨_, _, _, _, _, _⟩) (v := ?_) rfl (by kernel_rfl) (by kernel_rfl) (by kernel_rfl) (fun _ _ _ h => h) (Or.inl ⟨by rfl, ?_⟩) (by assumption) ?_
          rotate_left
          · intro W hSW
            try dsimp only at hSW
            go_simp
            try with_reducible rfl
          rotate_left
          try simp only [Act.put, List.setIfInBounds_toArray, List.set_cons_zero, List.set_cons_succ]
          refine wpAnyH_take (i := 18) (oi := ⟨_, _, _, _, _, _⟩) (v := ?_) rfl (by kernel_rfl) (by kernel_rfl) (by kernel_rfl) (fun _ _ _ h => h) (Or.inl ⟨by rfl, ?_⟩) (by assumption) ?_
          rotate_left
          · intro W hSW
            try dsimp only at hSW
            go_simp
            try with_reducible rfl
          rotate_left
          try simp only [Act.put, List.setIfInBounds_toArray, List.set_cons_zero, List.set_cons_succ]
          refine wpAnyH_take (i := 19) (oi := ⟨_, _, _, _, _, _⟩) (v := ?_) rfl (by kernel_rfl) (by kernel_rfl) (by kernel_rfl) (fun _ _ _ h => h) (Or.inl ⟨by rfl, ?_⟩) (by assumption) ?_
          rotate_left
          · intro W hSW
            try dsimp only at hSW
            go_simp
            try with_reducible rfl
          rotate_left
          try simp only [Act.put, List.setIfInBounds_toArray, List.set_cons_zero, List.set_cons_succ]
          refine wpAnyH_take (i := 21) (oi := ⟨_, _, _, _, _, _⟩) (v := ?_) rfl (by kernel_rfl) (by kernel_rfl) (by kernel_rfl) (fun _ _ _ h => h) (Or.inl ⟨by rfl, ?_⟩) (by assumption) ?_
          rotate_left
          · intro W hSW
            try dsimp only at hSW
            go_simp
            try with_reducible rfl
          rotate_left
          try simp only [Act.put, List.setIfInBounds_toArray, List.set_cons_zero, List.set_cons_succ]
          refine wpAnyH_take (i := 22) (oi := ⟨_, _, _, _, _, _⟩) (v := ?_) rfl (by kernel_rfl) (by kernel_rfl) (by kernel_rfl) (fun _ _ _ h => h) (Or.inl ⟨by rfl, ?_⟩) (by assumption) ?_
          rotate_left
          · intro W hSW
            try dsimp only at hSW
            go_simp
            try with_reducible rfl
          rotate_left
          try simp only [Act.put, List.setIfInBounds_toArray, List.set_cons_zero, List.set_cons_succ]
          refine wpAnyH_take (i := 23) (oi := ⟨_, _, _, _, _, _⟩) (v := ?_) rfl (by kernel_rfl) (by kernel_rfl) (by kernel_rfl) (fun _ _ _ h => h) (Or.inl ⟨by rfl, ?_⟩) (by assumption) ?_
          rotate_left
          · intro W hSW
            try dsimp only at hSW
            go_simp
            try with_reducible rfl
          rotate_left
          try simp only [Act.put, List.setIfInBounds_toArray, List.set_cons_zero, List.set_cons_succ]
          refine wpAnyH_take (i := 24) (oi := ⟨_, _, _, _, _, _⟩) (v := .slice pk m ck) rfl (by kernel_rfl) (by kernel_rfl) (by kernel_rfl) (fun _ _ _ h => h) (Or.inl ⟨by rfl, fun W hSW => ?_⟩) (by assumption) ?_
          · have hS := hSW.2.2
            clear hSW
            go_simp
          try simp only [Act.put, List.setIfInBounds_toArray, List.set_cons_zero, List.set_cons_succ]
          refine wpAnyH_take (i := 25) (oi := ⟨_, _, _, _, _, _⟩) (v := ?_) rfl (by kernel_rfl) (by kernel_rfl) (by kernel_rfl) (fun _ _ _ h => h) (Or.inl ⟨by rfl, ?_⟩) (by assumption) ?_
          rotate_left
          · intro W hSW
            try dsimp only at hSW
            go_simp
            try with_reducible rfl
          rotate_left
          try simp only [Act.put, List.setIfInBounds_toArray, List.set_cons_zero, List.set_cons_succ]
          refine wpAnyH_ready (rs := [20]) (by kernel_rfl) (by simp) ?_
          refine AllReadyH.cons (o := ⟨_, _, _, _, _, _⟩) rfl (fun K hK => ?_) AllReadyH.nil
          rw [if_pos (by rfl)]
          go_simp
          go_at_call 20
          refine (tshape (HOZ.out.below HD2.out).tt HY1.out).mono ?_
          rintro e w13 ⟨s, h', g', rfl, f13, _, b13, a13⟩
          have HSN := Lib.hid (sound_any w13 a13 (f13.snd HY1.out) HY1.out)
          rw [HMM.out] at HSN
          have HD3 := Lib.hid (HD2.out.trans (b13.mono HD2.out.size))
          clear f13 b13 a13 HD2
          go_wp2_with fail
          refine hK.out _ _ (HS.out _ HD3.out) (fun hHeld => ?_)
          clear hK K
          try simp only [Act.put, List.setIfInBounds_toArray, List.set_cons_zero, List.set_cons_succ]
          refine wpAnyH_ready (rs := [26]) (by kernel_rfl) (by simp) ?_
          refine AllReadyH.cons (o := ⟨_, _, _, _, _, _⟩) rfl (fun K hK => ?_) AllReadyH.nil
          rw [if_pos (by rfl)]
          go_simp
          go_at_call 19
          refine (HSN.out).mono ?_
          rintro e w14 ⟨rfl, hw14⟩
          obtain rfl := hw14.symm
          clear hw14
          go_wp2_with fail
          refine hK.out _ _ hHeld (fun hHeld => ?_)
          clear hK K
          try simp only [Act.put, List.setIfInBounds_toArray, List.set_cons_zero, List.set_cons_succ]
          refine wpAnyH_take (i := 27) (oi := ⟨_, _, _, _, _, _⟩) (v := ?_) rfl (by kernel_rfl) (by kernel_rfl) (by kernel_rfl) (fun _ _ _ h => h) (Or.inl ⟨by rfl, ?_⟩) (by assumption) ?_
          rotate_left
          · intro W hSW
            try dsimp only at hSW
            go_simp
            try with_reducible rfl
          rotate_left
          try simp only [Act.put, List.setIfInBounds_toArray, List.set_cons_zero, List.set_cons_succ]
          refine wpAnyH_take (i := 28) (oi := ⟨_, _, _, _, _, _⟩) (v := ?_) rfl (by kernel_rfl) (by kernel_rfl) (by kernel_rfl) (fun _ _ _ h => h) (Or.inl ⟨by rfl, ?_⟩) (by assumption) ?_
          rotate_left
          · intro W hSW
            try dsimp only at hSW
            go_simp
            try with_reducible rfl
          rotate_left
          try simp only [Act.put, List.setIfInBounds_toArray, List.set_cons_zero, List.set_cons_succ]
          refine wpAnyH_done (by kernel_rfl) ?_ _
          have HFZ : Hid (∃ xs, xs.length ≤ j + 1 ∧ Bo M w13 p xs r xs ∧ Below w.heap.size w w13) := ⟨ys, by rw [HMM.out]; exact hyl2, HOZ.out.below HD3.out, HBZ.out.trans (HD3.out.mono HBZ.out.size)⟩
          clear HS HOZ HBZ HD3 HSN hHeld
          go_wp2_with fail
          go_roundw
          case rel => exact ⟨j + 1, by omega, by go_num, HFZ.out⟩
          case measure => simp [intN]; omega
      · obtain ⟨xs, hx, bo, br⟩ := HR.out
        have HO := Lib.hid bo
        have HB := Lib.hid br
        have hx200 : xs.length ≤ 200 := by omega
        clear HR bo br hx
        go_wp2_with fail
        refine (tfrom HO.out.tt (by omega) ⟨#[]⟩ (-1)).mono ?_
        rintro e w6 ⟨sk, sv, rfl, _, b6, o1, o2⟩
        have HO6 := Lib.hid (HO.out.below b6)
        have HB6 := Lib.hid (HB.out.trans (b6.mono HB.out.size))
        have H12 := Lib.hid (And.intro o1 o2)
        clear HO HB o1 o2 b6
        go_wp2_with fail
        refine (rfrom_any w6 HO6.out.rtr (by omega) ⟨#[]⟩ (-1)).mono ?_
        rintro e w7 ⟨sk', sv', rfl, b7, o3, o4⟩
        have HB7 := Lib.hid (HB6.out.trans (b7.mono HB6.out.size))
        have HAL := Lib.hid (alike_any w7 (own_up H12.out.1 b7) (own_up H12.out.2 b7) (own_base o3 (Nat.zero_le _)) (own_base o4 (Nat.zero_le _)) (Nat.le_trans (cutM_len (-1) _) (Nat.le_trans (frm_le ⟨#[]⟩ xs) (by omega))))
        clear H12 o3 o4 b7 HO6 HB6
        go_wp2_with fail
        refine HAL.out.mono ?_
        rintro e w8 ⟨rfl, b8⟩
        have HB8 := Lib.hid (HB7.out.trans (b8.mono HB7.out.size))
        clear b8 HB7
        go_wp2_with fail
        go_ret
        exact ⟨rfl, HB8.out⟩
  · go_wp2_with fail
    go_ret
    exact ⟨rfl, b1⟩
end Go.Proofs.Ytejbbojephiifaa
