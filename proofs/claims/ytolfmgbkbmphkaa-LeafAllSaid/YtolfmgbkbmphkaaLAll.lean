/- LeafAll: for all pages and slices of bytes the law answers true; no condition. -/
import Derived.Test.YtolfmgbkbmphkaaLeafRef
import Derived.Test.YtolfmgbkbmphkaaLeafTakeR
import Derived.Test.YtolfmgbkbmphkaaLeafSp
import Derived.Test.YtolfmgbkbmphkaaLAllP
import Derived.Deep.RegionHeld3
namespace Go.Proofs.Ytolfmgbkbmphkaa.leafAll
open Go.ChangeShapes Go.WideShapes Go.ChangeAt Go.RowKit

def Fin (w : World) (e : Ending) (w' : World) : Prop := e = .returned (.bool true) ∧ Below w.heap.size w w'
theorem sameB_refl (l : List Int) : sameB l l = true := decide_eq_true rfl
theorem pgSame_refl (c : Nat → List Int) (n : Int) : pgSame c c n n = true := by rw [pgSame_all (fun j _ => sameB_refl _)]; exact decide_eq_true rfl

def agP (P : Nat → Option Addr) (N K : Nat → Nat) (n : Int) : Value := .agg #[.slice (P 0) (N 0) (K 0), .slice (P 1) (N 1) (K 1), .slice (P 2) (N 2) (K 2), .slice (P 3) (N 3) (K 3), .int .i64 n]

set_option maxRecDepth 100000 in
set_option maxHeartbeats 4000000 in
theorem walk (w : World) (P P' : Nat → Option Addr) (N K N' K' : Nat → Nat) (n n' : Int) (c c' : Nat → List Int) (hc : Cs w P N K c) (hc' : Cs w P' N' K' c') (va vb : Value) (la lb : List Int) (ha : SlK .u8 w va la) (hb : SlK .u8 w vb lb) :
    Calls Try.prog 3 #[pgV P N K n, pgV P' N' K' n', va, vb] w (Fin w) := by
  unfold pgV
  have hbx := bx_new w (pgO P N K n) (pgO P' N' K' n')
  have HH := Lib.hid (hc.below hbx.1 (Nat.le_refl _))
  have HH' := Lib.hid (hc'.below hbx.1 (Nat.le_refl _))
  have HA := Lib.hid (ha.below hbx.1 (Nat.le_refl _))
  have HB := Lib.hid (hb.below hbx.1 (Nat.le_refl _))
  have HBx := Lib.hid hbx
  obtain ⟨pa, ca, rfl, -⟩ := ha
  obtain ⟨pb, cb, rfl, -⟩ := hb
  clear hc hc' hbx
  go_enter Try.func3, Try.ntmps3
  go_upto_region 1 with (fail)
  show Code.wp _ _ _ _ ((w.alloc (pgO P N K n)).alloc (pgO P' N' K' n'))
  generalize (w.alloc (pgO P N K n)).alloc (pgO P' N' K' n') = w1 at *
  go_wp2_with fail
  refine (begun_true w1).mono ?_
  rintro e w2 ⟨rfl, hb2⟩
  have HB2 := Lib.hid (HBx.out.on hb2)
  have HL := Lib.hid (light_any w2 P N K n c (HH.out.below hb2 (Nat.le_refl _)))
  have HW2 := Lib.hid hb2
  obtain ⟨d0, d1, d2, d3, d4⟩ := pg5 HB2.out.2.1
  clear hb2 HBx
  go_upto_region 3 with (fail)
  go_cut [38] (fun u wx => Bx w wx (pgO P N K n) (pgO P' N' K' n') ∧ Below w1.heap.size w1 wx ∧ ((u = .bool true) ∨ (u = .bool false ∧ la.length ≤ 70 ∧ lb.length ≤ 70)))
  case first =>
    go_wp2_with fail
    refine HL.out.mono ?_
    rintro e w3 ⟨rfl, hb3⟩
    have HB3 := Lib.hid (HB2.out.on hb3)
    have HW3 := Lib.hid (HW2.out.trans (hb3.mono HW2.out.size))
    have HL2 := Lib.hid (light_any w3 P' N' K' n' c' (HH'.out.below HW3.out (Nat.le_refl _)))
    clear HL hb3 d0 d1 d2 d3 d4
    cases hq : lightB c
    · go_wp2
      go_meet
      exact ⟨HB3.out, HW3.out, .inl rfl⟩
    · obtain ⟨e0, e1, e2, e3, e4⟩ := pg5 HB3.out.2.2
      go_wp2_with fail
      refine HL2.out.mono ?_
      rintro e w4 ⟨rfl, hb4⟩
      have HB4 := Lib.hid (HB3.out.on hb4)
      have HW4 := Lib.hid (HW3.out.trans (hb4.mono HW3.out.size))
      clear hb4 e0 e1 e2 e3 e4 HL2
      cases hq2 : lightB c'
      · go_wp2
        go_meet
        exact ⟨HB4.out, HW4.out, .inl rfl⟩
      · by_cases h1 : 70 < la.length
        · go_wp2
          go_meet
          exact ⟨HB4.out, HW4.out, .inl (by simp; try omega)⟩
        · by_cases h2 : 70 < lb.length
          · go_wp2
            go_meet
            exact ⟨HB4.out, HW4.out, .inl (by simp; try omega)⟩
          · have HF : Hid (la.length ≤ 70 ∧ lb.length ≤ 70) := ⟨by omega, by omega⟩
            go_wp2
            go_meet
            exact ⟨HB4.out, HW4.out, .inr ⟨by simp; omega, HF.out⟩⟩
  case rest =>
    obtain ⟨hB, hW, hu⟩ := hcut
    have HB5 := Lib.hid hB
    have HW5 := Lib.hid hW
    clear hB hW HB2 HW2 HL d0 d1 d2 d3 d4
    rcases hu with rfl | ⟨rfl, -, -⟩
    · go_wp2
      go_ret
      exact ⟨rfl, HB5.out.1⟩
    generalize wc = w5 at *
    have HPut := Lib.hid (lput_any w5 P N K n c (HH.out.below HW5.out (Nat.le_refl _)))
    obtain ⟨d0, d1, d2, d3, d4⟩ := pg5 HB5.out.2.1
    go_wp2_with fail
    refine HPut.out.mono ?_
    rintro e w6 ⟨v1, v2, rfl, k1, k2, hb6⟩
    have HB6 := Lib.hid (HB5.out.on hb6)
    have HW6 := Lib.hid (HW5.out.trans (hb6.mono HW5.out.size))
    have K1 := Lib.hid k1
    have K2 := Lib.hid k2
    obtain ⟨q1, r1, rfl, -⟩ := k1
    obtain ⟨q2, r2, rfl, -⟩ := k2
    have HLf := Lib.hid (rleaf_any w6 P N K n c (HH.out.below HW6.out (Nat.le_refl _)))
    clear hb6 HPut HB5 HW5 d0 d1 d2 d3 d4
    obtain ⟨d0, d1, d2, d3, d4⟩ := pg5 HB6.out.2.1
    go_wp2_with fail
    refine HLf.out.mono ?_
    rintro e w7 ⟨v3, v4, rfl, k3, k4, hb7⟩
    have HB7 := Lib.hid (HB6.out.on hb7)
    have HW7 := Lib.hid (HW6.out.trans (hb7.mono HW6.out.size))
    have K1' := Lib.hid (K1.out.below hb7 (Nat.le_refl _))
    have K2' := Lib.hid (K2.out.below hb7 (Nat.le_refl _))
    have K3 := Lib.hid k3
    have K4 := Lib.hid k4
    obtain ⟨q3, r3, rfl, -⟩ := k3
    obtain ⟨q4, r4, rfl, -⟩ := k4
    generalize lfE c n = er0 at *
    generalize lfA c n = LA at *
    generalize lfB c n = LB at *
    generalize LA.length = na at *
    generalize LB.length = nb at *
    have HTk := Lib.hid (ltake_any w7 _ _ _ _ (HA.out.below HW7.out (Nat.le_refl _)) (HB.out.below HW7.out (Nat.le_refl _)))
    clear hb7 HLf HB6 HW6 K1 K2 d0 d1 d2 d3 d4
    go_wp2_with fail
    refine HTk.out.mono ?_
    rintro e w8 ⟨er, d, m, P3, N3, K3', htk, rfl, hcs, hb8⟩
    have hb9 : Below w7.heap.size w7 (w8.alloc (pgO P3 N3 K3' m)) := hb8.alloc hb8.size _
    have HB9 := Lib.hid (HB7.out.on hb9)
    have HW9 := Lib.hid (HW7.out.trans (hb9.mono HW7.out.size))
    have HQ9 := Lib.hid (heap_alloc_new w8 (pgO P3 N3 K3' m))
    have HZ9 : Hid (w8.heap.size < (w8.alloc (pgO P3 N3 K3' m)).heap.size) := by show _ < _; simp
    have HC9 := Lib.hid (hcs.below (B := w8.heap.size) ((Below.refl _ _).alloc (Nat.le_refl _) (pgO P3 N3 K3' m)) (Nat.le_refl _))
    have K19 := Lib.hid (K1'.out.below hb9 (Nat.le_refl _))
    have K29 := Lib.hid (K2'.out.below hb9 (Nat.le_refl _))
    have K39 := Lib.hid (K3.out.below hb9 (Nat.le_refl _))
    have K49 := Lib.hid (K4.out.below hb9 (Nat.le_refl _))
    have HTd := Lib.hid htk
    clear htk hcs hb8 hb9 HTk HB7 HW7 K1' K2' K3 K4
    unfold pgV
    go_upto_region 8 with (fail)
    show Code.wp _ _ _ _ (w8.alloc (pgO P3 N3 K3' m))
    generalize w8.alloc (pgO P3 N3 K3' m) = w9 at *
    generalize w8.heap.size = g15 at *
    have HTk := Lib.hid (rtakel_any w9 _ _ _ _ (HA.out.below HW9.out (Nat.le_refl _)) (HB.out.below HW9.out (Nat.le_refl _)))
    go_wp2_with fail
    refine HTk.out.mono ?_
    rintro e wa ⟨er', d', m', P4, N4, K4', htk, rfl, hcs, hba⟩
    obtain ⟨rfl, rfl, rfl⟩ := HTd.out.det htk
    have hbb : Below w9.heap.size w9 (wa.alloc (pgO P4 N4 K4' m)) := hba.alloc hba.size _
    have HBb := Lib.hid (HB9.out.on hbb)
    have HWb := Lib.hid (HW9.out.trans (hbb.mono HW9.out.size))
    have HQb := Lib.hid ((hbb.block _ HZ9.out).trans HQ9.out)
    have HRb := Lib.hid (heap_alloc_new wa (pgO P4 N4 K4' m))
    have HCb := Lib.hid (HC9.out.below hbb (Nat.le_refl _))
    have HDb := Lib.hid (hcs.below (B := wa.heap.size) ((Below.refl _ _).alloc (Nat.le_refl _) (pgO P4 N4 K4' m)) (Nat.le_refl _))
    have K1b := Lib.hid (K19.out.below hbb (Nat.le_refl _))
    have K2b := Lib.hid (K29.out.below hbb (Nat.le_refl _))
    have K3b := Lib.hid (K39.out.below hbb (Nat.le_refl _))
    have K4b := Lib.hid (K49.out.below hbb (Nat.le_refl _))
    clear htk hcs hba hbb HTk HTd HB9 HW9 HQ9 HZ9 HC9 K19 K29 K39 K49
    unfold pgV
    go_upto_region 9 with (fail)
    show Code.wp _ _ _ _ (wa.alloc (pgO P4 N4 K4' m))
    generalize wa.alloc (pgO P4 N4 K4' m) = wb at *
    generalize wa.heap.size = g17 at *
    have HP := Lib.hid (HH.out.below HWb.out (Nat.le_refl _))
    have HP' := Lib.hid (HH'.out.below HWb.out (Nat.le_refl _))
    obtain ⟨s, hs⟩ : ∃ s, pgSame c c' n n' = s := ⟨_, rfl⟩
    have HS1 : Hid (∀ W, Below wb.heap.size wb W → Calls Try.prog 16 #[agP P3 N3 K3' m, agP P4 N4 K4' m] W fun e w' => e = .returned (.bool true) ∧ Below wb.heap.size wb w') := fun W hW =>
      (samePage_any W P3 N3 K3' m d P4 N4 K4' m d (HCb.out.below hW (Nat.le_refl _)) (HDb.out.below hW (Nat.le_refl _))).mono fun e w' ⟨h1, h2⟩ => ⟨by rw [h1, pgSame_refl], hW.trans (h2.mono hW.size)⟩
    have HS2 : Hid (∀ W, Below wb.heap.size wb W → Calls Try.prog 17 #[agP P N K n, agP P' N' K' n'] W fun e w' => e = .returned (.bool s) ∧ Below wb.heap.size wb w') := fun W hW =>
      (same_any W P N K n c P' N' K' n' c' (HP.out.below hW (Nat.le_refl _)) (HP'.out.below hW (Nat.le_refl _))).mono fun e w' ⟨h1, h2⟩ => ⟨by rw [h1, hs], hW.trans (h2.mono hW.size)⟩
    have HS3 : Hid (∀ W, Below wb.heap.size wb W → Calls Try.prog 16 #[agP P N K n, agP P' N' K' n'] W fun e w' => e = .returned (.bool s) ∧ Below wb.heap.size wb w') := fun W hW =>
      (samePage_any W P N K n c P' N' K' n' c' (HP.out.below hW (Nat.le_refl _)) (HP'.out.below hW (Nat.le_refl _))).mono fun e w' ⟨h1, h2⟩ => ⟨by rw [h1, hs], hW.trans (h2.mono hW.size)⟩
    have HS4 : Hid (∀ W, Below wb.heap.size wb W → Calls Try.prog 17 #[agP P N K n, agP P N K n] W fun e w' => e = .returned (.bool true) ∧ Below wb.heap.size wb w') := fun W hW =>
      (same_any W P N K n c P N K n c (HP.out.below hW (Nat.le_refl _)) (HP.out.below hW (Nat.le_refl _))).mono fun e w' ⟨h1, h2⟩ => ⟨by rw [h1, pgSame_refl], hW.trans (h2.mono hW.size)⟩
    have HS : Hid (∀ W, Below wb.heap.size wb W → Below wb.heap.size wb W ∧ ((convert 22 9 (.slice q1 na r1)).run Try.prog W = .ok (.string (bstr LA)) W ∧ (convert 22 9 (.slice q2 nb r2)).run Try.prog W = .ok (.string (bstr LB)) W ∧ (convert 22 9 (.slice q3 na r3)).run Try.prog W = .ok (.string (bstr LA)) W ∧ (convert 22 9 (.slice q4 nb r4)).run Try.prog W = .ok (.string (bstr LB)) W) ∧ (W.cell? ⟨w.heap.size, 0, none⟩ = some (.slice (P 0) (N 0) (K 0)) ∧ W.cell? ⟨w.heap.size, 1, none⟩ = some (.slice (P 1) (N 1) (K 1)) ∧ W.cell? ⟨w.heap.size, 2, none⟩ = some (.slice (P 2) (N 2) (K 2)) ∧ W.cell? ⟨w.heap.size, 3, none⟩ = some (.slice (P 3) (N 3) (K 3)) ∧ W.cell? ⟨w.heap.size, 4, none⟩ = some (.int .i64 n)) ∧ (W.cell? ⟨w.heap.size + 1, 0, none⟩ = some (.slice (P' 0) (N' 0) (K' 0)) ∧ W.cell? ⟨w.heap.size + 1, 1, none⟩ = some (.slice (P' 1) (N' 1) (K' 1)) ∧ W.cell? ⟨w.heap.size + 1, 2, none⟩ = some (.slice (P' 2) (N' 2) (K' 2)) ∧ W.cell? ⟨w.heap.size + 1, 3, none⟩ = some (.slice (P' 3) (N' 3) (K' 3)) ∧ W.cell? ⟨w.heap.size + 1, 4, none⟩ = some (.int .i64 n')) ∧ (W.cell? ⟨g15, 0, none⟩ = some (.slice (P3 0) (N3 0) (K3' 0)) ∧ W.cell? ⟨g15, 1, none⟩ = some (.slice (P3 1) (N3 1) (K3' 1)) ∧ W.cell? ⟨g15, 2, none⟩ = some (.slice (P3 2) (N3 2) (K3' 2)) ∧ W.cell? ⟨g15, 3, none⟩ = some (.slice (P3 3) (N3 3) (K3' 3)) ∧ W.cell? ⟨g15, 4, none⟩ = some (.int .i64 m)) ∧ (W.cell? ⟨g17, 0, none⟩ = some (.slice (P4 0) (N4 0) (K4' 0)) ∧ W.cell? ⟨g17, 1, none⟩ = some (.slice (P4 1) (N4 1) (K4' 1)) ∧ W.cell? ⟨g17, 2, none⟩ = some (.slice (P4 2) (N4 2) (K4' 2)) ∧ W.cell? ⟨g17, 3, none⟩ = some (.slice (P4 3) (N4 3) (K4' 3)) ∧ W.cell? ⟨g17, 4, none⟩ = some (.int .i64 m))) := fun W hW => by
      have hB := HBb.out.on hW
      exact ⟨hW, ⟨conv_slK (K1b.out.below hW (Nat.le_refl _)), conv_slK (K2b.out.below hW (Nat.le_refl _)), conv_slK (K3b.out.below hW (Nat.le_refl _)), conv_slK (K4b.out.below hW (Nat.le_refl _))⟩, pg5 hB.2.1, pg5 hB.2.2, pg5 ((hW.block _ (Array.getElem?_eq_some_iff.1 HQb.out).1).trans HQb.out), pg5 ((hW.block _ (Array.getElem?_eq_some_iff.1 HRb.out).1).trans HRb.out)⟩
    have D0 := (Below.refl wb.heap.size wb).drew
    clear HP HP' HQb HRb HCb HDb K1b K2b K3b K4b hs HA HB HH HH' HWb
    generalize bstr LA = X at *
    generalize bstr LB = Y at *
    refine wp_region_held_drew (S := fun W : World => Below wb.heap.size wb W ∧ ((convert 22 9 (.slice q1 na r1)).run Try.prog W = .ok (.string X) W ∧ (convert 22 9 (.slice q2 nb r2)).run Try.prog W = .ok (.string Y) W ∧ (convert 22 9 (.slice q3 na r3)).run Try.prog W = .ok (.string X) W ∧ (convert 22 9 (.slice q4 nb r4)).run Try.prog W = .ok (.string Y) W) ∧ (W.cell? ⟨w.heap.size, 0, none⟩ = some (.slice (P 0) (N 0) (K 0)) ∧ W.cell? ⟨w.heap.size, 1, none⟩ = some (.slice (P 1) (N 1) (K 1)) ∧ W.cell? ⟨w.heap.size, 2, none⟩ = some (.slice (P 2) (N 2) (K 2)) ∧ W.cell? ⟨w.heap.size, 3, none⟩ = some (.slice (P 3) (N 3) (K 3)) ∧ W.cell? ⟨w.heap.size, 4, none⟩ = some (.int .i64 n)) ∧ (W.cell? ⟨w.heap.size + 1, 0, none⟩ = some (.slice (P' 0) (N' 0) (K' 0)) ∧ W.cell? ⟨w.heap.size + 1, 1, none⟩ = some (.slice (P' 1) (N' 1) (K' 1)) ∧ W.cell? ⟨w.heap.size + 1, 2, none⟩ = some (.slice (P' 2) (N' 2) (K' 2)) ∧ W.cell? ⟨w.heap.size + 1, 3, none⟩ = some (.slice (P' 3) (N' 3) (K' 3)) ∧ W.cell? ⟨w.heap.size + 1, 4, none⟩ = some (.int .i64 n')) ∧ (W.cell? ⟨g15, 0, none⟩ = some (.slice (P3 0) (N3 0) (K3' 0)) ∧ W.cell? ⟨g15, 1, none⟩ = some (.slice (P3 1) (N3 1) (K3' 1)) ∧ W.cell? ⟨g15, 2, none⟩ = some (.slice (P3 2) (N3 2) (K3' 2)) ∧ W.cell? ⟨g15, 3, none⟩ = some (.slice (P3 3) (N3 3) (K3' 3)) ∧ W.cell? ⟨g15, 4, none⟩ = some (.int .i64 m)) ∧ (W.cell? ⟨g17, 0, none⟩ = some (.slice (P4 0) (N4 0) (K4' 0)) ∧ W.cell? ⟨g17, 1, none⟩ = some (.slice (P4 1) (N4 1) (K4' 1)) ∧ W.cell? ⟨g17, 2, none⟩ = some (.slice (P4 2) (N4 2) (K4' 2)) ∧ W.cell? ⟨g17, 3, none⟩ = some (.slice (P4 3) (N4 3) (K4' 3)) ∧ W.cell? ⟨g17, 4, none⟩ = some (.int .i64 m))) (by kernel_rfl) (HS.out _ D0) (fun hHeld => ?_)
    refine wpAnyH_take (i := 0) (oi := ⟨_, _, _, _, _, _⟩) (v := ?_) rfl (by kernel_rfl) (by kernel_rfl) (by kernel_rfl) (fun _ _ _ h => h) (Or.inl ⟨by rfl, ?_⟩) (by assumption) ?_
    rotate_left
    · intro W hSW
      try dsimp only at hSW
      go_simp
      try with_reducible rfl
    rotate_left
    try simp only [Act.put, List.setIfInBounds_toArray, List.set_cons_zero, List.set_cons_succ]
    refine wpAnyH_take (i := 1) (oi := ⟨_, _, _, _, _, _⟩) (v := ?_) rfl (by kernel_rfl) (by kernel_rfl) (by kernel_rfl) (fun _ _ _ h => h) (Or.inl ⟨by rfl, ?_⟩) (by assumption) ?_
    rotate_left
    · intro W hSW
      try dsimp only at hSW
      go_simp
      try with_reducible rfl
    rotate_left
    try simp only [Act.put, List.setIfInBounds_toArray, List.set_cons_zero, List.set_cons_succ]
    refine wpAnyH_take (i := 2) (oi := ⟨_, _, _, _, _, _⟩) (v := ?_) rfl (by kernel_rfl) (by kernel_rfl) (by kernel_rfl) (fun _ _ _ h => h) (Or.inl ⟨by rfl, ?_⟩) (by assumption) ?_
    rotate_left
    · intro W hSW
      try dsimp only at hSW
      go_simp
      try with_reducible rfl
    rotate_left
    try simp only [Act.put, List.setIfInBounds_toArray, List.set_cons_zero, List.set_cons_succ]
    refine wpAnyH_take (i := 3) (oi := ⟨_, _, _, _, _, _⟩) (v := ?_) rfl (by kernel_rfl) (by kernel_rfl) (by kernel_rfl) (fun _ _ _ h => h) (Or.inl ⟨by rfl, ?_⟩) (by assumption) ?_
    rotate_left
    · intro W hSW
      try dsimp only at hSW
      go_simp
      try with_reducible rfl
    rotate_left
    try simp only [Act.put, List.setIfInBounds_toArray, List.set_cons_zero, List.set_cons_succ]
    refine wpAnyH_take (i := 4) (oi := ⟨_, _, _, _, _, _⟩) (v := ?_) rfl (by kernel_rfl) (by kernel_rfl) (by kernel_rfl) (fun _ _ _ h => h) (Or.inl ⟨by rfl, ?_⟩) (by assumption) ?_
    rotate_left
    · intro W hSW
      try dsimp only at hSW
      go_simp
      try with_reducible rfl
    rotate_left
    try simp only [Act.put, List.setIfInBounds_toArray, List.set_cons_zero, List.set_cons_succ]
    refine wpAnyH_take (i := 5) (oi := ⟨_, _, _, _, _, _⟩) (v := ?_) rfl (by kernel_rfl) (by kernel_rfl) (by kernel_rfl) (fun _ _ _ h => h) (Or.inl ⟨by rfl, ?_⟩) (by assumption) ?_
    rotate_left
    · intro W hSW
      try dsimp only at hSW
      go_simp
      try with_reducible rfl
    rotate_left
    try simp only [Act.put, List.setIfInBounds_toArray, List.set_cons_zero, List.set_cons_succ]
    refine wpAnyH_take (i := 6) (oi := ⟨_, _, _, _, _, _⟩) (v := ?_) rfl (by kernel_rfl) (by kernel_rfl) (by kernel_rfl) (fun _ _ _ h => h) (Or.inl ⟨by rfl, ?_⟩) (by assumption) ?_
    rotate_left
    · intro W hSW
      try dsimp only at hSW
      go_simp
      try with_reducible rfl
    rotate_left
    try simp only [Act.put, List.setIfInBounds_toArray, List.set_cons_zero, List.set_cons_succ]
    refine wpAnyH_take (i := 7) (oi := ⟨_, _, _, _, _, _⟩) (v := ?_) rfl (by kernel_rfl) (by kernel_rfl) (by kernel_rfl) (fun _ _ _ h => h) (Or.inl ⟨by rfl, ?_⟩) (by assumption) ?_
    rotate_left
    · intro W hSW
      try dsimp only at hSW
      go_simp
      try with_reducible rfl
    rotate_left
    try simp only [Act.put, List.setIfInBounds_toArray, List.set_cons_zero, List.set_cons_succ]
    refine wpAnyH_take (i := 8) (oi := ⟨_, _, _, _, _, _⟩) (v := ?_) rfl (by kernel_rfl) (by kernel_rfl) (by kernel_rfl) (fun _ _ _ h => h) (Or.inl ⟨by rfl, ?_⟩) (by assumption) ?_
    rotate_left
    · intro W hSW
      try dsimp only at hSW
      go_simp
      try with_reducible rfl
    rotate_left
    try simp only [Act.put, List.setIfInBounds_toArray, List.set_cons_zero, List.set_cons_succ]
    refine wpAnyH_take (i := 9) (oi := ⟨_, _, _, _, _, _⟩) (v := ?_) rfl (by kernel_rfl) (by kernel_rfl) (by kernel_rfl) (fun _ _ _ h => h) (Or.inl ⟨by rfl, ?_⟩) (by assumption) ?_
    rotate_left
    · intro W hSW
      try dsimp only at hSW
      go_simp
      try with_reducible rfl
    rotate_left
    try simp only [Act.put, List.setIfInBounds_toArray, List.set_cons_zero, List.set_cons_succ]
    refine wpAnyH_take (i := 10) (oi := ⟨_, _, _, _, _, _⟩) (v := ?_) rfl (by kernel_rfl) (by kernel_rfl) (by kernel_rfl) (fun _ _ _ h => h) (Or.inl ⟨by rfl, ?_⟩) (by assumption) ?_
    rotate_left
    · intro W hSW
      try dsimp only at hSW
      go_simp
      try with_reducible rfl
    rotate_left
    try simp only [Act.put, List.setIfInBounds_toArray, List.set_cons_zero, List.set_cons_succ]
    refine wpAnyH_take (i := 11) (oi := ⟨_, _, _, _, _, _⟩) (v := ?_) rfl (by kernel_rfl) (by kernel_rfl) (by kernel_rfl) (fun _ _ _ h => h) (Or.inl ⟨by rfl, ?_⟩) (by assumption) ?_
    rotate_left
    · intro W hSW
      try dsimp only at hSW
      go_simp
      try with_reducible rfl
    rotate_left
    try simp only [Act.put, List.setIfInBounds_toArray, List.set_cons_zero, List.set_cons_succ]
    refine wpAnyH_take (i := 12) (oi := ⟨_, _, _, _, _, _⟩) (v := ?_) rfl (by kernel_rfl) (by kernel_rfl) (by kernel_rfl) (fun _ _ _ h => h) (Or.inl ⟨by rfl, ?_⟩) (by assumption) ?_
    rotate_left
    · intro W hSW
      try dsimp only at hSW
      go_simp
      try with_reducible rfl
    rotate_left
    try simp only [Act.put, List.setIfInBounds_toArray, List.set_cons_zero, List.set_cons_succ]
    refine wpAnyH_take (i := 13) (oi := ⟨_, _, _, _, _, _⟩) (v := ?_) rfl (by kernel_rfl) (by kernel_rfl) (by kernel_rfl) (fun _ _ _ h => h) (Or.inl ⟨by rfl, ?_⟩) (by assumption) ?_
    rotate_left
    · intro W hSW
      try dsimp only at hSW
      go_simp
      try with_reducible rfl
    rotate_left
    try simp only [Act.put, List.setIfInBounds_toArray, List.set_cons_zero, List.set_cons_succ]
    refine wpAnyH_take (i := 14) (oi := ⟨_, _, _, _, _, _⟩) (v := ?_) rfl (by kernel_rfl) (by kernel_rfl) (by kernel_rfl) (fun _ _ _ h => h) (Or.inl ⟨by rfl, ?_⟩) (by assumption) ?_
    rotate_left
    · intro W hSW
      try dsimp only at hSW
      go_simp
      try with_reducible rfl
    rotate_left
    try simp only [Act.put, List.setIfInBounds_toArray, List.set_cons_zero, List.set_cons_succ]
    refine wpAnyH_take (i := 15) (oi := ⟨_, _, _, _, _, _⟩) (v := ?_) rfl (by kernel_rfl) (by kernel_rfl) (by kernel_rfl) (fun _ _ _ h => h) (Or.inl ⟨by rfl, ?_⟩) (by assumption) ?_
    rotate_left
    · intro W hSW
      try dsimp only at hSW
      go_simp
      try with_reducible rfl
    rotate_left
    try simp only [Act.put, List.setIfInBounds_toArray, List.set_cons_zero, List.set_cons_succ]
    refine wpAnyH_take (i := 16) (oi := ⟨_, _, _, _, _, _⟩) (v := ?_) rfl (by kernel_rfl) (by kernel_rfl) (by kernel_rfl) (fun _ _ _ h => h) (Or.inl ⟨by rfl, ?_⟩) (by assumption) ?_
    rotate_left
    · intro W hSW
      try dsimp only at hSW
      go_simp
      try with_reducible rfl
    rotate_left
    try simp only [Act.put, List.setIfInBounds_toArray, List.set_cons_zero, List.set_cons_succ]
    refine wpAnyH_take (i := 17) (oi := ⟨_, _, _, _, _, _⟩) (v := ?_) rfl (by kernel_rfl) (by kernel_rfl) (by kernel_rfl) (fun _ _ _ h => h) (Or.inl ⟨by rfl, ?_⟩) (by assumption) ?_
    rotate_left
    · intro W hSW
      try dsimp only at hSW
      go_simp
      try with_reducible rfl
    rotate_left
    try simp only [Act.put, List.setIfInBounds_toArray, List.set_cons_zero, List.set_cons_succ]
    refine wpAnyH_take (i := 18) (oi := ⟨_, _, _, _, _, _⟩) (v := ?_) rfl (by kernel_rfl) (by kernel_rfl) (by kernel_rfl) (fun _ _ _ h => h) (Or.inl ⟨by rfl, ?_⟩) (by assumption) ?_
    rotate_left
    · intro W hSW
      try dsimp only at hSW
      go_simp
      try with_reducible rfl
    rotate_left
    try simp only [Act.put, List.setIfInBounds_toArray, List.set_cons_zero, List.set_cons_succ]
    refine wpAnyH_take (i := 19) (oi := ⟨_, _, _, _, _, _⟩) (v := ?_) rfl (by kernel_rfl) (by kernel_rfl) (by kernel_rfl) (fun _ _ _ h => h) (Or.inl ⟨by rfl, ?_⟩) (by assumption) ?_
    rotate_left
    · intro W hSW
      try dsimp only at hSW
      go_simp
      try with_reducible rfl
    rotate_left
    try simp only [Act.put, List.setIfInBounds_toArray, List.set_cons_zero, List.set_cons_succ]
    refine wpAnyH_take (i := 20) (oi := ⟨_, _, _, _, _, _⟩) (v := ?_) rfl (by kernel_rfl) (by kernel_rfl) (by kernel_rfl) (fun _ _ _ h => h) (Or.inl ⟨by rfl, ?_⟩) (by assumption) ?_
    rotate_left
    · intro W hSW
      try dsimp only at hSW
      go_simp
      try with_reducible rfl
    rotate_left
    try simp only [Act.put, List.setIfInBounds_toArray, List.set_cons_zero, List.set_cons_succ]
    refine wpAnyH_take (i := 21) (oi := ⟨_, _, _, _, _, _⟩) (v := ?_) rfl (by kernel_rfl) (by kernel_rfl) (by kernel_rfl) (fun _ _ _ h => h) (Or.inl ⟨by rfl, ?_⟩) (by assumption) ?_
    rotate_left
    · intro W hSW
      try dsimp only at hSW
      go_simp
      try with_reducible rfl
    rotate_left
    try simp only [Act.put, List.setIfInBounds_toArray, List.set_cons_zero, List.set_cons_succ]
    refine wpAnyH_take (i := 22) (oi := ⟨_, _, _, _, _, _⟩) (v := ?_) rfl (by kernel_rfl) (by kernel_rfl) (by kernel_rfl) (fun _ _ _ h => h) (Or.inl ⟨by rfl, ?_⟩) (by assumption) ?_
    rotate_left
    · intro W hSW
      try dsimp only at hSW
      go_simp
      try with_reducible rfl
    rotate_left
    try simp only [Act.put, List.setIfInBounds_toArray, List.set_cons_zero, List.set_cons_succ]
    refine wpAnyH_take (i := 23) (oi := ⟨_, _, _, _, _, _⟩) (v := ?_) rfl (by kernel_rfl) (by kernel_rfl) (by kernel_rfl) (fun _ _ _ h => h) (Or.inl ⟨by rfl, ?_⟩) (by assumption) ?_
    rotate_left
    · intro W hSW
      try dsimp only at hSW
      go_simp
      try with_reducible rfl
    rotate_left
    try simp only [Act.put, List.setIfInBounds_toArray, List.set_cons_zero, List.set_cons_succ]
    refine wpAnyH_take (i := 24) (oi := ⟨_, _, _, _, _, _⟩) (v := ?_) rfl (by kernel_rfl) (by kernel_rfl) (by kernel_rfl) (fun _ _ _ h => h) (Or.inl ⟨by rfl, ?_⟩) (by assumption) ?_
    rotate_left
    · intro W hSW
      try dsimp only at hSW
      go_simp
      try with_reducible rfl
    rotate_left
    try simp only [Act.put, List.setIfInBounds_toArray, List.set_cons_zero, List.set_cons_succ]
    refine wpAnyH_ready (rs := [25]) (by kernel_rfl) (by simp) ?_
    refine AllReadyH.cons (o := ⟨_, _, _, _, _, _⟩) rfl (fun K hK => ?_) AllReadyH.nil
    rw [if_pos (by rfl)]
    go_simp
    go_at_call 16
    refine (HS1.out _ (by assumption)).mono ?_
    rintro e wc1 ⟨rfl, hbc1⟩
    go_wp2_with fail
    refine hK.out _ _ (HS.out _ hbc1) (fun hHeld => ?_)
    clear hK K
    try simp only [Act.put, List.setIfInBounds_toArray, List.set_cons_zero, List.set_cons_succ]
    refine wpAnyH_take (i := 26) (oi := ⟨_, _, _, _, _, _⟩) (v := ?_) rfl (by kernel_rfl) (by kernel_rfl) (by kernel_rfl) (fun _ _ _ h => h) (Or.inl ⟨by rfl, ?_⟩) (by assumption) ?_
    rotate_left
    · intro W hSW
      try dsimp only at hSW
      go_simp
      try with_reducible rfl
    rotate_left
    try simp only [Act.put, List.setIfInBounds_toArray, List.set_cons_zero, List.set_cons_succ]
    refine wpAnyH_take (i := 27) (oi := ⟨_, _, _, _, _, _⟩) (v := ?_) rfl (by kernel_rfl) (by kernel_rfl) (by kernel_rfl) (fun _ _ _ h => h) (Or.inl ⟨by rfl, ?_⟩) (by assumption) ?_
    rotate_left
    · intro W hSW
      try dsimp only at hSW
      go_simp
      try with_reducible rfl
    rotate_left
    try simp only [Act.put, List.setIfInBounds_toArray, List.set_cons_zero, List.set_cons_succ]
    refine wpAnyH_take (i := 28) (oi := ⟨_, _, _, _, _, _⟩) (v := ?_) rfl (by kernel_rfl) (by kernel_rfl) (by kernel_rfl) (fun _ _ _ h => h) (Or.inl ⟨by rfl, ?_⟩) (by assumption) ?_
    rotate_left
    · intro W hSW
      try dsimp only at hSW
      go_simp
      try with_reducible rfl
    rotate_left
    try simp only [Act.put, List.setIfInBounds_toArray, List.set_cons_zero, List.set_cons_succ]
    refine wpAnyH_take (i := 29) (oi := ⟨_, _, _, _, _, _⟩) (v := ?_) rfl (by kernel_rfl) (by kernel_rfl) (by kernel_rfl) (fun _ _ _ h => h) (Or.inl ⟨by rfl, ?_⟩) (by assumption) ?_
    rotate_left
    · intro W hSW
      try dsimp only at hSW
      go_simp
      try with_reducible rfl
    rotate_left
    try simp only [Act.put, List.setIfInBounds_toArray, List.set_cons_zero, List.set_cons_succ]
    refine wpAnyH_take (i := 31) (oi := ⟨_, _, _, _, _, _⟩) (v := ?_) rfl (by kernel_rfl) (by kernel_rfl) (by kernel_rfl) (fun _ _ _ h => h) (Or.inl ⟨by rfl, ?_⟩) (by assumption) ?_
    rotate_left
    · intro W hSW
      try dsimp only at hSW
      go_simp
      try with_reducible rfl
    rotate_left
    try simp only [Act.put, List.setIfInBounds_toArray, List.set_cons_zero, List.set_cons_succ]
    refine wpAnyH_take (i := 32) (oi := ⟨_, _, _, _, _, _⟩) (v := ?_) rfl (by kernel_rfl) (by kernel_rfl) (by kernel_rfl) (fun _ _ _ h => h) (Or.inl ⟨by rfl, ?_⟩) (by assumption) ?_
    rotate_left
    · intro W hSW
      try dsimp only at hSW
      go_simp
      try with_reducible rfl
    rotate_left
    try simp only [Act.put, List.setIfInBounds_toArray, List.set_cons_zero, List.set_cons_succ]
    refine wpAnyH_ready (rs := [30]) (by kernel_rfl) (by simp) ?_
    refine AllReadyH.cons (o := ⟨_, _, _, _, _, _⟩) rfl (fun K hK => ?_) AllReadyH.nil
    rw [if_pos (by rfl)]
    go_simp
    go_at_call 17
    refine (HS2.out _ (by assumption)).mono ?_
    rintro e wc2 ⟨rfl, hbc2⟩
    go_wp2_with fail
    refine hK.out _ _ (HS.out _ hbc2) (fun hHeld => ?_)
    clear hK K
    try simp only [Act.put, List.setIfInBounds_toArray, List.set_cons_zero, List.set_cons_succ]
    refine wpAnyH_ready (rs := [33]) (by kernel_rfl) (by simp) ?_
    refine AllReadyH.cons (o := ⟨_, _, _, _, _, _⟩) rfl (fun K hK => ?_) AllReadyH.nil
    rw [if_pos (by rfl)]
    go_simp
    go_at_call 16
    refine (HS3.out _ (by assumption)).mono ?_
    rintro e wc3 ⟨rfl, hbc3⟩
    go_wp2_with fail
    refine hK.out _ _ (HS.out _ hbc3) (fun hHeld => ?_)
    clear hK K
    try simp only [Act.put, List.setIfInBounds_toArray, List.set_cons_zero, List.set_cons_succ]
    refine wpAnyH_take (i := 34) (oi := ⟨_, _, _, _, _, _⟩) (v := ?_) rfl (by kernel_rfl) (by kernel_rfl) (by kernel_rfl) (fun _ _ _ h => h) (Or.inl ⟨by rfl, ?_⟩) (by assumption) ?_
    rotate_left
    · intro W hSW
      try dsimp only at hSW
      go_simp
      try with_reducible rfl
    rotate_left
    try simp only [Act.put, List.setIfInBounds_toArray, List.set_cons_zero, List.set_cons_succ]
    refine wpAnyH_take (i := 35) (oi := ⟨_, _, _, _, _, _⟩) (v := ?_) rfl (by kernel_rfl) (by kernel_rfl) (by kernel_rfl) (fun _ _ _ h => h) (Or.inl ⟨by rfl, ?_⟩) (by assumption) ?_
    rotate_left
    · intro W hSW
      try dsimp only at hSW
      go_simp
      try with_reducible rfl
    rotate_left
    try simp only [Act.put, List.setIfInBounds_toArray, List.set_cons_zero, List.set_cons_succ]
    refine wpAnyH_take (i := 36) (oi := ⟨_, _, _, _, _, _⟩) (v := ?_) rfl (by kernel_rfl) (by kernel_rfl) (by kernel_rfl) (fun _ _ _ h => h) (Or.inl ⟨by rfl, ?_⟩) (by assumption) ?_
    rotate_left
    · intro W hSW
      try dsimp only at hSW
      go_simp
      try with_reducible rfl
    rotate_left
    try simp only [Act.put, List.setIfInBounds_toArray, List.set_cons_zero, List.set_cons_succ]
    refine wpAnyH_take (i := 37) (oi := ⟨_, _, _, _, _, _⟩) (v := ?_) rfl (by kernel_rfl) (by kernel_rfl) (by kernel_rfl) (fun _ _ _ h => h) (Or.inl ⟨by rfl, ?_⟩) (by assumption) ?_
    rotate_left
    · intro W hSW
      try dsimp only at hSW
      go_simp
      try with_reducible rfl
    rotate_left
    try simp only [Act.put, List.setIfInBounds_toArray, List.set_cons_zero, List.set_cons_succ]
    refine wpAnyH_take (i := 38) (oi := ⟨_, _, _, _, _, _⟩) (v := ?_) rfl (by kernel_rfl) (by kernel_rfl) (by kernel_rfl) (fun _ _ _ h => h) (Or.inl ⟨by rfl, ?_⟩) (by assumption) ?_
    rotate_left
    · intro W hSW
      try dsimp only at hSW
      go_simp
      try with_reducible rfl
    rotate_left
    try simp only [Act.put, List.setIfInBounds_toArray, List.set_cons_zero, List.set_cons_succ]
    refine wpAnyH_ready (rs := [39]) (by kernel_rfl) (by simp) ?_
    refine AllReadyH.cons (o := ⟨_, _, _, _, _, _⟩) rfl (fun K hK => ?_) AllReadyH.nil
    rw [if_pos (by rfl)]
    go_simp
    go_at_call 17
    refine (HS4.out _ (by assumption)).mono ?_
    rintro e wc4 ⟨rfl, hbc4⟩
    go_wp2_with fail
    refine hK.out _ _ (HS.out _ hbc4) (fun hHeld => ?_)
    clear hK K
    try simp only [Act.put, List.setIfInBounds_toArray, List.set_cons_zero, List.set_cons_succ]
    refine wpAnyH_take (i := 40) (oi := ⟨_, _, _, _, _, _⟩) (v := ?_) rfl (by kernel_rfl) (by kernel_rfl) (by kernel_rfl) (fun _ _ _ h => h) (Or.inl ⟨by rfl, ?_⟩) (by assumption) ?_
    rotate_left
    · intro W hSW
      try dsimp only at hSW
      go_simp
      try with_reducible rfl
    rotate_left
    try simp only [Act.put, List.setIfInBounds_toArray, List.set_cons_zero, List.set_cons_succ]
    refine wpAnyH_take (i := 41) (oi := ⟨_, _, _, _, _, _⟩) (v := ?_) rfl (by kernel_rfl) (by kernel_rfl) (by kernel_rfl) (fun _ _ _ h => h) (Or.inl ⟨by rfl, ?_⟩) (by assumption) ?_
    rotate_left
    · intro W hSW
      try dsimp only at hSW
      go_simp
      try with_reducible rfl
    rotate_left
    try simp only [Act.put, List.setIfInBounds_toArray, List.set_cons_zero, List.set_cons_succ]
    refine wpAnyH_done (by kernel_rfl) ?_ _
    have HBf := Lib.hid (HBb.out.1.trans (hbc4.mono HBb.out.1.size))
    go_wp2
    go_ret
    exact ⟨rfl, HBf.out⟩

theorem own : ownKnob Try.prog.godebug = none := by kernel_rfl
theorem laidOut : laidOutB Try.prog = true := by kernel_rfl

set_option maxRecDepth 100000 in
theorem lifted (os : Os) (started : os.Started) (H : Type) (enc : TypeId × Value → H) :
    ReturnsInHanded {} Try.checked os 3 .any (Rows.leafAllSpec.pre6 enc Try.prog Try.f3 Rows.leafAllRow.domain false) (Rows.leafAllSpec.post enc Try.prog Try.f3 false true false false) := by
  refine returnsInHanded_of_change (C := Try.checked) own started (by kernel_rfl) Try.func3
    (ChangeSpec.witness6 (enc := enc) (C := Try.checked) false ⟨#[], #[.agg #[.slice none 0 0, .slice none 0 0, .slice none 0 0, .slice none 0 0, .int .i64 0], .agg #[.slice none 0 0, .slice none 0 0, .slice none 0 0, .slice none 0 0, .int .i64 0], .slice none 0 0, .slice none 0 0], []⟩ 8 (by kernel_rfl) (by kernel_rfl) (by kernel_rfl) (by kernel_rfl)) ?_
  intro W base args ds gs before hval0 hW hcnd _
  have hval : ∀ (j : Nat) t v, Try.f3.params[j]? = some t → args[j]? = some v → Value.okWide Try.prog W .any base t v := hval0
  have hW' := hW
  obtain ⟨p, q, hA0, hV, rfl, hfz, hnd⟩ := hW
  obtain ⟨rfl, rfl⟩ := trodVars_none hV
  have hA : DataW.TrodAll enc Try.prog W 0 (fun _ => true) true Try.f3.params.toList args.toList ds p := hA0
  rw [Try.params3] at hA hval
  obtain ⟨v0, vs0, d0, ds0, p0, q0, hargs, rfl, rfl, h0, r0⟩ := trodAll_cons hA
  obtain ⟨v1, vs1, d1, ds1, p1, q1, rfl, rfl, rfl, h1, r1⟩ := trodAll_cons r0
  obtain ⟨v2, vs2, d2, ds2, p2, q2, rfl, rfl, rfl, h2, r2⟩ := trodAll_cons r1
  obtain ⟨v3, vs3, d3, ds3, p3, q3, rfl, rfl, rfl, h3, r3⟩ := trodAll_cons r2
  obtain ⟨rfl, rfl, rfl⟩ := trodAll_nil r3
  obtain rfl : args = #[v0, v1, v2, v3] := by cases args; simp_all
  obtain ⟨P0, N0, K0, n0, c0, rfl, hc0⟩ := open_page (hval 0 25 v0 rfl rfl) h0
  obtain ⟨P1, N1, K1, n1, c1, rfl, hc1⟩ := open_page (hval 1 25 v1 rfl rfl) h1
  have ok2 := hval 2 22 v2 rfl rfl
  have ok3 := hval 3 22 v3 rfl rfl
  obtain ⟨la, hla⟩ := open_sl Try.underlying22 Try.underlying5 (by kernel_rfl) ok2 h2
  obtain ⟨lb, hlb⟩ := open_sl Try.underlying22 Try.underlying5 (by kernel_rfl) ok3 h3
  refine (walk W P0 P1 N0 K0 N1 K1 n0 n1 c0 c1 hc0 hc1 v2 v3 la lb hla hlb).mono fun e W' ⟨he, hg⟩ => ?_
  subst he
  exact ⟨_, rfl, law_post laidOut Try.underlying4 rfl (by rw [Try.params3]; intro t ht; simp at ht; rcases ht with rfl | rfl <;> exact ⟨by kernel_rfl, of_decide_eq_true (by kernel_rfl)⟩) rfl hW' rfl hg⟩

theorem proved : Rows.LeafAllSaid :=
  OpenClaim.holds_of_wide 3 Try.f3 rfl rfl rfl rfl rfl rfl rfl ⟨rfl, rfl, rfl, rfl, rfl⟩ rfl rfl rfl rfl rfl (by kernel_rfl) Try.func3 (by kernel_rfl)
    (of_decide_eq_true (by kernel_rfl)) (by unfold Func.isWrapper; first | (rw [if_pos (by decide +kernel)]; kernel_rfl) | (rw [if_neg (by decide +kernel)]; exact ⟨rfl, rfl⟩))
    (fun os started H enc _ => lifted os started H enc)
#print axioms proved

end Go.Proofs.Ytolfmgbkbmphkaa.leafAll
