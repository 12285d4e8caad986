/- The reference's Read. -/
import Derived.Test.YtmijdjlpfjfjoaaReadA
namespace Go.Proofs.Ytmijdjlpfjfjoaa
open Go.RowKit

theorem rrd_end {W : World} {tmps : Array Value} {g3 g4 : Nat} {a : Int} {k s v : ByteArray} {p c er : Int} (h2 : tmps.getD 2 undef = .int .i64 a) (h3 : tmps.getD 3 undef = .pointer (some ⟨g3, 0, none⟩)) (h4 : tmps.getD 4 undef = .pointer (some ⟨g4, 0, none⟩)) (h5 : tmps.getD 5 undef = .int .i64 er)
    (k3 : W.heap[g3]? = some (rowO k s v)) (k4 : W.heap[g4]? = some (ridO p c)) : (results Try.f16 tmps).run Try.prog W = .ok (.tuple #[.int .i64 a, .agg #[.string k, .string s, .string v], .agg #[.int .i64 p, .int .i64 c], .int .i64 er]) W := by
  rw [Array.getD_eq_getD_getElem?] at h2 h3 h4 h5
  have a0 := (cell_of (cs := #[.string k, .string s, .string v]) k3 0).1
  have a1 := (cell_of (cs := #[.string k, .string s, .string v]) k3 1).1
  have a2 := (cell_of (cs := #[.string k, .string s, .string v]) k3 2).1
  have b0 := (cell_of (cs := #[.int .i64 p, .int .i64 c]) k4 0).1
  have b1 := (cell_of (cs := #[.int .i64 p, .int .i64 c]) k4 1).1
  simp [results, Try.results16, go_sem, h2, h3, h4, h5, a0, a1, a2, b0, b1]
theorem rrd_end' {W : World} {tmps : Array Value} {g3 g4 : Nat} {a : Int} {k s v : ByteArray} {p c er : Int} (h2 : tmps.getD 2 undef = .int .i64 a) (h3 : tmps.getD 3 undef = .pointer (some ⟨g3, 0, none⟩)) (h4 : tmps.getD 4 undef = .pointer (some ⟨g4, 0, none⟩)) (h5 : tmps.getD 5 undef = .int .i64 er)
    (k3 : W.heap[g3]? = some (rowO k s v)) (k4 : W.heap[g4]? = some (ridO p c)) : (results Try.f16 tmps).run Try.prog W.drew = .ok (.tuple #[.int .i64 a, .agg #[.string k, .string s, .string v], .agg #[.int .i64 p, .int .i64 c], .int .i64 er]) W.drew := rrd_end h2 h3 h4 h5 k3 k4

theorem z26_ok : bytesOk z26 := by intro x hx; rw [z26, List.mem_replicate] at hx; omega

set_option maxRecDepth 100000 in
set_option maxHeartbeats 1000000 in
theorem rread_nil (w : World) (A : Option Addr) (cap : Nat) : Calls Try.prog 16 #[.slice A 0 cap] w (RdIs w 0 ⟨#[]⟩ ⟨#[]⟩ ⟨#[]⟩ 0 0 0) := by
  have HT := Lib.hid (two_new w)
  go_enter Try.func16, Try.ntmps16
  go_upto_region 1 with (fail)
  show Code.wp _ _ _ _ ((w.alloc (rowO ⟨#[]⟩ ⟨#[]⟩ ⟨#[]⟩)).alloc (ridO 0 0))
  generalize (w.alloc (rowO ⟨#[]⟩ ⟨#[]⟩ ⟨#[]⟩)).alloc (ridO 0 0) = W at *
  obtain ⟨⟨x0, x1, x2, x3, x4⟩, y0, y1, y2, y3, y4⟩ := HT.out.cells
  go_region
  all_goals go_wp2
  have e3 := finW_row (k := ⟨#[]⟩) (s := ⟨#[]⟩) (v := ⟨#[]⟩) (p := 0) (c := 0) HT.out.2.1 (show w.heap.size ≠ w.heap.size + 1 by omega)
  have e4 := finW_rid (k := ⟨#[]⟩) (s := ⟨#[]⟩) (v := ⟨#[]⟩) (p := 0) (c := 0) HT.out.2.2 (show w.heap.size + 1 ≠ w.heap.size by omega)
  have eb := finW_below (g3 := w.heap.size) (g4 := w.heap.size + 1) (k := ⟨#[]⟩) (s := ⟨#[]⟩) (v := ⟨#[]⟩) (p := 0) (c := 0) HT.out.1 (Nat.le_refl _) (by omega)
  clear x0 x1 x2 x3 x4 y0 y1 y2 y3 y4
  change bodyPost _ _ _ _ _ (finW W w.heap.size (w.heap.size + 1) ⟨#[]⟩ ⟨#[]⟩ ⟨#[]⟩ 0 0).drew
  generalize finW W w.heap.size (w.heap.size + 1) ⟨#[]⟩ ⟨#[]⟩ ⟨#[]⟩ 0 0 = W9 at *
  exact bodyPost_ret (rrd_end' (a := 0) (er := 0) rfl rfl rfl rfl e3 e4) rfl ⟨rfl, eb.drew⟩

theorem bstr_eql {l l' : List Int} (h : bytesOk l) (h' : bytesOk l') : ((bstr l).toList == (bstr l').toList) = decide (l = l') := by
  rw [Bool.eq_iff_iff, beq_iff_eq, toList_eq, toList_eq, decide_eq_true_eq]
  constructor
  · intro e
    refine bstr_inj h h' ?_
    generalize bstr l = x at *
    generalize bstr l' = y at *
    cases x; cases y
    simp only at e
    congr
    exact Array.ext' e
  · rintro rfl; rfl

set_option maxRecDepth 100000 in
set_option maxHeartbeats 1000000 in
theorem rread_z (w : World) (b off cap : Nat) (h : Pt w (.slice (some ⟨b, off, none⟩) 26 cap) z26) : Calls Try.prog 16 #[.slice (some ⟨b, off, none⟩) 26 cap] w (RdIs w 0 ⟨#[]⟩ ⟨#[]⟩ ⟨#[]⟩ 0 0 0) := by
  have hT := two_new w
  have hs := (h.below hT.1 (Nat.le_refl _)).slK z26_ok
  have hmk : ∀ W, (Instr.makeSlice 22 (.int .i64 26) (.int .i64 26)).run Try.prog W = .ok (.slice (some ⟨W.heap.size, 0, none⟩) 26 26) (W.alloc (.cells (byteV z26).toArray 5)) := fun W => make_bytes W 26 26 (by omega) (by omega)
  have HT := Lib.hid hT
  clear hT h
  go_enter Try.func16, Try.ntmps16
  go_upto_region 1 with (fail)
  show Code.wp _ _ _ _ ((w.alloc (rowO ⟨#[]⟩ ⟨#[]⟩ ⟨#[]⟩)).alloc (ridO 0 0))
  generalize (w.alloc (rowO ⟨#[]⟩ ⟨#[]⟩ ⟨#[]⟩)).alloc (ridO 0 0) = W at *
  have v0 := conv_slK hs
  have v1 : (convert 22 9 (.slice (some ⟨b, off, none⟩) 26 cap)).run Try.prog W.drew = .ok (.string (bstr z26)) W.drew := conv_slK (hs.below (B := W.heap.size) ((Below.refl _ _).drew) (Nat.le_refl _))
  have v2 : (convert 22 9 (.slice (some ⟨b, off, none⟩) 26 cap)).run Try.prog (W.drew.alloc (.cells (byteV z26).toArray 5)) = .ok (.string (bstr z26)) (W.drew.alloc (.cells (byteV z26).toArray 5)) := conv_slK (hs.below (B := W.heap.size) ((Below.refl _ _).drew.alloc (by simp) _) (Nat.le_refl _))
  have u2 : (convert 22 9 (.slice (some ⟨W.heap.size, 0, none⟩) 26 26)).run Try.prog (W.drew.alloc (.cells (byteV z26).toArray 5)) = .ok (.string (bstr z26)) (W.drew.alloc (.cells (byteV z26).toArray 5)) := conv_slK (((blk_new W.drew z26).pt (n := 26) (c := 26) rfl (Nat.le_refl _)).slK z26_ok)
  have v3 : (convert 22 9 (.slice (some ⟨b, off, none⟩) 26 cap)).run Try.prog (W.alloc (.cells (byteV z26).toArray 5)).drew = .ok (.string (bstr z26)) (W.alloc (.cells (byteV z26).toArray 5)).drew := v2
  have u3 : (convert 22 9 (.slice (some ⟨W.heap.size, 0, none⟩) 26 26)).run Try.prog (W.alloc (.cells (byteV z26).toArray 5)).drew = .ok (.string (bstr z26)) (W.alloc (.cells (byteV z26).toArray 5)).drew := u2
  generalize bstr z26 = X at *
  go_cut [24] (fun u wx => u = .bool true ∧ Two w wx)
  case first =>
    have HW := Lib.hid (HT.out.on (W' := (W.alloc (.cells (byteV z26).toArray 5)).drew) (((Below.refl _ _).alloc (Nat.le_refl _) _).drew))
    go_region
    all_goals (go_wp2; go_meet)
    exact ⟨by simp, HW.out⟩
  case rest =>
    obtain ⟨rfl, hT2⟩ := hcut
    have HT2 := Lib.hid hT2
    obtain ⟨⟨x0, x1, x2, x3, x4⟩, y0, y1, y2, y3, y4⟩ := hT2.cells
    clear hT2 v0 v1 v2 v3 u2 u3 hmk hs
    go_wp2
    have e3 := finW_row (k := ⟨#[]⟩) (s := ⟨#[]⟩) (v := ⟨#[]⟩) (p := 0) (c := 0) HT2.out.2.1 (show w.heap.size ≠ w.heap.size + 1 by omega)
    have e4 := finW_rid (k := ⟨#[]⟩) (s := ⟨#[]⟩) (v := ⟨#[]⟩) (p := 0) (c := 0) HT2.out.2.2 (show w.heap.size + 1 ≠ w.heap.size by omega)
    have eb := finW_below (g3 := w.heap.size) (g4 := w.heap.size + 1) (k := ⟨#[]⟩) (s := ⟨#[]⟩) (v := ⟨#[]⟩) (p := 0) (c := 0) HT2.out.1 (Nat.le_refl _) (by omega)
    clear x0 x1 x2 x3 x4 y0 y1 y2 y3 y4
    change bodyPost _ _ _ _ _ (finW wc w.heap.size (w.heap.size + 1) ⟨#[]⟩ ⟨#[]⟩ ⟨#[]⟩ 0 0)
    generalize finW wc w.heap.size (w.heap.size + 1) ⟨#[]⟩ ⟨#[]⟩ ⟨#[]⟩ 0 0 = W9 at *
    exact bodyPost_ret (rrd_end (a := 0) (er := 0) rfl rfl rfl rfl e3 e4) rfl ⟨rfl, eb⟩

set_option maxRecDepth 100000 in
set_option maxHeartbeats 4000000 in
theorem rread_ne (w : World) (b off n cap : Nat) (l : List Int) (h : Pt w (.slice (some ⟨b, off, none⟩) n cap) l) (hok : bytesOk l) (h0 : l ≠ []) (hz : l ≠ z26) : Calls Try.prog 16 #[.slice (some ⟨b, off, none⟩) n cap] w (RdPost w l) := by
  have hT := two_new w
  have hln := h.lenEq
  have a0 : ¬ n = 0 := fun e => h0 (List.length_eq_zero_iff.1 (by omega))
  have d0 : ((n : Int) == 0) = false := by simp; omega
  have hs := (h.below hT.1 (Nat.le_refl _)).slK hok
  have hmk : ∀ W, (Instr.makeSlice 22 (.int .i64 26) (.int .i64 26)).run Try.prog W = .ok (.slice (some ⟨W.heap.size, 0, none⟩) 26 26) (W.alloc (.cells (byteV z26).toArray 5)) := fun W => make_bytes W 26 26 (by omega) (by omega)
  have hne := Lib.hid ((bstr_eql hok z26_ok).trans (decide_eq_false hz))
  have HT := Lib.hid hT
  have HP := Lib.hid h
  have HOK := Lib.hid hok
  have H0 := Lib.hid h0
  have HZ := Lib.hid hz
  have HLN := Lib.hid hln
  clear hT h h0 hok hz hln
  go_enter Try.func16, Try.ntmps16
  go_upto_region 1 with (fail)
  show Code.wp _ _ _ _ ((w.alloc (rowO ⟨#[]⟩ ⟨#[]⟩ ⟨#[]⟩)).alloc (ridO 0 0))
  generalize (w.alloc (rowO ⟨#[]⟩ ⟨#[]⟩ ⟨#[]⟩)).alloc (ridO 0 0) = W at *
  have v0 := conv_slK hs
  have v1 : (convert 22 9 (.slice (some ⟨b, off, none⟩) n cap)).run Try.prog W.drew = .ok (.string (bstr l)) W.drew := conv_slK (hs.below (B := W.heap.size) ((Below.refl _ _).drew) (Nat.le_refl _))
  have v2 : (convert 22 9 (.slice (some ⟨b, off, none⟩) n cap)).run Try.prog (W.drew.alloc (.cells (byteV z26).toArray 5)) = .ok (.string (bstr l)) (W.drew.alloc (.cells (byteV z26).toArray 5)) := conv_slK (hs.below (B := W.heap.size) ((Below.refl _ _).drew.alloc (by simp) _) (Nat.le_refl _))
  have u2 : (convert 22 9 (.slice (some ⟨W.heap.size, 0, none⟩) 26 26)).run Try.prog (W.drew.alloc (.cells (byteV z26).toArray 5)) = .ok (.string (bstr z26)) (W.drew.alloc (.cells (byteV z26).toArray 5)) := conv_slK (((blk_new W.drew z26).pt (n := 26) (c := 26) rfl (Nat.le_refl _)).slK z26_ok)
  have v3 : (convert 22 9 (.slice (some ⟨b, off, none⟩) n cap)).run Try.prog (W.alloc (.cells (byteV z26).toArray 5)).drew = .ok (.string (bstr l)) (W.alloc (.cells (byteV z26).toArray 5)).drew := v2
  have u3 : (convert 22 9 (.slice (some ⟨W.heap.size, 0, none⟩) 26 26)).run Try.prog (W.alloc (.cells (byteV z26).toArray 5)).drew = .ok (.string (bstr z26)) (W.alloc (.cells (byteV z26).toArray 5)).drew := u2
  go_cut [24] (fun u wx => u = .bool false ∧ Two w wx)
  case first =>
    have HW := Lib.hid (HT.out.on (W' := (W.alloc (.cells (byteV z26).toArray 5)).drew) (((Below.refl _ _).alloc (Nat.le_refl _) _).drew))
    generalize bstr l = X at *
    generalize bstr z26 = Y at *
    go_region
    all_goals (go_wp2; go_meet)
    exact ⟨by rw [hne.out], HW.out⟩
  case rest =>
    obtain ⟨rfl, hT2⟩ := hcut
    have HT2 := Lib.hid hT2
    obtain ⟨⟨x0, x1, x2, x3, x4⟩, y0, y1, y2, y3, y4⟩ := hT2.cells
    have hP := HP.out.below hT2.1 (Nat.le_refl _)
    have HP2 := Lib.hid hP
    clear hT2 v0 v1 v2 v3 u2 u3 hmk hs hne hP HT
    by_cases hn : n = 26
    · subst hn
      have hlen := HLN.out.1
      obtain ⟨x, L, rfl⟩ : ∃ x L, l = x :: L := by cases l with
        | nil => exact absurd rfl H0.out
        | cons x L => exact ⟨x, L, rfl⟩
      have hL : L.length = 25 := by simpa using hlen
      have c0 := HP2.out.at0.1
      have hcap := HLN.out.2
      have HLL := Lib.hid hL
      clear hlen hL
      by_cases hx1 : x = 1
      · subst hx1
        obtain ⟨c1, t1, c2, t2, c3, t3, P⟩ := prt_of HLL.out (fun x hx => HOK.out x (by simp [hx]))
        have g2 : ((1 : Int) :: L).drop 10 = c2 :: t2 := by rw [P.e1, ← P.e2]; rfl
        have g3 : ((1 : Int) :: L).drop 17 = c3 :: t3 := by
          rw [show (17 : Nat) = 10 + 7 from rfl, ← List.drop_drop, g2, ← P.e3]; rfl
        have p1 : Pt wc (.slice (some ⟨b, off + 1, none⟩) 25 (cap - 1)) (c1 :: t1) := by
          rw [← P.e1]; exact HP2.out.cut (k := 1) (by omega) (fun _ => rfl) (by omega) (by omega)
        have p2 : Pt wc (.slice (some ⟨b, off + 10, none⟩) 16 (cap - 10)) (c2 :: t2) := by
          rw [← g2]; exact HP2.out.cut (k := 10) (by omega) (fun _ => rfl) (by omega) (by omega)
        have p3 : Pt wc (.slice (some ⟨b, off + 17, none⟩) 9 (cap - 17)) (c3 :: t3) := by
          rw [← g3]; exact HP2.out.cut (k := 17) (by omega) (fun _ => rfl) (by omega) (by omega)
        have f1 := text_any wc _ c1 t1 8 (by omega) (by omega) p1 P.o1 (by rw [P.l1]; omega) (by rw [P.l1]; omega)
        have f2 := text_any wc _ c2 t2 6 (by omega) (by omega) p2 P.o2 (by rw [P.l2]; omega) (by rw [P.l2]; omega)
        have f3 := text_any wc _ c3 t3 8 (by omega) (by omega) p3 P.o3 (by rw [P.l3]; omega) (by rw [P.l3]; omega)
        have hns : Hid (∀ p c, placeB p c = true → 1 :: L ≠ stubL p c) := fun p c _ e => by have := congrArg (·.head?) e; simp [stubL] at this
        have HPr := Lib.hid P
        obtain ⟨q1, e1⟩ : ∃ q, partB c1 t1 8 = q := ⟨_, rfl⟩
        obtain ⟨q2, e2⟩ : ∃ q, partB c2 t2 6 = q := ⟨_, rfl⟩
        obtain ⟨q3, e3⟩ : ∃ q, partB c3 t3 8 = q := ⟨_, rfl⟩
        obtain ⟨k1, h1⟩ : ∃ q, partR c1 t1 8 = q := ⟨_, rfl⟩
        obtain ⟨k2, h2⟩ : ∃ q, partR c2 t2 6 = q := ⟨_, rfl⟩
        obtain ⟨k3, h3⟩ : ∃ q, partR c3 t3 8 = q := ⟨_, rfl⟩
        rw [e1, h1] at f1
        rw [e2, h2] at f2
        rw [e3, h3] at f3
        have E1 := Lib.hid e1
        have E2 := Lib.hid e2
        have E3 := Lib.hid e3
        have K1 := Lib.hid h1
        have K2 := Lib.hid h2
        have K3 := Lib.hid h3
        have F1 := Lib.hid f1
        have F2 := Lib.hid f2
        have F3 := Lib.hid f3
        have i1 : (26 : Int) ≤ (cap : Int) := by omega
        have i2 : ¬ cap = 1 := by omega
        have i3 : ¬ cap = 10 := by omega
        have i4 : ¬ cap = 17 := by omega
        clear e1 e2 e3 h1 h2 h3 f1 f2 f3 P g2 g3 p1 p2 p3
        go_wp2_with fail
        refine F1.out.mono ?_
        rintro e w' ⟨rfl, hw⟩
        obtain rfl := hw.symm
        go_wp2_with fail
        refine F2.out.mono ?_
        rintro e w' ⟨rfl, hw⟩
        obtain rfl := hw.symm
        go_wp2_with fail
        refine F3.out.mono ?_
        rintro e w' ⟨rfl, hw⟩
        obtain rfl := hw.symm
        clear F1 F2 F3 c0
        by_cases hq : (q1 && q2 && q3) = true
        · have hq' : (q1 = true ∧ q2 = true) ∧ q3 = true := by simpa using hq
          obtain ⟨⟨rfl, rfl⟩, rfl⟩ := hq'
          have r1 : k1 = partS c1 t1 := by rw [← K1.out, partR, if_pos E1.out]
          have r2 : k2 = partS c2 t2 := by rw [← K2.out, partR, if_pos E2.out]
          have r3 : k3 = partS c3 t3 := by rw [← K3.out, partR, if_pos E3.out]
          by_cases hk : 0 < k1.size
          · have hm : Hid (mayB k1 k2 k3 = true) := by
              have a1 := (part_of HPr.out.o1 (by rw [HPr.out.l1]; omega) E1.out).2
              have a2 := (part_of HPr.out.o2 (by rw [HPr.out.l2]; omega) E2.out).2
              have a3 := (part_of HPr.out.o3 (by rw [HPr.out.l3]; omega) E3.out).2
              rw [← r1] at a1; rw [← r2] at a2; rw [← r3] at a3
              show mayB k1 k2 k3 = true
              unfold mayB
              rw [decide_eq_true_eq]; omega
            have hr : Hid (1 :: L = rowL k1 k2 k3) := by rw [r1, r2, r3]; exact HPr.out.row E1.out E2.out E3.out
            have hkd : decide (0 < (k1.size : Int)) = true := by simp; omega
            clear r1 r2 r3 hq
            go_wp2
            have e3 := finW_row (k := k1) (s := k2) (v := k3) (p := 0) (c := 0) HT2.out.2.1 (show w.heap.size ≠ w.heap.size + 1 by omega)
            have e4 := finW_rid (k := k1) (s := k2) (v := k3) (p := 0) (c := 0) HT2.out.2.2 (show w.heap.size + 1 ≠ w.heap.size by omega)
            have eb := finW_below (g3 := w.heap.size) (g4 := w.heap.size + 1) (k := k1) (s := k2) (v := k3) (p := 0) (c := 0) HT2.out.1 (Nat.le_refl _) (by omega)
            clear x0 x1 x2 x3 x4 y0 y1 y2 y3 y4
            change bodyPost _ _ _ _ _ (finW wc w.heap.size (w.heap.size + 1) k1 k2 k3 0 0)
            generalize finW wc w.heap.size (w.heap.size + 1) k1 k2 k3 0 0 = W9 at *
            exact bodyPost_ret (rrd_end (a := 1) (er := 0) rfl rfl rfl rfl e3 e4) rfl ⟨_, _, _, _, _, _, _, .row _ _ _ hm.out hr.out, rfl, eb⟩
          · have hnr : Hid (∀ k s v, mayB k s v = true → 1 :: L ≠ rowL k s v) := fun k s v hm e => by
              obtain ⟨_, r, _, _⟩ := HPr.out.of_row hm e
              have := (may_sizes hm).1
              rw [← r, ← r1] at this
              exact hk this
            have hkd : decide (0 < (k1.size : Int)) = false := decide_eq_false (by omega)
            clear r1 r2 r3 hq
            go_wp2
            have e3 := finW_row (k := ⟨#[]⟩) (s := ⟨#[]⟩) (v := ⟨#[]⟩) (p := 0) (c := 0) HT2.out.2.1 (show w.heap.size ≠ w.heap.size + 1 by omega)
            have e4 := finW_rid (k := ⟨#[]⟩) (s := ⟨#[]⟩) (v := ⟨#[]⟩) (p := 0) (c := 0) HT2.out.2.2 (show w.heap.size + 1 ≠ w.heap.size by omega)
            have eb := finW_below (g3 := w.heap.size) (g4 := w.heap.size + 1) (k := ⟨#[]⟩) (s := ⟨#[]⟩) (v := ⟨#[]⟩) (p := 0) (c := 0) HT2.out.1 (Nat.le_refl _) (by omega)
            clear x0 x1 x2 x3 x4 y0 y1 y2 y3 y4
            change bodyPost _ _ _ _ _ (finW wc w.heap.size (w.heap.size + 1) ⟨#[]⟩ ⟨#[]⟩ ⟨#[]⟩ 0 0)
            generalize finW wc w.heap.size (w.heap.size + 1) ⟨#[]⟩ ⟨#[]⟩ ⟨#[]⟩ 0 0 = W9 at *
            exact bodyPost_ret (rrd_end (a := 0) (er := 4) rfl rfl rfl rfl e3 e4) rfl ⟨_, _, _, _, _, _, _, .none H0.out HZ.out hnr.out hns.out, rfl, eb⟩
        · have hnr : Hid (∀ k s v, mayB k s v = true → 1 :: L ≠ rowL k s v) := fun k s v hm e => by
            have := (HPr.out.of_row hm e).1
            rw [E1.out, E2.out, E3.out] at this
            exact hq this
          obtain rfl | ⟨rfl, rfl⟩ | ⟨rfl, rfl, rfl⟩ : q1 = false ∨ (q1 = true ∧ q2 = false) ∨ (q1 = true ∧ q2 = true ∧ q3 = false) := by
            cases q1 <;> cases q2 <;> cases q3 <;> simp_all
          all_goals
            clear hq
            go_wp2
            have e3 := finW_row (k := ⟨#[]⟩) (s := ⟨#[]⟩) (v := ⟨#[]⟩) (p := 0) (c := 0) HT2.out.2.1 (show w.heap.size ≠ w.heap.size + 1 by omega)
            have e4 := finW_rid (k := ⟨#[]⟩) (s := ⟨#[]⟩) (v := ⟨#[]⟩) (p := 0) (c := 0) HT2.out.2.2 (show w.heap.size + 1 ≠ w.heap.size by omega)
            have eb := finW_below (g3 := w.heap.size) (g4 := w.heap.size + 1) (k := ⟨#[]⟩) (s := ⟨#[]⟩) (v := ⟨#[]⟩) (p := 0) (c := 0) HT2.out.1 (Nat.le_refl _) (by omega)
            clear x0 x1 x2 x3 x4 y0 y1 y2 y3 y4
            change bodyPost _ _ _ _ _ (finW wc w.heap.size (w.heap.size + 1) ⟨#[]⟩ ⟨#[]⟩ ⟨#[]⟩ 0 0)
            generalize finW wc w.heap.size (w.heap.size + 1) ⟨#[]⟩ ⟨#[]⟩ ⟨#[]⟩ 0 0 = W9 at *
            exact bodyPost_ret (rrd_end (a := 0) (er := 4) rfl rfl rfl rfl e3 e4) rfl ⟨_, _, _, _, _, _, _, .none H0.out HZ.out hnr.out hns.out, rfl, eb⟩
      · by_cases hx2 : x = 2
        · subst hx2
          obtain ⟨p, c, r, rfl⟩ : ∃ p c r, L = p :: c :: r := by
            match L, HLL.out with
            | p :: c :: r, _ => exact ⟨p, c, r, rfl⟩
          have hnr : Hid (∀ k s v, mayB k s v = true → 2 :: p :: c :: r ≠ rowL k s v) := fun k s v _ e => by rw [rowL_cons] at e; injection e with e; exact absurd e (by decide)
          have hnz : (2 :: p :: c :: r : List Int) ≠ z26 := HZ.out
          have hb0 : b < wc.heap.size := HP2.out.at0.2
          have hpt := HP2.out
          obtain ⟨c1, c2⟩ : wc.cell? ⟨b, off + 1, none⟩ = some (.int .u8 p) ∧ wc.cell? ⟨b, off + 2, none⟩ = some (.int .u8 c) := by
            obtain ⟨b', o', cap', e, _, _, h3⟩ := hpt
            injection e with e1; injection e1 with e1; injection e1 with e1 e4; subst e1 e4
            exact ⟨h3 1 (by simp), h3 2 (by simp)⟩
          have p0 := HOK.out p (by simp)
          have q0 := HOK.out c (by simp)
          obtain ⟨p0, p1⟩ := p0
          obtain ⟨q0, q1⟩ := q0
          have d1 : (wc.alloc (ridO 0 0)).cell? ⟨b, off + 1, none⟩ = some (.int .u8 p) := (World.cell?_alloc_lt wc _ ⟨b, off + 1, none⟩ hb0).trans c1
          have d2 : (wc.alloc (ridO 0 0)).cell? ⟨b, off + 2, none⟩ = some (.int .u8 c) := (World.cell?_alloc_lt wc _ ⟨b, off + 2, none⟩ hb0).trans c2
          have hb0' : ¬ b = wc.heap.size := by omega
          clear hpt hnz
          generalize wc = wz at *
          go_upto_region 13 with (fail)
          go_cut [12] (fun u wx => u = .pointer (some ⟨wz.heap.size, 0, none⟩) ∧ wx.heap[wz.heap.size]? = some (ridO p c) ∧ Below wz.heap.size wz wx)
          case first =>
            go_region
            all_goals (go_wp2; go_meet)
            exact ⟨rfl, heap_alloc_new wz _, ((Below.refl _ _).alloc (Nat.le_refl _) _).drew⟩
          case rest =>
            obtain ⟨rfl, kr, hBr⟩ := hcut
            have r0 := (cell_of (cs := #[.int .i64 p, .int .i64 c]) kr 0).1
            have r1 := (cell_of (cs := #[.int .i64 p, .int .i64 c]) kr 1).1
            have KR := Lib.hid kr
            have HBr := Lib.hid hBr
            have hlt : wz.heap.size < wc.heap.size := (Array.getElem?_eq_some_iff.1 kr).1
            clear kr hBr c0 c1 c2 d1 d2 x0 x1 x2 x3 x4 y0 y1 y2 y3 y4
            by_cases hq : placeB p c = true
            · have hst := Lib.hid (rstub_ok wc p c hq)
              have HQ := Lib.hid hq
              clear hq
              go_wp2_with fail
              refine hst.out.mono ?_
              rintro e w5 ⟨v5, rfl, ho5, hb5⟩
              have hT5 := (HT2.out.on HBr.out).on hb5
              have HT5 := Lib.hid hT5
              obtain ⟨⟨x0, x1, x2, x3, x4⟩, y0, y1, y2, y3, y4⟩ := hT5.cells
              have s1 := conv_slK (own_slK ho5 (stubL_ok HQ.out))
              have s2 := conv_slK (((HP2.out.below HBr.out (Nat.le_refl _)).below hb5 (Nat.le_refl _)).slK HOK.out)
              have kr5 := (hb5.block _ hlt).trans KR.out
              have r2 := (cell_of (cs := #[.int .i64 p, .int .i64 c]) kr5 0).1
              have r3 := (cell_of (cs := #[.int .i64 p, .int .i64 c]) kr5 1).1
              have hbe := bstr_eql (stubL_ok HQ.out) HOK.out
              have hn1 : ¬ wz.heap.size = w.heap.size := by have := HT2.out.lt; omega
              have hn2 : ¬ wz.heap.size = w.heap.size + 1 := by have := HT2.out.lt; omega
              generalize hX : bstr (stubL p c) = X at *
              generalize hY : bstr (2 :: p :: c :: r) = Y at *
              clear ho5 hb5 hT5 kr5 hX hY r0 r1 hst hlt
              by_cases he : stubL p c = 2 :: p :: c :: r
              · rw [decide_eq_true he] at hbe
                have HE := Lib.hid he
                clear he
                go_upto_region 16 with (fail)
                go_region
                all_goals go_wp2
                have e3 := finW_row (k := ⟨#[]⟩) (s := ⟨#[]⟩) (v := ⟨#[]⟩) (p := p) (c := c) HT5.out.2.1 (show w.heap.size ≠ w.heap.size + 1 by omega)
                have e4 := finW_rid (k := ⟨#[]⟩) (s := ⟨#[]⟩) (v := ⟨#[]⟩) (p := p) (c := c) HT5.out.2.2 (show w.heap.size + 1 ≠ w.heap.size by omega)
                have eb := finW_below (g3 := w.heap.size) (g4 := w.heap.size + 1) (k := ⟨#[]⟩) (s := ⟨#[]⟩) (v := ⟨#[]⟩) (p := p) (c := c) HT5.out.1 (Nat.le_refl _) (by omega)
                clear x0 x1 x2 x3 x4 y0 y1 y2 y3 y4
                change bodyPost _ _ _ _ _ (finW w5 w.heap.size (w.heap.size + 1) ⟨#[]⟩ ⟨#[]⟩ ⟨#[]⟩ p c).drew
                generalize finW w5 w.heap.size (w.heap.size + 1) ⟨#[]⟩ ⟨#[]⟩ ⟨#[]⟩ p c = W9 at *
                exact bodyPost_ret (rrd_end' (a := 2) (er := 0) rfl rfl rfl rfl e3 e4) rfl ⟨_, _, _, _, _, _, _, .stub p c HQ.out HE.out.symm, rfl, eb.drew⟩
              · rw [decide_eq_false he] at hbe
                have hns : Hid (∀ p' c', placeB p' c' = true → 2 :: p :: c :: r ≠ stubL p' c') := fun p' c' _ e => by
                  have e1 : p = p' ∧ c = c' ∧ r = List.replicate 23 0 := by simpa [stubL] using e
                  obtain ⟨rfl, rfl, rfl⟩ := e1
                  exact he rfl
                clear he
                go_wp2
                have e3 := finW_row (k := ⟨#[]⟩) (s := ⟨#[]⟩) (v := ⟨#[]⟩) (p := 0) (c := 0) HT5.out.2.1 (show w.heap.size ≠ w.heap.size + 1 by omega)
                have e4 := finW_rid (k := ⟨#[]⟩) (s := ⟨#[]⟩) (v := ⟨#[]⟩) (p := 0) (c := 0) HT5.out.2.2 (show w.heap.size + 1 ≠ w.heap.size by omega)
                have eb := finW_below (g3 := w.heap.size) (g4 := w.heap.size + 1) (k := ⟨#[]⟩) (s := ⟨#[]⟩) (v := ⟨#[]⟩) (p := 0) (c := 0) HT5.out.1 (Nat.le_refl _) (by omega)
                clear x0 x1 x2 x3 x4 y0 y1 y2 y3 y4
                change bodyPost _ _ _ _ _ (finW w5 w.heap.size (w.heap.size + 1) ⟨#[]⟩ ⟨#[]⟩ ⟨#[]⟩ 0 0)
                generalize finW w5 w.heap.size (w.heap.size + 1) ⟨#[]⟩ ⟨#[]⟩ ⟨#[]⟩ 0 0 = W9 at *
                exact bodyPost_ret (rrd_end (a := 0) (er := 4) rfl rfl rfl rfl e3 e4) rfl ⟨_, _, _, _, _, _, _, .none H0.out HZ.out hnr.out hns.out, rfl, eb⟩
            · have hq' : placeB p c = false := by simpa using hq
              have hns : Hid (∀ p' c', placeB p' c' = true → 2 :: p :: c :: r ≠ stubL p' c') := fun p' c' hp e => by
                have e1 : p = p' ∧ c = c' ∧ r = List.replicate 23 0 := by simpa [stubL] using e
                obtain ⟨rfl, rfl, rfl⟩ := e1
                exact hq hp
              have hst := Lib.hid (rstub_bad wc p c hq')
              clear hq hq'
              go_wp2_with fail
              refine hst.out.mono ?_
              rintro e w5 ⟨rfl, hb5⟩
              have hT5 := (HT2.out.on HBr.out).on hb5
              have HT5 := Lib.hid hT5
              obtain ⟨⟨x0, x1, x2, x3, x4⟩, y0, y1, y2, y3, y4⟩ := hT5.cells
              clear hb5 hT5 r0 r1 hst hlt
              go_wp2
              have e3 := finW_row (k := ⟨#[]⟩) (s := ⟨#[]⟩) (v := ⟨#[]⟩) (p := 0) (c := 0) HT5.out.2.1 (show w.heap.size ≠ w.heap.size + 1 by omega)
              have e4 := finW_rid (k := ⟨#[]⟩) (s := ⟨#[]⟩) (v := ⟨#[]⟩) (p := 0) (c := 0) HT5.out.2.2 (show w.heap.size + 1 ≠ w.heap.size by omega)
              have eb := finW_below (g3 := w.heap.size) (g4 := w.heap.size + 1) (k := ⟨#[]⟩) (s := ⟨#[]⟩) (v := ⟨#[]⟩) (p := 0) (c := 0) HT5.out.1 (Nat.le_refl _) (by omega)
              clear x0 x1 x2 x3 x4 y0 y1 y2 y3 y4
              change bodyPost _ _ _ _ _ (finW w5 w.heap.size (w.heap.size + 1) ⟨#[]⟩ ⟨#[]⟩ ⟨#[]⟩ 0 0)
              generalize finW w5 w.heap.size (w.heap.size + 1) ⟨#[]⟩ ⟨#[]⟩ ⟨#[]⟩ 0 0 = W9 at *
              exact bodyPost_ret (rrd_end (a := 0) (er := 4) rfl rfl rfl rfl e3 e4) rfl ⟨_, _, _, _, _, _, _, .none H0.out HZ.out hnr.out hns.out, rfl, eb⟩
        · have hnr : Hid (∀ k s v, mayB k s v = true → x :: L ≠ rowL k s v) := fun k s v _ e => by rw [rowL_cons] at e; injection e with e; exact hx1 e
          have hns : Hid (∀ p c, placeB p c = true → x :: L ≠ stubL p c) := fun p c _ e => by have := congrArg (·.head?) e; simp [stubL] at this; exact hx2 this
          have j1 : (x == 1) = false := by simpa using hx1
          have j2 : (x == 2) = false := by simpa using hx2
          clear hx1 hx2
          go_wp2
          have e3 := finW_row (k := ⟨#[]⟩) (s := ⟨#[]⟩) (v := ⟨#[]⟩) (p := 0) (c := 0) HT2.out.2.1 (show w.heap.size ≠ w.heap.size + 1 by omega)
          have e4 := finW_rid (k := ⟨#[]⟩) (s := ⟨#[]⟩) (v := ⟨#[]⟩) (p := 0) (c := 0) HT2.out.2.2 (show w.heap.size + 1 ≠ w.heap.size by omega)
          have eb := finW_below (g3 := w.heap.size) (g4 := w.heap.size + 1) (k := ⟨#[]⟩) (s := ⟨#[]⟩) (v := ⟨#[]⟩) (p := 0) (c := 0) HT2.out.1 (Nat.le_refl _) (by omega)
          clear x0 x1 x2 x3 x4 y0 y1 y2 y3 y4
          change bodyPost _ _ _ _ _ (finW wc w.heap.size (w.heap.size + 1) ⟨#[]⟩ ⟨#[]⟩ ⟨#[]⟩ 0 0)
          generalize finW wc w.heap.size (w.heap.size + 1) ⟨#[]⟩ ⟨#[]⟩ ⟨#[]⟩ 0 0 = W9 at *
          exact bodyPost_ret (rrd_end (a := 0) (er := 4) rfl rfl rfl rfl e3 e4) rfl ⟨_, _, _, _, _, _, _, .none H0.out HZ.out hnr.out hns.out, rfl, eb⟩
    · have d1 : ((n : Int) != 26) = true := by simp; omega
      go_wp2
      have e3 := finW_row (k := ⟨#[]⟩) (s := ⟨#[]⟩) (v := ⟨#[]⟩) (p := 0) (c := 0) HT2.out.2.1 (show w.heap.size ≠ w.heap.size + 1 by omega)
      have e4 := finW_rid (k := ⟨#[]⟩) (s := ⟨#[]⟩) (v := ⟨#[]⟩) (p := 0) (c := 0) HT2.out.2.2 (show w.heap.size + 1 ≠ w.heap.size by omega)
      have eb := finW_below (g3 := w.heap.size) (g4 := w.heap.size + 1) (k := ⟨#[]⟩) (s := ⟨#[]⟩) (v := ⟨#[]⟩) (p := 0) (c := 0) HT2.out.1 (Nat.le_refl _) (by omega)
      clear x0 x1 x2 x3 x4 y0 y1 y2 y3 y4
      change bodyPost _ _ _ _ _ (finW wc w.heap.size (w.heap.size + 1) ⟨#[]⟩ ⟨#[]⟩ ⟨#[]⟩ 0 0)
      generalize finW wc w.heap.size (w.heap.size + 1) ⟨#[]⟩ ⟨#[]⟩ ⟨#[]⟩ 0 0 = W9 at *
      exact bodyPost_ret (rrd_end (a := 0) (er := 4) rfl rfl rfl rfl e3 e4) rfl ⟨_, _, _, _, _, _, _, .none H0.out HZ.out (fun k s v hm e => hn (by rw [← HLN.out.1, e, rowL_len hm])) (fun p c _ e => hn (by rw [← HLN.out.1, e]; rfl)), rfl, eb⟩

theorem rread_any (w : World) (v : Value) (l : List Int) (h : SlK .u8 w v l) : Calls Try.prog 16 #[v] w (RdPost w l) := by
  have hok := h.ok
  by_cases h0 : l = []
  · subst h0
    obtain ⟨p, cap, rfl, _⟩ := h
    exact (rread_nil w p cap).mono fun e w' hh => ⟨_, _, _, _, _, _, _, .empty (.inl rfl), hh⟩
  · have hp := h.pt h0
    obtain ⟨b, off, cap, rfl, _⟩ := id hp
    by_cases hz : l = z26
    · subst hz
      exact (rread_z w b off cap hp).mono fun e w' hh => ⟨_, _, _, _, _, _, _, .empty (.inr rfl), hh⟩
    · exact rread_ne w b off _ cap l hp hok h0 hz
end Go.Proofs.Ytmijdjlpfjfjoaa
