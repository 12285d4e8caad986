/- GapAll's walk: in any run both maps answer the same. -/
import Derived.Test.YtffflafafpdjdaaGpQ
namespace Go.Proofs.Ytffflafafpdjdaa
open Go.RowKit

theorem TO.mono {w0 w : World} {g b1 b2 r d1 d2 n T o : Nat} {s s' : St} {d : Ded} (h : TO w0 w g b1 b2 r d1 d2 n T o s s' d) {n' : Nat} (hn : n ≤ n') : TO w0 w g b1 b2 r d1 d2 n' T o s s' d := ⟨h.t.mono hn, h.ob, h.ga, h.ra⟩
theorem ob_cells {W : World} {o : Nat} {d : Ded} (h : OB W o d) : W.cell? ⟨o, 1, none⟩ = some (.int .i64 d.who) ∧ W.cell? ⟨o, 2, none⟩ = some (.int .i64 d.fr) ∧ W.cell? ⟨o, 3, none⟩ = some (.int .i64 d.tt) ∧ W.cell? ⟨o, 4, none⟩ = some (.int .i64 d.ce) ∧
    W.cell? ⟨o, 5, none⟩ = some (.int .i64 d.p) ∧ W.cell? ⟨o, 6, none⟩ = some (.int .i64 d.c) ∧ W.cell? ⟨o, 7, none⟩ = some (.bool d.us) :=
  ⟨(cell_of h 1).1, (cell_of h 2).1, (cell_of h 3).1, (cell_of h 4).1, (cell_of h 5).1, (cell_of h 6).1, (cell_of h 7).1⟩
theorem neq_rid (W : World) (p c : Int) : (binOp .neq 29 (.agg #[.int .i64 p, .int .i64 c]) (.agg #[.int .i64 p, .int .i64 c])).run Try.prog W = .ok (.bool false) W := by
  have hS : Try.prog.underlying 29 = some (.struct (Try.prog.fieldsOf 29)) := by kernel_rfl
  have hH : Try.prog.stoodInHeld 29 = false := by kernel_rfl
  have hu : Try.prog.underlying 3 = some (.int .i64) := Try.underlying3
  rw [run_neq_struct, show (10000 : Nat) = 9999 + 1 from rfl, run_equalIn_agg W 9999 _ _ _ hS hH]
  simp only [Program.fieldsOf, Try.underlying29]
  go_simp

set_option maxRecDepth 100000 in
set_option maxHeartbeats 8000000 in
theorem all_walk (w : World) (pages : Int) (A : Option Addr) (len cap b off : Nat) (hA : 0 < len → A = some ⟨b, off, none⟩) (hb : 0 < len → b < w.heap.size)
    (hc : ∀ i, i < len → ∃ d : Ded, d.at_ w b (off + i * 8) ∧ d.Wf) :
    Calls Try.prog 3 #[.int .i64 pages, .slice A len cap] w fun e w' => e = .returned (.bool true) ∧ Below w.heap.size w w' := by
  have CB := begun_any w
  have HA0 := Lib.hid hA
  have HB0 := Lib.hid hb
  have HC0 := Lib.hid hc
  clear hA hb hc
  go_enter Try.func3, Try.ntmps3
  go_upto_region 3 with (first | (go_at_call 6; refine CB.mono ?_; rintro e w0 ⟨rfl, hb0⟩))
  by_cases hlen : 60 < len
  · have hl : (60 : Int) < (len : Int) := by omega
    have HB := Lib.hid hb0
    clear CB hb0 hlen
    go_wp2
    go_ret
    exact ⟨rfl, HB.out⟩
  · have hl : ¬ (60 : Int) < (len : Int) := by omega
    have hl60 : (len : Int) ≤ 60 := by omega
    have CN := Lib.hid (new_g w0 pages)
    have HB := Lib.hid hb0
    have HL := Lib.hid hlen
    clear CB hb0 hlen
    go_upto_region 6 with (first
      | (go_at_call 7; refine CN.out.mono ?_; rintro e w1 ⟨g, b1, b2, rfl, hG, hb1, hk1⟩)
      | (go_at_call 8; refine (new_r w1 pages).mono ?_; rintro e w2 ⟨r, d1, d2, rfl, hR, hb2, hk2⟩))
    have HT : Hid (Tw w w2 g b1 b2 r d1 d2 0 w1.heap.size (St.new (pgs pages)) (St.new (pgs pages))) :=
      ⟨hG.on_ hb2, hR, (HB.out.trans (hb1.mono HB.out.size)).trans (hb2.mono (Nat.le_trans HB.out.size hb1.size)), fun k hk => ⟨Nat.le_trans HB.out.size (hk1 k hk), hG.lt hk⟩, hk2, Nat.le_trans HB.out.size hb1.size, hb2.size⟩
    clear CN hG hR hb1 hb2 hk1 hk2 HB
    generalize w1.heap.size = T at *
    go_upto_region 7 with fail
    go_loopw [7] (fun iv wr => Hid (∃ (i : Nat) (s : St) (d2 : Nat), i ≤ len ∧ iv = .int .i64 (i : Int) ∧ Tw w wr g b1 b2 r d1 d2 (200 * i) T s s)) (fun iv _ => len - (RowKit.intOf iv).toNat)
    case atStart => exact ⟨0, _, d2, Nat.zero_le _, rfl, HT.out⟩
    case round =>
      obtain ⟨i, s, d2, hi, rfl, h⟩ := hrel.out
      clear hrel HT
      have hi0 : 0 ≤ (i : Int) := by omega
      have HH := Lib.hid h
      clear h
      by_cases hlt : i < len
      · have hltI : (i : Int) < (len : Int) := by omega
        have hpos : 0 < len := by omega
        obtain rfl := HA0.out hpos
        obtain ⟨d, ⟨x0, x1, x2, x3, x4, x5, x6, x7⟩, hw⟩ := HC0.out i hlt
        have HBB := Lib.hid (HB0.out hpos)
        have HW := Lib.hid hw
        have hbe := HH.out.be
        have y0 := (hbe.cell (p := ⟨b, off + i * 8, none⟩) HBB.out).trans x0
        have y1 := (hbe.cell (p := ⟨b, off + i * 8 + 1, none⟩) HBB.out).trans x1
        have y2 := (hbe.cell (p := ⟨b, off + i * 8 + 2, none⟩) HBB.out).trans x2
        have y3 := (hbe.cell (p := ⟨b, off + i * 8 + 3, none⟩) HBB.out).trans x3
        have y4 := (hbe.cell (p := ⟨b, off + i * 8 + 4, none⟩) HBB.out).trans x4
        have y5 := (hbe.cell (p := ⟨b, off + i * 8 + 5, none⟩) HBB.out).trans x5
        have y6 := (hbe.cell (p := ⟨b, off + i * 8 + 6, none⟩) HBB.out).trans x6
        have y7 := (hbe.cell (p := ⟨b, off + i * 8 + 7, none⟩) HBB.out).trans x7
        have HI := Lib.hid hlt
        have hi60 : i < 60 := by omega
        clear x0 x1 x2 x3 x4 x5 x6 x7 hi hpos hw hbe
        go_upto_region 10 with fail
        have HT : Hid (TO w (wr.alloc (.cells #[.int .i64 d.kd, .int .i64 d.who, .int .i64 d.fr, .int .i64 d.tt, .int .i64 d.ce, .int .i64 d.p, .int .i64 d.c, .bool d.us] 31)) g b1 b2 r d1 d2 (200 * i) T wr.heap.size s s d) :=
          ⟨HH.out.on ((Below.refl _ _).alloc (Nat.le_refl _) _), heap_alloc_new_ _ _, fun e => Nat.lt_irrefl _ (HH.out.a.lt e), fun e => Nat.lt_irrefl _ (HH.out.rr.lt e)⟩
        clear y0 y1 y2 y3 y4 y5 y6 y7 HH
        generalize wr.alloc (.cells #[.int .i64 d.kd, .int .i64 d.who, .int .i64 d.fr, .int .i64 d.tt, .int .i64 d.ce, .int .i64 d.p, .int .i64 d.c, .bool d.us] 31) = w3 at *
        generalize wr.heap.size = o at *
        have c0 := (cell_of HT.out.ob 0).1
        have hkd := HW.out.kd
        go_cut [41] (fun q' wx => ∃ z : Int, 0 ≤ z ∧ z < 8 ∧ q' = .int .i64 z ∧ wx = w3)
        case first =>
          go_wp2_with fail
          go_meet
          have y1 := Int.lt_tmod_of_pos d.kd (show (0:Int) < 8 by omega)
          have y2 := Int.tmod_lt_of_pos d.kd (show (0:Int) < 8 by omega)
          have y3 : wrap64 (d.kd.tmod 8 + 8) = d.kd.tmod 8 + 8 := by unfold wrap64; omega
          refine ⟨_, ?_, ?_, rfl, rfl⟩
          · rw [y3]; exact Int.tmod_nonneg 8 (by omega)
          · exact Int.tmod_lt_of_pos _ (by omega)
        case rest =>
          obtain ⟨z, hz0, hz9, rfl, rfl⟩ := hcut
          clear c0 hkd
          have HMX : Hid (200 * i + 2 < maxLen) := by show 200 * i + 2 < maxLen; unfold maxLen; omega
          go_upto_block 2 with (fail)
          go_cut [] (fun wx => Hid (∃ (s' : St) (d3 : Nat), 0 ≤ i ∧ TO w wx g b1 b2 r d1 d3 (200 * i + 200) T o s' s' d))
          case first =>
            have HZ := Lib.hid (And.intro hz0 hz9)
            by_cases hz4 : z < 4
            · obtain ⟨sn, hsn⟩ : ∃ sn, sn = (if inB s.N d.p d.c = true then s.useS d.p d.c d.us else s) := ⟨_, rfl⟩
              obtain ⟨ib, hib⟩ : ∃ ib, inB s.N d.p d.c = ib := ⟨_, rfl⟩
              have CU1 : Hid (∀ W, TO w W g b1 b2 r d1 d2 (200 * i) T o s s d → Calls Try.prog 9 #[.pointer (some ⟨g, 0, none⟩), .agg #[.int .i64 d.p, .int .i64 d.c], .bool d.us] W fun e w' => e = .returned (.bool ib) ∧ TO w w' g b1 b2 r d1 d2 (200 * i + 1) T o sn s d) := fun W h => by
                rw [hsn, ← hib]; exact to_use_g h (by have := HMX.out; omega) HW.out
              have CU2 : Hid (∀ W, TO w W g b1 b2 r d1 d2 (200 * i + 1) T o sn s d → Calls Try.prog 10 #[.pointer (some ⟨r, 0, none⟩), .agg #[.int .i64 d.p, .int .i64 d.c], .bool d.us] W fun e w' => e = .returned (.bool ib) ∧ TO w w' g b1 b2 r d1 d2 (200 * i + 2) T o sn sn d) := fun W h => by
                have := to_use_r h (by have := HMX.out; omega) HW.out
                rw [← hsn, hib] at this; exact this
              clear hsn hib
              go_upto_if 42 with (fail)
              go_cut [42] (fun u wx => u = .bool true ∧ wx = wc)
              case first =>
                rcases (by omega : z = 0 ∨ z = 1 ∨ z = 2 ∨ z = 3) with rfl | rfl | rfl | rfl
                all_goals
                  go_wp2_with fail
                  go_meet
                  exact ⟨rfl, rfl⟩
              case rest =>
                obtain ⟨rfl, rfl⟩ := hcut
                cases ib
                · as_aux_lemma =>
                  go_upto_region 15 with fail
                  refine wp_region_F (fun (_ : Unit) W => OB W o d) (fun _ j => Nat.beq j 99) (by kernel_rfl) ?_
                  have HK0 := Lib.hid (HT.out.on ((Below.refl _ _).drew))
                  generalize wc.drew = WK0 at *
                  refine wpAnyF_take0 (i := 0) (oi := ⟨_, _, _, _, _, _⟩) (v := ?_) rfl (by kernel_rfl) (by kernel_rfl) (by kernel_rfl) (fun _ _ _ h => h) (Or.inl ⟨by rfl, ?_⟩) ?_
                  rotate_left
                  · intro W _
                    go_simp
                    try with_reducible rfl
                  rotate_left
                  try simp only [Act.put, List.setIfInBounds_toArray, List.set_cons_zero, List.set_cons_succ]
                  refine wpAnyF_take0 (i := 1) (oi := ⟨_, _, _, _, _, _⟩) (v := ?_) rfl (by kernel_rfl) (by kernel_rfl) (by kernel_rfl) (fun _ _ _ h => h) (Or.inl ⟨by rfl, ?_⟩) ?_
                  rotate_left
                  · intro W _
                    go_simp
                    try with_reducible rfl
                  rotate_left
                  try simp only [Act.put, List.setIfInBounds_toArray, List.set_cons_zero, List.set_cons_succ]
                  refine wpAnyF_take () (i := 2) (oi := ⟨_, _, _, _, _, _⟩) (v := (.agg #[.int .i64 d.p, .int .i64 d.c])) rfl (by kernel_rfl) (by kernel_rfl) (by kernel_rfl) (by kernel_rfl) (fun _ _ _ h => h) HK0.out.ob (Or.inl ⟨by rfl, fun W hSW => ?_⟩) ?_
                  · have hS := ob_cells hSW
                    obtain ⟨h1, h2, h3, h4, h5, h6, h7⟩ := hS
                    go_simp
                  try simp only [Act.put, List.setIfInBounds_toArray, List.set_cons_zero, List.set_cons_succ]
                  refine wpAnyF_take0 (i := 3) (oi := ⟨_, _, _, _, _, _⟩) (v := ?_) rfl (by kernel_rfl) (by kernel_rfl) (by kernel_rfl) (fun _ _ _ h => h) (Or.inl ⟨by rfl, ?_⟩) ?_
                  rotate_left
                  · intro W _
                    go_simp
                    try with_reducible rfl
                  rotate_left
                  try simp only [Act.put, List.setIfInBounds_toArray, List.set_cons_zero, List.set_cons_succ]
                  refine wpAnyF_take () (i := 4) (oi := ⟨_, _, _, _, _, _⟩) (v := (.bool d.us)) rfl (by kernel_rfl) (by kernel_rfl) (by kernel_rfl) (by kernel_rfl) (fun _ _ _ h => h) HK0.out.ob (Or.inl ⟨by rfl, fun W hSW => ?_⟩) ?_
                  · have hS := ob_cells hSW
                    obtain ⟨h1, h2, h3, h4, h5, h6, h7⟩ := hS
                    go_simp
                  try simp only [Act.put, List.setIfInBounds_toArray, List.set_cons_zero, List.set_cons_succ]
                  refine wpAnyF_take0 (i := 6) (oi := ⟨_, _, _, _, _, _⟩) (v := ?_) rfl (by kernel_rfl) (by kernel_rfl) (by kernel_rfl) (fun _ _ _ h => h) (Or.inl ⟨by rfl, ?_⟩) ?_
                  rotate_left
                  · intro W _
                    go_simp
                    try with_reducible rfl
                  rotate_left
                  try simp only [Act.put, List.setIfInBounds_toArray, List.set_cons_zero, List.set_cons_succ]
                  refine wpAnyF_take0 (i := 7) (oi := ⟨_, _, _, _, _, _⟩) (v := ?_) rfl (by kernel_rfl) (by kernel_rfl) (by kernel_rfl) (fun _ _ _ h => h) (Or.inl ⟨by rfl, ?_⟩) ?_
                  rotate_left
                  · intro W _
                    go_simp
                    try with_reducible rfl
                  rotate_left
                  try simp only [Act.put, List.setIfInBounds_toArray, List.set_cons_zero, List.set_cons_succ]
                  refine wpAnyF_take () (i := 8) (oi := ⟨_, _, _, _, _, _⟩) (v := (.agg #[.int .i64 d.p, .int .i64 d.c])) rfl (by kernel_rfl) (by kernel_rfl) (by kernel_rfl) (by kernel_rfl) (fun _ _ _ h => h) HK0.out.ob (Or.inl ⟨by rfl, fun W hSW => ?_⟩) ?_
                  · have hS := ob_cells hSW
                    obtain ⟨h1, h2, h3, h4, h5, h6, h7⟩ := hS
                    go_simp
                  try simp only [Act.put, List.setIfInBounds_toArray, List.set_cons_zero, List.set_cons_succ]
                  refine wpAnyF_take0 (i := 9) (oi := ⟨_, _, _, _, _, _⟩) (v := ?_) rfl (by kernel_rfl) (by kernel_rfl) (by kernel_rfl) (fun _ _ _ h => h) (Or.inl ⟨by rfl, ?_⟩) ?_
                  rotate_left
                  · intro W _
                    go_simp
                    try with_reducible rfl
                  rotate_left
                  try simp only [Act.put, List.setIfInBounds_toArray, List.set_cons_zero, List.set_cons_succ]
                  refine wpAnyF_take () (i := 10) (oi := ⟨_, _, _, _, _, _⟩) (v := (.bool d.us)) rfl (by kernel_rfl) (by kernel_rfl) (by kernel_rfl) (by kernel_rfl) (fun _ _ _ h => h) HK0.out.ob (Or.inl ⟨by rfl, fun W hSW => ?_⟩) ?_
                  · have hS := ob_cells hSW
                    obtain ⟨h1, h2, h3, h4, h5, h6, h7⟩ := hS
                    go_simp
                  try simp only [Act.put, List.setIfInBounds_toArray, List.set_cons_zero, List.set_cons_succ]
                  refine wpAnyF_ready (rs := [5]) (by kernel_rfl) (by simp) ?_
                  refine AllReadyF.cons (o := ⟨_, _, _, _, _, _⟩) rfl (fun K hK => ?_) AllReadyF.nil
                  rw [if_pos (by rfl)]
                  go_simp
                  go_at_call 9
                  refine (CU1.out _ HK0.out).mono ?_
                  rintro e WK1 ⟨rfl, h1⟩
                  have HK1 := Lib.hid h1
                  clear h1
                  go_wp2_with fail
                  refine hK.out _ _ (fun _ _ _ => HK1.out.ob) ?_
                  clear hK K
                  try simp only [Act.put, List.setIfInBounds_toArray, List.set_cons_zero, List.set_cons_succ]
                  refine wpAnyF_ready (rs := [11]) (by kernel_rfl) (by simp) ?_
                  refine AllReadyF.cons (o := ⟨_, _, _, _, _, _⟩) rfl (fun K hK => ?_) AllReadyF.nil
                  rw [if_pos (by rfl)]
                  go_simp
                  go_at_call 10
                  refine (CU2.out _ HK1.out).mono ?_
                  rintro e WK2 ⟨rfl, h2⟩
                  have HK2 := Lib.hid h2
                  clear h2
                  go_wp2_with fail
                  refine hK.out _ _ (fun _ _ _ => HK2.out.ob) ?_
                  clear hK K
                  try simp only [Act.put, List.setIfInBounds_toArray, List.set_cons_zero, List.set_cons_succ]
                  refine wpAnyF_take0 (i := 12) (oi := ⟨_, _, _, _, _, _⟩) (v := (.bool false)) rfl (by kernel_rfl) (by kernel_rfl) (by kernel_rfl) (fun _ _ _ h => h) (Or.inl ⟨by rfl, fun W _ => ?_⟩) ?_
                  · go_simp
                  try simp only [Act.put, List.setIfInBounds_toArray, List.set_cons_zero, List.set_cons_succ]
                  refine wpAnyF_done (by kernel_rfl) ?_ _
                  go_wp2_with fail
                  go_meet
                  exact ⟨_, d2, Nat.zero_le _, HK2.out.mono (by omega)⟩
                · as_aux_lemma =>
                  go_upto_region 15 with fail
                  refine wp_region_F (fun (_ : Unit) W => OB W o d) (fun _ j => Nat.beq j 99) (by kernel_rfl) ?_
                  have HK0 := Lib.hid (HT.out.on ((Below.refl _ _).drew))
                  generalize wc.drew = WK0 at *
                  refine wpAnyF_take0 (i := 0) (oi := ⟨_, _, _, _, _, _⟩) (v := ?_) rfl (by kernel_rfl) (by kernel_rfl) (by kernel_rfl) (fun _ _ _ h => h) (Or.inl ⟨by rfl, ?_⟩) ?_
                  rotate_left
                  · intro W _
                    go_simp
                    try with_reducible rfl
                  rotate_left
                  try simp only [Act.put, List.setIfInBounds_toArray, List.set_cons_zero, List.set_cons_succ]
                  refine wpAnyF_take0 (i := 1) (oi := ⟨_, _, _, _, _, _⟩) (v := ?_) rfl (by kernel_rfl) (by kernel_rfl) (by kernel_rfl) (fun _ _ _ h => h) (Or.inl ⟨by rfl, ?_⟩) ?_
                  rotate_left
                  · intro W _
                    go_simp
                    try with_reducible rfl
                  rotate_left
                  try simp only [Act.put, List.setIfInBounds_toArray, List.set_cons_zero, List.set_cons_succ]
                  refine wpAnyF_take () (i := 2) (oi := ⟨_, _, _, _, _, _⟩) (v := (.agg #[.int .i64 d.p, .int .i64 d.c])) rfl (by kernel_rfl) (by kernel_rfl) (by kernel_rfl) (by kernel_rfl) (fun _ _ _ h => h) HK0.out.ob (Or.inl ⟨by rfl, fun W hSW => ?_⟩) ?_
                  · have hS := ob_cells hSW
                    obtain ⟨h1, h2, h3, h4, h5, h6, h7⟩ := hS
                    go_simp
                  try simp only [Act.put, List.setIfInBounds_toArray, List.set_cons_zero, List.set_cons_succ]
                  refine wpAnyF_take0 (i := 3) (oi := ⟨_, _, _, _, _, _⟩) (v := ?_) rfl (by kernel_rfl) (by kernel_rfl) (by kernel_rfl) (fun _ _ _ h => h) (Or.inl ⟨by rfl, ?_⟩) ?_
                  rotate_left
                  · intro W _
                    go_simp
                    try with_reducible rfl
                  rotate_left
                  try simp only [Act.put, List.setIfInBounds_toArray, List.set_cons_zero, List.set_cons_succ]
                  refine wpAnyF_take () (i := 4) (oi := ⟨_, _, _, _, _, _⟩) (v := (.bool d.us)) rfl (by kernel_rfl) (by kernel_rfl) (by kernel_rfl) (by kernel_rfl) (fun _ _ _ h => h) HK0.out.ob (Or.inl ⟨by rfl, fun W hSW => ?_⟩) ?_
                  · have hS := ob_cells hSW
                    obtain ⟨h1, h2, h3, h4, h5, h6, h7⟩ := hS
                    go_simp
                  try simp only [Act.put, List.setIfInBounds_toArray, List.set_cons_zero, List.set_cons_succ]
                  refine wpAnyF_take0 (i := 6) (oi := ⟨_, _, _, _, _, _⟩) (v := ?_) rfl (by kernel_rfl) (by kernel_rfl) (by kernel_rfl) (fun _ _ _ h => h) (Or.inl ⟨by rfl, ?_⟩) ?_
                  rotate_left
                  · intro W _
                    go_simp
                    try with_reducible rfl
                  rotate_left
                  try simp only [Act.put, List.setIfInBounds_toArray, List.set_cons_zero, List.set_cons_succ]
                  refine wpAnyF_take0 (i := 7) (oi := ⟨_, _, _, _, _, _⟩) (v := ?_) rfl (by kernel_rfl) (by kernel_rfl) (by kernel_rfl) (fun _ _ _ h => h) (Or.inl ⟨by rfl, ?_⟩) ?_
                  rotate_left
                  · intro W _
                    go_simp
                    try with_reducible rfl
                  rotate_left
                  try simp only [Act.put, List.setIfInBounds_toArray, List.set_cons_zero, List.set_cons_succ]
                  refine wpAnyF_take () (i := 8) (oi := ⟨_, _, _, _, _, _⟩) (v := (.agg #[.int .i64 d.p, .int .i64 d.c])) rfl (by kernel_rfl) (by kernel_rfl) (by kernel_rfl) (by kernel_rfl) (fun _ _ _ h => h) HK0.out.ob (Or.inl ⟨by rfl, fun W hSW => ?_⟩) ?_
                  · have hS := ob_cells hSW
                    obtain ⟨h1, h2, h3, h4, h5, h6, h7⟩ := hS
                    go_simp
                  try simp only [Act.put, List.setIfInBounds_toArray, List.set_cons_zero, List.set_cons_succ]
                  refine wpAnyF_take0 (i := 9) (oi := ⟨_, _, _, _, _, _⟩) (v := ?_) rfl (by kernel_rfl) (by kernel_rfl) (by kernel_rfl) (fun _ _ _ h => h) (Or.inl ⟨by rfl, ?_⟩) ?_
                  rotate_left
                  · intro W _
                    go_simp
                    try with_reducible rfl
                  rotate_left
                  try simp only [Act.put, List.setIfInBounds_toArray, List.set_cons_zero, List.set_cons_succ]
                  refine wpAnyF_take () (i := 10) (oi := ⟨_, _, _, _, _, _⟩) (v := (.bool d.us)) rfl (by kernel_rfl) (by kernel_rfl) (by kernel_rfl) (by kernel_rfl) (fun _ _ _ h => h) HK0.out.ob (Or.inl ⟨by rfl, fun W hSW => ?_⟩) ?_
                  · have hS := ob_cells hSW
                    obtain ⟨h1, h2, h3, h4, h5, h6, h7⟩ := hS
                    go_simp
                  try simp only [Act.put, List.setIfInBounds_toArray, List.set_cons_zero, List.set_cons_succ]
                  refine wpAnyF_ready (rs := [5]) (by kernel_rfl) (by simp) ?_
                  refine AllReadyF.cons (o := ⟨_, _, _, _, _, _⟩) rfl (fun K hK => ?_) AllReadyF.nil
                  rw [if_pos (by rfl)]
                  go_simp
                  go_at_call 9
                  refine (CU1.out _ HK0.out).mono ?_
                  rintro e WK1 ⟨rfl, h1⟩
                  have HK1 := Lib.hid h1
                  clear h1
                  go_wp2_with fail
                  refine hK.out _ _ (fun _ _ _ => HK1.out.ob) ?_
                  clear hK K
                  try simp only [Act.put, List.setIfInBounds_toArray, List.set_cons_zero, List.set_cons_succ]
                  refine wpAnyF_ready (rs := [11]) (by kernel_rfl) (by simp) ?_
                  refine AllReadyF.cons (o := ⟨_, _, _, _, _, _⟩) rfl (fun K hK => ?_) AllReadyF.nil
                  rw [if_pos (by rfl)]
                  go_simp
                  go_at_call 10
                  refine (CU2.out _ HK1.out).mono ?_
                  rintro e WK2 ⟨rfl, h2⟩
                  have HK2 := Lib.hid h2
                  clear h2
                  go_wp2_with fail
                  refine hK.out _ _ (fun _ _ _ => HK2.out.ob) ?_
                  clear hK K
                  try simp only [Act.put, List.setIfInBounds_toArray, List.set_cons_zero, List.set_cons_succ]
                  refine wpAnyF_take0 (i := 12) (oi := ⟨_, _, _, _, _, _⟩) (v := (.bool false)) rfl (by kernel_rfl) (by kernel_rfl) (by kernel_rfl) (fun _ _ _ h => h) (Or.inl ⟨by rfl, fun W _ => ?_⟩) ?_
                  · go_simp
                  try simp only [Act.put, List.setIfInBounds_toArray, List.set_cons_zero, List.set_cons_succ]
                  refine wpAnyF_done (by kernel_rfl) ?_ _
                  go_wp2_with fail
                  go_meet
                  exact ⟨_, d2, Nat.zero_le _, HK2.out.mono (by omega)⟩
            · by_cases hz6 : z < 6
              · obtain ⟨ib, hib⟩ : ∃ ib, canHold s d.who d.p d.c = ib := ⟨_, rfl⟩
                have CU1 : Hid (∀ W, TO w W g b1 b2 r d1 d2 (200 * i) T o s s d → Calls Try.prog 11 #[.pointer (some ⟨g, 0, none⟩), .int .i64 d.who, .agg #[.int .i64 d.p, .int .i64 d.c]] W fun e w' => e = .returned (.bool ib) ∧ TO w w' g b1 b2 r d1 d2 (200 * i + 1) T o (s.hold d.who d.p d.c) s d) := fun W h => by
                  rw [← hib]; exact to_hold_g h (by have := HMX.out; omega) HW.out
                have CU2 : Hid (∀ W, TO w W g b1 b2 r d1 d2 (200 * i + 1) T o (s.hold d.who d.p d.c) s d → Calls Try.prog 12 #[.pointer (some ⟨r, 0, none⟩), .int .i64 d.who, .agg #[.int .i64 d.p, .int .i64 d.c]] W fun e w' => e = .returned (.bool ib) ∧ TO w w' g b1 b2 r d1 d2 (200 * i + 2) T o (s.hold d.who d.p d.c) (s.hold d.who d.p d.c) d) := fun W h => by
                  rw [← hib]; exact to_hold_r h (by have := HMX.out; omega) HW.out
                clear hib
                go_upto_if 60 with (fail)
                go_cut [60] (fun u wx => u = .bool true ∧ wx = wc)
                case first =>
                  rcases (by omega : z = 4 ∨ z = 5) with rfl | rfl
                  all_goals
                    go_wp2_with fail
                    go_meet
                    exact ⟨rfl, rfl⟩
                case rest =>
                  obtain ⟨rfl, rfl⟩ := hcut
                  cases ib
                  · as_aux_lemma =>
                    go_upto_region 19 with fail
                    refine wp_region_F (fun (_ : Unit) W => OB W o d) (fun _ j => Nat.beq j 99) (by kernel_rfl) ?_
                    have HK0 := Lib.hid (HT.out.on ((Below.refl _ _).drew))
                    generalize wc.drew = WK0 at *
                    refine wpAnyF_take0 (i := 0) (oi := ⟨_, _, _, _, _, _⟩) (v := ?_) rfl (by kernel_rfl) (by kernel_rfl) (by kernel_rfl) (fun _ _ _ h => h) (Or.inl ⟨by rfl, ?_⟩) ?_
                    rotate_left
                    · intro W _
                      go_simp
                      try with_reducible rfl
                    rotate_left
                    try simp only [Act.put, List.setIfInBounds_toArray, List.set_cons_zero, List.set_cons_succ]
                    refine wpAnyF_take0 (i := 1) (oi := ⟨_, _, _, _, _, _⟩) (v := ?_) rfl (by kernel_rfl) (by kernel_rfl) (by kernel_rfl) (fun _ _ _ h => h) (Or.inl ⟨by rfl, ?_⟩) ?_
                    rotate_left
                    · intro W _
                      go_simp
                      try with_reducible rfl
                    rotate_left
                    try simp only [Act.put, List.setIfInBounds_toArray, List.set_cons_zero, List.set_cons_succ]
                    refine wpAnyF_take () (i := 2) (oi := ⟨_, _, _, _, _, _⟩) (v := (.int .i64 d.who)) rfl (by kernel_rfl) (by kernel_rfl) (by kernel_rfl) (by kernel_rfl) (fun _ _ _ h => h) HK0.out.ob (Or.inl ⟨by rfl, fun W hSW => ?_⟩) ?_
                    · have hS := ob_cells hSW
                      obtain ⟨h1, h2, h3, h4, h5, h6, h7⟩ := hS
                      go_simp
                    try simp only [Act.put, List.setIfInBounds_toArray, List.set_cons_zero, List.set_cons_succ]
                    refine wpAnyF_take0 (i := 3) (oi := ⟨_, _, _, _, _, _⟩) (v := ?_) rfl (by kernel_rfl) (by kernel_rfl) (by kernel_rfl) (fun _ _ _ h => h) (Or.inl ⟨by rfl, ?_⟩) ?_
                    rotate_left
                    · intro W _
                      go_simp
                      try with_reducible rfl
                    rotate_left
                    try simp only [Act.put, List.setIfInBounds_toArray, List.set_cons_zero, List.set_cons_succ]
                    refine wpAnyF_take () (i := 4) (oi := ⟨_, _, _, _, _, _⟩) (v := (.agg #[.int .i64 d.p, .int .i64 d.c])) rfl (by kernel_rfl) (by kernel_rfl) (by kernel_rfl) (by kernel_rfl) (fun _ _ _ h => h) HK0.out.ob (Or.inl ⟨by rfl, fun W hSW => ?_⟩) ?_
                    · have hS := ob_cells hSW
                      obtain ⟨h1, h2, h3, h4, h5, h6, h7⟩ := hS
                      go_simp
                    try simp only [Act.put, List.setIfInBounds_toArray, List.set_cons_zero, List.set_cons_succ]
                    refine wpAnyF_take0 (i := 6) (oi := ⟨_, _, _, _, _, _⟩) (v := ?_) rfl (by kernel_rfl) (by kernel_rfl) (by kernel_rfl) (fun _ _ _ h => h) (Or.inl ⟨by rfl, ?_⟩) ?_
                    rotate_left
                    · intro W _
                      go_simp
                      try with_reducible rfl
                    rotate_left
                    try simp only [Act.put, List.setIfInBounds_toArray, List.set_cons_zero, List.set_cons_succ]
                    refine wpAnyF_take0 (i := 7) (oi := ⟨_, _, _, _, _, _⟩) (v := ?_) rfl (by kernel_rfl) (by kernel_rfl) (by kernel_rfl) (fun _ _ _ h => h) (Or.inl ⟨by rfl, ?_⟩) ?_
                    rotate_left
                    · intro W _
                      go_simp
                      try with_reducible rfl
                    rotate_left
                    try simp only [Act.put, List.setIfInBounds_toArray, List.set_cons_zero, List.set_cons_succ]
                    refine wpAnyF_take () (i := 8) (oi := ⟨_, _, _, _, _, _⟩) (v := (.int .i64 d.who)) rfl (by kernel_rfl) (by kernel_rfl) (by kernel_rfl) (by kernel_rfl) (fun _ _ _ h => h) HK0.out.ob (Or.inl ⟨by rfl, fun W hSW => ?_⟩) ?_
                    · have hS := ob_cells hSW
                      obtain ⟨h1, h2, h3, h4, h5, h6, h7⟩ := hS
                      go_simp
                    try simp only [Act.put, List.setIfInBounds_toArray, List.set_cons_zero, List.set_cons_succ]
                    refine wpAnyF_take0 (i := 9) (oi := ⟨_, _, _, _, _, _⟩) (v := ?_) rfl (by kernel_rfl) (by kernel_rfl) (by kernel_rfl) (fun _ _ _ h => h) (Or.inl ⟨by rfl, ?_⟩) ?_
                    rotate_left
                    · intro W _
                      go_simp
                      try with_reducible rfl
                    rotate_left
                    try simp only [Act.put, List.setIfInBounds_toArray, List.set_cons_zero, List.set_cons_succ]
                    refine wpAnyF_take () (i := 10) (oi := ⟨_, _, _, _, _, _⟩) (v := (.agg #[.int .i64 d.p, .int .i64 d.c])) rfl (by kernel_rfl) (by kernel_rfl) (by kernel_rfl) (by kernel_rfl) (fun _ _ _ h => h) HK0.out.ob (Or.inl ⟨by rfl, fun W hSW => ?_⟩) ?_
                    · have hS := ob_cells hSW
                      obtain ⟨h1, h2, h3, h4, h5, h6, h7⟩ := hS
                      go_simp
                    try simp only [Act.put, List.setIfInBounds_toArray, List.set_cons_zero, List.set_cons_succ]
                    refine wpAnyF_ready (rs := [5]) (by kernel_rfl) (by simp) ?_
                    refine AllReadyF.cons (o := ⟨_, _, _, _, _, _⟩) rfl (fun K hK => ?_) AllReadyF.nil
                    rw [if_pos (by rfl)]
                    go_simp
                    go_at_call 11
                    refine (CU1.out _ HK0.out).mono ?_
                    rintro e WK1 ⟨rfl, h1⟩
                    have HK1 := Lib.hid h1
                    clear h1
                    go_wp2_with fail
                    refine hK.out _ _ (fun _ _ _ => HK1.out.ob) ?_
                    clear hK K
                    try simp only [Act.put, List.setIfInBounds_toArray, List.set_cons_zero, List.set_cons_succ]
                    refine wpAnyF_ready (rs := [11]) (by kernel_rfl) (by simp) ?_
                    refine AllReadyF.cons (o := ⟨_, _, _, _, _, _⟩) rfl (fun K hK => ?_) AllReadyF.nil
                    rw [if_pos (by rfl)]
                    go_simp
                    go_at_call 12
                    refine (CU2.out _ HK1.out).mono ?_
                    rintro e WK2 ⟨rfl, h2⟩
                    have HK2 := Lib.hid h2
                    clear h2
                    go_wp2_with fail
                    refine hK.out _ _ (fun _ _ _ => HK2.out.ob) ?_
                    clear hK K
                    try simp only [Act.put, List.setIfInBounds_toArray, List.set_cons_zero, List.set_cons_succ]
                    refine wpAnyF_take0 (i := 12) (oi := ⟨_, _, _, _, _, _⟩) (v := (.bool false)) rfl (by kernel_rfl) (by kernel_rfl) (by kernel_rfl) (fun _ _ _ h => h) (Or.inl ⟨by rfl, fun W _ => ?_⟩) ?_
                    · go_simp
                    try simp only [Act.put, List.setIfInBounds_toArray, List.set_cons_zero, List.set_cons_succ]
                    refine wpAnyF_done (by kernel_rfl) ?_ _
                    go_wp2_with fail
                    go_meet
                    exact ⟨_, d2, Nat.zero_le _, HK2.out.mono (by omega)⟩
                  · as_aux_lemma =>
                    go_upto_region 19 with fail
                    refine wp_region_F (fun (_ : Unit) W => OB W o d) (fun _ j => Nat.beq j 99) (by kernel_rfl) ?_
                    have HK0 := Lib.hid (HT.out.on ((Below.refl _ _).drew))
                    generalize wc.drew = WK0 at *
                    refine wpAnyF_take0 (i := 0) (oi := ⟨_, _, _, _, _, _⟩) (v := ?_) rfl (by kernel_rfl) (by kernel_rfl) (by kernel_rfl) (fun _ _ _ h => h) (Or.inl ⟨by rfl, ?_⟩) ?_
                    rotate_left
                    · intro W _
                      go_simp
                      try with_reducible rfl
                    rotate_left
                    try simp only [Act.put, List.setIfInBounds_toArray, List.set_cons_zero, List.set_cons_succ]
                    refine wpAnyF_take0 (i := 1) (oi := ⟨_, _, _, _, _, _⟩) (v := ?_) rfl (by kernel_rfl) (by kernel_rfl) (by kernel_rfl) (fun _ _ _ h => h) (Or.inl ⟨by rfl, ?_⟩) ?_
                    rotate_left
                    · intro W _
                      go_simp
                      try with_reducible rfl
                    rotate_left
                    try simp only [Act.put, List.setIfInBounds_toArray, List.set_cons_zero, List.set_cons_succ]
                    refine wpAnyF_take () (i := 2) (oi := ⟨_, _, _, _, _, _⟩) (v := (.int .i64 d.who)) rfl (by kernel_rfl) (by kernel_rfl) (by kernel_rfl) (by kernel_rfl) (fun _ _ _ h => h) HK0.out.ob (Or.inl ⟨by rfl, fun W hSW => ?_⟩) ?_
                    · have hS := ob_cells hSW
                      obtain ⟨h1, h2, h3, h4, h5, h6, h7⟩ := hS
                      go_simp
                    try simp only [Act.put, List.setIfInBounds_toArray, List.set_cons_zero, List.set_cons_succ]
                    refine wpAnyF_take0 (i := 3) (oi := ⟨_, _, _, _, _, _⟩) (v := ?_) rfl (by kernel_rfl) (by kernel_rfl) (by kernel_rfl) (fun _ _ _ h => h) (Or.inl ⟨by rfl, ?_⟩) ?_
                    rotate_left
                    · intro W _
                      go_simp
                      try with_reducible rfl
                    rotate_left
                    try simp only [Act.put, List.setIfInBounds_toArray, List.set_cons_zero, List.set_cons_succ]
                    refine wpAnyF_take () (i := 4) (oi := ⟨_, _, _, _, _, _⟩) (v := (.agg #[.int .i64 d.p, .int .i64 d.c])) rfl (by kernel_rfl) (by kernel_rfl) (by kernel_rfl) (by kernel_rfl) (fun _ _ _ h => h) HK0.out.ob (Or.inl ⟨by rfl, fun W hSW => ?_⟩) ?_
                    · have hS := ob_cells hSW
                      obtain ⟨h1, h2, h3, h4, h5, h6, h7⟩ := hS
                      go_simp
                    try simp only [Act.put, List.setIfInBounds_toArray, List.set_cons_zero, List.set_cons_succ]
                    refine wpAnyF_take0 (i := 6) (oi := ⟨_, _, _, _, _, _⟩) (v := ?_) rfl (by kernel_rfl) (by kernel_rfl) (by kernel_rfl) (fun _ _ _ h => h) (Or.inl ⟨by rfl, ?_⟩) ?_
                    rotate_left
                    · intro W _
                      go_simp
                      try with_reducible rfl
                    rotate_left
                    try simp only [Act.put, List.setIfInBounds_toArray, List.set_cons_zero, List.set_cons_succ]
                    refine wpAnyF_take0 (i := 7) (oi := ⟨_, _, _, _, _, _⟩) (v := ?_) rfl (by kernel_rfl) (by kernel_rfl) (by kernel_rfl) (fun _ _ _ h => h) (Or.inl ⟨by rfl, ?_⟩) ?_
                    rotate_left
                    · intro W _
                      go_simp
                      try with_reducible rfl
                    rotate_left
                    try simp only [Act.put, List.setIfInBounds_toArray, List.set_cons_zero, List.set_cons_succ]
                    refine wpAnyF_take () (i := 8) (oi := ⟨_, _, _, _, _, _⟩) (v := (.int .i64 d.who)) rfl (by kernel_rfl) (by kernel_rfl) (by kernel_rfl) (by kernel_rfl) (fun _ _ _ h => h) HK0.out.ob (Or.inl ⟨by rfl, fun W hSW => ?_⟩) ?_
                    · have hS := ob_cells hSW
                      obtain ⟨h1, h2, h3, h4, h5, h6, h7⟩ := hS
                      go_simp
                    try simp only [Act.put, List.setIfInBounds_toArray, List.set_cons_zero, List.set_cons_succ]
                    refine wpAnyF_take0 (i := 9) (oi := ⟨_, _, _, _, _, _⟩) (v := ?_) rfl (by kernel_rfl) (by kernel_rfl) (by kernel_rfl) (fun _ _ _ h => h) (Or.inl ⟨by rfl, ?_⟩) ?_
                    rotate_left
                    · intro W _
                      go_simp
                      try with_reducible rfl
                    rotate_left
                    try simp only [Act.put, List.setIfInBounds_toArray, List.set_cons_zero, List.set_cons_succ]
                    refine wpAnyF_take () (i := 10) (oi := ⟨_, _, _, _, _, _⟩) (v := (.agg #[.int .i64 d.p, .int .i64 d.c])) rfl (by kernel_rfl) (by kernel_rfl) (by kernel_rfl) (by kernel_rfl) (fun _ _ _ h => h) HK0.out.ob (Or.inl ⟨by rfl, fun W hSW => ?_⟩) ?_
                    · have hS := ob_cells hSW
                      obtain ⟨h1, h2, h3, h4, h5, h6, h7⟩ := hS
                      go_simp
                    try simp only [Act.put, List.setIfInBounds_toArray, List.set_cons_zero, List.set_cons_succ]
                    refine wpAnyF_ready (rs := [5]) (by kernel_rfl) (by simp) ?_
                    refine AllReadyF.cons (o := ⟨_, _, _, _, _, _⟩) rfl (fun K hK => ?_) AllReadyF.nil
                    rw [if_pos (by rfl)]
                    go_simp
                    go_at_call 11
                    refine (CU1.out _ HK0.out).mono ?_
                    rintro e WK1 ⟨rfl, h1⟩
                    have HK1 := Lib.hid h1
                    clear h1
                    go_wp2_with fail
                    refine hK.out _ _ (fun _ _ _ => HK1.out.ob) ?_
                    clear hK K
                    try simp only [Act.put, List.setIfInBounds_toArray, List.set_cons_zero, List.set_cons_succ]
                    refine wpAnyF_ready (rs := [11]) (by kernel_rfl) (by simp) ?_
                    refine AllReadyF.cons (o := ⟨_, _, _, _, _, _⟩) rfl (fun K hK => ?_) AllReadyF.nil
                    rw [if_pos (by rfl)]
                    go_simp
                    go_at_call 12
                    refine (CU2.out _ HK1.out).mono ?_
                    rintro e WK2 ⟨rfl, h2⟩
                    have HK2 := Lib.hid h2
                    clear h2
                    go_wp2_with fail
                    refine hK.out _ _ (fun _ _ _ => HK2.out.ob) ?_
                    clear hK K
                    try simp only [Act.put, List.setIfInBounds_toArray, List.set_cons_zero, List.set_cons_succ]
                    refine wpAnyF_take0 (i := 12) (oi := ⟨_, _, _, _, _, _⟩) (v := (.bool false)) rfl (by kernel_rfl) (by kernel_rfl) (by kernel_rfl) (fun _ _ _ h => h) (Or.inl ⟨by rfl, fun W _ => ?_⟩) ?_
                    · go_simp
                    try simp only [Act.put, List.setIfInBounds_toArray, List.set_cons_zero, List.set_cons_succ]
                    refine wpAnyF_done (by kernel_rfl) ?_ _
                    go_wp2_with fail
                    go_meet
                    exact ⟨_, d2, Nat.zero_le _, HK2.out.mono (by omega)⟩
              · rcases (by omega : z = 6 ∨ z = 7) with rfl | rfl
                · obtain ⟨h1, h2, h3, h4, h5, h6, h7⟩ := ob_cells HT.out.ob
                  go_wp2_with (first
                    | (go_at_call 13; refine (to_free_g HT.out).mono ?_; rintro e w4 ⟨rfl, ht4⟩; have h1' := (ob_cells ht4.ob).1)
                    | (go_at_call 14; refine (to_free_r ht4).mono ?_; rintro e w5 ⟨rfl, d3, ht5⟩))
                  go_meet
                  exact ⟨_, d3, Nat.zero_le _, ht5.mono (by omega)⟩
                · go_wp2_with fail
                  go_meet
                  exact ⟨s, d2, Nat.zero_le _, HT.out.mono (by omega)⟩
          case rest =>
            obtain ⟨s', d3, _, h⟩ := hcut.out
            have HO := Lib.hid h
            clear hcut h
            obtain ⟨c1, c2, c3, c4, _, _, _⟩ := ob_cells HO.out.ob
            obtain ⟨x, y, f, hx⟩ := nxV_form ((All s'.N d.fr d.tt d.ce).find? (okX s' d.who))
            have CN := Lib.hid (next_g wc HO.out.t.a d.fr d.tt d.ce d.who)
            rw [hx] at CN
            go_upto_region 25 with (go_at_call 15; refine CN.out.mono ?_; rintro e w4 ⟨rfl, hb4⟩)
            have hb5 := hb4.alloc hb4.size (.cells #[.int .i64 x, .int .i64 y] 29)
            have a0 := al_new w4 #[.int .i64 x, .int .i64 y] 29
            have HO5 := Lib.hid (HO.out.on hb5)
            have z5 : w4.heap.size < (w4.alloc (.cells #[.int .i64 x, .int .i64 y] 29)).heap.size := by simp
            generalize (w4.alloc (.cells #[.int .i64 x, .int .i64 y] 29)) = w5 at *
            generalize w4.heap.size = r1 at *
            clear c1 c2 c3 c4 hb4 hb5 HO CN
            obtain ⟨c1, c2, c3, c4, _, _, _⟩ := ob_cells HO5.out.ob
            have CN := Lib.hid (next_r w5 HO5.out.t.rr d.fr d.tt d.ce d.who)
            rw [hx] at CN
            go_upto_region 26 with (go_at_call 16; refine CN.out.mono ?_; rintro e w6 ⟨rfl, hb6⟩)
            have hb7 := hb6.alloc hb6.size (.cells #[.int .i64 x, .int .i64 y] 29)
            have b0 := al_new w6 #[.int .i64 x, .int .i64 y] 29
            have A0 : Hid (∀ j, (w6.alloc (.cells #[.int .i64 x, .int .i64 y] 29)).cell? ⟨r1, j, none⟩ = #[Value.int .i64 x, Value.int .i64 y][j]?) := fun j => (hb7.cell (p := ⟨r1, j, none⟩) z5).trans (a0 j).1
            have HO7 := Lib.hid (HO5.out.on hb7)
            have z6 : r1 < (w6.alloc (.cells #[.int .i64 x, .int .i64 y] 29)).heap.size := Nat.lt_of_lt_of_le z5 hb7.size
            have z7 : w6.heap.size < (w6.alloc (.cells #[.int .i64 x, .int .i64 y] 29)).heap.size := by simp
            generalize (w6.alloc (.cells #[.int .i64 x, .int .i64 y] 29)) = w7 at *
            generalize w6.heap.size = r2 at *
            clear c1 c2 c3 c4 hb6 hb7 HO5 CN hx z5 a0
            obtain ⟨c1, c2, c3, c4, _, _, _⟩ := ob_cells HO7.out.ob
            have CC := Lib.hid (count_r w7 HO7.out.t.rr d.fr d.tt)
            obtain ⟨n1, hn1⟩ : ∃ n1 : Int, n1 = (cntB s'.u (All s'.N d.fr d.tt 4) : Nat) := ⟨_, rfl⟩
            obtain ⟨n2, hn2⟩ : ∃ n2 : Int, n2 = (cntB s'.isH (All s'.N d.fr d.tt 4) : Nat) := ⟨_, rfl⟩
            rw [← hn1, ← hn2] at CC
            have HN1 := Lib.hid hn1
            have HN2 := Lib.hid hn2
            clear hn1 hn2
            go_upto_region 27 with (go_at_call 17; refine CC.out.mono ?_; rintro e w8 ⟨rfl, hb8⟩)
            have p0 := (hb8.cell (p := ⟨r1, 0, none⟩) z6).trans (A0.out 0)
            have p1 := (hb8.cell (p := ⟨r1, 1, none⟩) z6).trans (A0.out 1)
            have p2 := (hb8.cell (p := ⟨r2, 0, none⟩) z7).trans (b0 0).1
            have p3 := (hb8.cell (p := ⟨r2, 1, none⟩) z7).trans (b0 1).1
            have HO8 := Lib.hid (HO7.out.on hb8)
            clear c1 c2 c3 c4 hb8 HO7 CC b0 A0 z6 z7
            have nq := fun W => neq_rid W x y
            obtain ⟨c1, c2, c3, c4, _, _, _⟩ := ob_cells HO8.out.ob
            go_wp2_with (first
              | (go_at_call 18; refine (used_g w8 HO8.out.t.a d.fr d.tt).mono ?_; rintro e w9 ⟨rfl, hb9⟩; rw [← HN1.out]; have HO9 := Lib.hid (HO8.out.on hb9); obtain ⟨c1', c2', c3', _⟩ := ob_cells HO9.out.ob)
              | (go_at_call 19; refine (held_g w9 HO9.out.t.a d.fr d.tt).mono ?_; rintro e w10 ⟨rfl, hb10⟩; rw [← HN2.out]))
            go_roundw
            case rel => exact ⟨i + 1, s', d3, HI.out, rfl, (HO9.out.on hb10).t.mono (by omega)⟩
            case measure => have := HI.out; simp only [RowKit.intOf]; omega
      · have HBE := Lib.hid HH.out.be
        clear hi HH
        go_wp2_with (first
          | (go_at_call 13; refine (free_nil _ 1).mono ?_; rintro e w4 ⟨rfl, hb4⟩)
          | (go_at_call 15; refine (callsIn_wide.1 (next_nil _ 0 1 1 1)).mono ?_; rintro e w5 ⟨rfl, hb5⟩; unfold nxV)
          | (go_at_call 9; refine (use_nil _ 0 0 true).mono ?_; rintro e w6 ⟨rfl, hb6⟩)
          | (go_at_call 11; refine (hold_nil _ 1 0 0).mono ?_; rintro e w7 ⟨rfl, hb7⟩)
          | (go_at_call 18; refine (callsIn_wide.1 (used_nil _ 0 1)).mono ?_; rintro e w8 ⟨rfl, hb8⟩)
          | (go_at_call 19; refine (callsIn_wide.1 (held_nil _ 0 1)).mono ?_; rintro e w9 ⟨rfl, hb9⟩))
        go_ret
        have g4 := HBE.out.trans (hb4.mono HBE.out.size)
        have g5 := (g4.trans (hb5.mono g4.size)).alloc (Nat.le_trans g4.size hb5.size) (.cells #[.int .i64 0, .int .i64 0] 29)
        have g6 := g5.trans (hb6.mono g5.size)
        have g7 := g6.trans (hb7.mono g6.size)
        have g8 := g7.trans (hb8.mono g7.size)
        exact ⟨rfl, g8.trans (hb9.mono g8.size)⟩
end Go.Proofs.Ytffflafafpdjdaa
