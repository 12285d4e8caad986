/- PoolNone, a part. -/
import Derived.Test.YtljbhdldfffpfaaGreatQn38
namespace Go.Proofs.YtljbhdldfffpfaaGreat.Hp
open Go.RowKit Go.Proofs.YtljbhdldfffpfaaGreat Go.Proofs.YtljbhdldfffpfaaGreat.Lf Go.Maps

set_option maxRecDepth 100000 in
set_option maxHeartbeats 2000000 in
theorem refuse_hit (w : World) {p : Nat} {x : Po} (hx : PoAt w p x) (n : Nat) (hn : n < x.pages) {i : Nat} (hf : First x.s.n (hit x.s n) i) (hi : i < x.s.n) :
    Calls Tryz.prog 47 #[.pointer (some ⟨p, 0, none⟩), .int .i64 (n : Int)] w fun e w' => e = .returned (.int .i64 1) ∧ PoAt w' p x ∧ Fr w.heap.size (One p) w w' := by
  have hh := has_any w hx n
  rw [show hasB x.pages n = true from by unfold hasB; simp; omega] at hh
  have HH := Lib.hid hh
  have HC := Lib.hid hx.cells
  have HI := Lib.hid (info_rowH x.s)
  have HO := Lib.hid (rowH_one x.s)
  have HAL := Lib.hid (heap_alloc_new w (.cells Tryz.zeroCells97 97))
  have HSZ := Lib.hid (show (Tryz.zeroCells97 : Array Value).size = (rowH x.s).size by rw [rowH_size]; kernel_rfl)
  have HSET := Lib.hid (setRow_alloc w Tryz.zeroCells97 (rowH x.s) 97)
  have HX := Lib.hid hx
  have HN := Lib.hid hn
  have HF := Lib.hid hf
  have HIi := Lib.hid hi
  clear hx hh hn hf
  go_enter Tryz.func47, Tryz.ntmps47
  go_upto_region 3 with (go_at_call 54; refine HH.out.mono ?_; rintro e w' ⟨rfl, hw⟩; obtain rfl := hw.symm; clear hw)
  clear HH
  go_upto_region 4 with (first | (with_reducible refine wpList_load_at rfl 97 (.tmp 14) rfl p 4 rfl (rowH x.s) _ HC.out run_hand rfl HI.out ?_) | (with_reducible refine wpList_store_row rfl 97 (.tmp 5) (.tmp 15) rfl w.heap.size (rowH x.s) rfl rfl 97 _ HAL.out HI.out HSZ.out HO.out ?_))
  rw [HSET.out]
  have hq := heap_alloc_new w (.cells (rowH x.s) 97)
  have hb1 : Below w.heap.size w (w.alloc (.cells (rowH x.s) 97)) := (Below.refl _ _).alloc (Nat.le_refl _) _
  generalize w.alloc (.cells (rowH x.s) 97) = w1 at *
  have HU := Lib.hid (use_hit w1 (HX.out.on hb1) n HN.out HF.out HIi.out)
  have HQ := Lib.hid hq
  have HB1 := Lib.hid hb1
  clear HAL HSZ HSET HC hq hb1
  unfold Pg.v at HU
  go_upto_region 5 with (go_at_call 42; refine HU.out.mono ?_; rintro e w2 ⟨rfl, hx2, hf2⟩)
  change Code.wp _ _ _ _ (w2.alloc (.cells (x.s.P i).v.c 42))
  have hb3 : Below w2.heap.size w2 (w2.alloc (.cells (x.s.P i).v.c 42)) := (Below.refl _ _).alloc (Nat.le_refl _) _
  have hx3 := hx2.on hb3
  have hpl := HX.out.lp
  have hq3 := (hb3.block w.heap.size (Nat.lt_of_lt_of_le (Array.getElem?_eq_some_iff.1 HQ.out).1 hf2.size)).trans ((hf2.block w.heap.size (Array.getElem?_eq_some_iff.1 HQ.out).1 (fun e => by have e : w.heap.size = p := e; omega)).trans HQ.out)
  have hf3 : Fr w.heap.size (One p) w (w2.alloc (.cells (x.s.P i).v.c 42)) := ((Fr.ofB HB1.out).trans hf2 HB1.out.size (fun _ _ h => h)).thenB hb3 (by have := HB1.out.size; have := hf2.size; omega)
  generalize w2.alloc (.cells (x.s.P i).v.c 42) = w3 at *
  obtain ⟨x2, hx2e⟩ : ∃ x2 : Po, x2 = { x with s := { x.s with P := up x.s.P i { x.s.P i with b := true } } } := ⟨_, rfl⟩
  rw [← hx2e] at hx3
  have HX2E := Lib.hid hx2e
  have HPG := Lib.hid hx3.ha.hg
  have HLE : Hid (4 + (rowH x.s).size ≤ (x2.A.c x2.s).size) := by
    rw [rowH_size, At.size (o := 4) hx3.ha.lo]
    show 4 + 578 ≤ 4 + 578 + x2.A.suf.size
    omega
  have hl := hx3.lay (s := x.s) HX.out.ha.la HX.out.ha.ln
  have HL := Lib.hid hl
  have HFR := Lib.hid (hf3.setR (b := p) (Or.inl rfl) (putRow (x2.A.c x2.s) 4 (rowH x.s).toList))
  have HQ3 := Lib.hid hq3
  clear hx2 hx3 hq3 hf3 hf2 hb3 hl hx2e hpl HU HQ HB1
  go_upto_region 6 with (first | (with_reducible refine wpList_load_row rfl 97 (.tmp 5) rfl w.heap.size rfl 97 _ (0, 0) _ HQ3.out run_hand rfl HI.out ?_) | (with_reducible refine wpList_store_at rfl 97 (.tmp 25) (.tmp 23) rfl p 4 (rowH x.s) rfl rfl x2.A.t _ HPG.out HI.out HLE.out HO.out ?_))
  simp only [Act.put]
  have hL := HL.out
  have hFr := HFR.out
  generalize w3.setRow p (putRow (x2.A.c x2.s) 4 (rowH x.s).toList) = w5 at hL hFr ⊢
  have HE : Hid (PoAt w5 p x ∧ Fr w.heap.size (One p) w w5) := ⟨by have h := hL; rw [HX2E.out] at h; exact h, hFr⟩
  clear HL HFR HQ3 HPG HLE HI HO hL hFr
  go_wp2
  go_ret
  exact ⟨rfl, HE.out⟩
end Go.Proofs.YtljbhdldfffpfaaGreat.Hp
namespace Go.Proofs.YtljbhdldfffpfaaGreat.Hp
open Go.RowKit Go.Proofs.YtljbhdldfffpfaaGreat Go.Proofs.YtljbhdldfffpfaaGreat.Lf Go.Maps

set_option maxRecDepth 100000 in
set_option maxHeartbeats 4000000 in
theorem poolNone_any (w : World) (n : Int) : Calls Tryz.prog 8 #[.int .i64 n] w fun e w' => e = .returned (.bool true) ∧ Below w.heap.size w w' := by
  go_enter Tryz.func8, Tryz.ntmps8
  go_wp2_with fail
  refine (begun8 w).mono ?_
  rintro e w1 ⟨rfl, hb1⟩
  have HB1 := Lib.hid hb1
  have HPn := Lib.hid (page_out w1 (.pointer none) n (fun W _ => has_nil W n))
  clear hb1
  go_upto_region 4 with fail
  go_wp2_with fail
  refine HPn.out.mono ?_
  rintro e w2 ⟨P', N', K', rfl, hb2⟩
  unfold pgV
  have HB2 := Lib.hid (HB1.out.trans (hb2.mono HB1.out.size))
  clear hb2 HPn HB1
  go_upto_region 5 with fail
  change Code.wp _ _ _ _ (w2.alloc (pgO P' N' K' 0))
  have hb3 : Below w2.heap.size w2 (w2.alloc (pgO P' N' K' 0)) := (Below.refl _ _).alloc (Nat.le_refl _) _
  have HB3 := Lib.hid (HB2.out.trans (hb3.mono HB2.out.size))
  generalize w2.alloc (pgO P' N' K' 0) = w3 at *
  have HNw := Lib.hid (new_any w3 10)
  clear hb3 HB2
  go_wp2_with fail
  refine HNw.out.mono ?_
  rintro e w4 ⟨rfl, hd4, hb4⟩
  rw [show clampT 10 = 10 from rfl] at hd4
  have hk4 := fresh_dk hd4
  obtain ⟨pd, hpd⟩ : ∃ b, b = w3.heap.size + 1 + 1 := ⟨_, rfl⟩
  rw [← hpd] at hk4 ⊢
  have HD4 := Lib.hid hk4
  have HB4 := Lib.hid (HB3.out.trans (hb4.mono HB3.out.size))
  have HPw : Hid (Calls Tryz.prog 12 #[.pointer (some ⟨pd, 0, none⟩), .pointer none, .int .i64 0, .int .i64 3, .int .i64 2] w4 fun e w' => ∃ p bm, e = .returned (.pointer (some ⟨p, 0, none⟩)) ∧ w4.heap.size ≤ p ∧ w4.heap.size ≤ bm ∧ PoAt w' p ⟨pd, none, 0, 3, newS (roomOf 2), bm, fun _ => none⟩ ∧ Below w4.heap.size w4 w') := pnew_any w4 pd none 0 3 2 (by omega) (by omega)
  clear hd4 hk4 hb4 hpd HNw HB3
  go_wp2_with fail
  refine HPw.out.mono ?_
  rintro e w5 ⟨p, bmP, rfl, hp, hbm, hx5, hb5⟩
  rw [show roomOf 2 = 2 from rfl] at hx5
  have HX5 := Lib.hid hx5
  have HD5 := Lib.hid (HD4.out.on (w' := w5) fun k hk => hb5.block k (HD4.out.lt hk))
  have HB5 := Lib.hid (HB4.out.trans (hb5.mono HB4.out.size))
  have HP : Hid (w.heap.size ≤ p) := Nat.le_trans HB4.out.size hp
  clear hp hbm hx5 hb5 HPw HB4 HD4
  go_upto_region 6 with fail
  by_cases hin : 0 ≤ n ∧ n < 3
  · obtain ⟨m, rfl⟩ : ∃ m : Nat, n = (m : Int) := ⟨n.toNat, by omega⟩
    have HM : Hid (m < 3) := by show m < 3; omega
    clear hin
    have hb50 : Below w5.heap.size w5 (w5.alloc (.cells Pg.zero.c 42)) := (Below.refl _ _).alloc (Nat.le_refl _) _
    have hm : m < 3 := HM.out
    have hz : ∀ i : Int, (Dk.fresh 10).has i zt := fun i => fresh_has 10 i
    have huz := use_z (w5.alloc (.cells Pg.zero.c 42)) (HX5.out.on hb50) (HD5.out.on fun k hk => hb50.block k (HD5.out.lt hk)) m (by show m < 3; exact hm) (by show (0 : Int) + 2 * (m : Int) + 1 < 10; omega) (hz _) (hz _) (i := 0) (new_first 2 _) new_vac (by show 0 < 2; omega)
    have hU : Calls Tryz.prog 42 #[.pointer (some ⟨p, 0, none⟩), .int .i64 (m : Int)] (w5.alloc (.cells Pg.zero.c 42)) (UsOk (w5.alloc (.cells Pg.zero.c 42)) p cz 0 0 (fun w1 => (∃ x1, Came ⟨pd, none, 0, 3, newS 2, bmP, fun _ => none⟩ (m : Int) 0 x1 ∧ PoAt w1 p x1) ∧ Fr (w5.alloc (.cells Pg.zero.c 42)).heap.size (One p) (w5.alloc (.cells Pg.zero.c 42)) w1)) := by
      refine huz.mono ?_
      rintro e w1 ⟨x1, hc1, P, N, K, rfl, hcs, hx1, hf1⟩
      exact ⟨P, N, K, rfl, hcs, ⟨⟨x1, hc1, hx1⟩, hf1⟩, hf1⟩
    have HPg := Lib.hid (page_of w5 (Nat.ne_of_lt HX5.out.lp) (m : Int) cz_len hU)
    have HB50 := Lib.hid hb50
    clear hb50 hm hz huz hU
    go_wp2_with fail
    refine HPg.out.mono ?_
    rintro e w6 ⟨P, N, K, w15, rfl, -, ⟨⟨x1, hc1, hx15⟩, hf15⟩, hf6, hlt6⟩
    unfold pgV
    obtain ⟨hbm1, hrc1, hft1, hi1⟩ := came_S hc1 (by show 0 < 2; omega) (new_first 2 _)
    have hpl := HX5.out.lp
    have hml := HX5.out.lm
    have hbm2 : x1.bm = bmP := hbm1
    have hml2 : bmP < w5.heap.size := hml
    have hx6 : PoAt w6 p x1 := hx15.fr hf6 hx15.lp hx15.lm (fun e => by have e : p = w5.heap.size := e; omega) (fun e => by have e : x1.bm = w5.heap.size := e; omega)
    have hpg : x1.pages = 3 := by obtain ⟨y, rfl⟩ := hc1; rfl
    have HXE : Hid (x1.pages = 3 ∧ x1.recs = (fun _ => none) ∧ First x1.s.n (hit x1.s (m : Int)) 0 ∧ 0 < x1.s.n) := ⟨hpg, hrc1, hft1, hi1⟩
    have hB6 : Below w.heap.size w w6 := by
      have h1 : Below w.heap.size w w15 := bel_fr (HB5.out.trans (HB50.out.mono HB5.out.size)) hf15 (fun k hk => by have e : k = p := hk; have := HP.out; omega)
      exact bel_fr h1 hf6 (fun k hk => by have e : k = w5.heap.size := hk; have := HB5.out.size; omega)
    have HX6 := Lib.hid hx6
    have HB6 := Lib.hid hB6
    clear hbm1 hrc1 hft1 hi1 hpl hml hbm2 hml2 hx6 hpg hB6 hc1 hx15 hf15 hf6 hlt6 HPg HB50 HX5 HD5 HB5
    go_upto_region 7 with fail
    change Code.wp _ _ _ _ (w6.alloc (pgO P N K 0))
    have hb8 : Below w6.heap.size w6 (w6.alloc (pgO P N K 0)) := (Below.refl _ _).alloc (Nat.le_refl _) _
    have HX8 := Lib.hid (HX6.out.on hb8)
    have HB8 := Lib.hid (HB6.out.trans (hb8.mono HB6.out.size))
    generalize w6.alloc (pgO P N K 0) = w8 at *
    clear hb8 HX6 HB6
    have i0 : (0 : Int) ≤ (m : Int) := by omega
    have i1 : (m : Int) < 3 := by have := HM.out; omega
    have HSn := Lib.hid (set_out w8 (.pointer none) (m : Int) (fun W _ => has_nil W (m : Int)))
    go_wp2_with fail
    refine HSn.out.mono ?_
    rintro e w9 ⟨rfl, hb9⟩
    have HX9 := Lib.hid (HX8.out.on hb9)
    have HB9 := Lib.hid (HB8.out.trans (hb9.mono HB8.out.size))
    have HFn := Lib.hid (flush_no w9 (.pointer none) (m : Int) (fun W => has_nil W (m : Int)))
    clear hb9 HSn HX8 HB8
    go_wp2_with fail
    refine HFn.out.mono ?_
    rintro e w10 ⟨rfl, hw⟩
    obtain rfl := hw.symm
    clear hw HFn
    have HLn := Lib.hid (lay_no w9 (.pointer none) (m : Int) 1 Pg.zero (fun W => has_nil W (m : Int)))
    unfold Pg.v at HLn
    go_wp2_with fail
    refine HLn.out.mono ?_
    rintro e w11 ⟨rfl, hb11⟩
    have HX11 := Lib.hid (HX9.out.on hb11)
    have HB11 := Lib.hid (HB9.out.trans (hb11.mono HB9.out.size))
    clear hb11 HLn HX9 HB9
    have HDn := Lib.hid (dirty_nil w11)
    go_wp2_with fail
    refine HDn.out.mono ?_
    rintro e w12 ⟨rfl, hw⟩
    obtain rfl := hw.symm
    clear hw HDn
    have HPn := Lib.hid (pages_nil w11)
    go_wp2_with fail
    refine HPn.out.mono ?_
    rintro e w13 ⟨rfl, hw⟩
    obtain ⟨w13', hw'⟩ : ∃ z, z = w11 := ⟨_, rfl⟩
    obtain rfl := hw.symm
    clear hw HPn hw' w13'
    have HFl : Hid (Calls Tryz.prog 21 #[.pointer (some ⟨p, 0, none⟩), .int .i64 (m : Int)] w11 fun e w' => e = .returned (.int .i64 0) ∧ w' = w11) := flush_clean w11 HX11.out m (by rw [HXE.out.1]; exact HM.out) (by rw [HXE.out.2.1])
    have HSt : Hid (Calls Tryz.prog 17 #[.pointer (some ⟨p, 0, none⟩), .int .i64 (m : Int), .int .i64 4, .slice none 0 0, .int .i64 9] w11 fun e w' => e = .returned (.int .i64 1) ∧ Fr w11.heap.size (One p) w11 w') := set_four w11 _ _ ((refuse_hit w11 HX11.out m (by rw [HXE.out.1]; exact HM.out) (i := 0) HXE.out.2.2.1 HXE.out.2.2.2).mono fun e w' h => ⟨h.1, h.2.2⟩)
    go_wp2_with fail
    refine HFl.out.mono ?_
    rintro e w14 ⟨rfl, hw⟩
    obtain rfl := hw.symm
    clear hw HFl
    go_wp2_with fail
    refine HSt.out.mono ?_
    rintro e w15 ⟨rfl, hf15⟩
    have HB15 : Hid (Below w.heap.size w w15) := bel_fr HB11.out hf15 (fun k hk => by have e : k = p := hk; have := HP.out; omega)
    clear hf15 HSt HX11 HB11
    go_wp2
    go_ret
    exact ⟨rfl, HB15.out⟩
  · have HHB : Hid (hasB 3 n = false) := by
      show (decide (0 ≤ n) && decide (n < ((3 : Nat) : Int))) = false
      by_cases h : 0 ≤ n
      · rw [decide_eq_false (show ¬ n < ((3 : Nat) : Int) by omega), Bool.and_false]
      · rw [decide_eq_false h, Bool.false_and]
    have HIN := Lib.hid hin
    clear hin
    have hpo := page_out w5 (.pointer (some ⟨p, 0, none⟩)) n (fun W hW => by have h := has_any W (HX5.out.on hW) n; rw [HHB.out] at h; exact h)
    have HPg := Lib.hid hpo
    clear hpo
    go_wp2_with fail
    refine HPg.out.mono ?_
    rintro e w6 ⟨P, N, K, rfl, hb6⟩
    unfold pgV
    have HX6 := Lib.hid (HX5.out.on hb6)
    have HB6 := Lib.hid (HB5.out.trans (hb6.mono HB5.out.size))
    clear hb6 HPg HX5 HD5 HB5
    go_upto_region 7 with fail
    change Code.wp _ _ _ _ (w6.alloc (pgO P N K 0))
    have hb8 : Below w6.heap.size w6 (w6.alloc (pgO P N K 0)) := (Below.refl _ _).alloc (Nat.le_refl _) _
    have HX8 := Lib.hid (HX6.out.on hb8)
    have HB8 := Lib.hid (HB6.out.trans (hb8.mono HB6.out.size))
    generalize w6.alloc (pgO P N K 0) = w8 at *
    clear hb8 HX6 HB6
    by_cases h0 : 0 ≤ n
    · have i0 : (0 : Int) ≤ n := h0
      have i1 : ¬ n < 3 := fun e => HIN.out ⟨h0, e⟩
      have i2 : decide (n < 3) = false := decide_eq_false i1
      have HSn := Lib.hid (set_out w8 (.pointer none) n (fun W _ => has_nil W n))
      go_wp2_with fail
      refine HSn.out.mono ?_
      rintro e w9 ⟨rfl, hb9⟩
      have HX9 := Lib.hid (HX8.out.on hb9)
      have HB9 := Lib.hid (HB8.out.trans (hb9.mono HB8.out.size))
      have HFn := Lib.hid (flush_no w9 (.pointer none) n (fun W => has_nil W n))
      clear hb9 HSn HX8 HB8
      go_wp2_with fail
      refine HFn.out.mono ?_
      rintro e w10 ⟨rfl, hw⟩
      obtain rfl := hw.symm
      clear hw HFn
      have HLn := Lib.hid (lay_no w9 (.pointer none) n 1 Pg.zero (fun W => has_nil W n))
      unfold Pg.v at HLn
      go_wp2_with fail
      refine HLn.out.mono ?_
      rintro e w11 ⟨rfl, hb11⟩
      have HX11 := Lib.hid (HX9.out.on hb11)
      have HB11 := Lib.hid (HB9.out.trans (hb11.mono HB9.out.size))
      clear hb11 HLn HX9 HB9
      have HDn := Lib.hid (dirty_nil w11)
      go_wp2_with fail
      refine HDn.out.mono ?_
      rintro e w12 ⟨rfl, hw⟩
      obtain rfl := hw.symm
      clear hw HDn
      have HPn := Lib.hid (pages_nil w11)
      go_wp2_with fail
      refine HPn.out.mono ?_
      rintro e w13 ⟨rfl, hw⟩
      obtain ⟨w13', hw'⟩ : ∃ z, z = w11 := ⟨_, rfl⟩
      obtain rfl := hw.symm
      clear hw HPn hw' w13'
      have HFl : Hid (Calls Tryz.prog 21 #[.pointer (some ⟨p, 0, none⟩), .int .i64 n] w11 fun e w' => e = .returned (.int .i64 1) ∧ w' = w11) := flush_bad w11 HX11.out n HHB.out
      have HSt : Hid (Calls Tryz.prog 17 #[.pointer (some ⟨p, 0, none⟩), .int .i64 n, .int .i64 4, .slice none 0 0, .int .i64 9] w11 fun e w' => e = .returned (.int .i64 1) ∧ Fr w11.heap.size (One p) w11 w') := set_four w11 _ _ ((refuse_out w11 _ n (fun W hW => by have h := has_any W (HX11.out.on hW) n; rw [HHB.out] at h; exact h)).mono fun e w' h => ⟨h.1, by rw [h.2]; exact Fr.refl _ _ _⟩)
      go_wp2_with fail
      refine HFl.out.mono ?_
      rintro e w14 ⟨rfl, hw⟩
      obtain rfl := hw.symm
      clear hw HFl
      go_wp2_with fail
      refine HSt.out.mono ?_
      rintro e w15 ⟨rfl, hf15⟩
      have HB15 : Hid (Below w.heap.size w w15) := bel_fr HB11.out hf15 (fun k hk => by have e : k = p := hk; have := HP.out; omega)
      clear hf15 HSt HX11 HB11
      go_wp2
      go_ret
      exact ⟨rfl, HB15.out⟩
    · have i0 : n < 0 := by omega
      have HSn := Lib.hid (set_out w8 (.pointer none) n (fun W _ => has_nil W n))
      go_wp2_with fail
      refine HSn.out.mono ?_
      rintro e w9 ⟨rfl, hb9⟩
      have HX9 := Lib.hid (HX8.out.on hb9)
      have HB9 := Lib.hid (HB8.out.trans (hb9.mono HB8.out.size))
      have HFn := Lib.hid (flush_no w9 (.pointer none) n (fun W => has_nil W n))
      clear hb9 HSn HX8 HB8
      go_wp2_with fail
      refine HFn.out.mono ?_
      rintro e w10 ⟨rfl, hw⟩
      obtain rfl := hw.symm
      clear hw HFn
      have HLn := Lib.hid (lay_no w9 (.pointer none) n 1 Pg.zero (fun W => has_nil W n))
      unfold Pg.v at HLn
      go_wp2_with fail
      refine HLn.out.mono ?_
      rintro e w11 ⟨rfl, hb11⟩
      have HX11 := Lib.hid (HX9.out.on hb11)
      have HB11 := Lib.hid (HB9.out.trans (hb11.mono HB9.out.size))
      clear hb11 HLn HX9 HB9
      have HDn := Lib.hid (dirty_nil w11)
      go_wp2_with fail
      refine HDn.out.mono ?_
      rintro e w12 ⟨rfl, hw⟩
      obtain rfl := hw.symm
      clear hw HDn
      have HPn := Lib.hid (pages_nil w11)
      go_wp2_with fail
      refine HPn.out.mono ?_
      rintro e w13 ⟨rfl, hw⟩
      obtain ⟨w13', hw'⟩ : ∃ z, z = w11 := ⟨_, rfl⟩
      obtain rfl := hw.symm
      clear hw HPn hw' w13'
      have HFl : Hid (Calls Tryz.prog 21 #[.pointer (some ⟨p, 0, none⟩), .int .i64 n] w11 fun e w' => e = .returned (.int .i64 1) ∧ w' = w11) := flush_bad w11 HX11.out n HHB.out
      have HSt : Hid (Calls Tryz.prog 17 #[.pointer (some ⟨p, 0, none⟩), .int .i64 n, .int .i64 4, .slice none 0 0, .int .i64 9] w11 fun e w' => e = .returned (.int .i64 1) ∧ Fr w11.heap.size (One p) w11 w') := set_four w11 _ _ ((refuse_out w11 _ n (fun W hW => by have h := has_any W (HX11.out.on hW) n; rw [HHB.out] at h; exact h)).mono fun e w' h => ⟨h.1, by rw [h.2]; exact Fr.refl _ _ _⟩)
      go_wp2_with fail
      refine HFl.out.mono ?_
      rintro e w14 ⟨rfl, hw⟩
      obtain rfl := hw.symm
      clear hw HFl
      go_wp2_with fail
      refine HSt.out.mono ?_
      rintro e w15 ⟨rfl, hf15⟩
      have HB15 : Hid (Below w.heap.size w w15) := bel_fr HB11.out hf15 (fun k hk => by have e : k = p := hk; have := HP.out; omega)
      clear hf15 HSt HX11 HB11
      go_wp2
      go_ret
      exact ⟨rfl, HB15.out⟩
end Go.Proofs.YtljbhdldfffpfaaGreat.Hp
