/- PoolRec, a part. -/
import Derived.Test.YtljbhdldfffpfaaGreatQx2
import Derived.Deep.DeepCutAuto
import Derived.Deep.CutBlock
import Derived.BigQuiet
namespace Go.Proofs.YtljbhdldfffpfaaGreat.Hp
open Go.RowKit Go.Proofs.YtljbhdldfffpfaaGreat Go.Proofs.YtljbhdldfffpfaaGreat.Lf Go.Maps

set_option maxRecDepth 100000 in
set_option maxHeartbeats 4000000 in
theorem poolRec_any (w : World) {v : Value} (l : List Int) (hl : SlW w v l) (fl : Int) (_b0 : 0 ≤ fl ∧ fl ≤ 4294967295) : Calls Tryz.prog 7 #[v, .int .u32 fl] w fun e w' => e = .returned (.bool true) ∧ Below w.heap.size w w' := by
  obtain ⟨A0, c0, rfl, -⟩ := hl.form
  have HLW := Lib.hid hl
  clear hl
  go_enter Tryz.func7, Tryz.ntmps7
  go_wp2_with fail
  refine (begun8 w).mono ?_
  rintro e w0 ⟨rfl, hb0⟩
  have HB0 := Lib.hid hb0
  clear hb0
  by_cases g1 : 20 < l.length
  · have g2 : (20 : Int) < (l.length : Int) := by omega
    clear g1
    go_wp2
    go_ret
    exact ⟨rfl, HB0.out⟩
  have g2 : ¬ (20 : Int) < (l.length : Int) := by omega
  have HLL := Lib.hid (show l.length ≤ 20 by omega)
  clear g1
  go_upto_region 5 with fail
  clear g2
  have HD := Lib.hid (new_any w0 40)
  go_wp2_with fail
  refine HD.out.mono ?_
  rintro e w1 ⟨rfl, hd1, hb1⟩
  rw [show clampT 40 = 40 from rfl] at hd1
  obtain ⟨bn, hbn⟩ : ∃ b, b = w0.heap.size := ⟨_, rfl⟩
  rw [← hbn] at hd1 ⊢
  have hdk := fresh_dk hd1
  have HO := Lib.hid (topen_any w1 hdk 8 32 (by omega) (by show (8 : Int) + ((32 : Nat) : Int) ≤ 40; omega) (T := zT) (fun i _ => fresh_has _ _))
  have HB1 : Hid (Below w.heap.size w w1) := HB0.out.trans (hb1.mono HB0.out.size)
  have HLT : Hid (∀ k, Three (bn + 1 + 1) bn (bn + 1) k → w.heap.size ≤ k ∧ k < w1.heap.size) := fun k hk => ⟨by have := HB0.out.size; rcases hk with rfl | rfl | rfl <;> omega, hdk.lt hk⟩
  clear hd1 hdk hb1 hbn HD HB0
  obtain ⟨pd, hpd⟩ : ∃ b, b = bn + 1 + 1 := ⟨_, rfl⟩
  obtain ⟨bo, hbo⟩ : ∃ b, b = bn + 1 := ⟨_, rfl⟩
  rw [← hbo] at hpd HO HLT
  rw [← hpd] at HO HLT
  rw [show bn + 1 + 1 = pd by omega]
  clear hpd hbo
  go_wp2_with fail
  refine HO.out.mono ?_
  rintro e w2 ⟨q, bl, A, c, d3, rfl, hq, hbm, hl2, hdn, hf2⟩
  rw [rd_zT, opT_nil] at hl2 hdn
  rw [rd_zT, scan_nil]
  simp only [List.length_nil]
  obtain ⟨t, ht⟩ : ∃ t : Tr, t = ⟨pd, 8, ((32 : Nat) : Int), [], 0, 0⟩ := ⟨_, rfl⟩
  rw [← ht] at hl2 hdn
  have hB2 : Below w.heap.size w w2 := bel_fr HB1.out hf2 (fun k hk => (HLT.out k hk).1)
  have hdp : t.dp = pd := by rw [ht]
  have htf : 6 ≤ t.first := by rw [ht]; show (6 : Int) ≤ 8; omega
  have hz : ∀ k : Nat, k < 3 → d3.has (2 * (k : Int)) zt ∧ d3.has (2 * (k : Int) + 1) zt := by
    intro k hk
    have h8 : t.first = 8 := by rw [ht]
    exact ⟨hdn.far _ zt (fun j _ => by rw [h8]; omega) (fresh_has _ _), hdn.far _ zt (fun j _ => by rw [h8]; omega) (fresh_has _ _)⟩
  have htl : d3.tiles = 40 := hdn.tiles
  have HLO : Hid (∀ k, Five q bl pd bn bo k → w.heap.size ≤ k ∧ k < w2.heap.size) := fun k hk => by
    refine ⟨?_, five_lt hl2 k (by rw [hdp]; exact hk)⟩
    have := HB1.out.size
    rcases hk with (rfl | rfl) | hk
    · omega
    · omega
    · exact (HLT.out k hk).1
  have HL2 := Lib.hid hl2
  have HDP := Lib.hid hdp
  have HZ := Lib.hid hz
  have HTL := Lib.hid htl
  have HTF := Lib.hid htf
  have HB2 := Lib.hid hB2
  have HN := Lib.hid (pnew_any w2 pd (some q) 0 3 3 (by omega) (by omega))
  clear hl2 hdn hf2 hB2 hdp hz htl htf hq hbm HO HLT HB1 ht
  go_upto_region 9 with fail
  go_wp2_with fail
  refine HN.out.mono ?_
  rintro e w3 ⟨p, bmP, rfl, hp, hbmP, hx3, hb3⟩
  rw [show roomOf 3 = 3 from rfl] at hx3
  have hl3 : LogAt w3 q bl t bn bo 0 d3 := HL2.out.kept (fun k hk => hb3.block k hk)
  have HR3 : Hid (Rp w3 p ⟨pd, some q, 0, 3, newS 3, bmP, fun _ => none⟩ q bl bn bo 0 t d3 0 0) := by
    have hf : ∀ k, Five q bl pd bn bo k → k ≠ p ∧ k ≠ bmP := fun k hk => by
      have := (HLO.out k hk).2
      exact ⟨by omega, by omega⟩
    exact ⟨hx3, rfl, hl3, HDP.out, hf, rfl, rfl, rfl, Int.le_refl _, by omega, fun i hi => absurd hi (Nat.not_lt_zero i), fun i _ _ => rfl, fun i j hi => absurd hi (Nat.not_lt_zero i), fun i hi => absurd hi (Nat.not_lt_zero i), fun k hk _ => HZ.out k hk, by rw [HTL.out]; omega, HTF.out, fun i v e => (by cases e), fun k e => (by cases e)⟩
  have HB3 : Hid (Below w.heap.size w w3) := HB2.out.trans (hb3.mono HB2.out.size)
  have HPP : Hid (w.heap.size ≤ p ∧ w.heap.size ≤ bmP ∧ p < w3.heap.size ∧ bmP < w3.heap.size ∧ ∀ k, Five q bl pd bn bo k → w.heap.size ≤ k ∧ k < w3.heap.size) := ⟨Nat.le_trans HB2.out.size hp, Nat.le_trans HB2.out.size hbmP, hx3.lp, hx3.lm, fun k hk => ⟨(HLO.out k hk).1, Nat.lt_of_lt_of_le (HLO.out k hk).2 hb3.size⟩⟩
  clear hp hbmP hx3 hb3 hl3 HN HL2 HB2 HLO HDP HZ HTL HTF
  go_upto_region 11 with fail
  have hb4 : Below w3.heap.size w3 (w3.alloc (.cells #[.int .i64 0, .int .i64 0, .int .i64 0] 77)) := (Below.refl _ _).alloc (Nat.le_refl _) _
  have hc4 := cell_of (heap_alloc_new w3 (.cells #[.int .i64 0, .int .i64 0, .int .i64 0] 77))
  have HG4 : Hid (RG w (w3.alloc (.cells #[.int .i64 0, .int .i64 0, .int .i64 0] 77)) p q bl bn bo pd bmP w3.heap.size (fun _ => 0) ⟨pd, some q, 0, 3, newS 3, bmP, fun _ => none⟩ t d3 0 0) := by
    obtain ⟨h1, h2, h3, h4, h5⟩ := HPP.out
    refine ⟨HR3.out.on hb4, rfl, rfl, ⟨by simp, fun k hk => ⟨?_, (hc4 k).2⟩, fun j z e => ?_⟩, HB3.out.trans (hb4.mono HB3.out.size), ?_, by omega, by omega, fun e => by have := (h5 _ e).2; omega⟩
    · rw [(hc4 k).1]
      match k, hk with
      | 0, _ => rfl
      | 1, _ => rfl
      | 2, _ => rfl
    · rw [(hc4 j).1] at e
      match j with
      | 0 => cases e
      | 1 => cases e
      | 2 => cases e
      | j + 3 => cases e
    · rintro k (e | rfl | rfl | rfl)
      · exact (h5 k e).1
      · exact h1
      · exact h2
      · exact HB3.out.size
  have HRR : Hid (RR (fun _ => none) (fun _ => 0)) := fun k _ => ⟨⟨Int.le_refl _, by show (0 : Int) ≤ 20; omega⟩, rfl⟩
  generalize w3.alloc (.cells #[.int .i64 0, .int .i64 0, .int .i64 0] 77) = w4 at *
  generalize w3.heap.size = o at *
  clear hb4 hc4 HR3 HB3 HPP
  go_upto_region 12 with fail
  go_loopw [11] (fun iv wr => Hid (∃ (i : Nat) (R : Nat → Int) (x : Po) (t : Tr) (d : Dk) (f : Nat), i ≤ l.length ∧ iv = .int .i64 (i : Int) ∧ RG w wr p q bl bn bo pd bmP o R x t d (i : Int) f ∧ RR x.recs R)) (fun iv _ => l.length - (RowKit.intOf iv).toNat)
  case atStart => exact ⟨0, _, _, _, _, _, Nat.zero_le _, rfl, HG4.out, HRR.out⟩
  case round =>
    obtain ⟨i, R, x, t, d, f, hi, rfl, hg, hr⟩ := hrel.out
    have HG := Lib.hid hg
    have HR := Lib.hid hr
    clear hrel hg hr HG4 HRR
    have hi0 : 0 ≤ (i : Int) := by omega
    by_cases hlt : i < l.length
    · have hltI : (i : Int) < (l.length : Int) := by omega
      have HLT := Lib.hid hlt
      have hi20 : (i : Int) < 20 := by have := HLL.out; omega
      obtain ⟨b, off, hA, hbw, hcx⟩ : ∃ b off, A0 = some ⟨b, off, none⟩ ∧ b < w.heap.size ∧ w.cell? ⟨b, off + i, none⟩ = some (.int .u8 l[i]) := by
        have hk := HLW.out.k (fun e => by rw [e] at hlt; cases hlt)
        obtain ⟨b, off, cap', e, h1, h2, h3⟩ := hk.pt (fun e => by rw [e] at hlt; cases hlt)
        injection e with e1 e2 e3
        have h4 := h3 i hlt
        exact ⟨b, off, e1, cell_lt h4, h4⟩
      obtain rfl := hA
      have hx0 := HLW.out.ok l[i] (List.getElem_mem hlt)
      obtain ⟨c, hc⟩ : ∃ c, l[i] = c := ⟨_, rfl⟩
      rw [hc] at hcx hx0
      obtain ⟨hc0, hc1⟩ := hx0
      have hx1 : wr.cell? ⟨b, off + i, none⟩ = some (.int .u8 c) := (World.cell?_of_block (a := ⟨b, off + i, none⟩) (HG.out.be.block b hbw)).trans hcx
      have HCX := Lib.hid hcx
      have HBW := Lib.hid hbw
      clear hi hc hcx hbw hlt
      have HAP := Lib.hid (rp_app HG.out.rp (nil_ents wr (eEnd 0) rfl rfl rfl rfl rfl rfl))
      go_upto_region 16 with (go_at_call 16; refine HAP.out.mono ?_; rintro e w5 ⟨⟨a5, b5, rfl⟩, h5, hf5⟩)
      have hg5 := HG.out.next h5 rfl rfl hf5 (fun k hk => Or.inl (Or.inl hk))
      generalize apT t (eEnd 0) = t5 at *
      have HG5 := Lib.hid hg5
      have hx5 : w5.cell? ⟨b, off + i, none⟩ = some (.int .u8 c) := (World.cell?_of_block (a := ⟨b, off + i, none⟩) (hg5.be.block b HBW.out)).trans HCX.out
      have hy : bytesOk [97 + c % 26] := by
        intro y hy
        rw [List.mem_singleton] at hy
        omega
      have hmay : mayB (bstr [97 + c % 26]) ⟨#[]⟩ ⟨#[]⟩ = true := by
        unfold mayB
        rw [bstr_size hy, decide_eq_true_eq]
        exact ⟨by simp, by simp, by decide, by decide⟩
      have hb6 : Below w5.heap.size w5 (w5.alloc (.cells #[.int .u8 (97 + c % 26)] 5)) := (Below.refl _ _).alloc (Nat.le_refl _) _
      have cv : (convert 33 9 (.slice (some ⟨w5.heap.size, 0, none⟩) 1 1)).run Tryz.prog (w5.alloc (.cells #[.int .u8 (97 + c % 26)] 5)) = .ok (.string (bstr [97 + c % 26])) (w5.alloc (.cells #[.int .u8 (97 + c % 26)] 5)) := conv_slK (((blk_new w5 [97 + c % 26]).pt (n := 1) (c := 1) rfl (Nat.le_refl _)).slK hy)
      have HRow := Lib.hid (rrow_ok (w5.alloc (.cells #[.int .u8 (97 + c % 26)] 5)) (bstr [97 + c % 26]) ⟨#[]⟩ ⟨#[]⟩ hmay)
      have HMl := Lib.hid (rowL_len hmay)
      have HMo := Lib.hid (rowL_ok hmay)
      have HB6 := Lib.hid hb6
      generalize bstr [97 + c % 26] = ky at *
      clear hg5 hx1 h5 hf5 HAP HG hy hmay hb6
      go_wp2_with fail
      refine HRow.out.mono ?_
      rintro e w7 ⟨v7, rfl, ho7, hb7⟩
      obtain ⟨A7, q7, rfl⟩ := Lf.own_sl ho7
      obtain ⟨rw7, hrw7⟩ : ∃ z, z = rowL ky ⟨#[]⟩ ⟨#[]⟩ := ⟨_, rfl⟩
      rw [← hrw7] at ho7 HMl HMo
      have hs7 : SlK .u8 w7 (.slice A7 rw7.length q7) rw7 := by
        have h := own_slK ho7 HMo.out
        rw [HMl.out]
        exact h
      have hb57 : Below w5.heap.size w5 w7 := HB6.out.trans (hb7.mono HB6.out.size)
      have hg7 := HG5.out.on hb57
      have hx7 : w7.cell? ⟨b, off + i, none⟩ = some (.int .u8 c) := (World.cell?_of_block (a := ⟨b, off + i, none⟩) (hg7.be.block b HBW.out)).trans HCX.out
      obtain ⟨n, hn, hn3⟩ : ∃ n : Nat, c % 3 = (n : Int) ∧ n < 3 := ⟨(c % 3).toNat, by omega, by omega⟩
      obtain ⟨a, ha, ha4⟩ : ∃ a : Nat, c / 3 % 4 = (a : Int) ∧ a < 4 := ⟨(c / 3 % 4).toNat, by omega, by omega⟩
      obtain ⟨k, hk, hk3⟩ : ∃ k : Nat, c / 12 % 3 = (k : Int) ∧ k < 3 := ⟨(c / 12 % 3).toNat, by omega, by omega⟩
      have hSt := rp_set hg7.rp n a hn3 ha4 (b := rw7) (A0 := A7) (q0 := q7) hs7 (.inr HMl.out) (lsn := (i : Int) + 1) (by omega)
      rw [HMl.out, ← ha] at hSt
      have HSt := Lib.hid hSt
      have HG7 := Lib.hid hg7
      have HKK := Lib.hid (And.intro hk hk3)
      rw [hn]
      have t1 : c.tdiv 3 = c / 3 := Int.tdiv_eq_ediv_of_nonneg hc0
      have t2 : IntKind.u8.wrap (c / 3) = c / 3 := IntWalk.u8_in _ (by omega)
      have t3 : (c / 3).tmod 4 = c / 3 % 4 := Int.tmod_eq_emod_of_nonneg (by omega)
      have t4 : IntKind.i64.wrap (c / 3 % 4) = c / 3 % 4 := IntWalk.i64_in _ (by omega)
      clear hSt hg7 hs7 ho7 hb57 hb7 hx5 hrw7 HG5 HB6 HRow HMl HMo cv hn hk hk3 ha ha4
      go_upto_region 19 with (go_at_call 17; refine HSt.out.mono ?_; rintro e w8 ⟨rfl, x8, f8, h8, hr8, hbm8, hf8⟩)
      have hg8 := HG7.out.next h8 hbm8 (h8.dp.symm.trans HG7.out.rp.dp) hf8 (fun k hk => Or.inr (by
        rcases hk with e | e
        · exact Or.inl e
        · exact Or.inr (e.trans HG7.out.ebm)))
      have hR8 := HR.out.set hn3 (lsn := (i : Int) + 1) (by omega) (by omega)
      rw [← hr8] at hR8
      have HR8 := Lib.hid hR8
      have HN3 := Lib.hid hn3
      have hnI : (n : Int) < 3 := by omega
      have hx8 : w8.cell? ⟨b, off + i, none⟩ = some (.int .u8 c) := (World.cell?_of_block (a := ⟨b, off + i, none⟩) (hg8.be.block b HBW.out)).trans HCX.out
      have HG8 := Lib.hid hg8
      have a8 := (hg8.ar.at_ n hn3).1
      have z8 := (hg8.ar.at_ n hn3).2
      clear hg8 hR8 h8 hr8 hbm8 hf8 HG7 HSt hn3 hx7 t1 t2 t3 t4
      by_cases hz : R n = 0
      · rw [hz] at a8
        have hR9 := HR8.out.1 hz
        have hg9 := HG8.out.set HN3.out ((i : Int) + 1)
        have HG9 := Lib.hid hg9
        have HR9 := Lib.hid hR9
        generalize upR R n ((i : Int) + 1) = R9 at *
        have hx9 : (w8.setCell ⟨o, n, none⟩ (.int .i64 ((i : Int) + 1))).cell? ⟨b, off + i, none⟩ = some (.int .u8 c) := (World.cell?_of_block (a := ⟨b, off + i, none⟩) (hg9.be.block b HBW.out)).trans HCX.out
        clear hR9 hg9 HR8 HG8 hx8 HR hz
        go_upto_region 21 with fail
        generalize w8.setCell ⟨o, n, none⟩ (.int .i64 ((i : Int) + 1)) = w9 at *
        clear a8 z8 
        have q1 : c.tdiv 12 = c / 12 := Int.tdiv_eq_ediv_of_nonneg hc0
        have q2 : IntKind.u8.wrap (c / 12) = c / 12 := IntWalk.u8_in _ (by omega)
        have q3 : (c / 12).tmod 3 = c / 12 % 3 := Int.tmod_eq_emod_of_nonneg (by omega)
        have q4 : IntKind.i64.wrap (c / 12 % 3) = c / 12 % 3 := IntWalk.i64_in _ (by omega)
        by_cases hbit : (bits BinOp.and IntKind.u32 (fl / 2 ^ i) 1 == 1) = true
        · go_upto_region 23 with fail
          obtain ⟨k, hk, hk3⟩ : ∃ k : Nat, c / 12 % 3 = (k : Int) ∧ k < 3 := ⟨(c / 12 % 3).toNat, by omega, by omega⟩
          rw [hk]
          have HK3 := Lib.hid hk3
          have hkI : (k : Int) < 3 := by omega
          have HFl := Lib.hid (rp_flush HG9.out.rp k hk3 (by omega))
          clear hk hk3 q1 q2 q3 q4 hbit
          go_upto_region 25 with (go_at_call 21; refine HFl.out.mono ?_; rintro e w10 ⟨rfl, x10, t10, d10, h10, hr10, hbm10, hdk10, hf10⟩)
          have hg10 := HG9.out.next h10 hbm10 hdk10 hf10 (fun k hk => by
            rcases hk with e | e
            · exact Or.inl (by rw [← HG9.out.edk]; exact e)
            · exact Or.inr (Or.inr (e.trans HG9.out.ebm)))
          have hR11 := HR9.out.drop (n := k)
          rw [← hr10] at hR11
          have HR11 := Lib.hid hR11
          have a10 := (hg10.ar.at_ k HK3.out).1
          have z10 := (hg10.ar.at_ k HK3.out).2
          have hg11 := hg10.set HK3.out 0
          have HG11 := Lib.hid hg11
          generalize upR R9 k 0 = R11 at *
          have hx11 : True := trivial
          clear hg10 hg11 hR11 h10 hr10 hbm10 hdk10 hf10 HFl HG9 HR9 hx9
          go_upto_region 26 with fail
          generalize w10.setCell ⟨o, k, none⟩ (.int .i64 0) = w11 at *
          clear a10 z10
          have HDi := Lib.hid (dirty_any w11 HG11.out.rp.px HG11.out.rp.rc)
          go_upto_region 29 with (go_at_call 18; refine HDi.out.mono ?_; rintro e w12 ⟨A12, c12, ls, rfl, hls, -, hod, hb12⟩)
          have HG12 := Lib.hid (HG11.out.on hb12)
          have hsay := dirty_says hls HR11.out (fun k hk => by
            obtain ⟨j, hj, hjk⟩ := HG11.out.rp.mem k hk
            have := (HG11.out.rp.used j hj).2
            omega)
          have HS3 := Lib.hid hsay.1
          have HSK := Lib.hid hsay.2
          have HDC : Hid (∀ h0 : 0 < ls.length, _) := dirty_cells rfl hod
          obtain ⟨n12, hn12⟩ : ∃ n12, n12 = ls.length := ⟨_, rfl⟩
          have HN12 := Lib.hid hn12
          rw [← hn12]
          clear hls hod hb12 hsay hn12 HDi HG11 hx11
          go_loopw [17, 18] (fun mv kv wq => Hid (Below w12.heap.size w12 wq) ∧ ∃ k : Nat, k ≤ 3 ∧ mv = .int .i64 (mR R11 k : Int) ∧ kv = .int .i64 (k : Int)) (fun _ kv _ => 3 - (RowKit.intOf kv).toNat)
          case atStart => exact ⟨Below.refl _ _, 0, by omega, rfl, rfl⟩
          case round =>
            obtain ⟨HBQ, k, hk, rfl, rfl⟩ := hrel
            by_cases hk3 : k < 3
            · have hkI : (k : Int) < 3 := by omega
              have hk0 : 0 ≤ (k : Int) := by omega
              have ak := ((HG12.out.on HBQ.out).ar.at_ k hk3).1
              have HK3 := Lib.hid hk3
              clear hk hk3
              by_cases hz : R11 k = 0
              · rw [hz] at ak
                go_wp2
                go_roundw
                case rel => exact ⟨HBQ, k + 1, HK3.out, by rw [mR_skip hz], by go_num⟩
                case measure => have := HK3.out; simp only [RowKit.intOf]; omega
              · obtain ⟨hlt, e1, e2⟩ := HSK.out k HK3.out hz
                obtain ⟨gd, rfl, hcl⟩ := HDC.out (by omega)
                obtain ⟨d1, d2⟩ := hcl _ hlt
                rw [e1] at d1
                rw [e2] at d2
                obtain ⟨mm, hmm⟩ : ∃ mm, mm = mR R11 k := ⟨_, rfl⟩
                have HMM := Lib.hid hmm
                rw [← hmm] at hlt d1 d2 ⊢
                have hm0 : 0 ≤ (mm : Int) := by omega
                have hmI : (mm : Int) < (n12 : Int) := by have := HN12.out; omega
                have hmD : decide (n12 ≤ mm) = false := decide_eq_false (by omega)
                rw [Nat.mul_comm] at d1 d2
                have hgd := HBQ.out.block gd (cell_lt d1)
                replace d1 := (World.cell?_of_block (a := ⟨gd, mm * 2, none⟩) hgd).trans d1
                replace d2 := (World.cell?_of_block (a := ⟨gd, mm * 2 + 1, none⟩) hgd).trans d2
                have hm3 : (mm : Int) ≤ 3 := by have := mR_le R11 k; have := HK3.out; omega
                clear e1 e2 hlt hcl hmm hgd
                go_upto_region 32 with fail
                go_quiet (fail)
                go_wp2
                go_roundw
                case rel => exact ⟨HBQ.out.trans ⟨rfl, rfl, rfl, Nat.le_refl _, fun _ _ => rfl⟩, k + 1, HK3.out, by rw [mR_step hz, ← HMM.out]; go_num, by go_num⟩
                case measure => have := HK3.out; simp only [RowKit.intOf]; omega
            · obtain rfl : k = 3 := by omega
              have h3 := HS3.out
              have hn12 := HN12.out
              have e3 : (mR R11 3 : Int) = (n12 : Int) := by omega
              rw [e3]
              clear h3 hn12 e3 hk hk3
              go_wp2
              go_roundw
              case rel => exact ⟨i + 1, R11, _, _, _, _, HLT.out, by go_num, by rw [show ((i + 1 : Nat) : Int) = (i : Int) + 1 by omega]; exact HG12.out.on HBQ.out, HR11.out⟩
              case measure => have := HLT.out; simp only [RowKit.intOf]; omega
        · have hbit : (bits BinOp.and IntKind.u32 (fl / 2 ^ i) 1 == 1) = false := by simpa using hbit
          go_upto_region 26 with fail
          clear q1 q2 q3 q4 hbit
          have HDi := Lib.hid (dirty_any w9 HG9.out.rp.px HG9.out.rp.rc)
          go_upto_region 29 with (go_at_call 18; refine HDi.out.mono ?_; rintro e w12 ⟨A12, c12, ls, rfl, hls, -, hod, hb12⟩)
          have HG12 := Lib.hid (HG9.out.on hb12)
          have hsay := dirty_says hls HR9.out (fun k hk => by
            obtain ⟨j, hj, hjk⟩ := HG9.out.rp.mem k hk
            have := (HG9.out.rp.used j hj).2
            omega)
          have HS3 := Lib.hid hsay.1
          have HSK := Lib.hid hsay.2
          have HDC : Hid (∀ h0 : 0 < ls.length, _) := dirty_cells rfl hod
          obtain ⟨n12, hn12⟩ : ∃ n12, n12 = ls.length := ⟨_, rfl⟩
          have HN12 := Lib.hid hn12
          rw [← hn12]
          clear hls hod hb12 hsay hn12 HDi HG9 hx9
          go_loopw [17, 18] (fun mv kv wq => Hid (Below w12.heap.size w12 wq) ∧ ∃ k : Nat, k ≤ 3 ∧ mv = .int .i64 (mR R9 k : Int) ∧ kv = .int .i64 (k : Int)) (fun _ kv _ => 3 - (RowKit.intOf kv).toNat)
          case atStart => exact ⟨Below.refl _ _, 0, by omega, rfl, rfl⟩
          case round =>
            obtain ⟨HBQ, k, hk, rfl, rfl⟩ := hrel
            by_cases hk3 : k < 3
            · have hkI : (k : Int) < 3 := by omega
              have hk0 : 0 ≤ (k : Int) := by omega
              have ak := ((HG12.out.on HBQ.out).ar.at_ k hk3).1
              have HK3 := Lib.hid hk3
              clear hk hk3
              by_cases hz : R9 k = 0
              · rw [hz] at ak
                go_wp2
                go_roundw
                case rel => exact ⟨HBQ, k + 1, HK3.out, by rw [mR_skip hz], by go_num⟩
                case measure => have := HK3.out; simp only [RowKit.intOf]; omega
              · obtain ⟨hlt, e1, e2⟩ := HSK.out k HK3.out hz
                obtain ⟨gd, rfl, hcl⟩ := HDC.out (by omega)
                obtain ⟨d1, d2⟩ := hcl _ hlt
                rw [e1] at d1
                rw [e2] at d2
                obtain ⟨mm, hmm⟩ : ∃ mm, mm = mR R9 k := ⟨_, rfl⟩
                have HMM := Lib.hid hmm
                rw [← hmm] at hlt d1 d2 ⊢
                have hm0 : 0 ≤ (mm : Int) := by omega
                have hmI : (mm : Int) < (n12 : Int) := by have := HN12.out; omega
                have hmD : decide (n12 ≤ mm) = false := decide_eq_false (by omega)
                rw [Nat.mul_comm] at d1 d2
                have hgd := HBQ.out.block gd (cell_lt d1)
                replace d1 := (World.cell?_of_block (a := ⟨gd, mm * 2, none⟩) hgd).trans d1
                replace d2 := (World.cell?_of_block (a := ⟨gd, mm * 2 + 1, none⟩) hgd).trans d2
                have hm3 : (mm : Int) ≤ 3 := by have := mR_le R9 k; have := HK3.out; omega
                clear e1 e2 hlt hcl hmm hgd
                go_upto_region 32 with fail
                go_quiet (fail)
                go_wp2
                go_roundw
                case rel => exact ⟨HBQ.out.trans ⟨rfl, rfl, rfl, Nat.le_refl _, fun _ _ => rfl⟩, k + 1, HK3.out, by rw [mR_step hz, ← HMM.out]; go_num, by go_num⟩
                case measure => have := HK3.out; simp only [RowKit.intOf]; omega
            · obtain rfl : k = 3 := by omega
              have h3 := HS3.out
              have hn12 := HN12.out
              have e3 : (mR R9 3 : Int) = (n12 : Int) := by omega
              rw [e3]
              clear h3 hn12 e3 hk hk3
              go_wp2
              go_roundw
              case rel => exact ⟨i + 1, R9, _, _, _, _, HLT.out, by go_num, by rw [show ((i + 1 : Nat) : Int) = (i : Int) + 1 by omega]; exact HG12.out.on HBQ.out, HR9.out⟩
              case measure => have := HLT.out; simp only [RowKit.intOf]; omega
      · have hR9 := HR8.out.2 hz
        have HR9 := Lib.hid hR9
        have HG9 := HG8
        have hx9 := hx8
        clear hR9 HR8 HG8 hx8 HR z8
        generalize w8 = w9 at *
        generalize R = R9 at *
        go_upto_region 21 with fail
        clear a8 hz
        have q1 : c.tdiv 12 = c / 12 := Int.tdiv_eq_ediv_of_nonneg hc0
        have q2 : IntKind.u8.wrap (c / 12) = c / 12 := IntWalk.u8_in _ (by omega)
        have q3 : (c / 12).tmod 3 = c / 12 % 3 := Int.tmod_eq_emod_of_nonneg (by omega)
        have q4 : IntKind.i64.wrap (c / 12 % 3) = c / 12 % 3 := IntWalk.i64_in _ (by omega)
        by_cases hbit : (bits BinOp.and IntKind.u32 (fl / 2 ^ i) 1 == 1) = true
        · go_upto_region 23 with fail
          obtain ⟨k, hk, hk3⟩ : ∃ k : Nat, c / 12 % 3 = (k : Int) ∧ k < 3 := ⟨(c / 12 % 3).toNat, by omega, by omega⟩
          rw [hk]
          have HK3 := Lib.hid hk3
          have hkI : (k : Int) < 3 := by omega
          have HFl := Lib.hid (rp_flush HG9.out.rp k hk3 (by omega))
          clear hk hk3 q1 q2 q3 q4 hbit
          go_upto_region 25 with (go_at_call 21; refine HFl.out.mono ?_; rintro e w10 ⟨rfl, x10, t10, d10, h10, hr10, hbm10, hdk10, hf10⟩)
          have hg10 := HG9.out.next h10 hbm10 hdk10 hf10 (fun k hk => by
            rcases hk with e | e
            · exact Or.inl (by rw [← HG9.out.edk]; exact e)
            · exact Or.inr (Or.inr (e.trans HG9.out.ebm)))
          have hR11 := HR9.out.drop (n := k)
          rw [← hr10] at hR11
          have HR11 := Lib.hid hR11
          have a10 := (hg10.ar.at_ k HK3.out).1
          have z10 := (hg10.ar.at_ k HK3.out).2
          have hg11 := hg10.set HK3.out 0
          have HG11 := Lib.hid hg11
          generalize upR R9 k 0 = R11 at *
          have hx11 : True := trivial
          clear hg10 hg11 hR11 h10 hr10 hbm10 hdk10 hf10 HFl HG9 HR9 hx9
          go_upto_region 26 with fail
          generalize w10.setCell ⟨o, k, none⟩ (.int .i64 0) = w11 at *
          clear a10 z10
          have HDi := Lib.hid (dirty_any w11 HG11.out.rp.px HG11.out.rp.rc)
          go_upto_region 29 with (go_at_call 18; refine HDi.out.mono ?_; rintro e w12 ⟨A12, c12, ls, rfl, hls, -, hod, hb12⟩)
          have HG12 := Lib.hid (HG11.out.on hb12)
          have hsay := dirty_says hls HR11.out (fun k hk => by
            obtain ⟨j, hj, hjk⟩ := HG11.out.rp.mem k hk
            have := (HG11.out.rp.used j hj).2
            omega)
          have HS3 := Lib.hid hsay.1
          have HSK := Lib.hid hsay.2
          have HDC : Hid (∀ h0 : 0 < ls.length, _) := dirty_cells rfl hod
          obtain ⟨n12, hn12⟩ : ∃ n12, n12 = ls.length := ⟨_, rfl⟩
          have HN12 := Lib.hid hn12
          rw [← hn12]
          clear hls hod hb12 hsay hn12 HDi HG11 hx11
          go_loopw [17, 18] (fun mv kv wq => Hid (Below w12.heap.size w12 wq) ∧ ∃ k : Nat, k ≤ 3 ∧ mv = .int .i64 (mR R11 k : Int) ∧ kv = .int .i64 (k : Int)) (fun _ kv _ => 3 - (RowKit.intOf kv).toNat)
          case atStart => exact ⟨Below.refl _ _, 0, by omega, rfl, rfl⟩
          case round =>
            obtain ⟨HBQ, k, hk, rfl, rfl⟩ := hrel
            by_cases hk3 : k < 3
            · have hkI : (k : Int) < 3 := by omega
              have hk0 : 0 ≤ (k : Int) := by omega
              have ak := ((HG12.out.on HBQ.out).ar.at_ k hk3).1
              have HK3 := Lib.hid hk3
              clear hk hk3
              by_cases hz : R11 k = 0
              · rw [hz] at ak
                go_wp2
                go_roundw
                case rel => exact ⟨HBQ, k + 1, HK3.out, by rw [mR_skip hz], by go_num⟩
                case measure => have := HK3.out; simp only [RowKit.intOf]; omega
              · obtain ⟨hlt, e1, e2⟩ := HSK.out k HK3.out hz
                obtain ⟨gd, rfl, hcl⟩ := HDC.out (by omega)
                obtain ⟨d1, d2⟩ := hcl _ hlt
                rw [e1] at d1
                rw [e2] at d2
                obtain ⟨mm, hmm⟩ : ∃ mm, mm = mR R11 k := ⟨_, rfl⟩
                have HMM := Lib.hid hmm
                rw [← hmm] at hlt d1 d2 ⊢
                have hm0 : 0 ≤ (mm : Int) := by omega
                have hmI : (mm : Int) < (n12 : Int) := by have := HN12.out; omega
                have hmD : decide (n12 ≤ mm) = false := decide_eq_false (by omega)
                rw [Nat.mul_comm] at d1 d2
                have hgd := HBQ.out.block gd (cell_lt d1)
                replace d1 := (World.cell?_of_block (a := ⟨gd, mm * 2, none⟩) hgd).trans d1
                replace d2 := (World.cell?_of_block (a := ⟨gd, mm * 2 + 1, none⟩) hgd).trans d2
                have hm3 : (mm : Int) ≤ 3 := by have := mR_le R11 k; have := HK3.out; omega
                clear e1 e2 hlt hcl hmm hgd
                go_upto_region 32 with fail
                go_quiet (fail)
                go_wp2
                go_roundw
                case rel => exact ⟨HBQ.out.trans ⟨rfl, rfl, rfl, Nat.le_refl _, fun _ _ => rfl⟩, k + 1, HK3.out, by rw [mR_step hz, ← HMM.out]; go_num, by go_num⟩
                case measure => have := HK3.out; simp only [RowKit.intOf]; omega
            · obtain rfl : k = 3 := by omega
              have h3 := HS3.out
              have hn12 := HN12.out
              have e3 : (mR R11 3 : Int) = (n12 : Int) := by omega
              rw [e3]
              clear h3 hn12 e3 hk hk3
              go_wp2
              go_roundw
              case rel => exact ⟨i + 1, R11, _, _, _, _, HLT.out, by go_num, by rw [show ((i + 1 : Nat) : Int) = (i : Int) + 1 by omega]; exact HG12.out.on HBQ.out, HR11.out⟩
              case measure => have := HLT.out; simp only [RowKit.intOf]; omega
        · have hbit : (bits BinOp.and IntKind.u32 (fl / 2 ^ i) 1 == 1) = false := by simpa using hbit
          go_upto_region 26 with fail
          clear q1 q2 q3 q4 hbit
          have HDi := Lib.hid (dirty_any w9 HG9.out.rp.px HG9.out.rp.rc)
          go_upto_region 29 with (go_at_call 18; refine HDi.out.mono ?_; rintro e w12 ⟨A12, c12, ls, rfl, hls, -, hod, hb12⟩)
          have HG12 := Lib.hid (HG9.out.on hb12)
          have hsay := dirty_says hls HR9.out (fun k hk => by
            obtain ⟨j, hj, hjk⟩ := HG9.out.rp.mem k hk
            have := (HG9.out.rp.used j hj).2
            omega)
          have HS3 := Lib.hid hsay.1
          have HSK := Lib.hid hsay.2
          have HDC : Hid (∀ h0 : 0 < ls.length, _) := dirty_cells rfl hod
          obtain ⟨n12, hn12⟩ : ∃ n12, n12 = ls.length := ⟨_, rfl⟩
          have HN12 := Lib.hid hn12
          rw [← hn12]
          clear hls hod hb12 hsay hn12 HDi HG9 hx9
          go_loopw [17, 18] (fun mv kv wq => Hid (Below w12.heap.size w12 wq) ∧ ∃ k : Nat, k ≤ 3 ∧ mv = .int .i64 (mR R9 k : Int) ∧ kv = .int .i64 (k : Int)) (fun _ kv _ => 3 - (RowKit.intOf kv).toNat)
          case atStart => exact ⟨Below.refl _ _, 0, by omega, rfl, rfl⟩
          case round =>
            obtain ⟨HBQ, k, hk, rfl, rfl⟩ := hrel
            by_cases hk3 : k < 3
            · have hkI : (k : Int) < 3 := by omega
              have hk0 : 0 ≤ (k : Int) := by omega
              have ak := ((HG12.out.on HBQ.out).ar.at_ k hk3).1
              have HK3 := Lib.hid hk3
              clear hk hk3
              by_cases hz : R9 k = 0
              · rw [hz] at ak
                go_wp2
                go_roundw
                case rel => exact ⟨HBQ, k + 1, HK3.out, by rw [mR_skip hz], by go_num⟩
                case measure => have := HK3.out; simp only [RowKit.intOf]; omega
              · obtain ⟨hlt, e1, e2⟩ := HSK.out k HK3.out hz
                obtain ⟨gd, rfl, hcl⟩ := HDC.out (by omega)
                obtain ⟨d1, d2⟩ := hcl _ hlt
                rw [e1] at d1
                rw [e2] at d2
                obtain ⟨mm, hmm⟩ : ∃ mm, mm = mR R9 k := ⟨_, rfl⟩
                have HMM := Lib.hid hmm
                rw [← hmm] at hlt d1 d2 ⊢
                have hm0 : 0 ≤ (mm : Int) := by omega
                have hmI : (mm : Int) < (n12 : Int) := by have := HN12.out; omega
                have hmD : decide (n12 ≤ mm) = false := decide_eq_false (by omega)
                rw [Nat.mul_comm] at d1 d2
                have hgd := HBQ.out.block gd (cell_lt d1)
                replace d1 := (World.cell?_of_block (a := ⟨gd, mm * 2, none⟩) hgd).trans d1
                replace d2 := (World.cell?_of_block (a := ⟨gd, mm * 2 + 1, none⟩) hgd).trans d2
                have hm3 : (mm : Int) ≤ 3 := by have := mR_le R9 k; have := HK3.out; omega
                clear e1 e2 hlt hcl hmm hgd
                go_upto_region 32 with fail
                go_quiet (fail)
                go_wp2
                go_roundw
                case rel => exact ⟨HBQ.out.trans ⟨rfl, rfl, rfl, Nat.le_refl _, fun _ _ => rfl⟩, k + 1, HK3.out, by rw [mR_step hz, ← HMM.out]; go_num, by go_num⟩
                case measure => have := HK3.out; simp only [RowKit.intOf]; omega
            · obtain rfl : k = 3 := by omega
              have h3 := HS3.out
              have hn12 := HN12.out
              have e3 : (mR R9 3 : Int) = (n12 : Int) := by omega
              rw [e3]
              clear h3 hn12 e3 hk hk3
              go_wp2
              go_roundw
              case rel => exact ⟨i + 1, R9, _, _, _, _, HLT.out, by go_num, by rw [show ((i + 1 : Nat) : Int) = (i : Int) + 1 by omega]; exact HG12.out.on HBQ.out, HR9.out⟩
              case measure => have := HLT.out; simp only [RowKit.intOf]; omega
    · obtain rfl : i = l.length := by omega
      have hB := HG.out.be
      go_wp2
      go_ret
      exact ⟨rfl, hB⟩
end Go.Proofs.YtljbhdldfffpfaaGreat.Hp
