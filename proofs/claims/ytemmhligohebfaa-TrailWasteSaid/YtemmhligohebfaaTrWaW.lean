/- TrailWaste: its walk. -/
import Derived.Test.YtemmhligohebfaaTrFrW
import Derived.Test.YtemmhligohebfaaTrWl
namespace Go.Proofs.Ytemmhligohebfaa.trailWaste
open Go.ChangeShapes Go.WideShapes Go.ChangeAt Go.RowKit Go.Maps
open Go.Proofs.Ytemmhligohebfaa.trailTwice (SS getD_bd SS_len app_some someE_I someE_S Lst lst_of)
open Go.Proofs.Ytemmhligohebfaa.trailFront (force2)

def Fin (w : World) (e : Ending) (w' : World) : Prop := e = .returned (.bool true) ∧ Below w.heap.size w w'
def TR (w : World) (p bm pd bn bo : Nat) (S0 : List Int) (c0 : Nat) (st : Int) (l : List Int) (d : Dk) (w4 : World) (B : Nat) (Kz : Nat → Prop) (j : Nat) (wr : World) : Prop := LogAt wr p bm ⟨pd, 0, 60, S0 ++ SS l j, ((c0 + j : Nat) : Int), st⟩ bn bo 0 d ∧ Below w.heap.size w wr ∧ Kpt B w4 wr ∧ ∀ b, Kz b → wr.heap[b]? = w4.heap[b]?

set_option maxRecDepth 100000 in
set_option maxHeartbeats 8000000 in
theorem walk (w : World) (vl vm vr : Value) (l mo raw : List Int) (a8 : Nat) (ha8 : a8 < 256) (hl : SlK .u8 w vl l) (hm : SlK .u8 w vm mo) (hr : SlK .u8 w vr raw) : Calls Try.prog 6 #[vl, vm, vr, .int .u8 a8] w (Fin w) := by
  obtain ⟨A0, c0, rfl, hlc⟩ := hl.form
  obtain ⟨A1, c1, rfl, hmc⟩ := hm.form
  obtain ⟨A2, c2, rfl, hrc⟩ := hr.form
  have HL := Lib.hid hl
  have HM := Lib.hid hm
  have HRW := Lib.hid hr
  have HOK := Lib.hid hl.ok
  have HOM := Lib.hid hm.ok
  have HOR := Lib.hid hr.ok
  have HBG := Lib.hid (begun_any w)
  obtain ⟨ie, hie, hze, hye, hxe⟩ := info_parts infoEntA
  clear hl hm hr hlc hmc hrc
  go_enter Try.func6, Try.ntmps6
  go_wp2_with fail
  refine HBG.out.mono ?_
  rintro r9 w1 ⟨rfl, hb1⟩
  have HB1 := Lib.hid hb1
  clear hb1 HBG
  by_cases hall : l.length ≤ 10 ∧ mo.length ≤ 10 ∧ raw.length ≤ 64
  rotate_left
  · by_cases h1 : (10 : Int) < (l.length : Int)
    · clear hall
      go_wp2
      go_ret
      exact ⟨rfl, HB1.out⟩
    · by_cases h2 : (10 : Int) < (mo.length : Int)
      · clear hall
        go_wp2
        go_ret
        exact ⟨rfl, HB1.out⟩
      · have h3 : (64 : Int) < (raw.length : Int) := by omega
        clear hall
        go_wp2
        go_ret
        exact ⟨rfl, HB1.out⟩
  · obtain ⟨h10, m10, r64⟩ := hall
    have h1 : ¬ (10 : Int) < (l.length : Int) := by omega
    have h2 : ¬ (10 : Int) < (mo.length : Int) := by omega
    have h3 : ¬ (64 : Int) < (raw.length : Int) := by omega
    have HN := Lib.hid (new_any w1 60)
    go_wp2_with fail
    refine HN.out.mono ?_
    rintro r9 w2 ⟨rfl, hd2, hb2⟩
    have hs1 := HB1.out.size
    obtain ⟨bn, hbn⟩ : ∃ b, b = w1.heap.size := ⟨_, rfl⟩
    rw [show clampT 60 = 60 from rfl] at hd2
    rw [← hbn] at hd2 ⊢
    have HTH : Hid (∀ k, Three (bn + 1 + 1) bn (bn + 1) k → w.heap.size ≤ k) := fun k hk => by rcases hk with h | h | h <;> omega
    have hdk2 := fresh_dk hd2
    have HO := Lib.hid (topen_any w2 hdk2 0 60 (Int.le_refl _) (by decide) (T := zT) (fun i _ => fresh_has _ _))
    have HDL := Lib.hid (fun k hk => hdk2.lt (k := k) hk)
    have HB2 := Lib.hid (HB1.out.trans (hb2.mono HB1.out.size))
    clear hd2 hb2 hs1 hbn HN HB1 hdk2 h1 h2 h3
    obtain ⟨pd, hpd⟩ : ∃ pd, pd = bn + 1 + 1 := ⟨_, rfl⟩
    rw [← hpd] at HO HTH HDL ⊢
    clear hpd
    go_wp2_with fail
    refine HO.out.mono ?_
    rintro r9 w3 ⟨p, bm, A, c, d3, rfl, hp, hbm, hl3, hdn, hf3⟩
    rw [rd_zT, opT_nil] at hl3 hdn
    have HTW : Hid (∀ k, Two p bm k → w.heap.size ≤ k) := fun k hk => by have := HB2.out.size; rcases hk with h | h <;> omega
    have hb3 := bel_fr HB2.out hf3 HTH.out
    have HSO := Lib.hid (some_any w3 (HL.out.below hb3 (Nat.le_refl _)) (by omega))
    have HLT : Hid (∀ k, (Two p bm k ∨ Three pd bn (bn + 1) k) → k < w3.heap.size) := fun k hk => by
      rcases hk with h | h
      · rcases h with h | h
        · have := hl3.tr.lt.1; omega
        · have := hl3.tr.lt.2; omega
      · exact Nat.lt_of_lt_of_le (HDL.out k h) hf3.size
    have HOWN3 : Hid (∀ k : Nat, k < 60 → d3.has ((0 : Int) + k) (tileL [] k)) := hdn.own
    have HT3 : Hid (d3.tiles = 60) := hdn.tiles
    have HB3 := Lib.hid hb3
    have HL3 := Lib.hid hl3
    clear hp hbm hl3 hdn hf3 hb3 HO HB2 HDL
    go_wp2_with fail
    refine HSO.out.mono ?_
    rintro r9 w4 ⟨v, rfl, hsm⟩
    have hb34 : Below w3.heap.size w3 w4 := by obtain ⟨es, _, _, _, _, hb⟩ := hsm; exact hb
    have hm4 : ∃ A m c, v = .slice A m c ∧ m = l.length := by
      obtain ⟨es, hes, _, ho, _, _⟩ := hsm
      obtain ⟨A, m, c, rfl⟩ := own_shape ho
      exact ⟨A, m, c, rfl, own_n ho⟩
    obtain ⟨Av, mv, cv, rfl, rfl⟩ := hm4
    have H0 : Hid (TR w p bm pd bn (bn + 1) [] 0 0 l d3 w4 w3.heap.size (fun _ => False) 0 w4) := Lib.hid ⟨HL3.out.kept (w' := w4) fun k hk => hb34.block k hk, HB3.out.trans (hb34.mono HB3.out.size), ⟨Nat.le_refl _, fun _ _ _ => rfl⟩, fun _ h => h.elim⟩
    have HZ1 : Hid (∀ b, (fun _ : Nat => False) b → b < w4.heap.size ∧ ¬ (Two p bm b ∨ Three pd bn (bn + 1) b)) := fun _ h => h.elim
    have HSM := Lib.hid hsm
    have HS34 := Lib.hid hb34.size
    clear hb34 hsm HSO HL3 HB3
    go_wp2
    go_loopw [14] (fun i wr => ∃ j : Nat, j ≤ l.length ∧ i = .int .i64 j ∧ Hid (TR w p bm pd bn (bn + 1) ([] : List Int) 0 0 l d3 w4 w3.heap.size (fun _ => False) j wr)) (fun i _ => l.length - ivT i)
    case atStart => exact ⟨0, Nat.zero_le _, rfl, H0⟩
    case round =>
      obtain ⟨j, hj, rfl, HR⟩ := hrel
      obtain ⟨hlr, hb, hk, hkz⟩ := HR.out
      clear H0 HR
      have hj12 : (j : Int) ≤ 12 := by omega
      by_cases hlt : j < l.length
      · have hlti : (j : Int) < (l.length : Int) := by omega
        obtain ⟨gg, cap, es, hv, hlst, -⟩ := lst_of (fun e => by rw [e] at hlt; cases hlt) HSM.out
        injection hv with hv1 hv2 hv3
        subst hv1 hv3
        have hlr2 := hlst.at hk
        have hje : j < es.length := by rw [hlst.len]; exact hlt
        have hx := getD_bd HOK.out j
        obtain ⟨x, hxe2⟩ : ∃ x, x = l.getD j 0 := ⟨_, rfl⟩
        rw [← hxe2] at hx
        have hel : (es[j]).1 = someE j x := by rw [hxe2]; exact hlst.el j hje
        have hin := (hlr2.inn es[j] (List.getElem_mem hje)).1
        rw [hel] at hin
        obtain ⟨vn, hvn⟩ : ∃ v, v = (es[j]).2 := ⟨_, rfl⟩
        rw [← hvn] at hin
        have hES := someE_S (j := j) (x := x) hin
        have hcells : ∀ i u, (entC (someE j x) (.slice none 0 0) vn (.slice none 0 0) (.slice none 0 0) (.slice none 0 0) (.slice none 0 0))[i]? = some u → wr.cell? ⟨gg, j * 16 + i, none⟩ = some u := fun i u hu => hlr2.cells j hje i u (by unfold enN; rw [hel, ← hvn]; simpa using hu)
        have HA := Lib.hid (append_any wr hlr.tr (someE j x) hES (someE_I j (by omega) x hx))
        have HCE := Lib.hid hcells
        have HXE := Lib.hid hxe2
        have HLR := Lib.hid hlr
        have HB := Lib.hid hb
        have HK := Lib.hid hk
        have HKZ := Lib.hid hkz
        have HX := Lib.hid hx
        have HFIT : Hid (∀ j, j ≤ l.length → (((([] : List Int) ++ SS l j).length + 51 : Nat) : Int) ≤ 63 * (60 : Int)) := fun j hj => by
          have e1 := SS_len HOK.out j (by omega)
          have e2 : (([] : List Int) ++ SS l j).length = ([] : List Int).length + (SS l j).length := List.length_append
          have e3 : ([] : List Int).length = 0 := rfl
          omega
        have HZI := Lib.hid (infoEntC (someE j x) (.slice none 0 0) vn (.slice none 0 0) (.slice none 0 0) (.slice none 0 0) (.slice none 0 0))
        clear hlst hlr2 hxe2 hel hin hvn hES hcells hlr hb hk hkz hx hje hv2
        go_wp2_with (with_reducible refine wpList_load_at rfl 40 (.tmp 64) rfl gg (j * 16) rfl (entC (someE j x) (.slice none 0 0) vn (.slice none 0 0) (.slice none 0 0) (.slice none 0 0) (.slice none 0 0)) _ HCE.out Try.underlying40 rfl HZI.out ?_)
        refine HA.out.mono ?_
        rintro r9 w5 ⟨he, ht5, hf5⟩
        obtain ⟨a1, a2, a3⟩ := app_some (t := ⟨pd, 0, 60, ([] : List Int) ++ SS l j, ((0 + j : Nat) : Int), 0⟩) (j := j) (x := x) (by omega) HX.out (HFIT.out j (by omega))
        rw [a1, a2] at he
        rw [a3] at ht5
        subst he
        have hl5 := HLR.out.app ht5 hf5 rfl rfl rfl
        have hT : TR w p bm pd bn (bn + 1) ([] : List Int) 0 0 l d3 w4 w3.heap.size (fun _ => False) (j + 1) w5 := by
          refine ⟨?_, bel_fr HB.out hf5 HTW.out, HK.out.trans ⟨hf5.size, fun b h1 h2 => hf5.block b h2 (fun e => by have := HLT.out b (.inl e); omega)⟩, fun b hb => (hf5.block b (Nat.lt_of_lt_of_le (HZ1.out b hb).1 HK.out.size) (fun e => (HZ1.out b hb).2 (.inl e))).trans (HKZ.out b hb)⟩
          rw [SS, ← HXE.out, ← List.append_assoc, show ((0 + (j + 1) : Nat) : Int) = ((0 + j : Nat) : Int) + 1 by omega]
          exact hl5
        have HT := Lib.hid hT
        clear a1 a2 a3 ht5 hf5 hl5 hT HA HCE HLR HB HK HKZ
        go_wp2
        go_roundw
        all_goals first
          | exact ⟨j + 1, by omega, by go_num, HT⟩
          | (simp [ivT]; omega)
      · have hlti : ¬ (j : Int) < (l.length : Int) := by omega
        obtain ejl : j = l.length := by omega
        have HFO := Lib.hid (force2 wr hlr (fun e k hk => by
          have e1 : j = 0 := by
            have e2 : (0 : Int) = ((0 + j : Nat) : Int) := e
            omega
          rw [e1]
          exact HOWN3.out k hk))
        have HB := Lib.hid hb
        have HK := Lib.hid hk
        have HKZ := Lib.hid hkz
        clear hlr hb hk hkz
        go_wp2_with fail
        refine HFO.out.mono ?_
        rintro r9 w8 ⟨rfl, d8, hl8, hdn8, hf8⟩
        rw [ejl] at hl8 hdn8
        have HB8 := Lib.hid (bel_fr HB.out hf8 (fun k hk => by rcases hk with h | h; exact HTW.out k h; exact HTH.out k h))
        have HK8 := Lib.hid (HK.out.trans ⟨hf8.size, fun b h1 h2 => hf8.block b h2 (fun e => by have := HLT.out b e; omega)⟩)
        have HOWN8 : Hid (∀ k : Nat, k < 60 → d8.has ((0 : Int) + k) (tileL (SS l l.length) k)) := hdn8.own
        have HT8 : Hid (d8.tiles = 60) := hdn8.tiles.trans HT3.out
        have HD8 : Hid (DkAt w8 pd bn (bn + 1) 0 d8) := hl8.dk
        have HLE := Lib.hid (left_any w8 hl8.tr)
        clear hl8 hdn8 hf8 HFO HB HK HKZ HZ1 HOWN3 HT3
        have hSl : (([] : List Int) ++ SS l l.length).length = 51 * l.length := SS_len HOK.out l.length (by omega)
        obtain ⟨z, hz, hz1⟩ : ∃ z : Int, (60 : Int) * 63 - ((([] : List Int) ++ SS l l.length).length : Int) = z ∧ z = 3780 - 51 * (l.length : Int) := ⟨_, rfl, by rw [hSl]; omega⟩
        obtain ⟨u, hu⟩ : ∃ u : Nat, u = 51 * l.length := ⟨_, rfl⟩
        have hu5 : u ≤ 510 := by omega
        have hzu : (3780 : Int) - z = (u : Int) := by omega
        have HSL := Lib.hid hSl
        have HU := Lib.hid hu
        clear hSl hu hz1
        go_upto_region 16 with (fail)
        go_upto_region 17 with (go_at_call 12; refine HLE.out.mono ?_; rintro e w9 ⟨rfl, hb9⟩; have HB9 := Lib.hid hb9; clear hb9; rw [hz])
        go_cut [16] (fun q wx => ∃ kk : Nat, q = .int .i64 kk ∧ u / 63 < kk ∧ kk < 60 ∧ w9 = wx)
        case first =>
          have ha20 : (a8 : Int) % 20 = ((a8 % 20 : Nat) : Int) := by omega
          have hu63 : (u : Int) / 63 = ((u / 63 : Nat) : Int) := by omega
          obtain ⟨m1, hm1⟩ : ∃ m1, a8 % 20 = m1 := ⟨_, rfl⟩
          obtain ⟨m2, hm2⟩ : ∃ m2, u / 63 = m2 := ⟨_, rfl⟩
          have hm1b : m1 < 20 := by omega
          have hm2b : m2 ≤ 8 := by omega
          rw [hm1] at ha20
          rw [hm2] at hu63
          have HM12 := Lib.hid hm2
          clear hm1 hm2
          go_wp2
          go_meet
          exact ⟨m2 + 1 + m1, by go_num, by have := HM12.out; omega, by omega, rfl⟩
        case rest =>
          obtain ⟨kk, rfl, hk1, hk2, rfl⟩ := hcut
          have HBW := Lib.hid (HB8.out.trans (HB9.out.mono HB8.out.size))
          obtain ⟨v1, x1, v2, x2, g2, ha1, ha2, hsb, hg2, hbx⟩ := tile_bytes w9 (HRW.out.below HBW.out (Nat.le_refl _)) r64
          have hlz : ((64 - raw.length : Nat) : Int) = 64 - (raw.length : Int) := by omega
          rw [hlz] at ha2
          have HA1 := Lib.hid ha1
          have HA2 := Lib.hid ha2
          have hdx := HD8.out.on (fun k hk => (hbx.block k (Nat.lt_of_lt_of_le (HD8.out.lt hk) HB9.out.size)).trans (HB9.out.block k (HD8.out.lt hk)))
          obtain ⟨rz, hrz⟩ : ∃ rz, raw ++ List.replicate (64 - raw.length) 0 = rz := ⟨_, rfl⟩
          have hrzl : rz.length = 64 := by rw [← hrz, List.length_append, List.length_replicate]; omega
          have hrzo : bytesOk rz := by
            rw [← hrz]
            intro y hy
            rcases List.mem_append.1 hy with h | h
            · exact HOR.out y h
            · rw [List.eq_of_mem_replicate h]; omega
          rw [hrz] at hsb
          have HWR := Lib.hid (write_plain x2 hdx.dk hdx.dead (kk : Int) (by omega) (by rw [HT8.out]; omega) v2 rz hsb hrzl hrzo hdx.set)
          have HDX := Lib.hid hdx
          have HBX := Lib.hid hbx
          have HRZ := Lib.hid (And.intro hrzl hrzo)
          have HK1 := Lib.hid hk1
          clear ha1 ha2 hsb hdx hbx hrz hrzl hrzo hk1 hlz
          go_wp2_with (at_builtin; first | (refine Lib.wpList_append_run _ rfl _ _ _ _ rfl _ _ rfl rfl _ _ HA1.out ?_) | (refine Lib.wpList_append_run _ rfl _ _ _ _ rfl _ _ rfl rfl _ _ (HA2.out _) ?_))
          refine HWR.out.mono ?_
          rintro e w10 ⟨rfl, d10, f10⟩
          have HD10 : Hid (DkAt w10 pd bn (bn + 1) 0 (d8.store kk (blkOf rz))) := ⟨d10, HDX.out.dead, HDX.out.set, HDX.out.mv, HDX.out.mask⟩
          have HB10 := Lib.hid (bel_fr (HBW.out.trans (HBX.out.mono HBW.out.size)) f10 HTH.out)
          have HK10 : Hid (Kpt w3.heap.size w4 w10) := HK8.out.trans ⟨Nat.le_trans HB9.out.size (Nat.le_trans HBX.out.size f10.size), fun b h1 h2 => by
            have e1 := HB9.out.block b h2
            have e2 := HBX.out.block b (Nat.lt_of_lt_of_le h2 HB9.out.size)
            have e3 := f10.block b (Nat.lt_of_lt_of_le h2 (Nat.le_trans HB9.out.size HBX.out.size)) (fun e => by have := HLT.out b (.inr e); omega)
            exact e3.trans (e2.trans e1)⟩
          have HT10 : Hid ((d8.store kk (blkOf rz)).tiles = 60) := HT8.out
          obtain ⟨S, hS⟩ : ∃ S, SS l l.length = S := ⟨_, rfl⟩
          have hSlen : S.length = u := by rw [← hS, HU.out]; exact SS_len HOK.out l.length (by omega)
          have HAS : Hid (∀ k : Nat, k < 60 → (d8.store kk (blkOf rz)).has ((0 : Int) + k) (if k = kk then rz else tileL S k)) := fun k hk => by
            refine Dk.has_store HRZ.out.1 HRZ.out.2 ?_
            by_cases e : k = kk
            · rw [if_pos (by omega), if_pos e]
            · rw [if_neg (by omega), if_neg e, ← hS]
              exact HOWN8.out k hk
          obtain ⟨dz, hdz⟩ : ∃ dz, d8.store kk (blkOf rz) = dz := ⟨_, rfl⟩
          rw [hdz] at HD10 HT10 HAS
          have hR : rdL (fun k => if k = kk then rz else tileL S k) 60 0 = S := by
            rw [rd_cong (S := S) (fun j hj => if_neg (by have := HK1.out; rw [hSlen] at hj; omega)) 60 0 (Nat.zero_le _), rd_tile _ 60 0 (by omega)]
            rfl
          have hsc : scan S = BSm l l.length := by rw [← hS, SS_bsm HOK.out _ (by omega), scan_frs _ (BSm_ok HOK.out (by omega))]
          have hfn : frsN (scan S) = S.length := by rw [hsc, frsN_len, ← SS_bsm HOK.out _ (by omega), hS]
          have HO := topenE_any w10 HD10.out 0 60 (Int.le_refl _) (by rw [HT10.out]; decide) (T := fun k => if k = kk then rz else tileL S k) HAS.out
          rw [hR] at HO
          have HO := Lib.hid HO
          have HSC := Lib.hid (And.intro hsc (And.intro hfn (And.intro hS hSlen)))
          clear hR hsc hfn hS hSlen d10 f10 HA1 HA2 HWR HDX HBX HRZ HK1 hdz HAS HD8 HOWN8 HT8 HB8 HK8 HB9 HBW hg2
          go_wp2_with fail
          refine HO.out.mono ?_
          rintro r9 w11 ⟨p2, bm2, A2', c2', d11, es2, rfl, hp2, hbm2, hl11, hdn11, hf11, hes11, hels11, heg11⟩
          have HP2 : Hid (w4.heap.size ≤ p2 ∧ w4.heap.size ≤ bm2) := ⟨Nat.le_trans HK10.out.size hp2, Nat.le_trans HK10.out.size hbm2⟩
          have hln : (scan S).length = l.length := by rw [HSC.out.1]; unfold BSm; rw [List.length_map, ESm_len]
          have hop : opT pd 0 60 S = ⟨pd, 0, 60, S, (l.length : Int), (l.length : Int)⟩ := by
            unfold opT
            rw [HSC.out.2.1, hln, List.take_length]
            rfl
          rw [hop] at hl11 hdn11
          have hkp11 : Kpt w3.heap.size w4 w11 := HK10.out.trans ⟨hf11.size, fun b h1 h2 => hf11.block b h2 (fun e => by have := HLT.out b (.inr e); omega)⟩
          have hr1 := rowE_els hels11 heg11
          rw [hes11, HSC.out.1, BSm_tk HOK.out (by omega)] at hr1
          have hr2 : RowE w11 (.slice Av l.length cv) (ESm l l.length) := by
            by_cases hl0 : l = []
            · subst hl0
              exact rowE_nil w11 Av cv
            · obtain ⟨gg, cap, es, hv, hlst, -⟩ := lst_of hl0 HSM.out
              rw [hv]
              have h3 := rowE_lst (hlst.at hkp11)
              rw [lst_esm hlst] at h3
              exact h3
          have hbl : (BSm l l.length).length = l.length := by unfold BSm; rw [List.length_map, ESm_len]
          rw [hbl] at hr1
          rw [hln]
          have HSA := Lib.hid (sames_any w11 hr1 hr2 (by rw [ESm_len]; omega) ESm_L)
          have HB11 := Lib.hid (bel_fr HB10.out hf11 HTH.out)
          have HK11 := Lib.hid hkp11
          have HL11 := Lib.hid hl11
          have HTW2 : Hid (∀ k, Two p2 bm2 k → w.heap.size ≤ k) := fun k hk => by have := HB10.out.size; rcases hk with h | h <;> omega
          have HOWN11 : Hid (∀ k : Nat, k < 60 → d11.has ((0 : Int) + k) (tileL S k)) := hdn11.own
          have HT11 : Hid (d11.tiles = 60) := hdn11.tiles.trans HT10.out
          clear hp2 hbm2 hl11 hdn11 hf11 hes11 hels11 heg11 hln hop hkp11 hr1 hr2 hbl HO HD10 HT10 HB10 HK10
          go_wp2_with fail
          refine HSA.out.mono ?_
          rintro e w12 ⟨rfl, hb12⟩
          have HSO2 := Lib.hid (some_any w12 (HM.out.below (HB11.out.trans (hb12.mono HB11.out.size)) (Nat.le_refl _)) (by omega))
          have HB12 := Lib.hid (HB11.out.trans (hb12.mono HB11.out.size))
          have HK12 : Hid (Kpt w3.heap.size w4 w12) := HK11.out.trans ⟨hb12.size, fun b _ h2 => hb12.block b h2⟩
          have HL12 := Lib.hid (HL11.out.kept (w' := w12) fun k hk => hb12.block k hk)
          clear hb12 HSA HB11 HK11 HL11
          go_wp2_with fail
          refine HSO2.out.mono ?_
          rintro r9 w13 ⟨vo, rfl, hsm⟩
          have hb13 : Below w12.heap.size w12 w13 := by obtain ⟨es, _, _, _, _, hb⟩ := hsm; exact hb
          have hm13 : ∃ A m c, vo = .slice A m c ∧ m = mo.length := by
            obtain ⟨es, hes, _, ho, _, _⟩ := hsm
            obtain ⟨A, m, c, rfl⟩ := own_shape ho
            exact ⟨A, m, c, rfl, own_n ho⟩
          obtain ⟨Ao, mm, co, rfl, rfl⟩ := hm13
          have HLT2 : Hid (∀ k, (Two p2 bm2 k ∨ Three pd bn (bn + 1) k) → k < w12.heap.size) := fun k hk => by
            rcases hk with h | h
            · rcases h with h | h
              · have := HL12.out.tr.lt.1; omega
              · have := HL12.out.tr.lt.2; omega
            · exact HL12.out.dk.lt h
          have H0 : Hid (TR w p2 bm2 pd bn (bn + 1) S l.length (l.length : Int) mo d11 w13 w12.heap.size (fun b => w3.heap.size ≤ b ∧ b < w4.heap.size) 0 w13) := by
            refine Lib.hid ⟨?_, HB12.out.trans (hb13.mono HB12.out.size), ⟨Nat.le_refl _, fun _ _ _ => rfl⟩, fun _ _ => rfl⟩
            have := HL12.out.kept (w' := w13) fun k hk => hb13.block k hk
            show LogAt w13 p2 bm2 ⟨pd, 0, 60, S ++ [], _, _⟩ bn (bn + 1) 0 d11
            rw [List.append_nil]
            exact this
          have HSM2 := Lib.hid hsm
          have HK13 : Hid (Kpt w3.heap.size w4 w13) := HK12.out.trans ⟨hb13.size, fun b _ h2 => hb13.block b h2⟩
          have HZ2 : Hid (∀ b, (fun b : Nat => w3.heap.size ≤ b ∧ b < w4.heap.size) b → b < w13.heap.size ∧ ¬ (Two p2 bm2 b ∨ Three pd bn (bn + 1) b)) := fun b hb => by
            obtain ⟨h1, h2⟩ := hb
            refine ⟨Nat.lt_of_lt_of_le h2 HK13.out.size, fun e => ?_⟩
            rcases e with e | e
            · have := HP2.out
              rcases e with e | e <;> omega
            · have := HLT.out b (.inr e)
              omega
          have HS23 : Hid (w3.heap.size ≤ w12.heap.size) := Nat.le_trans HS34.out HK12.out.size
          clear hb13 hsm HSO2 HL12 HB12 HK12
          go_wp2
          go_loopw [21] (fun i wr => ∃ j : Nat, j ≤ mo.length ∧ i = .int .i64 j ∧ Hid (TR w p2 bm2 pd bn (bn + 1) S l.length (l.length : Int) mo d11 w13 w12.heap.size (fun b => w3.heap.size ≤ b ∧ b < w4.heap.size) j wr)) (fun i _ => mo.length - ivT i)
          case atStart => exact ⟨0, Nat.zero_le _, rfl, H0⟩
          case round =>
            obtain ⟨j, hj, rfl, HR⟩ := hrel
            obtain ⟨hlr, hb, hk, hkz⟩ := HR.out
            clear H0 HR
            have hj12 : (j : Int) ≤ 12 := by omega
            by_cases hlt : j < mo.length
            · have hlti : (j : Int) < (mo.length : Int) := by omega
              obtain ⟨gg, cap, es, hv, hlst, -⟩ := lst_of (fun e => by rw [e] at hlt; cases hlt) HSM2.out
              injection hv with hv1 hv2 hv3
              subst hv1 hv3
              have hlr2 := hlst.at hk
              have hje : j < es.length := by rw [hlst.len]; exact hlt
              have hx := getD_bd HOM.out j
              obtain ⟨x, hxe2⟩ : ∃ x, x = mo.getD j 0 := ⟨_, rfl⟩
              rw [← hxe2] at hx
              have hel : (es[j]).1 = someE j x := by rw [hxe2]; exact hlst.el j hje
              have hin := (hlr2.inn es[j] (List.getElem_mem hje)).1
              rw [hel] at hin
              obtain ⟨vn, hvn⟩ : ∃ v, v = (es[j]).2 := ⟨_, rfl⟩
              rw [← hvn] at hin
              have hES := someE_S (j := j) (x := x) hin
              have hcells : ∀ i u, (entC (someE j x) (.slice none 0 0) vn (.slice none 0 0) (.slice none 0 0) (.slice none 0 0) (.slice none 0 0))[i]? = some u → wr.cell? ⟨gg, j * 16 + i, none⟩ = some u := fun i u hu => hlr2.cells j hje i u (by unfold enN; rw [hel, ← hvn]; simpa using hu)
              have HA := Lib.hid (append_any wr hlr.tr (someE j x) hES (someE_I j (by omega) x hx))
              have HCE := Lib.hid hcells
              have HXE := Lib.hid hxe2
              have HLR := Lib.hid hlr
              have HB := Lib.hid hb
              have HK := Lib.hid hk
              have HKZ := Lib.hid hkz
              have HX := Lib.hid hx
              have HFIT : Hid (∀ j, j ≤ mo.length → (((S ++ SS mo j).length + 51 : Nat) : Int) ≤ 63 * (60 : Int)) := fun j hj => by
                have e1 := SS_len HOM.out j (by omega)
                have e2 : (S ++ SS mo j).length = S.length + (SS mo j).length := List.length_append
                have e3 := HSC.out.2.2.2
                omega
              have HZI := Lib.hid (infoEntC (someE j x) (.slice none 0 0) vn (.slice none 0 0) (.slice none 0 0) (.slice none 0 0) (.slice none 0 0))
              clear hlst hlr2 hxe2 hel hin hvn hES hcells hlr hb hk hkz hx hje hv2
              go_wp2_with (with_reducible refine wpList_load_at rfl 40 (.tmp 119) rfl gg (j * 16) rfl (entC (someE j x) (.slice none 0 0) vn (.slice none 0 0) (.slice none 0 0) (.slice none 0 0) (.slice none 0 0)) _ HCE.out Try.underlying40 rfl HZI.out ?_)
              refine HA.out.mono ?_
              rintro r9 w5 ⟨he, ht5, hf5⟩
              obtain ⟨a1, a2, a3⟩ := app_some (t := ⟨pd, 0, 60, S ++ SS mo j, ((l.length + j : Nat) : Int), (l.length : Int)⟩) (j := j) (x := x) (by omega) HX.out (HFIT.out j (by omega))
              rw [a1, a2] at he
              rw [a3] at ht5
              subst he
              have hl5 := HLR.out.app ht5 hf5 rfl rfl rfl
              have hT : TR w p2 bm2 pd bn (bn + 1) S l.length (l.length : Int) mo d11 w13 w12.heap.size (fun b => w3.heap.size ≤ b ∧ b < w4.heap.size) (j + 1) w5 := by
                refine ⟨?_, bel_fr HB.out hf5 HTW2.out, HK.out.trans ⟨hf5.size, fun b h1 h2 => hf5.block b h2 (fun e => by have := HLT2.out b (.inl e); omega)⟩, fun b hb => (hf5.block b (Nat.lt_of_lt_of_le (HZ2.out b hb).1 HK.out.size) (fun e => (HZ2.out b hb).2 (.inl e))).trans (HKZ.out b hb)⟩
                rw [SS, ← HXE.out, ← List.append_assoc, show ((l.length + (j + 1) : Nat) : Int) = ((l.length + j : Nat) : Int) + 1 by omega]
                exact hl5
              have HT := Lib.hid hT
              clear a1 a2 a3 ht5 hf5 hl5 hT HA HCE HLR HB HK HKZ
              go_wp2
              go_roundw
              all_goals first
                | exact ⟨j + 1, by omega, by go_num, HT⟩
                | (simp [ivT]; omega)
            · have hlti : ¬ (j : Int) < (mo.length : Int) := by omega
              obtain ejl : j = mo.length := by omega
              have HFO := Lib.hid (force2 wr hlr (fun e k hk => by
                have e1 : j = 0 := by
                  have e2 : (l.length : Int) = ((l.length + j : Nat) : Int) := e
                  omega
                rw [e1]
                show d11.has _ (tileL (S ++ []) k)
                rw [List.append_nil]
                exact HOWN11.out k hk))
              have HB := Lib.hid hb
              have HK := Lib.hid hk
              have HKZ := Lib.hid hkz
              clear hlr hb hk hkz
              go_wp2_with fail
              refine HFO.out.mono ?_
              rintro r9 w14 ⟨rfl, d14, hl14, hdn14, hf14⟩
              rw [ejl] at hl14 hdn14
              have HB14 := Lib.hid (bel_fr HB.out hf14 (fun k hk => by rcases hk with h | h; exact HTW2.out k h; exact HTH.out k h))
              have HKo14 : Hid (Kpt w12.heap.size w13 w14) := HK.out.trans ⟨hf14.size, fun b h1 h2 => hf14.block b h2 (fun e => by have := HLT2.out b e; omega)⟩
              have HK14 : Hid (Kpt w3.heap.size w4 w14) := ⟨Nat.le_trans HK13.out.size (Nat.le_trans HK.out.size hf14.size), fun b h1 h2 => (hf14.block b (Nat.lt_of_lt_of_le (HZ2.out b ⟨h1, h2⟩).1 HK.out.size) (HZ2.out b ⟨h1, h2⟩).2).trans ((HKZ.out b ⟨h1, h2⟩).trans (HK13.out.block b h1 h2))⟩
              have HDK14 : Hid (DkAt w14 pd bn (bn + 1) 0 d14) := hl14.dk
              have HOWN14 : Hid (∀ k : Nat, k < 60 → d14.has ((0 : Int) + k) (tileL (S ++ SS mo mo.length) k)) := hdn14.own
              have HT14 : Hid (d14.tiles = 60) := hdn14.tiles.trans HT11.out
              clear hl14 hdn14 hf14 HFO HB HK HKZ HK13 HZ2 HOWN11 HT11 HTW2 HP2
              have hS2len : (S ++ SS mo mo.length).length ≤ 3780 := by
                have e1 := SS_len HOM.out mo.length (by omega)
                have e2 : (S ++ SS mo mo.length).length = S.length + (SS mo mo.length).length := List.length_append
                have e3 := HSC.out.2.2.2
                omega
              have hsc2 : scan (S ++ SS mo mo.length) = BSm l l.length ++ BSm mo mo.length := by
                rw [← HSC.out.2.2.1, SS_bsm HOK.out _ (by omega), SS_bsm HOM.out _ (by omega), ← List.flatMap_append]
                exact scan_frs _ (fun b hb => by
                  rcases List.mem_append.1 hb with h | h
                  · exact BSm_ok HOK.out (by omega) b h
                  · exact BSm_ok HOM.out (by omega) b h)
              obtain ⟨S2, hS2⟩ : ∃ S2, S ++ SS mo mo.length = S2 := ⟨_, rfl⟩
              rw [hS2] at HOWN14 hS2len hsc2
              have hR : rdL (tileL S2) 60 0 = S2 := by rw [rd_tile _ 60 0 (by omega)]; rfl
              have HO := topenE_any w14 HDK14.out 0 60 (Int.le_refl _) (by rw [HT14.out]; decide) (T := tileL S2) HOWN14.out
              rw [hR] at HO
              have HO := Lib.hid HO
              have HSC2 := Lib.hid hsc2
              clear hR hsc2 hS2 hS2len HOWN14 HT14 HDK14
              go_wp2_with fail
              refine HO.out.mono ?_
              rintro r9 w15 ⟨p3, bm3, A3', c3', d15, es3, rfl, -, -, -, -, hf15, hes15, hels15, heg15⟩
              have hr1 := rowE_els hels15 heg15
              rw [hes15, HSC2.out, List.map_append, BSm_tk HOK.out (by omega), BSm_tk HOM.out (by omega)] at hr1
              have hln : (BSm l l.length ++ BSm mo mo.length).length = l.length + mo.length := by unfold BSm; rw [List.length_append, List.length_map, List.length_map, ESm_len, ESm_len]
              rw [hln] at hr1
              rw [HSC2.out, hln]
              obtain ⟨e1, x1, l1, o1, k1⟩ := sm_src HSM.out
              obtain ⟨e2, x2, l2, o2, k2⟩ := sm_src HSM2.out
              have hk15 : Kpt w3.heap.size w4 w15 := HK14.out.trans ⟨hf15.size, fun b h1 h2 => hf15.block b h2 (fun e => by have := HLT.out b (.inr e); omega)⟩
              have hko15 : Kpt w12.heap.size w13 w15 := HKo14.out.trans ⟨hf15.size, fun b h1 h2 => hf15.block b h2 (fun e => by have := HLT2.out b (.inr e); omega)⟩
              obtain ⟨q1, s1⟩ := k1 w15 hk15
              obtain ⟨q2, s2⟩ := k2 w15 hko15
              obtain ⟨y1, W1, y2, W2, a1, a2, hrow, hbW⟩ := cat_rows w15 q1 q2 l1 l2 (by omega) (by omega) o1 o2 s1 s2
              rw [x1, x2] at hrow
              have HB15 := bel_fr HB14.out hf15 HTH.out
              have HBW2 := Lib.hid (HB15.trans (hbW.mono HB15.size))
              have HSA := Lib.hid (sames_any W2 (hr1.up hbW) hrow (by rw [List.length_append, ESm_len, ESm_len]; omega) (fun e he => (List.mem_append.1 he).elim (ESm_L e) (ESm_L e)))
              have HA1 := Lib.hid a1
              have HA2 := Lib.hid a2
              clear hr1 hln x1 l1 o1 k1 x2 l2 o2 k2 hk15 hko15 q1 s1 q2 s2 a1 a2 hrow hbW HB15 hf15 hes15 hels15 heg15 HO HK14 HKo14 HB14
              go_wp2_with (at_builtin; first | (refine wpList_append_runG _ (by rfl) _ _ _ _ rfl _ _ rfl rfl _ _ (HA1.out _) ?_) | (refine wpList_append_runG _ (by rfl) _ _ _ _ rfl _ _ rfl rfl _ _ (HA2.out _) ?_))
              refine HSA.out.mono ?_
              rintro e w16 ⟨rfl, hb16⟩
              have HB16 := Lib.hid (HBW2.out.trans (hb16.mono HBW2.out.size))
              clear hb16 HSA HBW2
              go_wp2
              go_ret
              exact ⟨rfl, HB16.out⟩
end Go.Proofs.Ytemmhligohebfaa.trailWaste
