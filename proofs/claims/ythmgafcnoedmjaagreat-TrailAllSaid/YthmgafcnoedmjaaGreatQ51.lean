/- TrailAll, a part. -/
import Derived.Test.YthmgafcnoedmjaaGreatQ50
namespace Go.Proofs.YthmgafcnoedmjaaGreat
set_option maxRecDepth 100000
open Go.RowKit Go.Maps
def deC (o : De) : Array Value := (deV o).toArray
theorem deC_all {w : World} {o : De} (h : DeIn w o) : (deC o).all (·.oneCell') = true := by
 obtain ⟨kd, a, mk, mv, ⟨e, s1, s2, s3, s4, s5, s6⟩, rw, rv⟩ := o
 obtain ⟨A1, c1, A2, c2, A3, c3, A4, c4, A5, c5, A6, c6, h1, h2, h3, h4, h5, h6⟩ := h.e.1.form
 obtain ⟨A7, c7, h7, _⟩ := h.m.form
 obtain ⟨A8, c8, h8, _⟩ := h.r.form
 simp only at h1 h2 h3 h4 h5 h6 h7 h8
 subst h1 h2 h3 h4 h5 h6 h7 h8
 simp [deC, deV, enV, entC, Value.oneCell']
def AwR (B pd bn bo r gn gw gt : Nat) (vn vw vt : Value) (K : Nat) (wa : World) (i p q : Nat) (wr : World) : Prop :=
 ∃ bm g gm d f lv av t, TI B wr pd bn bo g r gn gw gt gm vn vw vt d f p bm q lv av t K ∧ t.count ≤ 1600 + i ∧ Below wa.heap.size wa wr
set_option maxHeartbeats 20000000 in
theorem trailAll_any (w : World) (N : Int) (h0 : 0 ≤ N) (h1 : N < 256) {A : Option Addr} {ln c : Nat} {os : List De} (hE : Els w (.slice A ln c) 20 (os.map deV)) (hIn : ∀ o ∈ os, DeIn w o) :
  Calls Tryz.prog 3 #[.int .u8 N, .slice A ln c] w fun e w' => e = .returned (.bool true) ∧ Below w.heap.size w w' := by
 have hln : ln = os.length := by
  obtain ⟨A', c', e, _⟩ := hE
  injection e with _ e _
  rw [e, List.length_map]
 have HE := Lib.hid hE
 have HIN := Lib.hid hIn
 have HBg := Lib.hid (begun_any w)
 clear hE hIn
 obtain ⟨K, hK⟩ : ∃ K : Nat, N % 24 = (K : Int) := ⟨(N % 24).toNat, by omega⟩
 have hK24 : K ≤ 24 := by omega
 have HK := Lib.hid hK24
 go_enter Tryz.func3, Tryz.ntmps3
 go_wp2_with fail
 refine HBg.out.mono ?_
 rintro e wa ⟨rfl, hba⟩
 have HBa := Lib.hid hba
 clear hba HBg
 by_cases h25 : 25 < ln
 ·have h25i : (25 : Int) < (ln : Int) := by omega
  go_wp2
  go_ret
  exact ⟨rfl, HBa.out⟩
 have h25i : ¬ (25 : Int) < (ln : Int) := by omega
 have hmod : N % 24 = (K : Int) := hK
 have k2 : ((K : Int) + 2) = ((K + 2 : Nat) : Int) := by omega
 obtain ⟨k, hk⟩ : ∃ k, k = K + 2 := ⟨_, rfl⟩
 rw [← hk] at k2
 have HNw := Lib.hid (di_new wa k K hk hK24)
 have hKi : (K : Int) ≤ 24 := by omega
 have hKi0 : (0 : Int) ≤ (K : Int) := by omega
 clear hk
 go_wp2_with fail
 refine HNw.out.mono ?_
 rintro e w1 ⟨pd, rfl, hb1, hN2⟩
 have HB1 := Lib.hid hb1
 clear hb1 HNw
 go_wp2_with fail
 refine hN2.mono ?_
 rintro e w2 ⟨r, rfl, hb2, bn, bo, g, gn, gw, gt, gm, vn, vw, vt, d, f, hdi, hd, hset⟩
 have HB2 := Lib.hid (HB1.out.trans hb2)
 have HOp := Lib.hid (open_both hdi hdi.hB hd HK.out)
 have HSet := Lib.hid hset
 clear hN2 hb2 HB1 hdi hd hset
 go_wp2_with fail
 refine HOp.out.mono ?_
 rintro a w3 ⟨⟨x, y, z, rfl⟩, hb3, hO2⟩
 have HB3 := Lib.hid (HB2.out.trans hb3)
 have HO2 := Lib.hid hO2
 clear hb3 hO2 HOp HB2
 go_wp2_with fail
 refine HO2.out.mono ?_
 rintro b w4 ⟨hb4, hob⟩
 have HB4 := Lib.hid (HB3.out.trans hb4)
 rcases hob with ⟨hz, _⟩ | ⟨p, bm, q, g', d', f', lv, av, t, A1, A2, n, c1, c2, L, ea, eb, hti, -, -, -, -, hcnt⟩
 ·rw [HSet.out] at hz; cases hz
 subst eb
 injection ea with ea
 injection ea with ea
 injection ea with ea
 injection ea with ea1 ea
 injection ea with ea2 ea
 injection ea with ea3 ea
 subst ea1 ea2 ea3
 have H0 : Hid (AwR wa.heap.size pd bn bo r gn gw gt vn vw vt K wa 0 p q w4) := Lib.hid ⟨bm, g', gm, d', f', lv, av, t, hti, by omega, HB4.out⟩
 clear hb4 hti hcnt HB3 HB4 HO2 HSet ea
 go_upto_block 0 with (fail)
 subst hln
 have HBw := Lib.hid HBa.out
 clear h25i hmod k2 hKi hKi0 h0 h1 hK HBa
 go_wp2
 go_loopw [8, 11, 14] (fun x y z wr => ∃ i p q : Nat, i ≤ os.length ∧ x = .pointer (some ⟨p, 0, none⟩) ∧ y = .pointer (some ⟨q, 0, none⟩) ∧ z = .int .i64 i ∧ Hid (AwR wa.heap.size pd bn bo r gn gw gt vn vw vt K wa i p q wr)) (fun _ _ z _ => os.length - ivT z)
 case atStart => exact ⟨0, p, q, Nat.zero_le _, rfl, rfl, rfl, H0⟩
 case round =>
  obtain ⟨i, p, q, hi, rfl, rfl, rfl, HR⟩ := hrel
  obtain ⟨bm, g, gm, d, f, lv, av, t, hti, hcnt, hbr⟩ := HR.out
  have hi25 : os.length ≤ 25 := by omega
  have HBr := Lib.hid (HBw.out.trans (hbr.mono HBw.out.size))
  have HBra := Lib.hid hbr
  have HTI := Lib.hid hti
  have HCN := Lib.hid hcnt
  clear H0 HR hti hcnt hbr
  by_cases hlt : i < os.length
  ·have hlti : (i : Int) < (os.length : Int) := by omega
   obtain ⟨A', c', hv, -, hnn, hc⟩ := HE.out
   injection hv with e1 e2 e3
   subst e1 e3
   have hne : os.map deV ≠ [] := fun e => by rw [List.map_eq_nil_iff] at e; rw [e] at hlt; simp at hlt
   obtain ⟨al, hal⟩ : ∃ al, A = some al := by
    cases A with
    | none => exact absurd (hnn rfl) hne
    | some al => exact ⟨al, rfl⟩
   subst hal
   obtain ⟨hsp, hbl, hcel⟩ := hc al rfl hne
   obtain ⟨gl, ol, asp⟩ := al
   cases hsp
   obtain ⟨o, ho⟩ : ∃ o, o = os[i] := ⟨_, rfl⟩
   have hin := HIN.out os[i] (List.getElem_mem hlt)
   rw [← ho] at hin
   have HDC : Hid (∀ W, Below w.heap.size w W → ∀ j u, (deV o).toArray[j]? = some u → W.cell? ⟨gl, ol + i * 20 + j, none⟩ = some u) := Lib.hid fun W hW j u hu => by
    have hj : j < 20 := (Array.getElem?_eq_some_iff.1 hu).1
    have h0 := hcel i j (by rw [List.length_map]; exact hlt) hj
    rw [List.getElem?_map, List.getElem?_eq_getElem hlt, ← ho] at h0
    have h1 : w.cell? ⟨gl, ol + i * 20 + j, none⟩ = some u := h0.trans (show (deV o)[j]? = some u by rw [← List.getElem?_toArray]; exact hu)
    rw [← h1]
    exact World.cell?_of_block (hW.block gl hbl)
   have HIn := Lib.hid hin
   clear hcel hin hne hc hnn ho hbl e2
   have hof : (ol : Int) + (i : Int) * 20 = ((ol + i * 20 : Nat) : Int) := by omega
   have HZI : Hid ((Tryz.prog.info? 46).map (·.size) = some (deC o).size) := Lib.hid (show _ = some 20 by kernel_rfl)
   have HZA := Lib.hid (deC_all HIn.out)
   have HBo := Lib.hid (heap_alloc_new wr (.cells #[.int .i64 0, .int .i64 0, .slice none 0 0, .int .i64 0, .int .i64 0, .int .i64 0, .int .i64 0, .int .i64 0, .int .i64 0, .int .i64 0, .int .i64 0, .int .i64 0, .int .i64 0, .slice none 0 0, .slice none 0 0, .slice none 0 0, .slice none 0 0, .slice none 0 0, .slice none 0 0, .slice none 0 0] 46))
   have HZN : Hid ((#[.int .i64 0, .int .i64 0, .slice none 0 0, .int .i64 0, .int .i64 0, .int .i64 0, .int .i64 0, .int .i64 0, .int .i64 0, .int .i64 0, .int .i64 0, .int .i64 0, .int .i64 0, .slice none 0 0, .slice none 0 0, .slice none 0 0, .slice none 0 0, .slice none 0 0, .slice none 0 0, .slice none 0 0] : Array Value).size = (deC o).size) := Lib.hid rfl
   have HSA := Lib.hid (setRow_alloc wr #[.int .i64 0, .int .i64 0, .slice none 0 0, .int .i64 0, .int .i64 0, .int .i64 0, .int .i64 0, .int .i64 0, .int .i64 0, .int .i64 0, .int .i64 0, .int .i64 0, .int .i64 0, .slice none 0 0, .slice none 0 0, .slice none 0 0, .slice none 0 0, .slice none 0 0, .slice none 0 0, .slice none 0 0] (deC o) 46)
   have HDa : Hid (∀ j u, (deC o)[j]? = some u → (wr.alloc (.cells #[.int .i64 0, .int .i64 0, .slice none 0 0, .int .i64 0, .int .i64 0, .int .i64 0, .int .i64 0, .int .i64 0, .int .i64 0, .int .i64 0, .int .i64 0, .int .i64 0, .int .i64 0, .slice none 0 0, .slice none 0 0, .slice none 0 0, .slice none 0 0, .slice none 0 0, .slice none 0 0, .slice none 0 0] 46)).cell? ⟨gl, ol + i * 20 + j, none⟩ = some u) := Lib.hid (HDC.out _ (HBr.out.trans ((Below.refl _ _).alloc HBr.out.size _)))
   have HDw : Hid (∀ j u, (deC o)[j]? = some u → wr.cell? ⟨gl, ol + i * 20 + j, none⟩ = some u) := Lib.hid (HDC.out _ HBr.out)
   go_upto_region 15 with (first
    | (with_reducible refine wpList_load_at rfl 46 (.tmp 75) rfl gl (ol + i * 20) rfl (deC o) _ HDw.out Tryz.underlying46 rfl HZI.out ?_)
    | (with_reducible refine wpList_store_row rfl 46 (.tmp 15) (.tmp 76) rfl wr.heap.size _ rfl rfl 46 _ HBo.out HZI.out HZN.out HZA.out ?_))
   rw [HSA.out]
   obtain ⟨w5, HW5, hx5, hb5⟩ : ∃ W, Hid (wr.alloc (.cells (deC o) 46) = W) ∧ W.heap[wr.heap.size]? = some (.cells (deC o) 46 (0, 0)) ∧ Below wr.heap.size wr W := ⟨_, Lib.hid rfl, heap_alloc_new wr _, (Below.refl _ _).alloc (Nat.le_refl _) _⟩
   rw [HW5.out]
   obtain ⟨bx, hbx⟩ : ∃ b, b = wr.heap.size := ⟨_, rfl⟩
   rw [← hbx] at hx5 ⊢
   obtain ⟨kd, at_, mk, mv, ⟨e, s1, s2, s3, s4, s5, s6⟩, rw, rv⟩ := o
   have HB5 := Lib.hid (HBr.out.trans (hb5.mono HBr.out.size))
   have HBX0 := Lib.hid (Nat.le_of_eq hbx.symm)
   have HBra5 := Lib.hid (HBra.out.trans (hb5.mono HBra.out.size))
   have HT5 := Lib.hid (HTI.out.kept hb5)
   have HX5 := Lib.hid hx5
   have HM5 : Hid (SlW w5 mv mk) := Lib.hid (HIn.out.m.below HB5.out (Nat.le_refl _))
   have HR5 : Hid (SlW w5 rv rw) := Lib.hid (HIn.out.r.below HB5.out (Nat.le_refl _))
   obtain ⟨Am, cm, rfl, hcm⟩ := HM5.out.form
   obtain ⟨Ar, cr, rfl, hcr⟩ := HR5.out.form
   have x0 : w5.cell? ⟨bx, 0, none⟩ = some (.int .i64 kd) := (c_o hx5 0).1
   have x1 : w5.cell? ⟨bx, 1, none⟩ = some (.int .i64 at_) := (c_o hx5 1).1
   have x2 : w5.cell? ⟨bx, 2, none⟩ = some (.slice Am mk.length cm) := (c_o hx5 2).1
   have x4 : w5.cell? ⟨bx, 19, none⟩ = some (.slice Ar rw.length cr) := (c_o hx5 19).1
   have HEN : Hid (∀ j u, (entC e s1 s2 s3 s4 s5 s6)[j]? = some u → w5.cell? ⟨bx, 3 + j, none⟩ = some u) := Lib.hid fun j u hu => by
    have hj : j < 16 := (Array.getElem?_eq_some_iff.1 hu).1
    rw [(c_o HX5.out (3 + j)).1]
    show (deV _).toArray[3 + j]? = some u
    rw [List.getElem?_toArray]
    unfold deV
    rw [List.append_assoc, List.getElem?_append_right (by simp), List.getElem?_append_left (by show 3 + j - 3 < 16; omega)]
    show (enV _)[3 + j - 3]? = some u
    rw [show 3 + j - 3 = j by omega]
    unfold enV
    rw [Array.getElem?_toList]
    exact hu
   have HES : Hid (EntS w5 s1 s2 s3 s4 s5 s6 e) := Lib.hid (HIn.out.e.1.below HB5.out (Nat.le_refl _))
   have HEI : Hid (EntI e) := Lib.hid HIn.out.e.2.1
   have HZE := Lib.hid (infoEntC e s1 s2 s3 s4 s5 s6)
   have HSH := Lib.hid (short_any w5 e HES.out HEI.out)
   clear HSA HW5 hx5 hb5 hbx HZI HZA HBo HZN HDa HDw HDC hof hcm hcr
   by_cases h8 : 8 < mk.length
   ·have h8i : (8 : Int) < (mk.length : Int) := by omega
    go_wp2
    go_ret
    exact ⟨rfl, HB5.out⟩
   have h8i : ¬ (8 : Int) < (mk.length : Int) := by omega
   by_cases h64 : 64 < rw.length
   ·have h64i : (64 : Int) < (rw.length : Int) := by omega
    go_wp2
    go_ret
    exact ⟨rfl, HB5.out⟩
   have h64i : ¬ (64 : Int) < (rw.length : Int) := by omega
   by_cases h150 : (putL e).length ≤ 150
   ·rw [decide_eq_true h150] at HSH
    go_upto_region 17 with (first
     | (with_reducible refine wpList_load_at rfl 44 (.tmp 88) rfl bx 3 rfl (entC e s1 s2 s3 s4 s5 s6) _ HEN.out Tryz.underlying44 rfl HZE.out ?_)
     | (go_at_call 11; refine HSH.out.mono ?_; rintro r6 w6 ⟨rfl, hb6⟩; have HK6 := Lib.hid hb6; clear hb6))
    have HT6 := Lib.hid (HT5.out.kept HK6.out)
    have HB6 := Lib.hid (HB5.out.trans (HK6.out.mono HB5.out.size))
    have HX6 := Lib.hid ((HK6.out.block bx (Array.getElem?_eq_some_iff.1 HX5.out).1).trans HX5.out)
    clear x0 x1 x2 x4 HEN HES HSH HX5 HM5 HR5 HT5 HB5
    -- (generated by gen_traw.py)
    have HBX : Hid (bx < w6.heap.size ∧ ¬ PP pd bn bo r gn gw gt p bm q bx) := Lib.hid ⟨(Array.getElem?_eq_some_iff.1 HX6.out).1, fun e => Nat.lt_irrefl _ (Nat.lt_of_lt_of_le (HTI.out.lt bx e) HBX0.out)⟩
    have HBE : Hid (∀ W : World, W.heap[bx]? = some (.cells (deC ⟨kd, at_, mk, .slice Am mk.length cm, ⟨e, s1, s2, s3, s4, s5, s6⟩, rw, .slice Ar rw.length cr⟩) 46 (0, 0)) → ∀ j u, (entC e s1 s2 s3 s4 s5 s6)[j]? = some u → W.cell? ⟨bx, 3 + j, none⟩ = some u) := Lib.hid fun W hW j u hu => by
     have hj : j < 16 := (Array.getElem?_eq_some_iff.1 hu).1
     rw [(c_o hW (3 + j)).1]
     show (deV _).toArray[3 + j]? = some u
     rw [List.getElem?_toArray]
     unfold deV
     rw [List.append_assoc, List.getElem?_append_right (by simp), List.getElem?_append_left (by show 3 + j - 3 < 16; omega)]
     show (enV _)[3 + j - 3]? = some u
     rw [show 3 + j - 3 = j by omega]
     unfold enV
     rw [Array.getElem?_toList]
     exact hu
    have HEN6 := Lib.hid (HBE.out w6 HX6.out)
    have HES6 : Hid (∀ V, Below wa.heap.size w6 V → EntS V s1 s2 s3 s4 s5 s6 e) := Lib.hid fun V hV => HIn.out.e.1.below (HB6.out.trans (hV.mono HBw.out.size)) (Nat.le_refl _)
    have HBra6 : Hid (Below wa.heap.size wa w6) := Lib.hid (HBra5.out.trans (HK6.out.mono HBra5.out.size))
    have x0 : w6.cell? ⟨bx, 0, none⟩ = some (.int .i64 kd) := (c_o HX6.out 0).1
    go_upto_region 18 with fail
    go_cut [97] (fun q' wx => ∃ z : Int, 0 ≤ z ∧ z < 10 ∧ q' = .int .i64 z ∧ wx = w6)
    case first =>
     as_aux_lemma =>
      have hkd := HIn.out.k
      go_wp2_with fail
      go_meet
      have y1 := Int.lt_tmod_of_pos kd (show (0:Int) < 10 by omega)
      have y2 := Int.tmod_lt_of_pos kd (show (0:Int) < 10 by omega)
      have y3 : wrap64 (kd.tmod 10 + 10) = kd.tmod 10 + 10 := by unfold wrap64; omega
      refine ⟨_, ?_, ?_, rfl, rfl⟩
      ·rw [y3]; exact Int.tmod_nonneg 10 (by omega)
      ·exact Int.tmod_lt_of_pos _ (by omega)
    case rest =>
     obtain ⟨z, hz0, hz9, rfl, hwc⟩ := hcut
     subst hwc
     clear x0
     go_upto_block 2 with (fail)
     go_cut [16] (fun ov wx => ∃ ob : Bool, ov = .bool ob ∧ Hid (ob = false → AwR wa.heap.size pd bn bo r gn gw gt vn vw vt K wa (i + 1) p q wx) ∧ Hid (ob = true → ∃ d f g gm, DI wa.heap.size wx pd bn bo g r gn gw gt gm vn vw vt d f K) ∧ Hid (Below wa.heap.size wa wx))
     case first =>
      as_aux_lemma =>
       go_upto_if 118 with (fail)
       go_cut [118] (fun u wx => u = .bool (decide (z < 5)) ∧ wx = wc)
       case first =>
        as_aux_lemma =>
         have hkk : z = 0 ∨ z = 1 ∨ z = 2 ∨ z = 3 ∨ z = 4 ∨ 5 ≤ z := by omega
         clear hz0 hz9
         rcases hkk with hz | hz | hz | hz | hz | hz
         any_goals
          subst hz
          go_wp2_with fail
          go_meet
          exact ⟨rfl, rfl⟩
         have e0 : (z == 0) = false := by simp; omega
         have e1 : (z == 1) = false := by simp; omega
         have e2 : (z == 2) = false := by simp; omega
         have e3 : (z == 3) = false := by simp; omega
         have e4 : (z == 4) = false := by simp; omega
         have E5 : Hid (decide (z < 5) = false) := Lib.hid (by simp; omega)
         clear hz
         go_wp2_with fail
         go_meet
         exact ⟨by rw [E5.out], rfl⟩
       case rest =>
        obtain ⟨rfl, hwc⟩ := hcut
        subst hwc
        by_cases hz5 : z < 5
        ·have e5 : decide (z < 5) = true := by simp; omega
         rw [e5]
         clear hz5 e5 hz0 hz9
         as_aux_lemma =>
          have CA := ti_append HT6.out (by have := HCN.out; omega) (fun V hV => HES6.out V hV) HEI.out
          go_upto_region 29 with (first
           | (with_reducible refine wpList_load_at rfl 44 (.tmp 126) rfl bx 3 rfl (entC e s1 s2 s3 s4 s5 s6) _ HEN6.out Tryz.underlying44 rfl HZE.out ?_)
           | (go_at_call 12; refine CA.mono ?_; rintro a7 w7 ⟨rfl, hb7, hA7⟩))
          have HX7 := Lib.hid ((hb7.2.block bx HBX.out.1 HBX.out.2).trans HX6.out)
          have HEN7 := Lib.hid (HBE.out w7 HX7.out)
          have CB := hA7 w7 (Below.refl _ _)
          have HB7 := Lib.hid hb7.1
          clear CA hA7 hb7
          go_wp2_with (first
           | (with_reducible refine wpList_load_at rfl 44 (.tmp 133) rfl bx 3 rfl (entC e s1 s2 s3 s4 s5 s6) _ HEN7.out Tryz.underlying44 rfl HZE.out ?_)
           | (go_at_call 13; refine CB.mono ?_; rintro a8 w8 ⟨rfl, hb8, lv8, av8, hti8⟩; have HT8 := Lib.hid hti8; have HB8 := Lib.hid hb8.1; clear hti8 hb8))
          go_meet
          refine ⟨false, rfl, fun _ => ⟨bm, g, gm, d, f, lv8, av8, apT t e, HT8.out, ?_, (HBra6.out.trans HB7.out).trans HB8.out⟩, fun e => (by cases e), (HBra6.out.trans HB7.out).trans HB8.out⟩
          have := HCN.out
          unfold apT
          split
          ·show t.count + 1 ≤ _; omega
          ·omega
        ·have e5 : decide (z < 5) = false := by simp; omega
         rw [e5]
         clear e5
         go_upto_if 146 with (fail)
         go_cut [146] (fun u wx => u = .bool (decide (z < 7)) ∧ wx = wc)
         case first =>
          as_aux_lemma =>
           have hkk : z = 5 ∨ z = 6 ∨ 7 ≤ z := by omega
           clear hz0 hz9 hz5
           rcases hkk with hz | hz | hz
           any_goals
            subst hz
            go_wp2_with fail
            go_meet
            exact ⟨rfl, rfl⟩
           have e0 : (z == 5) = false := by simp; omega
           have e1 : (z == 6) = false := by simp; omega
           have E5 : Hid (decide (z < 7) = false) := Lib.hid (by simp; omega)
           clear hz
           go_wp2_with fail
           go_meet
           exact ⟨by rw [E5.out], rfl⟩
         case rest =>
          obtain ⟨rfl, hwc⟩ := hcut
          subst hwc
          by_cases hz7 : z < 7
          ·have e5 : decide (z < 7) = true := by simp; omega
           rw [e5]
           clear hz5 hz7 e5 hz0 hz9
           as_aux_lemma =>
            have CA := ti_force HT6.out
            go_wp2_with (first
             | (go_at_call 14; refine CA.mono ?_; rintro a7 w7 ⟨c7, rfl, hb7, hA7⟩; have HB7 := Lib.hid hb7.1; clear hb7)
             | (go_at_call 15; refine hA7.mono ?_; rintro a8 w8 ⟨rfl, hb8, d8, f8, t8, hti8, hc8⟩; have HT8 := Lib.hid hti8; have HB8 := Lib.hid hb8.1; have HC8 := Lib.hid hc8; clear hti8 hb8 hc8))
            go_meet
            exact ⟨false, rfl, fun _ => ⟨bm, g, gm, d8, f8, lv, av, t8, HT8.out, by rw [HC8.out]; have := HCN.out; omega, (HBra6.out.trans HB7.out).trans HB8.out⟩, fun e => (by cases e), (HBra6.out.trans HB7.out).trans HB8.out⟩
          ·have e5 : decide (z < 7) = false := by simp; omega
           rw [e5]
           clear e5
           by_cases h77 : z = 7
           ·subst h77
            clear hz5 hz7 hz0 hz9
            as_aux_lemma =>
             obtain ⟨gk, hsb, hgk⟩ := slW_slB (W := wc) (v := .slice Am mk.length cm) (l := mk) HIn.out.m HB6.out (by omega)
             have hng : ∀ x, PP pd bn bo r gn gw gt p bm q x → x ≠ gk := fun x hx e => by
              have h1 := HT6.out.lo x hx
              have h2 := HT6.out.lt x hx
              have h3 := HBw.out.size
              rcases hgk with h | h <;> omega
             have x2 : wc.cell? ⟨bx, 2, none⟩ = some (.slice Am mk.length cm) := (c_o HX6.out 2).1
             have CA := di_crash HT6.out.di hsb HIn.out.m.ok (fun e => hng gk (.inl e) rfl) (fun e => hng gk (.inr (.inl e)) rfl)
             clear hng hgk hsb
             go_wp2_with (first
              | (go_at_call 16; refine CA.mono ?_; rintro a7 w7 ⟨rfl, hb7, hA7⟩; have y2 : w7.cell? ⟨bx, 2, none⟩ = some (.slice Am mk.length cm) := (c_o ((hb7.2.block bx HBX.out.1 (fun e => HBX.out.2 (e.elim .inl (fun e => .inr (.inl e))))).trans HX6.out) 2).1; have HB7 := Lib.hid hb7.1; clear hb7)
              | (go_at_call 17; refine hA7.mono ?_; rintro a8 w8 ⟨rfl, hb8, d8, f8, hdi8⟩; have HD8 := Lib.hid hdi8; have HB8 := Lib.hid hb8.1; clear hb8 hdi8))
             go_meet
             exact ⟨true, rfl, fun e => (by cases e), fun _ => ⟨d8, f8, g, gm, HD8.out⟩, (HBra6.out.trans HB7.out).trans HB8.out⟩
           ·have e7 : (z == 7) = false := by simp; omega
            by_cases h88 : z = 8
            ·subst h88
             clear hz5 hz7 hz0 hz9
             as_aux_lemma =>
              obtain ⟨gk, hsb, hgk⟩ := slW_slB (W := wc) (v := .slice Am mk.length cm) (l := mk) HIn.out.m HB6.out (by omega)
              have hng : ∀ x, PP pd bn bo r gn gw gt p bm q x → x ≠ gk := fun x hx e => by
               have h1 := HT6.out.lo x hx
               have h2 := HT6.out.lt x hx
               have h3 := HBw.out.size
               rcases hgk with h | h <;> omega
              have x1 : wc.cell? ⟨bx, 1, none⟩ = some (.int .i64 at_) := (c_o HX6.out 1).1
              have x2 : wc.cell? ⟨bx, 2, none⟩ = some (.slice Am mk.length cm) := (c_o HX6.out 2).1
              have hz9 : Am = none → mk.length = 0 ∧ cm = 0 := fun e => by
               obtain ⟨p0, cp0, e0, _, hz⟩ := HIn.out.m.sh
               injection e0 with e1 e2 e3
               subst e1 e3
               exact ⟨congrArg List.length (hz e).1, (hz e).2⟩
              have CA := ti_arm HT6.out (at_.tmod 9) (by have := Int.tmod_lt_of_pos at_ (show (0:Int) < 9 by omega); omega) hsb HIn.out.m.ok hz9 (fun e => hng gk (.inl e) rfl)
              clear hng hgk hsb hz9
              go_wp2_with (first
               | (go_at_call 18; refine CA.mono ?_; rintro a7 w7 ⟨rfl, hb7, hA7⟩; have HX7 := Lib.hid ((hb7.2.block bx HBX.out.1 HBX.out.2).trans HX6.out); have y1 : w7.cell? ⟨bx, 1, none⟩ = some (.int .i64 at_) := (c_o HX7.out 1).1; have y2 : w7.cell? ⟨bx, 2, none⟩ = some (.slice Am mk.length cm) := (c_o HX7.out 2).1; have HB7 := Lib.hid hb7.1; clear hb7)
               | (go_at_call 19; refine hA7.mono ?_; rintro a8 w8 ⟨rfl, hb8, d8, f8, g8, gm8, hti8⟩; have HT8 := Lib.hid hti8; have HB8 := Lib.hid hb8.1; clear hb8 hti8))
              go_meet
              exact ⟨false, rfl, fun _ => ⟨bm, g8, gm8, d8, f8, lv, av, t, HT8.out, by have := HCN.out; omega, (HBra6.out.trans HB7.out).trans HB8.out⟩, fun e => (by cases e), (HBra6.out.trans HB7.out).trans HB8.out⟩
            ·have e8 : (z == 8) = false := by simp; omega
             clear h77 h88 hz5 hz7 hz0 hz9
             as_aux_lemma =>
              have x4 : wc.cell? ⟨bx, 19, none⟩ = some (.slice Ar rw.length cr) := (c_o HX6.out 19).1
              obtain ⟨v1, W1, v2, W2, g2, hr1, hr2, hsb, hg2, hbw1, hbw2, A2, c2, rfl⟩ := tile_bytes wc.drew (SlW.below HIn.out.r HB6.out.drew (Nat.le_refl _) : SlW wc.drew (.slice Ar rw.length cr) rw) (by omega)
              have hn64 : (64 : Int) - (rw.length : Int) = ((64 - rw.length : Nat) : Int) := by omega
              have hal := Lib.cell?_alloc_some (.cells #[] 5) x4
              have x5 : W1.cell? ⟨bx, 19, none⟩ = some (.slice Ar rw.length cr) := (hbw1.cell (p := ⟨bx, 19, none⟩) HBX.out.1).trans x4
              rw [← hn64] at hr2
              have HR1 := Lib.hid hr1
              have HR2 := Lib.hid hr2
              have HSB := Lib.hid hsb
              have HG2 := Lib.hid hg2
              have HBW : Hid (Below wc.heap.size wc W2) := Lib.hid ⟨hbw2.os, hbw2.tape, hbw2.output, hbw2.size, hbw2.block⟩
              have xl0 : (0 : Int) ≤ (rw.length : Int) := by omega
              have xl1 : (rw.length : Int) ≤ 64 := by omega
              have hw64 := IntWalk.i64_in (64 - (rw.length : Int)) (by omega)
              clear hr1 hr2 hsb hg2 hbw1 hbw2 hn64
              go_upto_region 19 with fail
              go_cut [21] (fun bv wx => ∃ (A2 : Option Addr) (c2 g2 : Nat), bv = .slice A2 64 c2 ∧ Hid (SlB wx (.slice A2 64 c2) (rw ++ List.replicate (64 - rw.length) 0) g2) ∧ wc.heap.size ≤ g2 ∧ Hid (Below wc.heap.size wc wx))
              case first =>
               as_aux_lemma =>
                go_region_law (first
                 | (refine step_append_r (v' := v1) (w' := W1) rfl (.tmp 98) (.tmp 100) 36 36 rfl (.slice (some ⟨wc.heap.size, 0, none⟩) 0 0) (.slice Ar rw.length cr) rfl rfl (HR1.out _) ?_)
                 | (refine step_append_r (v' := .slice A2 64 c2) (w' := W2) rfl (.tmp 101) (.tmp 105) 36 3 rfl v1 (.int .i64 (64 - (rw.length : Int))) rfl rfl (HR2.out _) ?_))
                all_goals
                 go_wp2
                 go_meet
                 exact ⟨A2, c2, g2, rfl, HSB.out, HG2.out, HBW.out⟩
              case rest =>
               obtain ⟨A3, c3, g3, rfl, HSX, hg3, HBX3⟩ := hcut
               have HDX := Lib.hid (HT6.out.kept HBX3.out).di
               have HXX := Lib.hid ((HBX3.out.block bx HBX.out.1).trans HX6.out)
               have hng : ∀ x, PP pd bn bo r gn gw gt p bm q x → x ≠ g3 := fun x hx e => by
                have h2 := HT6.out.lt x hx
                omega
               have HBX4 : Hid (Below wa.heap.size wa wc) := Lib.hid (HBra6.out.trans (HBX3.out.mono HBra6.out.size))
               have hll : (rw ++ List.replicate (64 - rw.length) 0).length = 64 := by rw [List.length_append, List.length_replicate]; omega
               have HCW : Hid (∀ W, Below wc.heap.size wc W → Calls Tryz.prog 20 #[.pointer (some ⟨pd, 0, none⟩), .int .i64 at_, .slice A3 64 c3] W fun a w1 => ∃ c : Int, a = .returned (.int .i64 c) ∧ BF wa.heap.size (fun x => Three pd bn bo x ∨ Four r gn gw gt x) W w1 ∧
                 Calls Tryz.prog 21 #[.pointer (some ⟨r, 0, none⟩), .int .i64 at_, .slice A3 64 c3] w1 fun a w2 => a = .returned (.int .i64 c) ∧ BF wa.heap.size (fun x => Three pd bn bo x ∨ Four r gn gw gt x) w1 w2 ∧ ∃ d' f', DI wa.heap.size w2 pd bn bo g r gn gw gt gm vn vw vt d' f' K) := Lib.hid fun W hW =>
                di_write (HDX.out.kept hW) at_ (HSX.out.fr (fr_of_below (S := fun _ => False) hW) (fun e => e)) hll (ok_zeros HIn.out.r.ok _) (fun e => hng g3 (.inl e) rfl) (fun e => hng r (.inr (.inl (.inl rfl))) e.symm)
               have HBXp : Hid (bx < wc.heap.size ∧ ¬ PP pd bn bo r gn gw gt p bm q bx) := Lib.hid ⟨Nat.lt_of_lt_of_le HBX.out.1 HBX3.out.size, HBX.out.2⟩
               clear hng hll hg3 x4 x5 hal
               go_upto_region 20 with fail
               go_cut [117] (fun u wx => u = .bool false ∧ Hid (∃ d f, DI wa.heap.size wx pd bn bo g r gn gw gt gm vn vw vt d f K) ∧ Hid (Below wa.heap.size wa wx))
               case first =>
                as_aux_lemma =>
                 refine wp_region_F (fun (_ : Unit) W => W.cell? ⟨bx, 1, none⟩ = some (.int .i64 at_)) (fun _ j => Nat.beq j 99) (by kernel_rfl) ?_
                 have HK0 := Lib.hid (Below.refl wc.heap.size wc).drew
                 have HX0 : Hid (wc.drew.heap[bx]? = some (.cells (deC ⟨kd, at_, mk, .slice Am mk.length cm, ⟨e, s1, s2, s3, s4, s5, s6⟩, rw, .slice Ar rw.length cr⟩) 46 (0, 0))) := Lib.hid HXX.out
                 have HL0 : Hid (wc.drew.cell? ⟨bx, 1, none⟩ = some (.int .i64 at_)) := Lib.hid (c_o HX0.out 1).1
                 generalize wc.drew = WK0 at *
                 refine tF0 (i := 0) (v := ?_) rfl ?_ ?_
                 rotate_left;(focus intro W _;go_simp;try with_reducible rfl);rotate_left;try simp only[Act.put,zq]
                 refine tF0 (i := 1) (v := ?_) rfl ?_ ?_
                 rotate_left;(focus intro W _;go_simp;try with_reducible rfl);rotate_left;try simp only[Act.put,zq]
                 refine tF0 (i := 3) (v := ?_) rfl ?_ ?_
                 rotate_left;(focus intro W _;go_simp;try with_reducible rfl);rotate_left;try simp only[Act.put,zq]
                 refine tF0 (i := 5) (v := ?_) rfl ?_ ?_
                 rotate_left;(focus intro W _;go_simp;try with_reducible rfl);rotate_left;try simp only[Act.put,zq]
                 refine tF0 (i := 6) (v := ?_) rfl ?_ ?_
                 rotate_left;(focus intro W _;go_simp;try with_reducible rfl);rotate_left;try simp only[Act.put,zq]
                 refine tF0 (i := 8) (v := ?_) rfl ?_ ?_
                 rotate_left;(focus intro W _;go_simp;try with_reducible rfl);rotate_left;try simp only[Act.put,zq]
                 refine wpAnyF_take () (i := 2) (oi := ⟨_,_,_,_,_,_⟩) (v := (.int .i64 at_)) rfl (by kernel_rfl) (by kernel_rfl) (by kernel_rfl) (by kernel_rfl) (fun _ _ _ h => h) HL0.out (Or.inl ⟨by rfl, fun W hSW => ?_⟩) ?_
                 ·have hS : W.cell? ⟨bx, 1, none⟩ = some (.int .i64 at_) := hSW
                  go_simp
                 try simp only[Act.put,zq]
                 refine wpAnyF_take () (i := 7) (oi := ⟨_,_,_,_,_,_⟩) (v := (.int .i64 at_)) rfl (by kernel_rfl) (by kernel_rfl) (by kernel_rfl) (by kernel_rfl) (fun _ _ _ h => h) HL0.out (Or.inl ⟨by rfl, fun W hSW => ?_⟩) ?_
                 ·have hS : W.cell? ⟨bx, 1, none⟩ = some (.int .i64 at_) := hSW
                  go_simp
                 try simp only[Act.put,zq]
                 refine rdF (rs := [4]) (by kernel_rfl) (by simp) ?_
                 refine cF1 rfl fun K hK => ?_
                 rw [if_pos (by rfl)]
                 go_simp
                 go_at_call 20
                 refine (HCW.out _ HK0.out).mono ?_
                 rintro e1 WK1 ⟨c1, rfl, hb1, hA1⟩
                 have HXK1 := Lib.hid ((hb1.2.block bx (Nat.lt_of_lt_of_le HBXp.out.1 HK0.out.size) (fun e => HBXp.out.2 (e.elim .inl (fun e => .inr (.inl e))))).trans HX0.out)
                 have HSZ1 := Lib.hid hb1.2.size
                 have HL1 : Hid (WK1.cell? ⟨bx, 1, none⟩ = some (.int .i64 at_)) := Lib.hid (c_o ((hb1.2.block bx (Nat.lt_of_lt_of_le HBXp.out.1 HK0.out.size) (fun e => HBXp.out.2 (e.elim .inl (fun e => .inr (.inl e))))).trans HX0.out) 1).1
                 have HB1 := Lib.hid hb1.1
                 have HA1 := Lib.hid hA1
                 clear hb1 hA1
                 go_wp2_with fail
                 refine hK.out _ _ (fun _ _ _ => HL1.out) ?_
                 clear hK K
                 try simp only[Act.put,zq]
                 refine rdF (rs := [9]) (by kernel_rfl) (by simp) ?_
                 refine cF1 rfl fun K hK => ?_
                 rw [if_pos (by rfl)]
                 go_simp
                 go_at_call 21
                 refine HA1.out.mono ?_
                 rintro e2 WK2 ⟨rfl, hb2, hD2⟩
                 have HB2 := Lib.hid hb2
                 have HD2 := Lib.hid hD2
                 clear hb2 hD2
                 go_wp2_with fail
                 refine hK.out _ _ ?_ ?_
                 ·intro _ _ _
                  exact (c_o ((HB2.out.2.block bx (Nat.lt_of_lt_of_le (Nat.lt_of_lt_of_le HBXp.out.1 HK0.out.size) HSZ1.out) (fun e => HBXp.out.2 (e.elim .inl (fun e => .inr (.inl e))))).trans HXK1.out) 1).1
                 clear hK K
                 try simp only[Act.put,zq]
                 refine wpAnyF_take0 (i := 10) (oi := ⟨_,_,_,_,_,_⟩) (v := (.bool false)) rfl (by kernel_rfl) (by kernel_rfl) (by kernel_rfl) (fun _ _ _ h => h) (Or.inl ⟨by rfl, fun W _ => ?_⟩) ?_
                 ·go_simp
                 try simp only[Act.put,zq]
                 refine wpAnyF_done (by kernel_rfl) ?_ _
                 go_wp2_with fail
                 go_meet
                 exact ⟨rfl, HD2.out, (HBX4.out.trans (HK0.out.mono HBX4.out.size)).trans (HB1.out.trans HB2.out.1)⟩
               case rest =>
                obtain ⟨rfl, HD9, HB9⟩ := hcut
                go_wp2
                go_meet
                obtain ⟨d9, f9, h9⟩ := HD9.out
                exact ⟨true, rfl, fun e => (by cases e), fun _ => ⟨d9, f9, g, gm, h9⟩, HB9.out⟩
     case rest =>
      obtain ⟨ob, rfl, HOF, HOT, HBO⟩ := hcut
      go_upto_if 180 with (fail)
      go_cut [8, 11] (fun xv yv wx => ∃ p' q' : Nat, xv = .pointer (some ⟨p', 0, none⟩) ∧ yv = .pointer (some ⟨q', 0, none⟩) ∧ Hid (AwR wa.heap.size pd bn bo r gn gw gt vn vw vt K wa (i + 1) p' q' wx))
      case first =>
       as_aux_lemma =>
        cases ob with
        | false =>
         have HOF' := Lib.hid (HOF.out rfl)
         clear HOF HOT
         go_wp2
         go_meet
         exact ⟨p, q, rfl, rfl, HOF'.out⟩
        | true =>
         obtain ⟨d5, f5, g5, gm5, hdi⟩ := HOT.out rfl
         have HDI := Lib.hid hdi
         clear hdi HOF HOT
         go_upto_if 182 with (first | (go_at_call 22; refine (dead_any wc HDI.out.dk).mono ?_; rintro e9 w9 ⟨rfl, hw⟩; obtain rfl := hw.symm; clear hw))
         go_cut [] (fun wx => Hid (∃ d f, DI wa.heap.size wx pd bn bo g5 r gn gw gt gm5 vn vw vt d f K ∧ d.dead = false) ∧ Hid (Below wa.heap.size wa wx))
         case first =>
          as_aux_lemma =>
           cases hdd : d5.dead with
           | false =>
            go_wp2
            go_meet
            exact ⟨⟨d5, f5, HDI.out, hdd⟩, HBO.out⟩
           | true =>
            have CP := power_any wc HDI.out.dk
            have hrp := di_rc HDI.out
            obtain ⟨y1, y2⟩ := hrp
            go_wp2_with (first | (go_at_call 23; refine CP.mono ?_; rintro e9 w9 ⟨rfl, hw⟩; obtain rfl := hw.symm; clear hw))
            go_meet
            exact ⟨⟨_, _, (di_power HDI.out).1, rfl⟩, HBO.out.trans (di_power HDI.out).2⟩
         case rest =>
          obtain ⟨⟨d6, f6, hdi6, hd6⟩, hb6⟩ := hcut
          have HOp := Lib.hid (open_both hdi6 hdi6.hB hd6 HK.out)
          have HB6' := Lib.hid hb6
          clear hdi6 hd6 hb6 HDI
          go_wp2_with fail
          refine HOp.out.mono ?_
          rintro a9 w9 ⟨⟨x, y, z, rfl⟩, hb9, hO9⟩
          have HB9 := Lib.hid (HB6'.out.trans hb9)
          have HO9 := Lib.hid hO9
          clear hb9 hO9 HOp
          go_wp2_with fail
          refine HO9.out.mono ?_
          rintro b9 w10 ⟨hb10, hob⟩
          have HB10 := Lib.hid (HB9.out.trans hb10)
          clear hb10 HO9
          rcases hob with ⟨hz, ea, eb⟩ | ⟨p2, bm2, q2, g2, d2, f2, lv2, av2, t2, A1, A2, n2, c1, c2, L, ea, eb, hti, hr1, hr2, hl, hE, hcnt⟩
          ·subst eb
           injection ea with ea
           injection ea with ea
           injection ea with ea
           injection ea with ea1 ea
           injection ea with ea2 ea
           injection ea with ea3 ea
           subst ea1 ea2 ea3
           clear ea hz
           have HSE := Lib.hid (sames_any w10 (rowE_nil w10 none 0) (rowE_nil w10 none 0) (by decide) (fun e he => by cases he))
           go_wp2_with (first | (go_at_call 24; refine HSE.out.mono ?_; rintro e11 w11 ⟨rfl, hb11⟩; have HB11 := Lib.hid (HB10.out.trans (hb11.mono HB10.out.size)); clear hb11))
           go_ret
           exact ⟨rfl, HBw.out.trans (HB11.out.mono HBw.out.size)⟩
          ·subst eb
           injection ea with ea
           injection ea with ea
           injection ea with ea
           injection ea with ea1 ea
           injection ea with ea2 ea
           injection ea with ea3 ea
           subst ea1 ea2 ea3
           have HSE := Lib.hid (sames_any w10 hr1 hr2 (by omega) hE)
           have HTI2 := Lib.hid hti
           have HCN2 := Lib.hid hcnt
           clear ea hti hr1 hr2 hl hE hcnt
           go_wp2_with (first | (go_at_call 24; refine HSE.out.mono ?_; rintro e11 w11 ⟨rfl, hb11⟩; have HT11 := Lib.hid (HTI2.out.kept hb11); have HB11 := Lib.hid (HB10.out.trans (hb11.mono HB10.out.size)); clear hb11))
           go_meet
           exact ⟨p2, q2, rfl, rfl, bm2, g2, gm5, d2, f2, lv2, av2, t2, HT11.out, by have := HCN2.out; omega, HB11.out⟩
      case rest =>
       obtain ⟨p', q', rfl, rfl, HAw⟩ := hcut
       clear HOF HOT HBO
       as_aux_lemma =>
        go_upto_region 54 with fail
        go_cut [254] (fun u wx => u = .bool false ∧ Hid (AwR wa.heap.size pd bn bo r gn gw gt vn vw vt K wa (i + 1) p' q' wx))
        case first =>
         as_aux_lemma =>
          obtain ⟨bm7, g7, gm7, d7, f7, lv7, av7, t7, hti7, hcn7, hb7⟩ := HAw.out
          obtain ⟨A3, c3, hlv⟩ := hti7.rt.lsh
          obtain ⟨n3, hn3⟩ : ∃ n : Nat, t7.count.toNat = n := ⟨_, rfl⟩
          have hc0 := hti7.tr.ok.c0
          have hcn3 : t7.count = (n3 : Int) := by omega
          obtain ⟨st, hst⟩ : ∃ s : Int, t7.stable = s := ⟨_, rfl⟩
          obtain ⟨dd, hdd⟩ : ∃ b : Bool, d7.dead = b := ⟨_, rfl⟩
          obtain ⟨lf, hlf⟩ : ∃ l : Int, t7.tiles * 63 - (t7.S.length : Int) = l := ⟨_, rfl⟩
          have HCL : Hid (∀ W : World, Below wc.heap.size wc W → W.cell? ⟨q', 3, none⟩ = some (.slice A3 n3 c3) ∧ W.cell? ⟨q', 5, none⟩ = some (.int .i64 st) ∧ W.cell? ⟨r, 3, none⟩ = some (.bool dd)) := Lib.hid fun W hW => by
           have h := hti7.kept hW
           have e3 := h.rt.c 3
           have e5 := h.rt.c 5
           have e6 := h.rf.c3
           rw [← h.like.2.1, hdd] at e6
           refine ⟨e3.trans ?_, e5.trans ?_, e6⟩
           ·show some lv7 = _
            rw [hlv]
            show some (Value.slice A3 t7.count.toNat c3) = _
            rw [hn3]
           ·show some (Value.int .i64 t7.stable) = _
            rw [hst]
          have HCc : Hid (∀ W, Below wc.heap.size wc W → Calls Tryz.prog 25 #[.pointer (some ⟨p', 0, none⟩)] W fun e w' => e = .returned (.int .i64 (n3 : Int)) ∧ Below W.heap.size W w') := Lib.hid fun W hW => (count_any W (hti7.kept hW).tr).mono fun e w' ⟨he, hw⟩ => ⟨by rw [he, hcn3], hw ▸ Below.refl _ _⟩
          have HCs : Hid (∀ W, Below wc.heap.size wc W → Calls Tryz.prog 26 #[.pointer (some ⟨p', 0, none⟩)] W fun e w' => e = .returned (.int .i64 st) ∧ Below W.heap.size W w') := Lib.hid fun W hW => (stable_any W (hti7.kept hW).tr).mono fun e w' ⟨he, hw⟩ => ⟨by rw [he, hst], hw ▸ Below.refl _ _⟩
          have HCl : Hid (∀ W, Below wc.heap.size wc W → Calls Tryz.prog 27 #[.pointer (some ⟨p', 0, none⟩)] W fun e w' => e = .returned (.int .i64 lf) ∧ Below W.heap.size W w') := Lib.hid fun W hW => (left_any W (hti7.kept hW).tr).mono fun e w' ⟨he, hw⟩ => ⟨by rw [he, hlf], hw⟩
          have HCr : Hid (∀ W, Below wc.heap.size wc W → Calls Tryz.prog 28 #[.pointer (some ⟨q', 0, none⟩)] W fun e w' => e = .returned (.int .i64 lf) ∧ Below W.heap.size W w') := Lib.hid fun W hW => (rleft_any W (hti7.kept hW).rt).mono fun e w' ⟨he, hw⟩ => ⟨by rw [he, ← hlf]; rfl, hw⟩
          have HCd : Hid (∀ W, Below wc.heap.size wc W → Calls Tryz.prog 22 #[.pointer (some ⟨pd, 0, none⟩)] W fun e w' => e = .returned (.bool dd) ∧ Below W.heap.size W w') := Lib.hid fun W hW => (dead_any W (hti7.kept hW).dk).mono fun e w' ⟨he, hw⟩ => ⟨by rw [he, hdd], hw ▸ Below.refl _ _⟩
          clear hti7 hcn7 hb7 hlv hn3 hc0 hcn3 hst hdd hlf
          refine wp_region_F (fun (_ : Unit) W => W.cell? ⟨q', 3, none⟩ = some (.slice A3 n3 c3) ∧ W.cell? ⟨q', 5, none⟩ = some (.int .i64 st) ∧ W.cell? ⟨r, 3, none⟩ = some (.bool dd)) (fun _ j => Nat.beq j 99) (by kernel_rfl) ?_
          have HK0 := Lib.hid (Below.refl wc.heap.size wc).drew
          generalize wc.drew = WK0 at *
          refine tF0 (i := 0) (v := ?_) rfl ?_ ?_
          rotate_left;(focus intro W _;go_simp;try with_reducible rfl);rotate_left;try simp only[Act.put,zq]
          refine tF0 (i := 2) (v := ?_) rfl ?_ ?_
          rotate_left;(focus intro W _;go_simp;try with_reducible rfl);rotate_left;try simp only[Act.put,zq]
          refine tF0 (i := 3) (v := ?_) rfl ?_ ?_
          rotate_left;(focus intro W _;go_simp;try with_reducible rfl);rotate_left;try simp only[Act.put,zq]
          refine tF0 (i := 4) (v := ?_) rfl ?_ ?_
          rotate_left;(focus intro W _;go_simp;try with_reducible rfl);rotate_left;try simp only[Act.put,zq]
          refine wpAnyF_take () (i := 5) (oi := ⟨_,_,_,_,_,_⟩) (v := (.slice A3 n3 c3)) rfl (by kernel_rfl) (by kernel_rfl) (by kernel_rfl) (by kernel_rfl) (fun _ _ _ h => h) (HCL.out _ HK0.out) (Or.inl ⟨by rfl, fun W hSW => ?_⟩) ?_
          ·have hS : W.cell? ⟨q', 3, none⟩ = some (.slice A3 n3 c3) := hSW.1
           go_simp
          try simp only[Act.put,zq]
          refine tF0 (i := 6) (v := ?_) rfl ?_ ?_
          rotate_left;(focus intro W _;go_simp;try with_reducible rfl);rotate_left;try simp only[Act.put,zq]
          refine rdF (rs := [1]) (by kernel_rfl) (by simp) ?_
          refine cF1 rfl fun K hK => ?_
          rw [if_pos (by rfl)]
          go_simp
          go_at_call 25
          refine (HCc.out _ HK0.out).mono ?_
          rintro e WK1 ⟨rfl, hb1⟩
          have HK1 := Lib.hid (HK0.out.trans (hb1.mono HK0.out.size))
          clear hb1
          go_wp2_with fail
          refine hK.out _ _ (fun _ _ _ => HCL.out _ HK1.out) ?_
          clear hK K
          try simp only[Act.put,zq]
          refine wpAnyF_take0 (i := 7) (oi := ⟨_,_,_,_,_,_⟩) (v := (.bool false)) rfl (by kernel_rfl) (by kernel_rfl) (by kernel_rfl) (fun _ _ _ h => h) (Or.inl ⟨by rfl, fun W _ => ?_⟩) ?_
          ·go_simp
          try simp only[Act.put,zq]
          refine wpAnyF_take0 (i := 8) (oi := ⟨_,_,_,_,_,_⟩) (v := (.bool false)) rfl (by kernel_rfl) (by kernel_rfl) (by kernel_rfl) (fun _ _ _ h => h) (Or.inl ⟨by rfl, fun W _ => ?_⟩) ?_
          ·go_simp
          try simp only[Act.put,zq]
          refine tF0 (i := 9) (v := ?_) rfl ?_ ?_
          rotate_left;(focus intro W _;go_simp;try with_reducible rfl);rotate_left;try simp only[Act.put,zq]
          refine tF0 (i := 11) (v := ?_) rfl ?_ ?_
          rotate_left;(focus intro W _;go_simp;try with_reducible rfl);rotate_left;try simp only[Act.put,zq]
          refine tF0 (i := 12) (v := ?_) rfl ?_ ?_
          rotate_left;(focus intro W _;go_simp;try with_reducible rfl);rotate_left;try simp only[Act.put,zq]
          refine tF0 (i := 13) (v := ?_) rfl ?_ ?_
          rotate_left;(focus intro W _;go_simp;try with_reducible rfl);rotate_left;try simp only[Act.put,zq]
          refine wpAnyF_take () (i := 14) (oi := ⟨_,_,_,_,_,_⟩) (v := (.int .i64 st)) rfl (by kernel_rfl) (by kernel_rfl) (by kernel_rfl) (by kernel_rfl) (fun _ _ _ h => h) (HCL.out _ HK1.out) (Or.inl ⟨by rfl, fun W hSW => ?_⟩) ?_
          ·have hS : W.cell? ⟨q', 5, none⟩ = some (.int .i64 st) := hSW.2.1
           go_simp
          try simp only[Act.put,zq]
          refine rdF (rs := [10]) (by kernel_rfl) (by simp) ?_
          refine cF1 rfl fun K hK => ?_
          rw [if_pos (by rfl)]
          go_simp
          go_at_call 26
          refine (HCs.out _ HK1.out).mono ?_
          rintro e WK2 ⟨rfl, hb2⟩
          have HK2 := Lib.hid (HK1.out.trans (hb2.mono HK1.out.size))
          clear hb2
          go_wp2_with fail
          refine hK.out _ _ (fun _ _ _ => HCL.out _ HK2.out) ?_
          clear hK K
          try simp only[Act.put,zq]
          refine wpAnyF_take0 (i := 15) (oi := ⟨_,_,_,_,_,_⟩) (v := (.bool false)) rfl (by kernel_rfl) (by kernel_rfl) (by kernel_rfl) (fun _ _ _ h => h) (Or.inl ⟨by rfl, fun W _ => ?_⟩) ?_
          ·go_simp
          try simp only[Act.put,zq]
          refine wpAnyF_take0 (i := 16) (oi := ⟨_,_,_,_,_,_⟩) (v := (.bool false)) rfl (by kernel_rfl) (by kernel_rfl) (by kernel_rfl) (fun _ _ _ h => h) (Or.inl ⟨by rfl, fun W _ => ?_⟩) ?_
          ·go_simp
          try simp only[Act.put,zq]
          refine wpAnyF_take0 (i := 17) (oi := ⟨_,_,_,_,_,_⟩) (v := (.bool false)) rfl (by kernel_rfl) (by kernel_rfl) (by kernel_rfl) (fun _ _ _ h => h) (Or.inl ⟨by rfl, fun W _ => ?_⟩) ?_
          ·go_simp
          try simp only[Act.put,zq]
          refine tF0 (i := 18) (v := ?_) rfl ?_ ?_
          rotate_left;(focus intro W _;go_simp;try with_reducible rfl);rotate_left;try simp only[Act.put,zq]
          refine tF0 (i := 20) (v := ?_) rfl ?_ ?_
          rotate_left;(focus intro W _;go_simp;try with_reducible rfl);rotate_left;try simp only[Act.put,zq]
          refine rdF (rs := [19]) (by kernel_rfl) (by simp) ?_
          refine cF1 rfl fun K hK => ?_
          rw [if_pos (by rfl)]
          go_simp
          go_at_call 27
          refine (HCl.out _ HK2.out).mono ?_
          rintro e WK3 ⟨rfl, hb3⟩
          have HK3 := Lib.hid (HK2.out.trans (hb3.mono HK2.out.size))
          clear hb3
          go_wp2_with fail
          refine hK.out _ _ (fun _ _ _ => HCL.out _ HK3.out) ?_
          clear hK K
          try simp only[Act.put,zq]
          refine rdF (rs := [21]) (by kernel_rfl) (by simp) ?_
          refine cF1 rfl fun K hK => ?_
          rw [if_pos (by rfl)]
          go_simp
          go_at_call 28
          refine (HCr.out _ HK3.out).mono ?_
          rintro e WK4 ⟨rfl, hb4⟩
          have HK4 := Lib.hid (HK3.out.trans (hb4.mono HK3.out.size))
          clear hb4
          go_wp2_with fail
          refine hK.out _ _ (fun _ _ _ => HCL.out _ HK4.out) ?_
          clear hK K
          try simp only[Act.put,zq]
          refine wpAnyF_take0 (i := 22) (oi := ⟨_,_,_,_,_,_⟩) (v := (.bool false)) rfl (by kernel_rfl) (by kernel_rfl) (by kernel_rfl) (fun _ _ _ h => h) (Or.inl ⟨by rfl, fun W _ => ?_⟩) ?_
          ·go_simp
          try simp only[Act.put,zq]
          refine wpAnyF_take0 (i := 23) (oi := ⟨_,_,_,_,_,_⟩) (v := (.bool false)) rfl (by kernel_rfl) (by kernel_rfl) (by kernel_rfl) (fun _ _ _ h => h) (Or.inl ⟨by rfl, fun W _ => ?_⟩) ?_
          ·go_simp
          try simp only[Act.put,zq]
          refine wpAnyF_take0 (i := 24) (oi := ⟨_,_,_,_,_,_⟩) (v := (.bool false)) rfl (by kernel_rfl) (by kernel_rfl) (by kernel_rfl) (fun _ _ _ h => h) (Or.inl ⟨by rfl, fun W _ => ?_⟩) ?_
          ·go_simp
          try simp only[Act.put,zq]
          refine tF0 (i := 25) (v := ?_) rfl ?_ ?_
          rotate_left;(focus intro W _;go_simp;try with_reducible rfl);rotate_left;try simp only[Act.put,zq]
          refine tF0 (i := 27) (v := ?_) rfl ?_ ?_
          rotate_left;(focus intro W _;go_simp;try with_reducible rfl);rotate_left;try simp only[Act.put,zq]
          refine tF0 (i := 28) (v := ?_) rfl ?_ ?_
          rotate_left;(focus intro W _;go_simp;try with_reducible rfl);rotate_left;try simp only[Act.put,zq]
          refine tF0 (i := 29) (v := ?_) rfl ?_ ?_
          rotate_left;(focus intro W _;go_simp;try with_reducible rfl);rotate_left;try simp only[Act.put,zq]
          refine wpAnyF_take () (i := 30) (oi := ⟨_,_,_,_,_,_⟩) (v := (.bool dd)) rfl (by kernel_rfl) (by kernel_rfl) (by kernel_rfl) (by kernel_rfl) (fun _ _ _ h => h) (HCL.out _ HK4.out) (Or.inl ⟨by rfl, fun W hSW => ?_⟩) ?_
          ·have hS : W.cell? ⟨r, 3, none⟩ = some (.bool dd) := hSW.2.2
           go_simp
          try simp only[Act.put,zq]
          refine rdF (rs := [26]) (by kernel_rfl) (by simp) ?_
          refine cF1 rfl fun K hK => ?_
          rw [if_pos (by rfl)]
          go_simp
          go_at_call 22
          refine (HCd.out _ HK4.out).mono ?_
          rintro e WK5 ⟨rfl, hb5⟩
          have HK5 := Lib.hid (HK4.out.trans (hb5.mono HK4.out.size))
          clear hb5
          go_wp2_with fail
          refine hK.out _ _ (fun _ _ _ => HCL.out _ HK5.out) ?_
          clear hK K
          try simp only[Act.put,zq]
          refine wpAnyF_take0 (i := 31) (oi := ⟨_,_,_,_,_,_⟩) (v := (.bool false)) rfl (by kernel_rfl) (by kernel_rfl) (by kernel_rfl) (fun _ _ _ h => h) (Or.inl ⟨by rfl, fun W _ => ?_⟩) ?_
          ·go_simp
          try simp only[Act.put,zq]
          refine wpAnyF_take0 (i := 32) (oi := ⟨_,_,_,_,_,_⟩) (v := (.bool false)) rfl (by kernel_rfl) (by kernel_rfl) (by kernel_rfl) (fun _ _ _ h => h) (Or.inl ⟨by rfl, fun W _ => ?_⟩) ?_
          ·go_simp
          try simp only[Act.put,zq]
          refine wpAnyF_done (by kernel_rfl) ?_ _
          go_wp2_with fail
          go_meet
          obtain ⟨bm7, g7, gm7, d7, f7, lv7, av7, t7, hti7, hcn7, hb7⟩ := HAw.out
          exact ⟨rfl, bm7, g7, gm7, d7, f7, lv7, av7, t7, hti7.kept HK5.out, hcn7, hb7.trans (HK5.out.mono hb7.size)⟩
        case rest =>
         obtain ⟨rfl, HAw2⟩ := hcut
         clear HAw
         go_wp2
         exact ⟨⟨i + 1, p', q', hlt, rfl, rfl, rfl, HAw2⟩, by simp only [ivT]; omega⟩
   ·rw [decide_eq_false h150] at HSH
    go_wp2_with (first
     | (with_reducible refine wpList_load_at rfl 44 (.tmp 88) rfl bx 3 rfl (entC e s1 s2 s3 s4 s5 s6) _ HEN.out Tryz.underlying44 rfl HZE.out ?_)
     | (go_at_call 11; refine HSH.out.mono ?_; rintro r6 w6 ⟨rfl, hb6⟩; have HB6 := Lib.hid (HB5.out.trans (hb6.mono HB5.out.size)); clear hb6))
    go_ret
    exact ⟨rfl, HB6.out⟩
  ·obtain rfl : i = os.length := by omega
   have hlti : ¬ (os.length : Int) < (os.length : Int) := by omega
   go_wp2
   go_ret
   exact ⟨rfl, HBr.out⟩
end Go.Proofs.YthmgafcnoedmjaaGreat
