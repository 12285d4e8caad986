/- TrailAll, a part. -/
import Derived.Test.YthmgafcnoedmjaaGreatQ15
import Derived.Test.YthmgafcnoedmjaaGreatQ37
import Derived.Test.YthmgafcnoedmjaaGreatQ43
import Derived.Test.YthmgafcnoedmjaaGreatQ13
import Derived.Deep.CutBlock
import Derived.Deep.DeepCutAuto
namespace Go.Proofs.YthmgafcnoedmjaaGreat
set_option maxRecDepth 100000
open Go.RowKit
set_option maxHeartbeats 4000000 in
theorem rtake_any (w : World) {sv : Value} {l : List Int} (h : SlK .u8 w sv l) : Calls Tryz.prog 56 #[sv] w (TkPost w l) := by
 obtain ⟨A, c, rfl, q⟩ := h.form
 obtain ⟨W, hW⟩ : ∃ W, W = w.alloc (.cells ent0 44) := ⟨_, rfl⟩
 have hb0 : Below w.heap.size w W := by rw [hW]; exact (Below.refl _ _).alloc (Nat.le_refl _) _
 have hsz : W.heap.size = w.heap.size + 1 := by rw [hW]; simp
 have hbx : W.heap[w.heap.size]? = some (.cells ent0 44 (0, 0)) := by rw [hW]; exact heap_alloc_new w _
 have hb1 : Below W.heap.size W (W.alloc (.cells #[.slice A l.length c, .bool false] 135)) := (Below.refl _ _).alloc (Nat.le_refl _) _
 have hrs : RZ W (W.alloc (.cells #[.slice A l.length c, .bool false] 135)) W.heap.size (.slice A l.length c) l false := ⟨heap_alloc_new W _, h.below hb0 (Nat.le_refl _), hb1, Nat.le_refl _⟩
 have HL := Lib.hid h.ok
 have HB0 := Lib.hid hb0
 have HSZ := Lib.hid hsz
 have HBX := Lib.hid hbx
 obtain ⟨s0, hs0⟩ : ∃ s : ZS, s = (l, false) := ⟨_, rfl⟩
 have HR0' : RZ W (W.alloc (.cells #[.slice A l.length c, .bool false] 135)) W.heap.size (.slice A l.length c) s0.1 s0.2 := by rw [hs0]; exact hrs
 have HR0 := Lib.hid HR0'
 have HS0 := Lib.hid hs0
 clear h hb0 hsz hbx hb1 hrs HR0' hs0
 go_enter Tryz.func56, Tryz.ntmps56
 go_upto_region 1 with (fail)
 show Code.wp _ _ _ _ (w.alloc (.cells ent0 44))
 rw [← hW]
 clear hW
 go_upto_region 2 with (fail)
 generalize W.alloc (.cells #[.slice A l.length c, .bool false] 135) = w2 at *
 obtain ⟨p, hp⟩ : ∃ p, p = W.heap.size := ⟨_, rfl⟩
 rw [← hp] at HR0 ⊢
 have HP := Lib.hid hp
 clear hp
 go_wp2_with fail
 refine (znr_any s0 HR0.out 1 (.inl rfl)).mono ?_
 rintro r w3 ⟨rfl, v1, h, g⟩
 obtain ⟨s1, hs1⟩ : ∃ s, s = zr s0 1 := ⟨_, rfl⟩
 rw [← hs1] at h
 have HR1 := Lib.hid h
 have HG1 := Lib.hid (g)
 have HS1 := Lib.hid hs1
 clear h g hs1 HR0
 go_wp2_with fail
 refine (znr_any s1 HR1.out 1 (.inl rfl)).mono ?_
 rintro r w4 ⟨rfl, v2, h, g⟩
 obtain ⟨s2, hs2⟩ : ∃ s, s = zr s1 1 := ⟨_, rfl⟩
 rw [← hs2] at h
 have HR2 := Lib.hid h
 have HG2 := Lib.hid (HG1.out.trans g)
 have HS2 := Lib.hid hs2
 clear h g hs2 HR1 HG1
 go_wp2_with fail
 refine (znr_any s2 HR2.out 2 (.inr (.inl rfl))).mono ?_
 rintro r w5 ⟨rfl, v3, h, g⟩
 obtain ⟨s3, hs3⟩ : ∃ s, s = zr s2 2 := ⟨_, rfl⟩
 rw [← hs3] at h
 have HR3 := Lib.hid h
 have HG3 := Lib.hid (HG2.out.trans g)
 have HS3 := Lib.hid hs3
 clear h g hs3 HR2 HG2
 go_wp2_with fail
 refine (znr_any s3 HR3.out 1 (.inl rfl)).mono ?_
 rintro r w6 ⟨rfl, v4, h, g⟩
 obtain ⟨s4, hs4⟩ : ∃ s, s = zr s3 1 := ⟨_, rfl⟩
 rw [← hs4] at h
 have HR4 := Lib.hid h
 have HG4 := Lib.hid (HG3.out.trans g)
 have HS4 := Lib.hid hs4
 clear h g hs4 HR3 HG3
 go_wp2_with fail
 refine (znr_any s4 HR4.out 3 (.inr (.inr rfl))).mono ?_
 rintro r w7 ⟨rfl, v5, h, g⟩
 obtain ⟨s5, hs5⟩ : ∃ s, s = zr s4 3 := ⟨_, rfl⟩
 rw [← hs5] at h
 have HR5 := Lib.hid h
 have HG5 := Lib.hid (HG4.out.trans g)
 have HS5 := Lib.hid hs5
 clear h g hs5 HR4 HG4
 go_wp2_with fail
 refine (znr_any s5 HR5.out 3 (.inr (.inr rfl))).mono ?_
 rintro r w8 ⟨rfl, v6, h, g⟩
 obtain ⟨s6, hs6⟩ : ∃ s, s = zr s5 3 := ⟨_, rfl⟩
 rw [← hs6] at h
 have HR6 := Lib.hid h
 have HG6 := Lib.hid (HG5.out.trans g)
 have HS6 := Lib.hid hs6
 clear h g hs6 HR5 HG5
 go_wp2_with fail
 refine (zrid2_any s6 HR6.out).mono ?_
 rintro r w9 ⟨he, v7, h, g⟩
 rw [show zrV s6 = #[.int .i64 (zv s6 1), .int .i64 (zv (zr s6 1) 1)] from rfl] at he
 subst he
 obtain ⟨s7, hs7⟩ : ∃ s, s = zr2 s6 := ⟨_, rfl⟩
 rw [← hs7] at h
 have HR7 := Lib.hid h
 have HG7 := Lib.hid (HG6.out.trans g)
 have HS7 := Lib.hid hs7
 clear h g hs7 HR6 HG6
 go_wp2_with fail
 refine (zrid2_any s7 HR7.out).mono ?_
 rintro r w10 ⟨he, v8, h, g⟩
 rw [show zrV s7 = #[.int .i64 (zv s7 1), .int .i64 (zv (zr s7 1) 1)] from rfl] at he
 subst he
 obtain ⟨s8, hs8⟩ : ∃ s, s = zr2 s7 := ⟨_, rfl⟩
 rw [← hs8] at h
 have HR8 := Lib.hid h
 have HG8 := Lib.hid (HG7.out.trans g)
 have HS8 := Lib.hid hs8
 clear h g hs8 HR7 HG7
 go_wp2_with fail
 refine (zcell2_any s8 HR8.out).mono ?_
 rintro r w11 ⟨A1, m1, d1, v9, rfl, ho, h, g⟩
 obtain ⟨s9, hs9⟩ : ∃ s, s = zcS s8 := ⟨_, rfl⟩
 rw [← hs9] at h
 have HR9 := Lib.hid h
 have HG9 := Lib.hid (HG8.out.trans g)
 have HS9 := Lib.hid hs9
 have K1 := Lib.hid (own_slF ho (zcL_ok HR8.out.sl.ok) (show p + 1 ≤ w10.heap.size from HR8.out.lt))
 clear ho
 clear h g hs9 HR8 HG8
 go_wp2_with fail
 refine (zcell2_any s9 HR9.out).mono ?_
 rintro r w12 ⟨A2, m2, d2, v10, rfl, ho, h, g⟩
 obtain ⟨s10, hs10⟩ : ∃ s, s = zcS s9 := ⟨_, rfl⟩
 rw [← hs10] at h
 have HR10 := Lib.hid h
 have HG10 := Lib.hid (HG9.out.trans g)
 have HS10 := Lib.hid hs10
 have K1 := Lib.hid (K1.out.at (Kpt.rd g (Nat.lt_succ_self p)))
 have K2 := Lib.hid (own_slF ho (zcL_ok HR9.out.sl.ok) (show p + 1 ≤ w11.heap.size from HR9.out.lt))
 clear ho
 clear h g hs10 HR9 HG9
 go_wp2_with fail
 refine (zmv_any s10 HR10.out).mono ?_
 rintro r w13 ⟨A3, d3, v11, rfl, hE, hB, h, g⟩
 obtain ⟨s11, hs11⟩ : ∃ s, s = (zmv s10).2 := ⟨_, rfl⟩
 rw [← hs11] at h
 have HR11 := Lib.hid h
 have HG11 := Lib.hid (HG10.out.trans g)
 have HS11 := Lib.hid hs11
 have K1 := Lib.hid (K1.out.at (Kpt.rd g (Nat.lt_succ_self p)))
 have K2 := Lib.hid (K2.out.at (Kpt.rd g (Nat.lt_succ_self p)))
 have K3 : Hid (ElF w13 (p + 1) (.slice A3 (zmv s10).1.length d3) 4 ((zmv s10).1.map mvV)) := ⟨hE, fun b hb => Nat.le_trans HR10.out.lt (hB b hb)⟩
 clear hE hB
 clear h g hs11 HR10 HG10
 obtain ⟨E, hE⟩ : ∃ E : Ent, E = ⟨zv s0 1, zv s1 1, zv s2 2, zv s3 1, zv s4 3, zv s5 3, zv s6 1, zv (zr s6 1) 1, zv s7 1, zv (zr s7 1) 1, zcL s8, zcL s9, (zmv s10).1, (zlst zlvF s11).1, (zlst zdtF (zlst zlvF s11).2).1, (zlst zopF (zlst zdtF (zlst zlvF s11).2).2).1⟩ := ⟨_, rfl⟩
 have HE := Lib.hid hE
 have HBo := Lib.hid (heap_alloc_new w13 (.cells #[.int .i64 0, .int .i64 0, .int .i64 0, .int .i64 0, .int .i64 0, .int .i64 0, .int .i64 0, .int .i64 0, .int .i64 0, .int .i64 0, .slice none 0 0, .slice none 0 0, .slice none 0 0, .slice none 0 0, .slice none 0 0, .slice none 0 0] 44))
 have HZI := Lib.hid (infoEntC E (.slice A1 m1 d1) (.slice A2 m2 d2) (.slice A3 (zmv s10).1.length d3) (.slice none 0 0) (.slice none 0 0) (.slice none 0 0))
 have HZA := Lib.hid (entC_all E A1 A2 A3 none none none m1 d1 m2 d2 (zmv s10).1.length d3 0 0 0 0 0 0)
 have HZN := Lib.hid (show (#[.int .i64 0, .int .i64 0, .int .i64 0, .int .i64 0, .int .i64 0, .int .i64 0, .int .i64 0, .int .i64 0, .int .i64 0, .int .i64 0, .slice none 0 0, .slice none 0 0, .slice none 0 0, .slice none 0 0, .slice none 0 0, .slice none 0 0] : Array Value).size = (entC E (.slice A1 m1 d1) (.slice A2 m2 d2) (.slice A3 (zmv s10).1.length d3) (.slice none 0 0) (.slice none 0 0) (.slice none 0 0)).size from rfl)
 have HSA := Lib.hid (setRow_alloc w13 #[.int .i64 0, .int .i64 0, .int .i64 0, .int .i64 0, .int .i64 0, .int .i64 0, .int .i64 0, .int .i64 0, .int .i64 0, .int .i64 0, .slice none 0 0, .slice none 0 0, .slice none 0 0, .slice none 0 0, .slice none 0 0, .slice none 0 0] (entC E (.slice A1 m1 d1) (.slice A2 m2 d2) (.slice A3 (zmv s10).1.length d3) (.slice none 0 0) (.slice none 0 0) (.slice none 0 0)) 44)
 have HEC := Lib.hid (show entC E (.slice A1 m1 d1) (.slice A2 m2 d2) (.slice A3 (zmv s10).1.length d3) (.slice none 0 0) (.slice none 0 0) (.slice none 0 0) = #[.int .i64 (zv s0 1), .int .i64 (zv s1 1), .int .i64 (zv s2 2), .int .i64 (zv s3 1), .int .i64 (zv s4 3), .int .i64 (zv s5 3), .int .i64 (zv s6 1), .int .i64 (zv (zr s6 1) 1), .int .i64 (zv s7 1), .int .i64 (zv (zr s7 1) 1), .slice A1 m1 d1, .slice A2 m2 d2, .slice A3 (zmv s10).1.length d3, .slice none 0 0, .slice none 0 0, .slice none 0 0] by rw [hE]; rfl)
 rw [HEC.out] at HZI HZA HZN HSA
 clear hE
 go_upto_region 3 with (with_reducible refine wpList_store_row rfl 44 (.tmp 5) (.tmp 36) rfl w13.heap.size _ rfl rfl 44 _ HBo.out HZI.out HZN.out HZA.out ?_)
 rw [HSA.out]
 rw [← HEC.out] at HZI HZA HZN HSA ⊢
 obtain ⟨w14, HW14, hx14, hbx14⟩ : ∃ V, Hid (w13.alloc (.cells (entC E (.slice A1 m1 d1) (.slice A2 m2 d2) (.slice A3 (zmv s10).1.length d3) (.slice none 0 0) (.slice none 0 0) (.slice none 0 0)) 44) = V) ∧ V.heap[w13.heap.size]? = some (.cells (entC E (.slice A1 m1 d1) (.slice A2 m2 d2) (.slice A3 (zmv s10).1.length d3) (.slice none 0 0) (.slice none 0 0) (.slice none 0 0)) 44 (0, 0)) ∧ Below w13.heap.size w13 V := ⟨_, Lib.hid rfl, heap_alloc_new w13 _, (Below.refl _ _).alloc (Nat.le_refl _) _⟩
 rw [HW14.out]
 have HT0 : Hid (TzB W w13 p (entC E (.slice A1 m1 d1) (.slice A2 m2 d2) (.slice A3 (zmv s10).1.length d3) (.slice none 0 0) (.slice none 0 0) (.slice none 0 0)) s11 v11 w14) := Lib.hid ⟨HR11.out.on hbx14, hx14, ⟨hbx14.size, fun b _ hb => hbx14.block b hb⟩, HR11.out.lt⟩
 have HOK : Hid (bytesOk s11.1) := HR11.out.sl.ok
 have HE0 : Hid (E = ⟨zv s0 1, zv s1 1, zv s2 2, zv s3 1, zv s4 3, zv s5 3, zv s6 1, zv (zr s6 1) 1, zv s7 1, zv (zr s7 1) 1, zcL s8, zcL s9, (zmv s10).1, (zlst zlvF s11).1, (zlst zdtF (zlst zlvF s11).2).1, (zlst zopF (zlst zdtF (zlst zlvF s11).2).2).1⟩) := HE
 clear HE HBo HZI HZA HZN HSA HEC HW14 hx14 hbx14 HR11
 obtain ⟨t0, ht0⟩ : ∃ t, t = s11 := ⟨_, rfl⟩
 rw [← ht0] at HT0 HOK
 have HT0E := Lib.hid ht0
 clear ht0
 obtain ⟨N1, hN1⟩ : ∃ N : Nat, zm t0 = N := ⟨(zm t0).toNat, by have := zm_bd HOK.out; omega⟩
 have hN1b : N1 ≤ 40 := by have := zm_bd HOK.out; omega
 have HNN1 := Lib.hid hN1
 clear hN1
 go_wp2_with fail
 refine (zmany_any t0 HT0.out.rz).mono ?_
 rintro e w15 ⟨he, v21, h, g⟩
 rw [HNN1.out] at he
 subst he
 have H1 : Hid (TzL W w13 w15 p 115 4 lvV zlvF (fun v => entC E (.slice A1 m1 d1) (.slice A2 m2 d2) (.slice A3 (zmv s10).1.length d3) v (.slice none 0 0) (.slice none 0 0)) (zlst zlvF t0) (.int .i64 N1) w15) := ⟨N1, [], zmS t0, none, 0, 0, v21, hN1b, rfl, by simpa using hN1b, World.ownsRow_nil _ _ _ _, by unfold zlst; rw [HNN1.out]; rfl, by unfold zlst; rw [HNN1.out]; rfl, HT0.out.rd h g, Kpt.refl _ _⟩
 have HQ1 : Hid (w13.heap.size < w15.heap.size) := Nat.lt_of_lt_of_le HT0.out.q g.size
 clear h g hN1b HT0
 go_upto_block 0 with (fail)
 go_cut [] (fun wx => TzO W w13 w15 p 4 lvV (fun v => entC E (.slice A1 m1 d1) (.slice A2 m2 d2) (.slice A3 (zmv s10).1.length d3) v (.slice none 0 0) (.slice none 0 0)) (zlst zlvF t0) wx)
 case first =>
  go_wp2_with fail
  go_loopw [6] (fun i wr => TzL W w13 w15 p 115 4 lvV zlvF (fun v => entC E (.slice A1 m1 d1) (.slice A2 m2 d2) (.slice A3 (zmv s10).1.length d3) v (.slice none 0 0) (.slice none 0 0)) (zlst zlvF t0) i wr) (fun i _ => (RowKit.intOf i).toNat)
  case atStart => exact H1.out
  case round =>
   obtain ⟨n, D, st, A, m, c, sq, hn, rfl, hDn, ho, ht1, ht2, h2, k2⟩ := hrel
   have c1 := h2.bad
   have HO := Lib.hid ho
   have HT1 := Lib.hid ht1
   have HT2 := Lib.hid ht2
   have HB := Lib.hid h2
   have KQ := Lib.hid k2
   have fin : zl zlvF n st = ([], st) → TzO W w13 w15 p 4 lvV (fun v => entC E (.slice A1 m1 d1) (.slice A2 m2 d2) (.slice A3 (zmv s10).1.length d3) v (.slice none 0 0) (.slice none 0 0)) (zlst zlvF t0) wr := fun e => TzL.done (fun _ => rfl) ho ht1 ht2 h2 k2 HQ1.out e
   have FIN := Lib.hid fin
   clear ho ht1 ht2 h2 k2 fin
   cases n with
   | zero =>
    go_wp2
    go_meet
    exact FIN.out rfl
   | succ n =>
    have hpos : (0 : Int) < ((n + 1 : Nat) : Int) := by omega
    cases hb : st.2 with
    | true =>
     have HF := Lib.hid (FIN.out (by unfold zl; rw [if_pos hb]))
     rw [hb] at c1
     clear hb
     go_wp2
     go_meet
     exact HF.out
    | false =>
     have HZ : Hid (zl zlvF (n + 1) st = ((zlvF st).1 :: (zl zlvF n (zlvF st).2).1, (zl zlvF n (zlvF st).2).2)) := by
      show zl zlvF (n + 1) st = _
      rw [zl, if_neg (by rw [hb]; decide)]
     rw [hb] at c1
     clear hb FIN
     go_wp2_with fail
     refine (znr_any st HB.out.rz 1 (.inl rfl)).mono ?_
     rintro e y3 ⟨he, v1, h, g⟩
     obtain ⟨a1, ha1⟩ : ∃ x, x = zv st 1 := ⟨_, rfl⟩
     obtain ⟨u1, hu1⟩ : ∃ x, x = zr st 1 := ⟨_, rfl⟩
     rw [← ha1] at he
     rw [← hu1] at h
     subst he
     have HU1 := Lib.hid hu1
     have HV1 := Lib.hid ha1
     have HX1 := Lib.hid (HB.out.rd h g)
     have HG1 := Lib.hid (g)
     have HS_1 := Lib.hid g
     clear h g ha1 hu1
     go_wp2_with fail
     refine (znr_any u1 HX1.out.rz 3 (.inr (.inr rfl))).mono ?_
     rintro e y4 ⟨he, v2, h, g⟩
     obtain ⟨a2, ha2⟩ : ∃ x, x = zv u1 3 := ⟨_, rfl⟩
     obtain ⟨u2, hu2⟩ : ∃ x, x = zr u1 3 := ⟨_, rfl⟩
     rw [← ha2] at he
     rw [← hu2] at h
     subst he
     have HU2 := Lib.hid hu2
     have HV2 := Lib.hid ha2
     have HX2 := Lib.hid (HX1.out.rd h g)
     have HG2 := Lib.hid (HG1.out.trans g)
     have HS_2 := Lib.hid g
     clear h g ha2 hu2
     go_wp2_with fail
     refine (znr_any u2 HX2.out.rz 3 (.inr (.inr rfl))).mono ?_
     rintro e y5 ⟨he, v3, h, g⟩
     obtain ⟨a3, ha3⟩ : ∃ x, x = zv u2 3 := ⟨_, rfl⟩
     obtain ⟨u3, hu3⟩ : ∃ x, x = zr u2 3 := ⟨_, rfl⟩
     rw [← ha3] at he
     rw [← hu3] at h
     subst he
     have HU3 := Lib.hid hu3
     have HV3 := Lib.hid ha3
     have HX3 := Lib.hid (HX2.out.rd h g)
     have HG3 := Lib.hid (HG2.out.trans g)
     have HS_3 := Lib.hid g
     clear h g ha3 hu3
     go_upto_region 7 with (fail)
     obtain ⟨y6, HY6, hx6, hb6⟩ : ∃ V, Hid (y5.alloc (.cells #[.int .i64 a1, .int .i64 a2, .int .i64 a3, .bool false] 115) = V) ∧ V.heap[y5.heap.size]? = some (.cells #[.int .i64 a1, .int .i64 a2, .int .i64 a3, .bool false] 115 (0, 0)) ∧ Below y5.heap.size y5 V := ⟨_, Lib.hid rfl, heap_alloc_new y5 _, (Below.refl _ _).alloc (Nat.le_refl _) _⟩
     rw [HY6.out]
     have HX4 := Lib.hid (HX3.out.on hb6)
     have HG4 := Lib.hid (HG3.out.trans (Rd.of_below hb6))
     have HXQ : Hid (w13.heap.size < y5.heap.size) := HX3.out.q
     have HXW : Hid (wr.heap.size ≤ y5.heap.size) := HG3.out.size
     have HXP : Hid (p < y5.heap.size) := HX3.out.rz.lt
     obtain ⟨xb, hxb⟩ : ∃ x, x = y5.heap.size := ⟨_, rfl⟩
     rw [← hxb] at hx6 HXQ HXW HXP ⊢
     have HX6 := Lib.hid hx6
     clear hx6 hb6 hxb HY6 c1
     go_wp2_with fail
     refine (znr_any u3 HX4.out.rz 1 (.inl rfl)).mono ?_
     rintro e y7 ⟨he, v5, h, g⟩
     obtain ⟨a5, ha5⟩ : ∃ x, x = zv u3 1 := ⟨_, rfl⟩
     obtain ⟨u5, hu5⟩ : ∃ x, x = zr u3 1 := ⟨_, rfl⟩
     rw [← ha5] at he
     rw [← hu5] at h
     subst he
     have HU5 := Lib.hid hu5
     have HV5 := Lib.hid ha5
     have HX5 := Lib.hid (HX4.out.rd h g)
     have HG5 := Lib.hid (HG4.out.trans g)
     have HS_5 := Lib.hid g
     clear h g ha5 hu5
     have HX7 := Lib.hid ((HS_5.out.block xb (Array.getElem?_eq_some_iff.1 HX6.out).1 (Nat.ne_of_gt HXP.out)).trans HX6.out)
     clear HX6
     go_upto_region 8 with (fail)
     have c1 := HX5.out.bad
     have f1 := HX5.out.badf
     go_cut [] (fun wx => wx = y7.setCell ⟨p, 1, none⟩ (.bool (u5.2 || decide (1 < a5))))
     case first =>
      cases hb : u5.2 with
      | true =>
       rw [hb] at c1
       go_wp2
       go_meet
       rw [hb]; rfl
      | false =>
       rw [hb] at c1
       go_wp2
       go_meet
       rw [hb]; rfl
     case rest =>
      subst hcut
      obtain ⟨y8, hy8⟩ : ∃ V, V = y7.setCell ⟨p, 1, none⟩ (.bool (u5.2 || decide (1 < a5))) := ⟨_, rfl⟩
      have hm := HX5.out.mark (u5.2 || decide (1 < a5))
      rw [← hy8] at hm ⊢
      have HX8 := Lib.hid hm.1
      have HG8 := Lib.hid (HG5.out.trans hm.2)
      have hx8 := (hm.2.block xb (Array.getElem?_eq_some_iff.1 HX7.out).1 (Nat.ne_of_gt HXP.out)).trans HX7.out
      have d3 : y8.cell? ⟨xb, 3, none⟩ = some (.bool false) := (c_o hx8 3).1
      have e3 := (c_o hx8 3).2
      have HXX := Lib.hid hx8
      clear hy8 hm hx8 c1 f1 HX7
      go_upto_region 10 with (fail)
      clear d3 e3
      have hx9 : (y8.setCell ⟨xb, 3, none⟩ (.bool (a5 == 1))).heap[xb]? = some (.cells #[.int .i64 a1, .int .i64 a2, .int .i64 a3, .bool (a5 == 1)] 115 (0, 0)) := heap_setCell_same _ _ _ _ _ _ HXX.out
      have hB9 := HX8.out.far (i := 3) (v := .bool (a5 == 1)) HXQ.out
      have hsame : ∀ b, b < wr.heap.size → b ≠ p → (y8.setCell ⟨xb, 3, none⟩ (.bool (a5 == 1))).heap[b]? = wr.heap[b]? := fun b h1 h2 => (setCell_far _ _ _ _ (by have := HXW.out; omega)).trans (HG8.out.block b h1 h2)
      have hsz : wr.heap.size ≤ (y8.setCell ⟨xb, 3, none⟩ (.bool (a5 == 1))).heap.size := by simpa using HG8.out.size
      generalize y8.setCell ⟨xb, 3, none⟩ (.bool (a5 == 1)) = y9 at *
      have hwb : w15.heap.size ≤ wr.heap.size := KQ.out.size
      have HPQ := HX1.out.lt
      have hoy : y9.ownsRow w15.heap.size 115 4 (.slice A m c) D.length (D.flatMap lvV) := own_at HO.out fun b hb => hsame b (HO.out.lt b hb).2 (by have := (HO.out.lt b hb).1; have := HQ1.out; omega)
      have hky : Kpt (w13.heap.size + 1) w15 y9 := KQ.out.trans ⟨hsz, fun b h1 h2 => hsame b h2 (by omega)⟩
      obtain ⟨ii, hi, hz0, hz1, hz2⟩ := info_parts inforlives_any
      have HOA : Hid (∀ o, (y9.alloc o).ownsRow w15.heap.size 115 4 (.slice A m c) D.length (D.flatMap lvV)) := fun o => hoy.alloc o
      have HAL : Hid (∀ o, Below y9.heap.size y9 (y9.alloc o)) := fun o => (Below.refl _ _).alloc (Nat.le_refl _) _
      have HTB := Lib.hid hB9
      have HKY := Lib.hid hky
      have HSZ2 : Hid (w15.heap.size ≤ y9.heap.size) := Nat.le_trans hwb hsz
      clear hoy hky hsame hsz hwb HPQ hB9
      have c11 : y9.cell? ⟨w13.heap.size, 13, none⟩ = some (.slice A m c) := HTB.out.cell 13
      have e0 := (c_o hx9 0).1
      have e1 := (c_o hx9 1).1
      have e2 := (c_o hx9 2).1
      have e3 := (c_o hx9 3).1
      have HX9 := Lib.hid hx9
      have HI9 := Lib.hid (show (Tryz.prog.info? 115).map (·.size) = some (#[.int .i64 a1, .int .i64 a2, .int .i64 a3, .bool (a5 == 1)] : Array Value).size from infoLive)
      clear hx9 e0 e1 e2 e3
      go_wp2_with (first
       | (with_reducible refine wpList_load_row rfl 115 (.tmp 7) rfl xb rfl 115 _ (0, 0) _ HX9.out Tryz.underlying115 rfl HI9.out ?_)
       | (at_builtin; refine wpList_append_lies _ rfl _ _ 40 rfl w15.heap.size 115 ii (.agg #[.int .i64 0, .int .i64 0, .int .i64 0, .bool false]) 4 32 Tryz.underlying40 hi hz0 hz1 hz2 rfl (by decide) (.slice A m c) D.length _ rfl (HOA.out _) ⟨y9.heap.size, 0, none⟩ 1 1 [.int .i64 a1, .int .i64 a2, .int .i64 a3, .bool (a5 == 1)] rfl rfl ?c1 ?c2 ?c3 ?c4 ?c5 ?c6 _ rfl ?_))
      case c1 => exact World.news_of_block (heap_alloc_new y9 _)
      case c2 => intro u hu; simp at hu; rcases hu with rfl | rfl | rfl | rfl <;> rfl
      case c3 => omega
      case c4 => unfold maxLen; omega
      case c5 => omega
      case c6 => simp; exact Nat.le_succ_of_le HSZ2.out
      have HF1 : Hid (zlvF st = ((a1, a2, a3, a5 == 1), (u5.1, u5.2 || decide (1 < a5)))) := by
       show zlvF st = _
       rw [HV5.out, HU5.out, HV3.out, HU3.out, HV2.out, HU2.out, HV1.out, HU1.out]
       rfl
      intro g5 c5 y10 ho5 hg5 hv5 hl5
      have hB := (HTB.out.on (HAL.out _)).grow hg5 (fun k hk => Nat.lt_of_lt_of_le HQ1.out (HO.out.lt k hk).1)
      have cc := hB.cell 13
      have ff := hB.froz 13
      replace cc : y10.cell? ⟨w13.heap.size, 13, none⟩ = some (.slice A m c) := cc
      have hP := hB.put (cs' := entC E (.slice A1 m1 d1) (.slice A2 m2 d2) (.slice A3 (zmv s10).1.length d3) (.slice (some ⟨g5, 0, none⟩) (D.length + 1) c5) (.slice none 0 0) (.slice none 0 0)) 13 (.slice (some ⟨g5, 0, none⟩) (D.length + 1) c5) rfl
      have hr : TzL W w13 w15 p 115 4 lvV zlvF (fun v => entC E (.slice A1 m1 d1) (.slice A2 m2 d2) (.slice A3 (zmv s10).1.length d3) v (.slice none 0 0) (.slice none 0 0)) (zlst zlvF t0) (.int .i64 n) (y10.setCell ⟨w13.heap.size, 13, none⟩ (.slice (some ⟨g5, 0, none⟩) (D.length + 1) c5)) := by
       have e1 := HT1.out
       have e2 := HT2.out
       rw [HZ.out, HF1.out] at e1 e2
       have hs0 : w15.heap.size ≤ y10.heap.size := Nat.le_trans HSZ2.out (Nat.le_trans (HAL.out _).size hg5.size)
       have hk : Kpt (w13.heap.size + 1) w15 (y10.setCell ⟨w13.heap.size, 13, none⟩ (.slice (some ⟨g5, 0, none⟩) (D.length + 1) c5)) := by
        refine ⟨by simpa using hs0, fun b h1 h2 => ?_⟩
        have hy : b < y9.heap.size := Nat.lt_of_lt_of_le h2 HSZ2.out
        exact (setCell_far _ _ _ _ (by omega)).trans ((hg5.block b (Nat.lt_of_lt_of_le hy (HAL.out _).size) (fun e => by have := (HO.out.lt b e.symm).1; omega)).trans (((HAL.out _).block b hy).trans (HKY.out.block b h1 h2)))
       refine ⟨n, D ++ [(a1, a2, a3, a5 == 1)], _, _, _, _, v5, by omega, rfl, by rw [List.length_append]; simp; omega, ?_, ?_, e2, hP, hk⟩
       ·rw [List.flatMap_append, List.length_append]
        exact own_at ho5 fun b hb => setCell_far _ _ _ _ (by have := (ho5.lt b hb).1; have := HQ1.out; omega)
       ·rw [List.append_assoc]
        exact e1
      have HR := Lib.hid hr
      clear ho5 hg5 hv5 hl5 hB hP hr
      go_wp2
      go_roundw
      all_goals first
       | exact HR.out
       | (simp [RowKit.intOf]; omega)
       | (simp [RowKit.intOf])
 case rest =>
  obtain ⟨A4, d4, v31, hb4, hl4, hk4⟩ := hcut
  obtain ⟨T4, hT4⟩ : ∃ T, T = zlst zlvF t0 := ⟨_, rfl⟩
  have HOK2 : Hid (bytesOk T4.2.1) := Lib.hid (by rw [hT4]; exact (eats_lst eats_lv).ok t0 HOK.out)
  rw [← hT4] at hb4 hl4
  have HT4 := Lib.hid hT4
  obtain ⟨n4, hn4⟩ : ∃ n, n = T4.1.length := ⟨_, rfl⟩
  rw [← hn4] at hb4 hl4
  have HN4 := Lib.hid hn4
  have HT1 := Lib.hid hb4
  have HL4 := Lib.hid hl4
  clear hb4 hl4 hk4 hT4 hn4 HQ1 H1 HNN1
  obtain ⟨N2, hN2⟩ : ∃ N : Nat, zm T4.2 = N := ⟨(zm T4.2).toNat, by have := zm_bd HOK2.out; omega⟩
  have hN2b : N2 ≤ 40 := by have := zm_bd HOK2.out; omega
  have HNN2 := Lib.hid hN2
  clear hN2
  go_wp2_with fail
  refine (zmany_any T4.2 HT1.out.rz).mono ?_
  rintro e w17 ⟨he, v22, h, g⟩
  rw [HNN2.out] at he
  subst he
  have H2 : Hid (TzL W w13 w17 p 117 2 dtV zdtF (fun v => entC E (.slice A1 m1 d1) (.slice A2 m2 d2) (.slice A3 (zmv s10).1.length d3) (.slice A4 n4 d4) v (.slice none 0 0)) (zlst zdtF T4.2) (.int .i64 N2) w17) := ⟨N2, [], zmS T4.2, none, 0, 0, v22, hN2b, rfl, by simpa using hN2b, World.ownsRow_nil _ _ _ _, by unfold zlst; rw [HNN2.out]; rfl, by unfold zlst; rw [HNN2.out]; rfl, HT1.out.rd h g, Kpt.refl _ _⟩
  have HQ2 : Hid (w13.heap.size < w17.heap.size) := Nat.lt_of_lt_of_le HT1.out.q g.size
  have HL4 := Lib.hid (HL4.out.at (Kpt.rd g (Nat.lt_succ_of_lt HT1.out.lt)))
  clear h g hN2b HT1
  go_upto_block 2 with (fail)
  go_cut [] (fun wx => TzO W w13 w17 p 2 dtV (fun v => entC E (.slice A1 m1 d1) (.slice A2 m2 d2) (.slice A3 (zmv s10).1.length d3) (.slice A4 n4 d4) v (.slice none 0 0)) (zlst zdtF T4.2) wx)
  case first =>
   go_wp2_with fail
   go_loopw [9] (fun i wr => TzL W w13 w17 p 117 2 dtV zdtF (fun v => entC E (.slice A1 m1 d1) (.slice A2 m2 d2) (.slice A3 (zmv s10).1.length d3) (.slice A4 n4 d4) v (.slice none 0 0)) (zlst zdtF T4.2) i wr) (fun i _ => (RowKit.intOf i).toNat)
   case atStart => exact H2.out
   case round =>
    obtain ⟨n, D, st, A, m, c, sq, hn, rfl, hDn, ho, ht1, ht2, h2, k2⟩ := hrel
    have c1 := h2.bad
    have HO := Lib.hid ho
    have HT1 := Lib.hid ht1
    have HT2 := Lib.hid ht2
    have HB := Lib.hid h2
    have KQ := Lib.hid k2
    have fin : zl zdtF n st = ([], st) → TzO W w13 w17 p 2 dtV (fun v => entC E (.slice A1 m1 d1) (.slice A2 m2 d2) (.slice A3 (zmv s10).1.length d3) (.slice A4 n4 d4) v (.slice none 0 0)) (zlst zdtF T4.2) wr := fun e => TzL.done (fun _ => rfl) ho ht1 ht2 h2 k2 HQ2.out e
    have FIN := Lib.hid fin
    clear ho ht1 ht2 h2 k2 fin
    cases n with
    | zero =>
     go_wp2
     go_meet
     exact FIN.out rfl
    | succ n =>
     have hpos : (0 : Int) < ((n + 1 : Nat) : Int) := by omega
     cases hb : st.2 with
     | true =>
      have HF := Lib.hid (FIN.out (by unfold zl; rw [if_pos hb]))
      rw [hb] at c1
      clear hb
      go_wp2
      go_meet
      exact HF.out
     | false =>
      have HZ : Hid (zl zdtF (n + 1) st = ((zdtF st).1 :: (zl zdtF n (zdtF st).2).1, (zl zdtF n (zdtF st).2).2)) := by
       show zl zdtF (n + 1) st = _
       rw [zl, if_neg (by rw [hb]; decide)]
      rw [hb] at c1
      clear hb FIN
      go_upto_region 14 with (fail)
      have D0 := (Below.refl wr.heap.size wr).drew
      have HX0 := Lib.hid (HB.out.on D0)
      have HG0 : Hid (Rd p wr wr.drew) := Lib.hid (Rd.of_below D0)
      have hS0 : (fun Z : World => Z.cell? ⟨w13.heap.size, 14, none⟩ = some (.slice A m c)) wr.drew := HB.out.cell 14
      clear D0 c1
      refine wp_region_G (fun Z : World => Z.cell? ⟨w13.heap.size, 14, none⟩ = some (.slice A m c)) (fun j => j == 10) (by kernel_rfl) ?_
      generalize wr.drew = z0 at *
      refine tG0 (i := 0) (v := ?_) rfl ?_ ?_
      rotate_left;(focus intro W _;go_simp;try with_reducible rfl);rotate_left;try simp only[Act.put,zq]
      refine tG1 (i := 1) (v := ?_) rfl hS0 ?_ ?_
      rotate_left;(focus intro W hSW;(try dsimp only at hSW);go_simp;try with_reducible rfl);rotate_left;try simp only[Act.put,zq]
      clear hS0
      refine tG0 (i := 2) (v := ?_) rfl ?_ ?_
      rotate_left;(focus intro W _;go_simp;try with_reducible rfl);rotate_left;try simp only[Act.put,zq]
      refine tG0 (i := 4) (v := ?_) rfl ?_ ?_
      rotate_left;(focus intro W _;go_simp;try with_reducible rfl);rotate_left;try simp only[Act.put,zq]
      refine rdG (rs := [3]) (by kernel_rfl) (by simp) ?_
      refine cG1 rfl fun K hK => ?_
      go_simp
      go_at_call 77
      refine (znr_any st HX0.out.rz 1 (.inl rfl)).mono ?_
      rintro e z1 ⟨he, v1, h, g⟩
      obtain ⟨a1, ha1⟩ : ∃ x, x = zv st 1 := ⟨_, rfl⟩
      obtain ⟨u1, hu1⟩ : ∃ x, x = zr st 1 := ⟨_, rfl⟩
      rw [← ha1] at he
      rw [← hu1] at h
      subst he
      have HU1 := Lib.hid hu1
      have HV1 := Lib.hid ha1
      have HX1 := Lib.hid (HX0.out.rd h g)
      have HG1 := Lib.hid (HG0.out.trans g)
      clear h g ha1 hu1
      go_wp2_with fail
      refine hK.out _ _ (fun _ _ => HX1.out.cell 14) ?_
      clear hK K
      try simp only[Act.put,zq]
      refine rdG (rs := [5]) (by kernel_rfl) (by simp) ?_
      refine cG1 rfl fun K hK => ?_
      go_simp
      go_at_call 77
      refine (znr_any u1 HX1.out.rz 3 (.inr (.inr rfl))).mono ?_
      rintro e z2 ⟨he, v2, h, g⟩
      obtain ⟨a2, ha2⟩ : ∃ x, x = zv u1 3 := ⟨_, rfl⟩
      obtain ⟨u2, hu2⟩ : ∃ x, x = zr u1 3 := ⟨_, rfl⟩
      rw [← ha2] at he
      rw [← hu2] at h
      subst he
      have HU2 := Lib.hid hu2
      have HV2 := Lib.hid ha2
      have HX2 := Lib.hid (HX1.out.rd h g)
      have HG2 := Lib.hid (HG1.out.trans g)
      clear h g ha2 hu2
      go_wp2_with fail
      refine hK.out _ _ (fun _ _ => HX2.out.cell 14) ?_
      clear hK K
      try simp only[Act.put,zq]
      refine tG0 (i := 6) (v := ?_) rfl ?_ ?_
      rotate_left;(focus intro W _;go_simp;try with_reducible rfl);rotate_left;try simp only[Act.put,zq]
      have hsame : ∀ b, b < wr.heap.size → b ≠ p → z2.heap[b]? = wr.heap[b]? := HG2.out.block
      have hsz : wr.heap.size ≤ z2.heap.size := HG2.out.size
      have hwb : w17.heap.size ≤ wr.heap.size := KQ.out.size
      have HPQ := HX2.out.lt
      have hoy : z2.ownsRow w17.heap.size 117 2 (.slice A m c) D.length (D.flatMap dtV) := own_at HO.out fun b hb => hsame b (HO.out.lt b hb).2 (by have := (HO.out.lt b hb).1; have := HQ2.out; omega)
      have hky : Kpt (w13.heap.size + 1) w17 z2 := KQ.out.trans ⟨hsz, fun b h1 h2 => hsame b h2 (by omega)⟩
      obtain ⟨ii, hi, hz0, hz1, hz2⟩ := info_parts infordirtys_any
      have HOA : Hid (∀ o, (z2.alloc o).ownsRow w17.heap.size 117 2 (.slice A m c) D.length (D.flatMap dtV)) := fun o => hoy.alloc o
      have HAL : Hid (∀ o, Below z2.heap.size z2 (z2.alloc o)) := fun o => (Below.refl _ _).alloc (Nat.le_refl _) _
      have HTB := Lib.hid HX2.out
      have HKY := Lib.hid hky
      have HSZ2 : Hid (w17.heap.size ≤ z2.heap.size) := Nat.le_trans hwb hsz
      clear hoy hky hsame hsz hwb HPQ
      refine rdG (rs := [7]) (by kernel_rfl) (by simp) ?_
      refine cG1 rfl fun K hK => ?_
      go_simp
      have nb := heap_alloc_new z2 (.cells #[.int .i64 a1, .int .i64 a2] 117)
      refine hK.out _ _ (fun _ _ => (HX2.out.on (HAL.out _)).cell 14) ?_
      clear hK K
      try simp only[Act.put,zq]
      have HF1 : Hid (zdtF st = ((a1, a2), u2)) := by
       show zdtF st = _
       rw [HV2.out, HU2.out, HV1.out, HU1.out]
       rfl
      refine rdG (rs := [8]) (by kernel_rfl) (by simp) ?_
      refine cG1 rfl fun K hK => ?_
      refine step_append_lies _ rfl (.tmp 93) (.tmp 99) 41 rfl w17.heap.size 117 ii (.agg #[.int .i64 0, .int .i64 0]) 2 16 Tryz.underlying41 hi hz0 hz1 hz2 rfl (by decide) (.slice A m c) D.length (D.flatMap dtV) rfl (HOA.out _) ⟨_, 0, none⟩ 1 1 [.int .i64 a1, .int .i64 a2] rfl rfl (World.news_of_block nb) (fun u hu => by simp at hu; rcases hu with rfl | rfl | rfl | rfl <;> rfl) (by omega) (by unfold maxLen; omega) (by omega) (by simp; exact Nat.le_succ_of_le HSZ2.out) _ rfl ?_
      intro g5 c5 z3 ho5 hg5 hv5 hl5
      have hB := (HTB.out.on (HAL.out _)).grow hg5 (fun k hk => Nat.lt_of_lt_of_le HQ2.out (HO.out.lt k hk).1)
      have cc := hB.cell 14
      have ff := hB.froz 14
      replace cc : z3.cell? ⟨w13.heap.size, 14, none⟩ = some (.slice A m c) := cc
      have hP := hB.put (cs' := entC E (.slice A1 m1 d1) (.slice A2 m2 d2) (.slice A3 (zmv s10).1.length d3) (.slice A4 n4 d4) (.slice (some ⟨g5, 0, none⟩) (D.length + 1) c5) (.slice none 0 0)) 14 (.slice (some ⟨g5, 0, none⟩) (D.length + 1) c5) rfl
      have hr : TzL W w13 w17 p 117 2 dtV zdtF (fun v => entC E (.slice A1 m1 d1) (.slice A2 m2 d2) (.slice A3 (zmv s10).1.length d3) (.slice A4 n4 d4) v (.slice none 0 0)) (zlst zdtF T4.2) (.int .i64 n) (z3.setCell ⟨w13.heap.size, 14, none⟩ (.slice (some ⟨g5, 0, none⟩) (D.length + 1) c5)) := by
       have e1 := HT1.out
       have e2 := HT2.out
       rw [HZ.out, HF1.out] at e1 e2
       have hs0 : w17.heap.size ≤ z3.heap.size := Nat.le_trans HSZ2.out (Nat.le_trans (HAL.out _).size hg5.size)
       have hk : Kpt (w13.heap.size + 1) w17 (z3.setCell ⟨w13.heap.size, 14, none⟩ (.slice (some ⟨g5, 0, none⟩) (D.length + 1) c5)) := by
        refine ⟨by simpa using hs0, fun b h1 h2 => ?_⟩
        have hy : b < z2.heap.size := Nat.lt_of_lt_of_le h2 HSZ2.out
        exact (setCell_far _ _ _ _ (by omega)).trans ((hg5.block b (Nat.lt_of_lt_of_le hy (HAL.out _).size) (fun e => by have := (HO.out.lt b e.symm).1; omega)).trans (((HAL.out _).block b hy).trans (HKY.out.block b h1 h2)))
       refine ⟨n, D ++ [(a1, a2)], _, _, _, _, v2, by omega, rfl, by rw [List.length_append]; simp; omega, ?_, ?_, e2, hP, hk⟩
       ·rw [List.flatMap_append, List.length_append]
        exact own_at ho5 fun b hb => setCell_far _ _ _ _ (by have := (ho5.lt b hb).1; have := HQ2.out; omega)
       ·rw [List.append_assoc]
        exact e1
      have HR := Lib.hid hr
      clear ho5 hg5 hv5 hl5 hB hP hr
      clear nb
      refine hK.out _ _ (fun _ _ => cc) ?_
      clear hK K
      try simp only[Act.put,zq]
      refine tG0 (i := 9) (v := ?_) rfl ?_ ?_
      rotate_left;(focus intro W _;go_simp;try with_reducible rfl);rotate_left;try simp only[Act.put,zq]
      refine rdG (rs := [10]) (by kernel_rfl) (by simp) ?_
      refine cG1 rfl fun K hK => ?_
      go_simp
      refine hK.out _ _ (fun h => by cases h) ?_
      clear hK K
      try simp only[Act.put,zq]
      refine wpAnyG_done (by kernel_rfl) ?_ _
      go_wp2
      go_roundw
      all_goals first
       | exact HR.out
       | (simp [RowKit.intOf]; omega)
       | (simp [RowKit.intOf])
  case rest =>
   obtain ⟨A5, d5, v41, hb5, hl5, hk5⟩ := hcut
   obtain ⟨T5, hT5⟩ : ∃ T, T = zlst zdtF T4.2 := ⟨_, rfl⟩
   have HOK3 : Hid (bytesOk T5.2.1) := Lib.hid (by rw [hT5]; exact (eats_lst eats_dt).ok T4.2 HOK2.out)
   rw [← hT5] at hb5 hl5
   have HT5 := Lib.hid hT5
   obtain ⟨n5, hn5⟩ : ∃ n, n = T5.1.length := ⟨_, rfl⟩
   rw [← hn5] at hb5 hl5
   have HN5 := Lib.hid hn5
   have HT2 := Lib.hid hb5
   have HL5 := Lib.hid hl5
   have HL4 := Lib.hid (HL4.out.at hk5)
   clear hb5 hl5 hk5 hT5 hn5 HQ2 H2 HNN2
   obtain ⟨N3, hN3⟩ : ∃ N : Nat, zm T5.2 = N := ⟨(zm T5.2).toNat, by have := zm_bd HOK3.out; omega⟩
   have hN3b : N3 ≤ 40 := by have := zm_bd HOK3.out; omega
   have HNN3 := Lib.hid hN3
   clear hN3
   go_wp2_with fail
   refine (zmany_any T5.2 HT2.out.rz).mono ?_
   rintro e w19 ⟨he, v23, h, g⟩
   rw [HNN3.out] at he
   subst he
   have H3 : Hid (TzLo W w13 w19 p (fun v => entC E (.slice A1 m1 d1) (.slice A2 m2 d2) (.slice A3 (zmv s10).1.length d3) (.slice A4 n4 d4) (.slice A5 n5 d5) v) (zlst zopF T5.2) (.int .i64 N3) w19) := ⟨N3, [], zmS T5.2, none, 0, 0, v23, hN3b, rfl, by simpa using hN3b, World.ownsRow_nil _ _ _ _, by unfold zlst; rw [HNN3.out]; rfl, by unfold zlst; rw [HNN3.out]; rfl, (fun o ho => by cases ho), HT2.out.rd h g, Kpt.refl _ _⟩
   have HQ3 : Hid (w13.heap.size < w19.heap.size) := Nat.lt_of_lt_of_le HT2.out.q g.size
   have HL4 := Lib.hid (HL4.out.at (Kpt.rd g (Nat.lt_succ_of_lt HT2.out.lt)))
   have HL5 := Lib.hid (HL5.out.at (Kpt.rd g (Nat.lt_succ_of_lt HT2.out.lt)))
   clear h g hN3b HT2
   go_upto_block 4 with (fail)
   go_cut [] (fun wx => TzOo W w13 w19 p (fun v => entC E (.slice A1 m1 d1) (.slice A2 m2 d2) (.slice A3 (zmv s10).1.length d3) (.slice A4 n4 d4) (.slice A5 n5 d5) v) (zlst zopF T5.2) wx)
   case first =>
    go_wp2_with fail
    go_loopw [10] (fun i wr => TzLo W w13 w19 p (fun v => entC E (.slice A1 m1 d1) (.slice A2 m2 d2) (.slice A3 (zmv s10).1.length d3) (.slice A4 n4 d4) (.slice A5 n5 d5) v) (zlst zopF T5.2) i wr) (fun i _ => (RowKit.intOf i).toNat)
    case atStart => exact H3.out
    case round =>
     obtain ⟨n, os, st, A, m, c, sq, hn, rfl, hDn, ho, ht1, ht2, hin, h2, k2⟩ := hrel
     have c1 := h2.bad
     have HO := Lib.hid ho
     have HT1 := Lib.hid ht1
     have HT2 := Lib.hid ht2
     have HB := Lib.hid h2
     have HIN := Lib.hid hin
     have KQ := Lib.hid k2
     have fin : zl zopF n st = ([], st) → TzOo W w13 w19 p (fun v => entC E (.slice A1 m1 d1) (.slice A2 m2 d2) (.slice A3 (zmv s10).1.length d3) (.slice A4 n4 d4) (.slice A5 n5 d5) v) (zlst zopF T5.2) wr := fun e => TzLo.done ho ht1 ht2 hin h2 k2 HQ3.out e
     have FIN := Lib.hid fin
     clear ho ht1 ht2 h2 k2 hin fin
     cases n with
     | zero =>
      go_wp2
      go_meet
      exact FIN.out rfl
     | succ n =>
      have hpos : (0 : Int) < ((n + 1 : Nat) : Int) := by omega
      cases hb : st.2 with
      | true =>
       have HF := Lib.hid (FIN.out (by unfold zl; rw [if_pos hb]))
       rw [hb] at c1
       clear hb
       go_wp2
       go_meet
       exact HF.out
      | false =>
       have HZ : Hid (zl zopF (n + 1) st = ((zopF st).1 :: (zl zopF n (zopF st).2).1, (zl zopF n (zopF st).2).2)) := by
        show zl zopF (n + 1) st = _
        rw [zl, if_neg (by rw [hb]; decide)]
       rw [hb] at c1
       clear hb FIN
       go_upto_region 18 with (fail)
       have D0 := (Below.refl wr.heap.size wr).drew
       have HX0 := Lib.hid (HB.out.on D0)
       have HG0 : Hid (Rd p wr wr.drew) := Lib.hid (Rd.of_below D0)
       have hS0 : (fun Z : World => Z.cell? ⟨w13.heap.size, 15, none⟩ = some (.slice A m c)) wr.drew := HB.out.cell 15
       clear D0 c1
       refine wp_region_G (fun Z : World => Z.cell? ⟨w13.heap.size, 15, none⟩ = some (.slice A m c)) (fun j => j == 12) (by kernel_rfl) ?_
       generalize wr.drew = z0 at *
       refine tG0 (i := 0) (v := ?_) rfl ?_ ?_
       rotate_left;(focus intro W _;go_simp;try with_reducible rfl);rotate_left;try simp only[Act.put,zq]
       refine tG1 (i := 1) (v := ?_) rfl hS0 ?_ ?_
       rotate_left;(focus intro W hSW;(try dsimp only at hSW);go_simp;try with_reducible rfl);rotate_left;try simp only[Act.put,zq]
       clear hS0
       refine tG0 (i := 2) (v := ?_) rfl ?_ ?_
       rotate_left;(focus intro W _;go_simp;try with_reducible rfl);rotate_left;try simp only[Act.put,zq]
       refine tG0 (i := 4) (v := ?_) rfl ?_ ?_
       rotate_left;(focus intro W _;go_simp;try with_reducible rfl);rotate_left;try simp only[Act.put,zq]
       refine tG0 (i := 6) (v := ?_) rfl ?_ ?_
       rotate_left;(focus intro W _;go_simp;try with_reducible rfl);rotate_left;try simp only[Act.put,zq]
       refine rdG (rs := [3]) (by kernel_rfl) (by simp) ?_
       refine cG1 rfl fun K hK => ?_
       go_simp
       go_at_call 77
       refine (znr_any st HX0.out.rz 2 (.inr (.inl rfl))).mono ?_
       rintro e z1 ⟨he, v1, h, g⟩
       obtain ⟨a1, ha1⟩ : ∃ x, x = zv st 2 := ⟨_, rfl⟩
       obtain ⟨u1, hu1⟩ : ∃ x, x = zr st 2 := ⟨_, rfl⟩
       rw [← ha1] at he
       rw [← hu1] at h
       subst he
       have HU1 := Lib.hid hu1
       have HV1 := Lib.hid ha1
       have HX1 := Lib.hid (HX0.out.rd h g)
       have HG1 := Lib.hid (HG0.out.trans g)
       clear h g ha1 hu1
       go_wp2_with fail
       refine hK.out _ _ (fun _ _ => HX1.out.cell 15) ?_
       clear hK K
       try simp only[Act.put,zq]
       refine rdG (rs := [5]) (by kernel_rfl) (by simp) ?_
       refine cG1 rfl fun K hK => ?_
       go_simp
       go_at_call 77
       refine (znr_any u1 HX1.out.rz 1 (.inl rfl)).mono ?_
       rintro e z2 ⟨he, v2, h, g⟩
       obtain ⟨a2, ha2⟩ : ∃ x, x = zv u1 1 := ⟨_, rfl⟩
       obtain ⟨u2, hu2⟩ : ∃ x, x = zr u1 1 := ⟨_, rfl⟩
       rw [← ha2] at he
       rw [← hu2] at h
       subst he
       have HU2 := Lib.hid hu2
       have HV2 := Lib.hid ha2
       have HX2 := Lib.hid (HX1.out.rd h g)
       have HG2 := Lib.hid (HG1.out.trans g)
       clear h g ha2 hu2
       go_wp2_with fail
       refine hK.out _ _ (fun _ _ => HX2.out.cell 15) ?_
       clear hK K
       try simp only[Act.put,zq]
       refine rdG (rs := [7]) (by kernel_rfl) (by simp) ?_
       refine cG1 rfl fun K hK => ?_
       go_simp
       go_at_call 80
       refine (zmv_any u2 HX2.out.rz).mono ?_
       rintro e z3 ⟨A9, c9, v3, he, hE, hBo, h, g⟩
       obtain ⟨mm, hmm⟩ : ∃ x, x = (zmv u2).1 := ⟨_, rfl⟩
       obtain ⟨u3, hu3⟩ : ∃ x, x = (zmv u2).2 := ⟨_, rfl⟩
       rw [← hmm] at he hE hBo
       rw [← hu3] at h
       subst he
       have HU3 := Lib.hid hu3
       have HV3 := Lib.hid hmm
       have HX3 := Lib.hid (HX2.out.rd h g)
       have HG3 := Lib.hid (HG2.out.trans g)
       have HEE := Lib.hid hE
       have HBO : Hid (∀ b, (Value.slice A9 mm.length c9).ownBlock = some b → wr.heap.size ≤ b) := Lib.hid fun b hb => Nat.le_trans HG2.out.size (hBo b hb)
       clear h g hmm hu3 hE hBo
       go_wp2_with fail
       refine hK.out _ _ (fun _ _ => HX3.out.cell 15) ?_
       clear hK K
       try simp only[Act.put,zq]
       refine tG0 (i := 8) (v := ?_) rfl ?_ ?_
       rotate_left;(focus intro W _;go_simp;try with_reducible rfl);rotate_left;try simp only[Act.put,zq]
       have hsame : ∀ b, b < wr.heap.size → b ≠ p → z3.heap[b]? = wr.heap[b]? := HG3.out.block
       have hsz : wr.heap.size ≤ z3.heap.size := HG3.out.size
       have hwb : w19.heap.size ≤ wr.heap.size := KQ.out.size
       have HPQ := HX3.out.lt
       have hoy : z3.ownsRow w19.heap.size 119 3 (.slice A m c) os.length (os.flatMap opV) := own_at HO.out fun b hb => hsame b (HO.out.lt b hb).2 (by have := (HO.out.lt b hb).1; have := HQ3.out; omega)
       have hky : Kpt (w13.heap.size + 1) w19 z3 := KQ.out.trans ⟨hsz, fun b h1 h2 => hsame b h2 (by omega)⟩
       obtain ⟨ii, hi, hz0, hz1, hz2⟩ := info_parts infoROpen
       have HOA : Hid (∀ o, (z3.alloc o).ownsRow w19.heap.size 119 3 (.slice A m c) os.length (os.flatMap opV)) := fun o => hoy.alloc o
       have HAL : Hid (∀ o, Below z3.heap.size z3 (z3.alloc o)) := fun o => (Below.refl _ _).alloc (Nat.le_refl _) _
       have HTB := Lib.hid HX3.out
       have HKY := Lib.hid hky
       have HSZ2 : Hid (w19.heap.size ≤ z3.heap.size) := Nat.le_trans hwb hsz
       have hin3 : ∀ o ∈ os ++ [((a1, a2, mm), Value.slice A9 mm.length c9)], Els z3 o.2 4 (o.1.2.2.map mvV) ∧ (o.1.2.2 ≠ [] → ∀ b, o.2.ownBlock = some b → w19.heap.size ≤ b ∧ b < z3.heap.size ∧ (Value.slice A m c).ownBlock ≠ some b) := by
        intro o ho
        rcases List.mem_append.1 ho with ho | ho
        ·obtain ⟨k1, k2⟩ := HIN.out o ho
         refine ⟨k1.at fun hne b hb hlt => hsame b hlt (by have := (k2 (fun e => hne (by rw [e]; rfl)) b hb).1; have := HQ3.out; omega), fun hne b hb => ?_⟩
         obtain ⟨x1, x2, x3⟩ := k2 hne b hb
         exact ⟨x1, Nat.lt_of_lt_of_le x2 hsz, x3⟩
        ·obtain rfl : o = ((a1, a2, mm), Value.slice A9 mm.length c9) := by simpa using ho
         refine ⟨HEE.out, fun hne b hb => ?_⟩
         have hne2 : (mm.map mvV) ≠ [] := fun e => hne (List.map_eq_nil_iff.1 e)
         have hbl := HEE.out.blk hne2 hb
         have hge := HBO.out b hb
         exact ⟨by omega, hbl, fun e => by have := (HO.out.lt b e).2; omega⟩
       have HI3 := Lib.hid hin3
       clear hin3
       clear hoy hky hsame hsz hwb HPQ
       refine rdG (rs := [9]) (by kernel_rfl) (by simp) ?_
       refine cG1 rfl fun K hK => ?_
       go_simp
       have nb := heap_alloc_new z3 (.cells #[.int .i64 a1, .slice A9 mm.length c9, .int .i64 a2] 119)
       refine hK.out _ _ (fun _ _ => (HX3.out.on (HAL.out _)).cell 15) ?_
       clear hK K
       try simp only[Act.put,zq]
       have HF1 : Hid (zopF st = ((a1, a2, mm), u3)) := by
        show zopF st = _
        rw [HU3.out, HV3.out, HV2.out, HU2.out, HV1.out, HU1.out]
        rfl
       refine rdG (rs := [10]) (by kernel_rfl) (by simp) ?_
       refine cG1 rfl fun K hK => ?_
       refine step_append_lies _ rfl (.tmp 116) (.tmp 124) 42 rfl w19.heap.size 119 ii (.agg #[.int .i64 0, .slice none 0 0, .int .i64 0]) 3 40 Tryz.underlying42 hi hz0 hz1 hz2 rfl (by decide) (.slice A m c) os.length (os.flatMap opV) rfl (HOA.out _) ⟨_, 0, none⟩ 1 1 [.int .i64 a1, .slice A9 mm.length c9, .int .i64 a2] rfl rfl (World.news_of_block nb) (fun u hu => by simp at hu; rcases hu with rfl | rfl | rfl | rfl <;> rfl) (by omega) (by unfold maxLen; omega) (by omega) (by simp; exact Nat.le_succ_of_le HSZ2.out) _ rfl ?_
       intro g5 c5 z4 ho5 hg5 hv5 hl5
       have hB := (HTB.out.on (HAL.out _)).grow hg5 (fun k hk => Nat.lt_of_lt_of_le HQ3.out (HO.out.lt k hk).1)
       have cc := hB.cell 15
       have ff := hB.froz 15
       replace cc : z4.cell? ⟨w13.heap.size, 15, none⟩ = some (.slice A m c) := cc
       have hP := hB.put (cs' := entC E (.slice A1 m1 d1) (.slice A2 m2 d2) (.slice A3 (zmv s10).1.length d3) (.slice A4 n4 d4) (.slice A5 n5 d5) (.slice (some ⟨g5, 0, none⟩) (os.length + 1) c5)) 15 (.slice (some ⟨g5, 0, none⟩) (os.length + 1) c5) rfl
       have hr : TzLo W w13 w19 p (fun v => entC E (.slice A1 m1 d1) (.slice A2 m2 d2) (.slice A3 (zmv s10).1.length d3) (.slice A4 n4 d4) (.slice A5 n5 d5) v) (zlst zopF T5.2) (.int .i64 n) (z4.setCell ⟨w13.heap.size, 15, none⟩ (.slice (some ⟨g5, 0, none⟩) (os.length + 1) c5)) := by
        have e1 := HT1.out
        have e2 := HT2.out
        rw [HZ.out, HF1.out] at e1 e2
        have hs0 : w19.heap.size ≤ z4.heap.size := Nat.le_trans HSZ2.out (Nat.le_trans (HAL.out _).size hg5.size)
        have hk : Kpt (w13.heap.size + 1) w19 (z4.setCell ⟨w13.heap.size, 15, none⟩ (.slice (some ⟨g5, 0, none⟩) (os.length + 1) c5)) := by
         refine ⟨by simpa using hs0, fun b h1 h2 => ?_⟩
         have hy : b < z3.heap.size := Nat.lt_of_lt_of_le h2 HSZ2.out
         exact (setCell_far _ _ _ _ (by omega)).trans ((hg5.block b (Nat.lt_of_lt_of_le hy (HAL.out _).size) (fun e => by have := (HO.out.lt b e.symm).1; omega)).trans (((HAL.out _).block b hy).trans (HKY.out.block b h1 h2)))
        refine ⟨n, os ++ [((a1, a2, mm), Value.slice A9 mm.length c9)], _, _, _, _, v3, by omega, rfl, by rw [List.length_append]; simp; omega, ?_, ?_, e2, ?_, hP, hk⟩
        ·rw [List.flatMap_append, List.length_append]
         exact own_at ho5 fun b hb => setCell_far _ _ _ _ (by have := (ho5.lt b hb).1; have := HQ3.out; omega)
        ·rw [List.map_append, List.append_assoc]
         exact e1
        ·intro o ho
         obtain ⟨k1, k2⟩ := HI3.out o ho
         have hs : ∀ b, w19.heap.size ≤ b → b < z3.heap.size → (Value.slice A m c).ownBlock ≠ some b → (z4.setCell ⟨w13.heap.size, 15, none⟩ (.slice (some ⟨g5, 0, none⟩) (os.length + 1) c5)).heap[b]? = z3.heap[b]? := fun b h0 h1 h2 => (setCell_far _ _ _ _ (by have := HQ3.out; omega)).trans ((hg5.block b (Nat.lt_of_lt_of_le h1 (HAL.out _).size) (fun e => h2 e.symm)).trans ((HAL.out _).block b h1))
         refine ⟨k1.at fun hne b hb hlt => hs b (k2 (fun e => hne (by rw [e]; rfl)) b hb).1 hlt (k2 (fun e => hne (by rw [e]; rfl)) b hb).2.2, fun hne b hb => ?_⟩
         obtain ⟨x1, x2, x3⟩ := k2 hne b hb
         refine ⟨x1, ?_, fun e => ?_⟩
         ·have := Nat.lt_of_lt_of_le x2 (Nat.le_trans (HAL.out _).size hg5.size)
          simpa using this
         ·have e2 : g5 = b := by simpa [Value.ownBlock] using e
          rcases hv5 with h | h
          ·exact x3 (by rw [h, e2])
          ·have h5 : z3.heap.size ≤ g5 := by rw [h]; simp
           omega
       have HR := Lib.hid hr
       clear ho5 hg5 hv5 hl5 hB hP hr
       clear nb
       refine hK.out _ _ (fun _ _ => cc) ?_
       clear hK K
       try simp only[Act.put,zq]
       refine tG0 (i := 11) (v := ?_) rfl ?_ ?_
       rotate_left;(focus intro W _;go_simp;try with_reducible rfl);rotate_left;try simp only[Act.put,zq]
       refine rdG (rs := [12]) (by kernel_rfl) (by simp) ?_
       refine cG1 rfl fun K hK => ?_
       go_simp
       refine hK.out _ _ (fun h => by cases h) ?_
       clear hK K
       try simp only[Act.put,zq]
       refine wpAnyG_done (by kernel_rfl) ?_ _
       go_wp2
       go_roundw
       all_goals first
        | exact HR.out
        | (simp [RowKit.intOf]; omega)
        | (simp [RowKit.intOf])
   case rest =>
    obtain ⟨A6, d6, v61, hb6, hl6, hk6⟩ := hcut
    obtain ⟨T6, hT6⟩ : ∃ T, T = zlst zopF T5.2 := ⟨_, rfl⟩
    rw [← hT6] at hb6 hl6
    obtain ⟨n6, hn6⟩ : ∃ n, n = T6.1.length := ⟨_, rfl⟩
    rw [← hn6] at hb6 hl6
    have hA6 : zE (l, false) = (E, T6.2) ∧ E.old = zcL s8 ∧ E.new = zcL s9 ∧ E.moves = (zmv s10).1 ∧ E.lives = T4.1 ∧ E.dirty = T5.1 ∧ E.opens = T6.1 := by
     have e4 := HT4.out
     have e5 := HT5.out
     rw [HT0E.out] at e4
     rw [e4] at e5
     rw [e5] at hT6
     rw [HE0.out, hT6, e5, e4]
     refine ⟨?_, rfl, rfl, rfl, rfl, rfl, rfl⟩
     rw [HS11.out, HS10.out, HS9.out, HS8.out, HS7.out, HS6.out, HS5.out, HS4.out, HS3.out, HS2.out, HS1.out, HS0.out]
     rfl
    obtain ⟨hzE, f1, f2, f3, f4, f5, f6⟩ := hA6
    have hle : w.heap.size + 1 ≤ p := by have h1 := HP.out; have h2 := HSZ.out; omega
    have hEF : EntF wc (w.heap.size + 1) (.slice A1 m1 d1) (.slice A2 m2 d2) (.slice A3 (zmv s10).1.length d3) (.slice A4 n4 d4) (.slice A5 n5 d5) (.slice A6 n6 d6) E := by
     refine ⟨?_, ?_, ?_, ?_, ?_, ?_⟩
     ·rw [f1]
      obtain ⟨g1, g2⟩ := K1.out.at hb6.kp
      exact ⟨g1, fun b hb => by have := g2 b hb; omega⟩
     ·rw [f2]
      obtain ⟨g1, g2⟩ := K2.out.at hb6.kp
      exact ⟨g1, fun b hb => by have := g2 b hb; omega⟩
     ·rw [f3]
      obtain ⟨g1, g2⟩ := K3.out.at hb6.kp
      exact ⟨g1, fun b hb => by have := g2 b hb; omega⟩
     ·rw [f4]
      obtain ⟨g1, g2⟩ := HL4.out.at hk6
      exact ⟨g1, fun b hb => by have := g2 b hb; have := hb6.lt; omega⟩
     ·rw [f5]
      obtain ⟨g1, g2⟩ := HL5.out.at hk6
      exact ⟨g1, fun b hb => by have := g2 b hb; have := hb6.lt; omega⟩
     ·rw [f6]
      exact hl6.low (by have := hb6.lt; omega)
    have hbw : Below w.heap.size w wc := HB0.out.trans (hb6.rz.bel.mono (by omega))
    have hxw : wc.heap[w.heap.size]? = some (.cells ent0 44 (0, 0)) := (hb6.rz.bel.block w.heap.size (by omega)).trans HBX.out
    have hqw : w.heap.size < wc.heap.size := (Array.getElem?_eq_some_iff.1 hxw).1
    have hi : T6.2.2 = false → EntI E := fun h => by
     have := (eats_E.eat (l, false) HL.out (by rw [hzE]; exact h)).2.2
     rw [hzE] at this
     exact entB0_I _ this
    have hno : T6.2.2 = true ∨ T6.2.1 ≠ [] ∨ entB E = false → tkB l = false := fun h => by
     cases ht : tkB l with
     | false => rfl
     | true =>
      obtain ⟨a1, a2, a3⟩ := (zE_tk HL.out).2 ht
      rw [hzE] at a1 a2 a3
      rcases h with h | h | h
      ·rw [h] at a1; cases a1
      ·exact absurd a2 h
      ·rw [h] at a3; cases a3
    have hyes : T6.2.2 = false → T6.2.1 = [] → entB E = true → tkB l = true ∧ tkE l = E := fun h1 h2 h3 => by
     have ht := (zE_tk HL.out).1 (by rw [hzE]; exact ⟨h1, h2, h3⟩)
     exact ⟨ht, by rw [← zE_is ht, hzE]⟩
    have HNO := Lib.hid hno
    have HYES := Lib.hid hyes
    have HI := Lib.hid hi
    have HEF := Lib.hid hEF
    have HBW := Lib.hid hbw
    have HXW := Lib.hid hxw
    have HQW := Lib.hid hqw
    have HEB := Lib.hid hb6.bx
    obtain ⟨A7, c7, hv7, _⟩ := hb6.rz.sl.form
    have c1 := hb6.bad
    have c0 := hb6.len
    rw [hv7] at c0
    obtain ⟨k7, hk7⟩ : ∃ k, k = T6.2.1.length := ⟨_, rfl⟩
    rw [← hk7] at c0
    have HK7 := Lib.hid hk7
    have HR7 : Hid (p < wc.heap.size) := hb6.rz.lt
    clear hno hyes hi hEF hbw hxw hqw hb6 hl6 hk6 hT6 hn6 hzE f1 f2 f3 f4 f5 f6 hle hv7 hk7 HQ3 H3 HNN3 K1 K2 K3 HL4 HL5 HT4 HT5 HN4 HN5 HE0 HS0 HS1 HS2 HS3 HS4 HS5 HS6 HS7 HS8 HS9 HS10 HS11
    have HN0 := Lib.hid (show ent0.size = (#[.int .i64 0, .int .i64 0, .int .i64 0, .int .i64 0, .int .i64 0, .int .i64 0, .int .i64 0, .int .i64 0, .int .i64 0, .int .i64 0, .slice none 0 0, .slice none 0 0, .slice none 0 0, .slice none 0 0, .slice none 0 0, .slice none 0 0] : Array Value).size from rfl)
    have HI0 := Lib.hid (show (Tryz.prog.info? 44).map (·.size) = some (#[.int .i64 0, .int .i64 0, .int .i64 0, .int .i64 0, .int .i64 0, .int .i64 0, .int .i64 0, .int .i64 0, .int .i64 0, .int .i64 0, .slice none 0 0, .slice none 0 0, .slice none 0 0, .slice none 0 0, .slice none 0 0, .slice none 0 0] : Array Value).size from infoEnt)
    have HA0 := Lib.hid (show (#[.int .i64 0, .int .i64 0, .int .i64 0, .int .i64 0, .int .i64 0, .int .i64 0, .int .i64 0, .int .i64 0, .int .i64 0, .int .i64 0, .slice none 0 0, .slice none 0 0, .slice none 0 0, .slice none 0 0, .slice none 0 0, .slice none 0 0] : Array Value).all (·.oneCell') = true from by simp [Value.oneCell'])
    have fin_no : ∀ V : World, Below wc.heap.size wc V → tkB l = false → TkPost w l (.returned (.tuple #[.agg ent0, .int .i64 4])) (V.setRow w.heap.size #[.int .i64 0, .int .i64 0, .int .i64 0, .int .i64 0, .int .i64 0, .int .i64 0, .int .i64 0, .int .i64 0, .int .i64 0, .int .i64 0, .slice none 0 0, .slice none 0 0, .slice none 0 0, .slice none 0 0, .slice none 0 0, .slice none 0 0]) := fun V hV ht => by
     obtain ⟨t1, t2⟩ := tk_no ht
     exact ⟨none, 0, 0, none, 0, 0, none, 0, 0, none, 0, 0, none, 0, 0, none, 0, 0, by rw [t1, t2]; rfl, by rw [t1]; exact ent0_F _ _, (HBW.out.trans (hV.mono (Nat.le_of_lt HQW.out))).trans (setRow_below _ _ _ (Nat.le_refl _))⟩
    have HFN := Lib.hid fin_no
    have HR0 : Hid (∀ V : World, Below wc.heap.size wc V → (V.setRow w.heap.size #[.int .i64 0, .int .i64 0, .int .i64 0, .int .i64 0, .int .i64 0, .int .i64 0, .int .i64 0, .int .i64 0, .int .i64 0, .int .i64 0, .slice none 0 0, .slice none 0 0, .slice none 0 0, .slice none 0 0, .slice none 0 0, .slice none 0 0]).heap[w.heap.size]? = some (.cells #[.int .i64 0, .int .i64 0, .int .i64 0, .int .i64 0, .int .i64 0, .int .i64 0, .int .i64 0, .int .i64 0, .int .i64 0, .int .i64 0, .slice none 0 0, .slice none 0 0, .slice none 0 0, .slice none 0 0, .slice none 0 0, .slice none 0 0] 44 (0, 0))) := Lib.hid fun V hV => setRow_heap V w.heap.size ent0 #[.int .i64 0, .int .i64 0, .int .i64 0, .int .i64 0, .int .i64 0, .int .i64 0, .int .i64 0, .int .i64 0, .int .i64 0, .int .i64 0, .slice none 0 0, .slice none 0 0, .slice none 0 0, .slice none 0 0, .slice none 0 0, .slice none 0 0] _ _ ((hV.block _ HQW.out).trans HXW.out)
    clear fin_no
    cases hb : T6.2.2 with
    | true =>
     have HF := Lib.hid (HFN.out wc (Below.refl _ _) (HNO.out (.inl hb)))
     have HR := Lib.hid (HR0.out wc (Below.refl _ _))
     rw [hb] at c1
     clear hb
     go_wp2_with (with_reducible refine wpList_store_row rfl 44 (.tmp 2) (.tmp 144) rfl w.heap.size _ rfl rfl 44 _ HXW.out HI0.out HN0.out HA0.out ?_)
     refine bodyPost_ret (v := .tuple #[.agg ent0, .int .i64 4]) ?_ rfl HF.out
     exact rtake_end rfl rfl HR.out rfl
    | false =>
     rw [hb] at c1
     by_cases hk : 0 < k7
     ·have HF := Lib.hid (HFN.out wc (Below.refl _ _) (HNO.out (.inr (.inl (fun h => by have := HK7.out; rw [h] at this; simp at this; omega)))))
      have HR := Lib.hid (HR0.out wc (Below.refl _ _))
      have hk2 : (0 : Int) < (k7 : Int) := by omega
      clear hb
      go_wp2_with (with_reducible refine wpList_store_row rfl 44 (.tmp 2) (.tmp 144) rfl w.heap.size _ rfl rfl 44 _ HXW.out HI0.out HN0.out HA0.out ?_)
      refine bodyPost_ret (v := .tuple #[.agg ent0, .int .i64 4]) ?_ rfl HF.out
      exact rtake_end rfl rfl HR.out rfl
     ·obtain rfl : k7 = 0 := by omega
      have hnil : T6.2.1 = [] := List.length_eq_zero_iff.1 HK7.out.symm
      have HZI := Lib.hid (infoEntC E (.slice A1 m1 d1) (.slice A2 m2 d2) (.slice A3 (zmv s10).1.length d3) (.slice A4 n4 d4) (.slice A5 n5 d5) (.slice A6 n6 d6))
      have HZA := Lib.hid (entC_all E A1 A2 A3 A4 A5 A6 m1 d1 m2 d2 (zmv s10).1.length d3 n4 d4 n5 d5 n6 d6)
      have HZN2 := Lib.hid (show ent0.size = (entC E (.slice A1 m1 d1) (.slice A2 m2 d2) (.slice A3 (zmv s10).1.length d3) (.slice A4 n4 d4) (.slice A5 n5 d5) (.slice A6 n6 d6)).size from rfl)
      have HM := Lib.hid (rmay_any wc E HEF.out.entS (HI.out hb))
      cases hB : entB E with
      | false =>
       have HT := Lib.hid (HNO.out (.inr (.inr hB)))
       rw [hB] at HM
       clear hb hB hk hnil
       go_wp2_with (first
        | ((with_reducible refine wpList_load_rowG ?_ 44 (.tmp 5) rfl w13.heap.size rfl 44 _ (0, 0) _ HEB.out Tryz.underlying44 rfl HZI.out ?_); · rfl)
        | (go_at_call 63; refine HM.out.mono ?_; rintro e w20 ⟨rfl, hb20⟩; have HX20 := Lib.hid ((hb20.block _ HQW.out).trans HXW.out); have HB20 := Lib.hid hb20; clear hb20)
        | (with_reducible refine wpList_store_row rfl 44 (.tmp 2) (.tmp 144) rfl w.heap.size _ rfl rfl 44 _ HX20.out HI0.out HN0.out HA0.out ?_))
       refine bodyPost_ret (v := .tuple #[.agg ent0, .int .i64 4]) ?_ rfl (HFN.out w20 HB20.out HT.out)
       exact rtake_end rfl rfl (HR0.out w20 HB20.out) rfl
      | true =>
       have HT := Lib.hid (HYES.out hb hnil hB)
       rw [hB] at HM
       clear hb hB hk hnil
       go_wp2_with (first
        | ((with_reducible refine wpList_load_rowG ?_ 44 (.tmp 5) rfl w13.heap.size rfl 44 _ (0, 0) _ HEB.out Tryz.underlying44 rfl HZI.out ?_); · rfl)
        | (go_at_call 63; refine HM.out.mono ?_; rintro e w20 ⟨rfl, hb20⟩; have HX20 := Lib.hid ((hb20.block _ HQW.out).trans HXW.out); have HB20 := Lib.hid hb20; have HEB2 := Lib.hid ((hb20.block _ (Array.getElem?_eq_some_iff.1 HEB.out).1).trans HEB.out); clear hb20)
        | (with_reducible refine wpList_load_row rfl 44 (.tmp 5) rfl w13.heap.size rfl 44 _ (0, 0) _ HEB2.out Tryz.underlying44 rfl HZI.out ?_)
        | (with_reducible refine wpList_store_row rfl 44 (.tmp 2) (.tmp 145) rfl w.heap.size _ rfl rfl 44 _ HX20.out HZI.out HZN2.out HZA.out ?_))
       have HR1 := Lib.hid (setRow_heap w20 w.heap.size ent0 (entC E (.slice A1 m1 d1) (.slice A2 m2 d2) (.slice A3 (zmv s10).1.length d3) (.slice A4 n4 d4) (.slice A5 n5 d5) (.slice A6 n6 d6)) _ _ HX20.out)
       refine bodyPost_ret (v := .tuple #[.agg (entC E (.slice A1 m1 d1) (.slice A2 m2 d2) (.slice A3 (zmv s10).1.length d3) (.slice A4 n4 d4) (.slice A5 n5 d5) (.slice A6 n6 d6)), .int .i64 0]) ?_ rfl ?_
       ·exact rtake_end rfl rfl HR1.out rfl
       ·obtain ⟨ht, hE⟩ := HT.out
        obtain ⟨_, t2⟩ := tk_yes ht
        exact ⟨A1, m1, d1, A2, m2, d2, A3, (zmv s10).1.length, d3, A4, n4, d4, A5, n5, d5, A6, n6, d6, by rw [hE, t2], by rw [hE]; exact (HEF.out.at ⟨HB20.out.size, fun b _ hb => HB20.out.block b hb⟩).at (Kpt.row _ _ (by omega)), (HBW.out.trans (HB20.out.mono (Nat.le_of_lt HQW.out))).trans (setRow_below _ _ _ (Nat.le_refl _))⟩
end Go.Proofs.YthmgafcnoedmjaaGreat
