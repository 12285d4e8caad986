/- SheetAll: for every number and all three slices of bytes the law answers true; no condition. -/
import Derived.Test.YtmaamneebdejhaaSame
import Derived.Test.YtmaamneebdejhaaRow
namespace Go.Proofs.Ytmaamneebdejhaa.sheetAll
open Go.ChangeShapes Go.WideShapes Go.ChangeAt Go.RowKit

set_option maxRecDepth 100000 in
set_option maxHeartbeats 2000000 in
theorem walk (w : World) (n : Int) (vl va vb : Value) (l la lb : List Int) (hl : SlK .u8 w vl l) (ha : SlK .u8 w va la) (hb : SlK .u8 w vb lb) : Calls Try.prog 3 #[.int .i64 n, vl, va, vb] w fun e w' => e = .returned (.bool true) ∧ Below w.heap.size w w' := by
  have HL := Lib.hid hl
  have HA := Lib.hid ha
  have HB := Lib.hid hb
  obtain ⟨pl, cl, rfl, _, _, _, _⟩ := hl
  obtain ⟨pa, ca, rfl, _, _, _, _⟩ := ha
  obtain ⟨pb, cb, rfl, _, _, _, _⟩ := hb
  go_enter Try.func3, Try.ntmps3
  go_wp2_with fail
  refine (begun_true w).mono ?_
  rintro e w1 ⟨rfl, hB1⟩
  by_cases x1 : 130 < l.length
  · go_wp2
    go_ret
    exact ⟨rfl, hB1⟩
  have d1 : decide (130 < (l.length : Int)) = false := by simp; omega
  by_cases x2 : 70 < la.length
  · go_wp2
    go_ret
    exact ⟨rfl, hB1⟩
  have d2 : decide (70 < (la.length : Int)) = false := by simp; omega
  by_cases x3 : 70 < lb.length
  · go_wp2
    go_ret
    exact ⟨rfl, hB1⟩
  go_wp2_with fail
  refine (lent_any w1 _ l (HL.out.below hB1 (Nat.le_refl _)) (by omega)).mono ?_
  rintro e w2 ⟨g, rfl, _, kg, hb2⟩
  have hB2 := hB1.trans (hb2.mono hB1.size)
  have okl := HL.out.ok
  clear hb2 hB1
  have sg : SlK .u8 w2 (.slice (some ⟨g, 0, none⟩) l.length (l.length + 4)) l := by
    refine Pt.slK ⟨g, 0, _, rfl, by omega, kg.lt, fun j hj => ?_⟩ okl
    rw [Nat.zero_add, kg.cell (j := j) (by simp; omega), List.getElem_append_left hj]
  go_wp2_with fail
  refine (put_P w2 n _ l sg).mono ?_
  rintro e w3 ⟨x, y, rfl, kx, ky, hb3⟩
  have hB3 := hB2.trans (hb3.mono hB2.size)
  have kg3 := kg.old hb3 kg.lt
  clear hb3 hB2 sg kg
  go_wp2_with fail
  refine (ref_P w3 n _ l (HL.out.below hB3 (Nat.le_refl _))).mono ?_
  rintro e w4 ⟨p, q, rfl, kp, kq, hb4⟩
  have hB4 := hB3.trans (hb4.mono hB3.size)
  have kg4 := kg3.old hb4 kg3.lt
  have kx4 := kx.below hb4 (Nat.le_refl _)
  have ky4 := ky.below hb4 (Nat.le_refl _)
  clear hb4 hB3 kg3 kx ky
  go_wp2_with fail
  refine (take_T w4 _ _ la lb (HA.out.below hB4 (Nat.le_refl _)) (HB.out.below hB4 (Nat.le_refl _))).mono ?_
  rintro e w5 ⟨s, rfl, ks, hb5⟩
  have hB5 := hB4.trans (hb5.mono hB4.size)
  have kg5 := kg4.old hb5 kg4.lt
  have kx5 := kx4.below hb5 (Nat.le_refl _)
  have ky5 := ky4.below hb5 (Nat.le_refl _)
  have kp5 := kp.below hb5 (Nat.le_refl _)
  have kq5 := kq.below hb5 (Nat.le_refl _)
  clear hb5 hB4 kg4 kx4 ky4 kp kq
  go_wp2_with fail
  refine (rtake_T w5 _ _ la lb (HA.out.below hB5 (Nat.le_refl _)) (HB.out.below hB5 (Nat.le_refl _))).mono ?_
  rintro e w6 ⟨t, rfl, kt, hb6⟩
  have hB6 := hB5.trans (hb6.mono hB5.size)
  have kg6 := kg5.old hb6 kg5.lt
  have v1 := conv_slK (kx5.below hb6 (Nat.le_refl _))
  have v2 := conv_slK (ky5.below hb6 (Nat.le_refl _))
  have v3 := conv_slK (kp5.below hb6 (Nat.le_refl _))
  have v4 := conv_slK (kq5.below hb6 (Nat.le_refl _))
  have v5 := conv_slK (ks.below hb6 (Nat.le_refl _))
  have v6 := conv_slK kt
  have kl6 := HL.out.below hB6 (Nat.le_refl _)
  clear hb6 hB5 kg5 kx5 ky5 kp5 kq5 ks kt
  generalize bstr (pA n l) = t1 at *
  generalize bstr (pB n l) = t2 at *
  generalize bstr (tL la lb) = t3 at *
  generalize pE n l = e1 at *
  generalize tK la lb = e2 at *
  generalize tE la lb = e3 at *
  have KG := Lib.hid kg6
  have KL := Lib.hid kl6
  clear kg6 kl6
  go_wp2_with fail
  refine (back_true w6 g _ l KG.out KL.out (by omega)).mono ?_
  rintro e w7 ⟨rfl, rfl⟩
  go_wp2
  go_ret
  exact ⟨rfl, hB6⟩

theorem own : ownKnob Try.prog.godebug = none := by kernel_rfl
theorem laidOut : laidOutB Try.prog = true := by kernel_rfl

set_option maxRecDepth 100000 in
theorem lifted (os : Os) (started : os.Started) (H : Type) (enc : TypeId × Value → H) :
    ReturnsInHanded {} Try.checked os 3 .any (Rows.sheetAllSpec.pre6 enc Try.prog Try.f3 Rows.sheetAllRow.domain false) (Rows.sheetAllSpec.post enc Try.prog Try.f3 false true false false) := by
  refine returnsInHanded_of_change (C := Try.checked) own started (by kernel_rfl) Try.func3
    (ChangeSpec.witness6 (enc := enc) (C := Try.checked) false ⟨#[], #[.int .i64 0, .slice none 0 0, .slice none 0 0, .slice none 0 0], []⟩ 8 (by kernel_rfl) (by kernel_rfl) (by kernel_rfl) (by kernel_rfl)) ?_
  intro W base args ds gs before hval0 hW hcnd _
  have hval : ∀ (j : Nat) t v, Try.f3.params[j]? = some t → args[j]? = some v → Value.okWide Try.prog W .any base t v := hval0
  have hW' := hW
  obtain ⟨p, q, hA0, hV, rfl, hfz, hnd⟩ := hW
  obtain ⟨rfl, rfl⟩ := trodVars_none hV
  have hA : DataW.TrodAll enc Try.prog W 0 (fun _ => true) true Try.f3.params.toList args.toList ds p := hA0
  rw [Try.params3] at hA hval
  obtain ⟨v0, vs0, d0, ds0, p0, q0, hargs, rfl, rfl, h0, r0⟩ := trodAll_cons hA
  obtain ⟨v1, vs1, d1, ds1, p1, q1, rfl, rfl, rfl, h1, r1⟩ := trodAll_cons r0
  obtain ⟨v2, vs2, d2, ds2, p2, q2, rfl, rfl, rfl, h2, r2⟩ := trodAll_cons r1
  obtain ⟨v3, vs3, d3, ds3, p3, q3, rfl, rfl, rfl, h3, r3⟩ := trodAll_cons r2
  obtain ⟨rfl, rfl, rfl⟩ := trodAll_nil r3
  obtain rfl : args = #[v0, v1, v2, v3] := by cases args; simp_all
  obtain ⟨a0, rfl, rfl, rfl, w0⟩ := open_int Try.underlying3 (hval 0 3 v0 rfl rfl) h0
  have ok1 := hval 1 22 v1 rfl rfl
  have ok2 := hval 2 22 v2 rfl rfl
  have ok3 := hval 3 22 v3 rfl rfl
  obtain ⟨l1, hl1⟩ := open_sl Try.underlying22 Try.underlying5 (by kernel_rfl) ok1 h1
  obtain ⟨l2, hl2⟩ := open_sl Try.underlying22 Try.underlying5 (by kernel_rfl) ok2 h2
  obtain ⟨l3, hl3⟩ := open_sl Try.underlying22 Try.underlying5 (by kernel_rfl) ok3 h3
  refine (walk W a0 v1 v2 v3 l1 l2 l3 hl1 hl2 hl3).mono fun e W' ⟨he, hg⟩ => ?_
  subst he
  exact ⟨_, rfl, law_post laidOut Try.underlying4 rfl (by rw [Try.params3]; intro t ht; simp at ht; rcases ht with rfl | rfl <;> exact ⟨by kernel_rfl, of_decide_eq_true (by kernel_rfl)⟩) rfl hW' rfl hg⟩

theorem proved : Rows.SheetAllSaid :=
  OpenClaim.holds_of_wide 3 Try.f3 rfl rfl rfl rfl rfl rfl rfl ⟨rfl, rfl, rfl, rfl, rfl⟩ rfl rfl rfl rfl rfl (by kernel_rfl) Try.func3 (by kernel_rfl)
    (of_decide_eq_true (by kernel_rfl)) (by unfold Func.isWrapper; first | (rw [if_pos (by decide +kernel)]; kernel_rfl) | (rw [if_neg (by decide +kernel)]; exact ⟨rfl, rfl⟩))
    (fun os started H enc _ => lifted os started H enc)
#print axioms proved

end Go.Proofs.Ytmaamneebdejhaa.sheetAll
