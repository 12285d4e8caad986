/- CellApart: for all two rows and all two bytes the law answers true; no condition. -/
import Derived.Test.YtpgpcihcmjibmaaLaw3
namespace Go.Proofs.Ytpgpcihcmjibmaa.cellApart
open Go.ChangeShapes Go.WideShapes Go.ChangeAt Go.RowKit

theorem row_eq_iff {k s v k' s' v' : ByteArray} (h : mayB k s v = true) (h' : mayB k' s' v' = true) : decide (rowL k s v = rowL k' s' v') = decide (k = k' ∧ s = s' ∧ v = v') := by
  rw [decide_eq_decide]
  exact ⟨fun e => rowL_inj h h' e, fun ⟨a, b, c⟩ => by rw [a, b, c]⟩

/-- What the two first calls leave. -/
def Two2 (w W : World) (k s v k' s' v' : ByteArray) : Prop := Bx w W (rowO k s v) (rowO k' s' v')

set_option maxRecDepth 100000 in
set_option maxHeartbeats 2000000 in
theorem walk (w : World) (k s v k' s' v' : ByteArray) (pg at' : Int) (p0 : 0 ≤ pg) (p1 : pg < 256) (a0 : 0 ≤ at') (a1 : at' < 256) (q q' : Bool) (hq : mayB k s v = q) (hq' : mayB k' s' v' = q') : Calls Try.prog 6 #[.agg #[.string k, .string s, .string v], .agg #[.string k', .string s', .string v'], .int .u8 pg, .int .u8 at'] w fun e w' => e = .returned (.bool true) ∧ Below w.heap.size w w' := by
  have HQ := Lib.hid hq
  have HQ' := Lib.hid hq'
  have hr := fun W => row_T W k s v
  have hr' := fun W => row_T W k' s' v'
  have hE : rowE k s v = if q = true then 0 else 1 := by rw [rowE, hq]
  have hE' : rowE k' s' v' = if q' = true then 0 else 1 := by rw [rowE, hq']
  obtain ⟨e1, he1⟩ : ∃ e, rowE k s v = e := ⟨_, rfl⟩
  obtain ⟨e2, he2⟩ : ∃ e, rowE k' s' v' = e := ⟨_, rfl⟩
  rw [he1] at hr hE
  rw [he2] at hr' hE'
  have HE := Lib.hid hE
  have HE' := Lib.hid hE'
  have hpl : placeB (pg % 32) (at' % 4) = true := by unfold placeB; rw [decide_eq_true_eq]; omega
  have HR := Lib.hid hr
  have HR' := Lib.hid hr'
  have HPl := Lib.hid hpl
  have HBx := Lib.hid (bx_new w (rowO k s v) (rowO k' s' v'))
  have hM : ∀ W, Calls Try.prog 16 #[.agg #[.string k, .string s, .string v]] W fun e w' => e = .returned (.bool q) ∧ w' = W.alloc (rowO k s v) := fun W => by
    have := may_any W k s v
    rw [hq] at this; exact this
  have hM' : ∀ W, Calls Try.prog 16 #[.agg #[.string k', .string s', .string v']] W fun e w' => e = .returned (.bool q') ∧ w' = W.alloc (rowO k' s' v') := fun W => by
    have := may_any W k' s' v'
    rw [hq'] at this; exact this
  have HM := Lib.hid hM
  have HM' := Lib.hid hM'
  have hpm : 0 ≤ pg % 32 ∧ pg % 32 < 32 := by omega
  have ham : 0 ≤ at' % 4 ∧ at' % 4 < 4 := by omega
  obtain ⟨hpm0, hpm1⟩ := hpm
  obtain ⟨ham0, ham1⟩ := ham
  clear hr hr' hE hE' he1 he2 hpl hM hM' hq hq'
  go_enter Try.func6, Try.ntmps6
  go_upto_region 1 with (fail)
  show Code.wp _ _ _ _ ((w.alloc (rowO k s v)).alloc (rowO k' s' v'))
  generalize (w.alloc (rowO k s v)).alloc (rowO k' s' v') = w1 at *
  go_wp2_with fail
  refine (begun_true w1).mono ?_
  rintro e w2 ⟨rfl, hb⟩
  have HB2 := Lib.hid (HBx.out.on hb)
  clear HBx hb
  have x0 := (cell_of (cs := #[.string k, .string s, .string v]) HB2.out.2.1 0).1
  have x1 := (cell_of (cs := #[.string k, .string s, .string v]) HB2.out.2.1 1).1
  have x2 := (cell_of (cs := #[.string k, .string s, .string v]) HB2.out.2.1 2).1
  go_wp2_with fail
  refine (HR.out w2).mono ?_
  rintro e w3 ⟨y1, rfl, s1, hb⟩
  have HB3 := Lib.hid (HB2.out.on hb)
  have S1 := Lib.hid s1
  clear HB2 hb s1 x0 x1 x2 HR
  have x0 := (cell_of (cs := #[.string k', .string s', .string v']) HB3.out.2.2 0).1
  have x1 := (cell_of (cs := #[.string k', .string s', .string v']) HB3.out.2.2 1).1
  have x2 := (cell_of (cs := #[.string k', .string s', .string v']) HB3.out.2.2 2).1
  go_wp2_with fail
  refine (HR'.out w3).mono ?_
  rintro e w4 ⟨y2, rfl, s2, hb⟩
  have HB4 := Lib.hid (HB3.out.on hb)
  have S1 := Lib.hid (S1.out.below hb (Nat.le_refl _))
  have S2 := Lib.hid s2
  clear HB3 hb s2 x0 x1 x2 HR'
  go_wp2_with fail
  refine (stub_ok w4 _ _ HPl.out).mono ?_
  rintro e w5 ⟨g, rfl, hg, kg, hb⟩
  have HB5 := Lib.hid (HB4.out.on hb)
  have S1 := Lib.hid (S1.out.below hb (Nat.le_refl _))
  have S2 := Lib.hid (S2.out.below hb (Nat.le_refl _))
  have KG := Lib.hid kg
  clear HB4 hb hg kg
  have c0 : w5.cell? ⟨g, 0, none⟩ = some (.int .u8 2) := KG.out.cell (j := 0) (by rw [stubL_len]; omega)
  have c1 : w5.cell? ⟨g, 1, none⟩ = some (.int .u8 (pg % 32)) := KG.out.cell (j := 1) (by rw [stubL_len]; omega)
  have c2 : w5.cell? ⟨g, 2, none⟩ = some (.int .u8 (at' % 4)) := KG.out.cell (j := 2) (by rw [stubL_len]; omega)
  have x0 := (cell_of (cs := #[.string k, .string s, .string v]) HB5.out.2.1 0).1
  have x1 := (cell_of (cs := #[.string k, .string s, .string v]) HB5.out.2.1 1).1
  have x2 := (cell_of (cs := #[.string k, .string s, .string v]) HB5.out.2.1 2).1
  have x3 := (cell_of (cs := #[.string k', .string s', .string v']) HB5.out.2.2 0).1
  have x4 := (cell_of (cs := #[.string k', .string s', .string v']) HB5.out.2.2 1).1
  have x5 := (cell_of (cs := #[.string k', .string s', .string v']) HB5.out.2.2 2).1
  have hlt5 : w.heap.size + 1 < w5.heap.size := HB5.out.lt
  have bad : Hid (∀ o o', Below w.heap.size w ((w5.alloc o).alloc o')) := fun o o' => (HB5.out.1.alloc (by omega) _).alloc (by simp; omega) _
  have bad1 : Hid (∀ o, Below w.heap.size w (w5.alloc o)) := fun o => HB5.out.1.alloc (by omega) _
  cases q
  · obtain rfl : e1 = 1 := HE.out
    cases q'
    · obtain rfl : e2 = 1 := HE'.out
      go_wp2_with fail
      refine (HM.out _).mono ?_
      rintro e w6 ⟨rfl, rfl⟩
      go_wp2_with fail
      refine (HM'.out _).mono ?_
      rintro e w6 ⟨rfl, rfl⟩
      go_wp2
      go_ret
      exact ⟨rfl, bad.out _ _⟩
    · obtain rfl : e2 = 0 := HE'.out
      go_wp2_with fail
      refine (HM.out _).mono ?_
      rintro e w6 ⟨rfl, rfl⟩
      go_wp2_with fail
      refine (HM'.out _).mono ?_
      rintro e w6 ⟨rfl, rfl⟩
      go_wp2
      go_ret
      exact ⟨rfl, bad.out _ _⟩
  · obtain rfl : e1 = 0 := HE.out
    cases q'
    · obtain rfl : e2 = 1 := HE'.out
      go_wp2_with fail
      refine (HM.out _).mono ?_
      rintro e w6 ⟨rfl, rfl⟩
      go_wp2_with fail
      refine (HM'.out _).mono ?_
      rintro e w6 ⟨rfl, rfl⟩
      go_wp2
      go_ret
      exact ⟨rfl, bad.out _ _⟩
    · obtain rfl : e2 = 0 := HE'.out
      have s1 := S1.out
      have s2 := S2.out
      rw [rowP, if_pos HQ.out] at s1
      rw [rowP, if_pos HQ'.out] at s2
      have s3 := (KG.out.pt (n := 26) (c := 26) rfl (Nat.le_refl _)).slK (stubL_ok HPl.out)
      obtain ⟨pa, ca, rfl, -⟩ := id s1
      rw [rowL_len HQ.out] at s1 ⊢
      have v1 := fun n => conv_drewN s1 n
      have v2 := fun n => conv_drewN s2 n
      have v3 := fun n => conv_drewN s3 n
      have b1 := (bstr_eql (rowL_ok HQ.out) (rowL_ok HQ'.out)).trans (row_eq_iff HQ.out HQ'.out)
      have b2 := (bstr_eql (rowL_ok HQ.out) (stubL_ok HPl.out)).trans (decide_eq_false (rowL_ne_stub k s v _ _))
      have b3 := fun W => eql_row W k s v k' s' v'
      generalize bstr (rowL k s v) = X at *
      generalize bstr (rowL k' s' v') = Y at *
      generalize bstr (stubL (pg % 32) (at' % 4)) = Z at *
      generalize decide (k = k' ∧ s = s' ∧ v = v') = D at *
      clear s1 s2 s3
      go_upto_region 10 with (fail)
      go_quiet (fail)
      go_wp2
      go_ret
      exact ⟨rfl, HB5.out.1.trans (below_drewN _ _ _)⟩

theorem own : ownKnob Try.prog.godebug = none := by kernel_rfl
theorem laidOut : laidOutB Try.prog = true := by kernel_rfl

set_option maxRecDepth 100000 in
theorem lifted (os : Os) (started : os.Started) (H : Type) (enc : TypeId × Value → H) :
    ReturnsInHanded {} Try.checked os 6 .any (Rows.cellApartSpec.pre6 enc Try.prog Try.f6 Rows.cellApartRow.domain false) (Rows.cellApartSpec.post enc Try.prog Try.f6 false true false false) := by
  refine returnsInHanded_of_change (C := Try.checked) own started (by kernel_rfl) Try.func6
    (ChangeSpec.witness6 (enc := enc) (C := Try.checked) false ⟨#[], #[.agg #[.string ⟨#[]⟩, .string ⟨#[]⟩, .string ⟨#[]⟩], .agg #[.string ⟨#[]⟩, .string ⟨#[]⟩, .string ⟨#[]⟩], .int .u8 0, .int .u8 0], []⟩ 8 (by kernel_rfl) (by kernel_rfl) (by kernel_rfl) (by kernel_rfl)) ?_
  intro W base args ds gs before hval0 hW hcnd _
  have hval : ∀ (j : Nat) t v, Try.f6.params[j]? = some t → args[j]? = some v → Value.okWide Try.prog W .any base t v := hval0
  have hW' := hW
  obtain ⟨p, q, hA0, hV, rfl, hfz, hnd⟩ := hW
  obtain ⟨rfl, rfl⟩ := trodVars_none hV
  have hA : DataW.TrodAll enc Try.prog W 0 (fun _ => true) true Try.f6.params.toList args.toList ds p := hA0
  rw [Try.params6] at hA hval
  obtain ⟨v0, vs0, d0, ds0, p0, q0, hargs, rfl, rfl, h0, r0⟩ := trodAll_cons hA
  obtain ⟨v1, vs1, d1, ds1, p1, q1, rfl, rfl, rfl, h1, r1⟩ := trodAll_cons r0
  obtain ⟨v2, vs2, d2, ds2, p2, q2, rfl, rfl, rfl, h2, r2⟩ := trodAll_cons r1
  obtain ⟨v3, vs3, d3, ds3, p3, q3, rfl, rfl, rfl, h3, r3⟩ := trodAll_cons r2
  obtain ⟨rfl, rfl, rfl⟩ := trodAll_nil r3
  obtain rfl : args = #[v0, v1, v2, v3] := by cases args; simp_all
  obtain ⟨k0, s0, t0, rfl⟩ := open_row (hval 0 23 v0 rfl rfl) h0
  obtain ⟨k1, s1, t1, rfl⟩ := open_row (hval 1 23 v1 rfl rfl) h1
  obtain ⟨a2, rfl, rfl, rfl, w2⟩ := open_int Try.underlying5 (hval 2 5 v2 rfl rfl) h2
  obtain ⟨a3, rfl, rfl, rfl, w3⟩ := open_int Try.underlying5 (hval 3 5 v3 rfl rfl) h3
  have b2 := bounds_u8 w2
  have b3 := bounds_u8 w3
  refine (walk W k0 s0 t0 k1 s1 t1 a2 a3 b2.1 (by omega) b3.1 (by omega) _ _ rfl rfl).mono fun e W' ⟨he, hg⟩ => ?_
  subst he
  exact ⟨_, rfl, law_post laidOut Try.underlying4 rfl (by rw [Try.params6]; intro t ht; simp at ht; rcases ht with rfl | rfl <;> exact ⟨by kernel_rfl, of_decide_eq_true (by kernel_rfl)⟩) rfl hW' rfl hg⟩

theorem proved : Rows.CellApartSaid :=
  OpenClaim.holds_of_wide 6 Try.f6 rfl rfl rfl rfl rfl rfl rfl ⟨rfl, rfl, rfl, rfl, rfl⟩ rfl rfl rfl rfl rfl (by kernel_rfl) Try.func6 (by kernel_rfl)
    (of_decide_eq_true (by kernel_rfl)) (by unfold Func.isWrapper; first | (rw [if_pos (by decide +kernel)]; kernel_rfl) | (rw [if_neg (by decide +kernel)]; exact ⟨rfl, rfl⟩))
    (fun os started H enc _ => lifted os started H enc)
#print axioms proved

end Go.Proofs.Ytpgpcihcmjibmaa.cellApart
