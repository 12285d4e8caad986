/- LeafTears: for all numbers the law answers true; no condition. -/
import Derived.Test.YtolfmgbkbmphkaaLeafMade
namespace Go.Proofs.Ytolfmgbkbmphkaa.leafTears
open Go.ChangeShapes Go.WideShapes Go.ChangeAt Go.RowKit

def Fin (w : World) (e : Ending) (w' : World) : Prop := e = .returned (.bool true) ∧ Below w.heap.size w w'

set_option maxRecDepth 100000 in
set_option maxHeartbeats 2000000 in
theorem walk (w : World) (v u : Value) (l m : List Int) (hv : SlK .u8 w v l) (hu : SlK .u8 w u m) (x y : Int) (x0 : 0 ≤ x) (x1 : x < 65536) (y0 : 0 ≤ y) (y1 : y < 65536) :
    Calls Try.prog 8 #[v, u, .int .u16 x, .int .u16 y] w (Fin w) := by
  have HV := Lib.hid hv
  have HU := Lib.hid hu
  obtain ⟨pv, cv, rfl, -⟩ := hv
  obtain ⟨pu, cu, rfl, -⟩ := hu
  go_enter Try.func8, Try.ntmps8
  go_wp2_with fail
  refine (begun_true w).mono ?_
  rintro e w0 ⟨rfl, hb0⟩
  have HB0 := Lib.hid hb0
  clear hb0
  by_cases hl : 4 < l.length
  · go_wp2
    go_ret
    exact ⟨rfl, HB0.out⟩
  · by_cases hm : 4 < m.length
    · go_wp2
      go_ret
      exact ⟨rfl, HB0.out⟩
    · have HM1 := Lib.hid (made_any w0 _ l x (HV.out.below HB0.out (Nat.le_refl _)) (by omega))
      have HMl : Hid (m.length ≤ 4) := Nat.le_of_not_lt hm
      have hl' : l.length ≤ 4 := by omega
      have hm' : m.length ≤ 4 := by omega
      go_wp2_with fail
      refine HM1.out.mono ?_
      rintro e w1 ⟨P, N, K, rfl, hcs, hb⟩
      have HB1 := Lib.hid (HB0.out.trans (hb.mono HB0.out.size))
      have HP1 := Lib.hid (lput_any w1 P N K x (madeC l) hcs)
      clear hb hcs HM1 HB0
      go_wp2_with fail
      refine HP1.out.mono ?_
      rintro e w2 ⟨va, vb, rfl, ka, -, hb⟩
      have hE := lf_tE (n := x) (m := y) (made_ok l) (made_ok m) x0 (by omega) y0 (by omega)
      rw [hE.1]
      have HB2 := Lib.hid (HB1.out.trans (hb.mono HB1.out.size))
      have KA := Lib.hid ka
      have HM2 := Lib.hid (made_any w2 _ m y (HU.out.below HB2.out (Nat.le_refl _)) HMl.out)
      have HE2 := Lib.hid hE.2.1
      clear hb ka HP1 HB1 hE
      go_wp2_with fail
      refine HM2.out.mono ?_
      rintro e w3 ⟨P', N', K', rfl, hcs, hb⟩
      have HB3 := Lib.hid (HB2.out.trans (hb.mono HB2.out.size))
      have KA3 := Lib.hid (KA.out.below hb (Nat.le_refl _))
      have HP3 := Lib.hid (lput_any w3 P' N' K' y (madeC m) hcs)
      clear hb hcs HM2 HB2 KA
      go_wp2_with fail
      refine HP3.out.mono ?_
      rintro e w4 ⟨vc, vd, rfl, -, kd, hb⟩
      rw [HE2.out]
      have HB4 := Lib.hid (HB3.out.trans (hb.mono HB3.out.size))
      have HT4 := Lib.hid (ltake_any w4 va vd _ _ (KA3.out.below hb (Nat.le_refl _)) kd)
      clear hb kd HP3 HB3 KA3
      go_wp2_with fail
      refine HT4.out.mono ?_
      rintro e w5 ⟨er, d, k, P5, N5, K5, htk, rfl, -, hb⟩
      obtain ⟨t1, t2⟩ := put_tears (made_ok l) (made_ok m) x0 (by omega) y0 (by omega) htk
      have hb6 : Below w4.heap.size w4 (w5.alloc (pgO P5 N5 K5 k)) := hb.alloc hb.size _
      have HB6 := Lib.hid (HB4.out.trans (hb6.mono HB4.out.size))
      have hq := (pg5 (heap_alloc_new w5 (pgO P5 N5 K5 k))).2.2.2.2
      have T1 := Lib.hid t1
      have T2 := Lib.hid t2
      clear hb hb6 htk HT4 HB4 t1 t2
      unfold pgV
      go_upto_region 8 with (fail)
      show Code.wp _ _ _ _ (w5.alloc (pgO P5 N5 K5 k))
      generalize w5.alloc (pgO P5 N5 K5 k) = w6 at *
      by_cases hxy : x = y
      · have hx : (x != y) = false := by simpa using hxy
        rcases T2.out hxy with ⟨rfl, rfl⟩ | rfl
        · clear hxy
          go_wp2
          go_ret
          exact ⟨rfl, HB6.out⟩
        · clear hxy
          go_wp2
          go_ret
          exact ⟨rfl, HB6.out⟩
      · have hx : (x != y) = true := by simpa using hxy
        obtain ⟨rfl, rfl⟩ := T1.out hxy
        clear hxy
        go_wp2
        go_ret
        exact ⟨rfl, HB6.out⟩

theorem own : ownKnob Try.prog.godebug = none := by kernel_rfl
theorem laidOut : laidOutB Try.prog = true := by kernel_rfl

set_option maxRecDepth 100000 in
theorem lifted (os : Os) (started : os.Started) (H : Type) (enc : TypeId × Value → H) :
    ReturnsInHanded {} Try.checked os 8 .any (Rows.leafTearsSpec.pre6 enc Try.prog Try.f8 Rows.leafTearsRow.domain false) (Rows.leafTearsSpec.post enc Try.prog Try.f8 false true false false) := by
  refine returnsInHanded_of_change (C := Try.checked) own started (by kernel_rfl) Try.func8
    (ChangeSpec.witness6 (enc := enc) (C := Try.checked) false ⟨#[], #[.slice none 0 0, .slice none 0 0, .int .u16 0, .int .u16 0], []⟩ 8 (by kernel_rfl) (by kernel_rfl) (by kernel_rfl) (by kernel_rfl)) ?_
  intro W base args ds gs before hval0 hW hcnd _
  have hval : ∀ (j : Nat) t v, Try.f8.params[j]? = some t → args[j]? = some v → Value.okWide Try.prog W .any base t v := hval0
  have hW' := hW
  obtain ⟨p, q, hA0, hV, rfl, hfz, hnd⟩ := hW
  obtain ⟨rfl, rfl⟩ := trodVars_none hV
  have hA : DataW.TrodAll enc Try.prog W 0 (fun _ => true) true Try.f8.params.toList args.toList ds p := hA0
  rw [Try.params8] at hA hval
  obtain ⟨v0, vs0, d0, ds0, p0, q0, hargs, rfl, rfl, h0, r0⟩ := trodAll_cons hA
  obtain ⟨v1, vs1, d1, ds1, p1, q1, rfl, rfl, rfl, h1, r1⟩ := trodAll_cons r0
  obtain ⟨v2, vs2, d2, ds2, p2, q2, rfl, rfl, rfl, h2, r2⟩ := trodAll_cons r1
  obtain ⟨v3, vs3, d3, ds3, p3, q3, rfl, rfl, rfl, h3, r3⟩ := trodAll_cons r2
  obtain ⟨rfl, rfl, rfl⟩ := trodAll_nil r3
  obtain rfl : args = #[v0, v1, v2, v3] := by cases args; simp_all
  have ok0 := hval 0 22 v0 rfl rfl
  have ok1 := hval 1 22 v1 rfl rfl
  obtain ⟨a2, rfl, rfl, rfl, w2⟩ := open_int Try.underlying45 (hval 2 45 v2 rfl rfl) h2
  obtain ⟨a3, rfl, rfl, rfl, w3⟩ := open_int Try.underlying45 (hval 3 45 v3 rfl rfl) h3
  obtain ⟨l, hl⟩ := open_sl Try.underlying22 Try.underlying5 (by kernel_rfl) ok0 h0
  obtain ⟨m, hm⟩ := open_sl Try.underlying22 Try.underlying5 (by kernel_rfl) ok1 h1
  have b2 := bounds_u16 w2
  have b3 := bounds_u16 w3
  refine (walk W v0 v1 l m hl hm a2 a3 b2.1 (by omega) b3.1 (by omega)).mono fun e W' ⟨he, hg⟩ => ?_
  subst he
  exact ⟨_, rfl, law_post laidOut Try.underlying4 rfl (by rw [Try.params8]; intro t ht; simp at ht; rcases ht with rfl | rfl <;> exact ⟨by kernel_rfl, of_decide_eq_true (by kernel_rfl)⟩) rfl hW' rfl hg⟩

theorem proved : Rows.LeafTearsSaid :=
  OpenClaim.holds_of_wide 8 Try.f8 rfl rfl rfl rfl rfl rfl rfl ⟨rfl, rfl, rfl, rfl, rfl⟩ rfl rfl rfl rfl rfl (by kernel_rfl) Try.func8 (by kernel_rfl)
    (of_decide_eq_true (by kernel_rfl)) (by unfold Func.isWrapper; first | (rw [if_pos (by decide +kernel)]; kernel_rfl) | (rw [if_neg (by decide +kernel)]; exact ⟨rfl, rfl⟩))
    (fun os started H enc _ => lifted os started H enc)
#print axioms proved

end Go.Proofs.Ytolfmgbkbmphkaa.leafTears
