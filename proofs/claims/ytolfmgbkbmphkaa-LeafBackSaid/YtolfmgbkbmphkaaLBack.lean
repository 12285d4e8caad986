/- LeafBack: for all numbers the law answers true; no condition. -/
import Derived.Test.YtolfmgbkbmphkaaLeafMade
import Derived.Laws.StructEq
namespace Go.Proofs.Ytolfmgbkbmphkaa.leafBack
open Go.ChangeShapes Go.WideShapes Go.ChangeAt Go.RowKit

def Fin (w : World) (e : Ending) (w' : World) : Prop := e = .returned (.bool true) ∧ Below w.heap.size w w'
theorem neq_row (W : World) (k s v : ByteArray) : (binOp .neq 39 (.agg #[.string k, .string s, .string v]) (.agg #[.string k, .string s, .string v])).run Try.prog W = .ok (.bool false) W := by
  have hS : Try.prog.underlying 39 = some (.struct (Try.prog.fieldsOf 39)) := by kernel_rfl
  have hH : Try.prog.stoodInHeld 39 = false := by kernel_rfl
  have hu : Try.prog.underlying 9 = some .string := Try.underlying9
  rw [run_neq_struct, show (10000 : Nat) = 9999 + 1 from rfl, run_equalIn_agg W 9999 _ _ _ hS hH]
  simp only [Program.fieldsOf, Try.underlying39]
  go_simp
theorem neq_rid (W : World) (p c : Int) : (binOp .neq 41 (.agg #[.int .i64 p, .int .i64 c]) (.agg #[.int .i64 p, .int .i64 c])).run Try.prog W = .ok (.bool false) W := by
  have hS : Try.prog.underlying 41 = some (.struct (Try.prog.fieldsOf 41)) := by kernel_rfl
  have hH : Try.prog.stoodInHeld 41 = false := by kernel_rfl
  have hu : Try.prog.underlying 3 = some (.int .i64) := Try.underlying3
  rw [run_neq_struct, show (10000 : Nat) = 9999 + 1 from rfl, run_equalIn_agg W 9999 _ _ _ hS hH]
  simp only [Program.fieldsOf, Try.underlying41]
  go_simp

theorem rd_nrm {l : List Int} {a : Int} {k s v : ByteArray} {p c e : Int} (h : Rd l a k s v p c e) : Rd (nrm l) a k s v p c e := by
  rcases nrm_or l with ⟨h1, h2⟩ | ⟨_, h2, _⟩
  · rw [h2]
    have h3 : l = [] ∨ l = z26 := of_decide_eq_true h1
    obtain ⟨rfl, rfl, rfl, rfl, rfl, rfl, rfl⟩ := h.det (.empty h3)
    exact .empty (.inl rfl)
  · rw [h2]; exact h

set_option maxRecDepth 100000 in
set_option maxHeartbeats 4000000 in
theorem walk (w : World) (v : Value) (l : List Int) (hv : SlK .u8 w v l) (x : Int) (x0 : 0 ≤ x) (x1 : x < 4294967296) :
    Calls Try.prog 5 #[v, .int .u32 x] w (Fin w) := by
  obtain ⟨n, hn⟩ : ∃ n, x % 2147483648 = n := ⟨_, rfl⟩
  have n0 : 0 ≤ n := by omega
  have n1 : n < 2147483648 := by omega
  have HV := Lib.hid hv
  obtain ⟨pv, cv, rfl, -⟩ := hv
  go_enter Try.func5, Try.ntmps5
  go_wp2_with fail
  refine (begun_true w).mono ?_
  rintro e w0 ⟨rfl, hb0⟩
  have HB0 := Lib.hid hb0
  clear hb0
  by_cases hl : 4 < l.length
  · go_wp2
    go_ret
    exact ⟨rfl, HB0.out⟩
  · have HM1 := Lib.hid (made_any w0 _ l n (HV.out.below HB0.out (Nat.le_refl _)) (by omega))
    have hl' : l.length ≤ 4 := by omega
    go_wp2_with fail
    refine HM1.out.mono ?_
    rintro e w1 ⟨P, N, K, rfl, hcs, hb⟩
    have hb2 : Below w0.heap.size w0 (w1.alloc (pgO P N K n)) := hb.alloc hb.size _
    have HB2 := Lib.hid (HB0.out.trans (hb2.mono HB0.out.size))
    have HC2 := Lib.hid (hcs.below (B := w1.heap.size) ((Below.refl _ _).alloc (Nat.le_refl _) (pgO P N K n)) (Nat.le_refl _))
    have HP2 := Lib.hid (heap_alloc_new w1 (pgO P N K n))
    have HZ2 : Hid (w1.heap.size < (w1.alloc (pgO P N K n)).heap.size) := by show _ < _; simp
    clear hb hb2 hcs HM1 HB0 hn
    unfold pgV
    go_upto_region 6 with (fail)
    show Code.wp _ _ _ _ (w1.alloc (pgO P N K n))
    generalize w1.alloc (pgO P N K n) = w2 at *
    generalize w1.heap.size = g5 at *
    have HPut := Lib.hid (lput_any w2 P N K n (madeC l) HC2.out)
    obtain ⟨d0, d1, d2, d3, d4⟩ := pg5 HP2.out
    go_wp2_with fail
    refine HPut.out.mono ?_
    rintro e w3 ⟨va, vb, rfl, ka, kb, hb⟩
    rw [(lf_tE (n := n) (m := n) (made_ok l) (made_ok l) n0 n1 n0 n1).1]
    have HTake := Lib.hid (ltake_any w3 va vb _ _ ka kb)
    have HB3 := Lib.hid (HB2.out.trans (hb.mono HB2.out.size))
    have HC3 := Lib.hid (HC2.out.below hb (Nat.le_refl _))
    have HP3 := Lib.hid ((hb.block _ HZ2.out).trans HP2.out)
    have HZ3 := Lib.hid (Nat.lt_of_lt_of_le HZ2.out hb.size)
    clear hb ka kb HPut HB2 HC2 HP2 HZ2 d0 d1 d2 d3 d4
    go_wp2_with fail
    refine HTake.out.mono ?_
    rintro e w4 ⟨er, d, m, P', N', K', htk, rfl, hcs, hb⟩
    obtain ⟨rfl, rfl, hd⟩ := put_take (made_ok l) n0 n1 (fun i _ => rdOk_pd (madeC_rd l i).1) htk
    have hb5 : Below w3.heap.size w3 (w4.alloc (pgO P' N' K' m)) := hb.alloc hb.size _
    have HB5 := Lib.hid (HB3.out.trans (hb5.mono HB3.out.size))
    have HC5 := Lib.hid (HC3.out.below hb5 (Nat.le_refl _))
    have HD5 := Lib.hid (hcs.below (B := w4.heap.size) ((Below.refl _ _).alloc (Nat.le_refl _) (pgO P' N' K' m)) (Nat.le_refl _))
    have HP5 := Lib.hid ((hb5.block _ HZ3.out).trans HP3.out)
    have HQ5 := Lib.hid (heap_alloc_new w4 (pgO P' N' K' m))
    have HZ5 := Lib.hid (Nat.lt_of_lt_of_le HZ3.out hb5.size)
    have HY5 : Hid (w4.heap.size < (w4.alloc (pgO P' N' K' m)).heap.size) := by show _ < _; simp
    have HD := Lib.hid hd
    clear htk hcs hb hb5 hd HTake HB3 HC3 HP3 HZ3
    unfold pgV
    go_upto_region 8 with (fail)
    show Code.wp _ _ _ _ (w4.alloc (pgO P' N' K' m))
    generalize w4.alloc (pgO P' N' K' m) = w5 at *
    generalize w4.heap.size = g9 at *
    have a1 := (pg5 HP5.out).2.2.2.2
    have a2 := (pg5 HQ5.out).2.2.2.2
    have HR : Hid (Below w5.heap.size w5 w5) := Below.refl _ _
    go_wp2
    clear a1 a2
    go_loopw [11] (fun i wr => ∃ k : Nat, k ≤ 4 ∧ i = .int .i64 k ∧ Hid (Below w5.heap.size w5 wr)) (fun i _ => 4 - (intOf i).toNat)
    case atStart => exact ⟨0, by omega, rfl, HR⟩
    case round =>
      obtain ⟨k, hk, rfl, HRr⟩ := hrel
      clear HR
      by_cases hlt : k < 4
      · have c1 := (pg_cell ((HRr.out.block _ HZ5.out).trans HP5.out)).1 k hlt
        have HRd := Lib.hid (rread_any wr _ _ ((HC5.out k hlt).2.below HRr.out (Nat.le_refl _)))
        go_wp2_with fail
        refine HRd.out.mono ?_
        rintro e w6 ⟨a, ks, ss, vs, rp, rc, er, hrd, rfl, hb⟩
        have hb7 : Below wr.heap.size wr ((w6.alloc (rowO ks ss vs)).alloc (ridO rp rc)) := (hb.alloc hb.size _).alloc (by have := hb.size; simp; omega) _
        have HX7 := Lib.hid (bx_new w6 (rowO ks ss vs) (ridO rp rc))
        have HR7 := Lib.hid (HRr.out.trans (hb7.mono HRr.out.size))
        have HN := Lib.hid (rd_nrm hrd)
        clear hb hb7 hrd HRd HRr c1
        go_upto_region 14 with (fail)
        show Code.wp _ _ _ _ ((w6.alloc (rowO ks ss vs)).alloc (ridO rp rc))
        generalize (w6.alloc (rowO ks ss vs)).alloc (ridO rp rc) = w7 at *
        have c2 := (pg_cell ((HR7.out.block _ HY5.out).trans HQ5.out)).1 k hlt
        have hrd2 := rread_any w7 _ _ ((HD5.out k hlt).2.below HR7.out (Nat.le_refl _))
        rw [HD.out k hlt] at hrd2
        have HRd2 := Lib.hid hrd2
        clear hrd2
        go_wp2_with fail
        refine HRd2.out.mono ?_
        rintro e w8 ⟨a', ks', ss', vs', rp', rc', er', hrd, rfl, hb⟩
        obtain ⟨rfl, rfl, rfl, rfl, rfl, rfl, rfl⟩ := hrd.det HN.out
        have hb9 : Below w7.heap.size w7 ((w8.alloc (rowO ks' ss' vs')).alloc (ridO rp' rc')) := (hb.alloc hb.size _).alloc (by have := hb.size; simp; omega) _
        have HX9 := Lib.hid (HX7.out.on hb9)
        have HY9 := Lib.hid (bx_new w8 (rowO ks' ss' vs') (ridO rp' rc'))
        have HR9 := Lib.hid (HR7.out.trans (hb9.mono HR7.out.size))
        clear hb hb9 hrd HRd2 c2 HX7 HR7 HN
        go_upto_region 15 with (fail)
        show Code.wp _ _ _ _ ((w8.alloc (rowO ks' ss' vs')).alloc (ridO rp' rc'))
        generalize (w8.alloc (rowO ks' ss' vs')).alloc (ridO rp' rc') = w9 at *
        have x0 := (cell_of (cs := #[.string ks', .string ss', .string vs']) HX9.out.2.1 0).1
        have x1' := (cell_of (cs := #[.string ks', .string ss', .string vs']) HX9.out.2.1 1).1
        have x2 := (cell_of (cs := #[.string ks', .string ss', .string vs']) HX9.out.2.1 2).1
        have y0 := (cell_of (cs := #[.int .i64 rp', .int .i64 rc']) HX9.out.2.2 0).1
        have y1 := (cell_of (cs := #[.int .i64 rp', .int .i64 rc']) HX9.out.2.2 1).1
        have z0 := (cell_of (cs := #[.string ks', .string ss', .string vs']) HY9.out.2.1 0).1
        have z1 := (cell_of (cs := #[.string ks', .string ss', .string vs']) HY9.out.2.1 1).1
        have z2 := (cell_of (cs := #[.string ks', .string ss', .string vs']) HY9.out.2.1 2).1
        have u0 := (cell_of (cs := #[.int .i64 rp', .int .i64 rc']) HY9.out.2.2 0).1
        have u1 := (cell_of (cs := #[.int .i64 rp', .int .i64 rc']) HY9.out.2.2 1).1
        have nq := neq_row w9 ks' ss' vs'
        have nr := neq_rid w9 rp' rc'
        generalize w8.heap.size = gb at *
        generalize w6.heap.size = ga at *
        go_wp2
        go_roundw
        all_goals first
          | exact ⟨k + 1, by omega, by go_num, HR9⟩
          | (simp [intOf]; omega)
      · obtain rfl : k = 4 := by omega
        have hp := (HRr.out.block _ HZ5.out).trans HP5.out
        have hq := (HRr.out.block _ HY5.out).trans HQ5.out
        obtain ⟨d0, d1, d2, d3, d4⟩ := pg5 hp
        obtain ⟨q0, q1, q2, q3, q4⟩ := pg5 hq
        have hs := same_any wr P N K m (madeC l) P' N' K' m d (HC5.out.below HRr.out (Nat.le_refl _)) (HD5.out.below HRr.out (Nat.le_refl _))
        have e1 : pgSame (madeC l) d m m = true := by
          rw [pgSame_all (fun j hj => by rw [HD.out j hj]; exact sameB_nrm _)]; simp
        rw [e1] at hs
        have HS := Lib.hid hs
        have HBr := Lib.hid (HB5.out.trans (HRr.out.mono HB5.out.size))
        clear hp hq hs e1
        go_wp2_with fail
        refine HS.out.mono ?_
        rintro e w6 ⟨rfl, hb⟩
        go_wp2
        go_ret
        exact ⟨rfl, HBr.out.trans (hb.mono HBr.out.size)⟩

theorem own : ownKnob Try.prog.godebug = none := by kernel_rfl
theorem laidOut : laidOutB Try.prog = true := by kernel_rfl

set_option maxRecDepth 100000 in
theorem lifted (os : Os) (started : os.Started) (H : Type) (enc : TypeId × Value → H) :
    ReturnsInHanded {} Try.checked os 5 .any (Rows.leafBackSpec.pre6 enc Try.prog Try.f5 Rows.leafBackRow.domain false) (Rows.leafBackSpec.post enc Try.prog Try.f5 false true false false) := by
  refine returnsInHanded_of_change (C := Try.checked) own started (by kernel_rfl) Try.func5
    (ChangeSpec.witness6 (enc := enc) (C := Try.checked) false ⟨#[], #[.slice none 0 0, .int .u32 0], []⟩ 8 (by kernel_rfl) (by kernel_rfl) (by kernel_rfl) (by kernel_rfl)) ?_
  intro W base args ds gs before hval0 hW hcnd _
  have hval : ∀ (j : Nat) t v, Try.f5.params[j]? = some t → args[j]? = some v → Value.okWide Try.prog W .any base t v := hval0
  have hW' := hW
  obtain ⟨p, q, hA0, hV, rfl, hfz, hnd⟩ := hW
  obtain ⟨rfl, rfl⟩ := trodVars_none hV
  have hA : DataW.TrodAll enc Try.prog W 0 (fun _ => true) true Try.f5.params.toList args.toList ds p := hA0
  rw [Try.params5] at hA hval
  obtain ⟨v0, vs0, d0, ds0, p0, q0, hargs, rfl, rfl, h0, r0⟩ := trodAll_cons hA
  obtain ⟨v1, vs1, d1, ds1, p1, q1, rfl, rfl, rfl, h1, r1⟩ := trodAll_cons r0
  obtain ⟨rfl, rfl, rfl⟩ := trodAll_nil r1
  obtain rfl : args = #[v0, v1] := by cases args; simp_all
  have ok0 := hval 0 22 v0 rfl rfl
  obtain ⟨a1, rfl, rfl, rfl, w1⟩ := open_int Try.underlying35 (hval 1 35 v1 rfl rfl) h1
  obtain ⟨l, hl⟩ := open_sl Try.underlying22 Try.underlying5 (by kernel_rfl) ok0 h0
  have b1 := bounds_u32 w1
  refine (walk W v0 l hl a1 b1.1 (by omega)).mono fun e W' ⟨he, hg⟩ => ?_
  subst he
  exact ⟨_, rfl, law_post laidOut Try.underlying4 rfl (by rw [Try.params5]; intro t ht; simp at ht; rcases ht with rfl | rfl <;> exact ⟨by kernel_rfl, of_decide_eq_true (by kernel_rfl)⟩) rfl hW' rfl hg⟩

theorem proved : Rows.LeafBackSaid :=
  OpenClaim.holds_of_wide 5 Try.f5 rfl rfl rfl rfl rfl rfl rfl ⟨rfl, rfl, rfl, rfl, rfl⟩ rfl rfl rfl rfl rfl (by kernel_rfl) Try.func5 (by kernel_rfl)
    (of_decide_eq_true (by kernel_rfl)) (by unfold Func.isWrapper; first | (rw [if_pos (by decide +kernel)]; kernel_rfl) | (rw [if_neg (by decide +kernel)]; exact ⟨rfl, rfl⟩))
    (fun os started H enc _ => lifted os started H enc)
#print axioms proved

end Go.Proofs.Ytolfmgbkbmphkaa.leafBack
