/- LeafSets: for all numbers the law answers true; no condition. -/
import Derived.Test.YtolfmgbkbmphkaaLeafMade
import Derived.Deep.RegionHeld3
namespace Go.Proofs.Ytolfmgbkbmphkaa.leafSets
open Go.ChangeShapes Go.WideShapes Go.ChangeAt Go.RowKit

def Fin (w : World) (e : Ending) (w' : World) : Prop := e = .returned (.bool true) ∧ Below w.heap.size w w'
def keyR (x : Int) : List Int := rowL (bstr [97 + x % 20]) ⟨#[]⟩ ⟨#[]⟩
theorem key_may (x : Int) : mayB (bstr [97 + x % 20]) ⟨#[]⟩ ⟨#[]⟩ = true := by
  have h : bytesOk [97 + x % 20] := by
    intro y hy
    rw [List.mem_singleton] at hy
    omega
  unfold mayB
  rw [bstr_size h, decide_eq_true_eq]
  exact ⟨by simp, by simp, by decide, by decide⟩
theorem sameB_refl (l : List Int) : sameB l l = true := decide_eq_true rfl
theorem pgSame_refl (c : Nat → List Int) (n : Int) : pgSame c c n n = true := by rw [pgSame_all (fun j _ => sameB_refl _)]; exact decide_eq_true rfl

set_option maxRecDepth 100000 in
set_option maxHeartbeats 4000000 in
theorem walk (w : World) (v : Value) (l : List Int) (hv : SlK .u8 w v l) (x i y z : Int) (x0 : 0 ≤ x) (x1 : x < 65536) (y0 : 0 ≤ y) (y1 : y < 256) (z0 : 0 ≤ z) (z1 : z < 65536) :
    Calls Try.prog 6 #[v, .int .u16 x, .int .i64 i, .int .u8 y, .int .u16 z] w (Fin w) := by
  have HV := Lib.hid hv
  obtain ⟨pv, cv, rfl, -⟩ := hv
  go_enter Try.func6, Try.ntmps6
  go_wp2_with fail
  refine (begun_true w).mono ?_
  rintro e w0 ⟨rfl, hb0⟩
  have HB0 := Lib.hid hb0
  clear hb0
  by_cases hl : 4 < l.length
  · go_wp2
    go_ret
    exact ⟨rfl, HB0.out⟩
  · have HM1 := Lib.hid (made_any w0 _ l x (HV.out.below HB0.out (Nat.le_refl _)) (by omega))
    have hl' : l.length ≤ 4 := by omega
    go_wp2_with fail
    refine HM1.out.mono ?_
    rintro e w1 ⟨P, N, K, rfl, hcs, hb⟩
    have hb2 : Below w0.heap.size w0 (w1.alloc (pgO P N K x)) := hb.alloc hb.size _
    have HB2 := Lib.hid (HB0.out.trans (hb2.mono HB0.out.size))
    have HC2 := Lib.hid (hcs.below (B := w1.heap.size) ((Below.refl _ _).alloc (Nat.le_refl _) (pgO P N K x)) (Nat.le_refl _))
    have HP2 := Lib.hid (heap_alloc_new w1 (pgO P N K x))
    have HZ2 : Hid (w1.heap.size < (w1.alloc (pgO P N K x)).heap.size) := by show _ < _; simp
    clear hb hb2 hcs HM1 HB0
    unfold pgV
    go_upto_region 6 with (fail)
    show Code.wp _ _ _ _ (w1.alloc (pgO P N K x))
    generalize w1.alloc (pgO P N K x) = w2 at *
    generalize w1.heap.size = g11 at *
    -- the row
    have hy : bytesOk [97 + y % 20] := by
      intro q hq
      rw [List.mem_singleton] at hq
      omega
    have hb3 : Below w2.heap.size w2 (w2.alloc (.cells #[.int .u8 (97 + y % 20)] 5)) := (Below.refl _ _).alloc (Nat.le_refl _) _
    have cv' : (convert 22 9 (.slice (some ⟨w2.heap.size, 0, none⟩) 1 1)).run Try.prog (w2.alloc (.cells #[.int .u8 (97 + y % 20)] 5)) = .ok (.string (bstr [97 + y % 20])) (w2.alloc (.cells #[.int .u8 (97 + y % 20)] 5)) := conv_slK (((blk_new w2 [97 + y % 20]).pt (n := 1) (c := 1) rfl (Nat.le_refl _)).slK hy)
    have HRow := Lib.hid (rrow_ok (w2.alloc (.cells #[.int .u8 (97 + y % 20)] 5)) (bstr [97 + y % 20]) ⟨#[]⟩ ⟨#[]⟩ (key_may y))
    obtain ⟨rw0, hrw0⟩ : ∃ r, rowL (bstr [97 + y % 20]) ⟨#[]⟩ ⟨#[]⟩ = r := ⟨_, rfl⟩
    have hml := rowL_len (key_may y)
    have hmo := rowL_ok (key_may y)
    rw [hrw0] at hml hmo HRow
    have HMl := Lib.hid hml
    have HMo := Lib.hid hmo
    have HB3 := Lib.hid hb3
    clear hy hb3 hml hmo hrw0
    generalize bstr [97 + y % 20] = ky at *
    go_wp2_with fail
    refine HRow.out.mono ?_
    rintro e w4 ⟨v4, rfl, ho, hb⟩
    obtain ⟨p4, q4, rfl⟩ := own_sl ho
    have hb5 := HB3.out.trans (hb.mono HB3.out.size)
    have HB4 := Lib.hid (HB2.out.trans (hb5.mono HB2.out.size))
    have HC4 := Lib.hid (HC2.out.below hb5 (Nat.le_refl _))
    have HP4 := Lib.hid ((hb5.block _ HZ2.out).trans HP2.out)
    have HZ4 := Lib.hid (Nat.lt_of_lt_of_le HZ2.out hb5.size)
    have HS4 := Lib.hid (own_slK ho HMo.out)
    clear ho hb hb5 HRow HB3 HB2 HC2 HP2 HZ2 cv'
    have HSet := Lib.hid (set_any w4 P N K x (madeC l) HC4.out i z p4 26 q4 rw0 HS4.out HMl.out.symm (fun j _ => by have := (madeC_rd l j).2.2.2; omega) (by rw [HMl.out]; decide))
    obtain ⟨d0, d1, d2, d3, d4⟩ := pg5 HP4.out
    go_wp2_with fail
    refine HSet.out.mono ?_
    rintro e w5 ⟨P', N', K', rfl, hco, hb⟩
    obtain ⟨c2, hc2⟩ : ∃ c, setC (madeC l) x i z rw0 = c := ⟨_, rfl⟩
    obtain ⟨m, hm⟩ : ∃ m, setN x i z = m := ⟨_, rfl⟩
    rw [hc2] at hco
    rw [hm]
    have hb6 : Below w4.heap.size w4 (w5.alloc (pgO P' N' K' m)) := hb.alloc hb.size _
    have HB6 := Lib.hid (HB4.out.trans (hb6.mono HB4.out.size))
    have HC6 := Lib.hid (HC4.out.below hb6 (Nat.le_refl _))
    have HD6 := Lib.hid (hco.cs.below (B := w5.heap.size) ((Below.refl _ _).alloc (Nat.le_refl _) (pgO P' N' K' m)) (Nat.le_refl _))
    have HP6 := Lib.hid ((hb6.block _ HZ4.out).trans HP4.out)
    have HQ6 := Lib.hid (heap_alloc_new w5 (pgO P' N' K' m))
    have HS6 := Lib.hid (HS4.out.below hb6 (Nat.le_refl _))
    have HC2' := Lib.hid hc2
    have HM' := Lib.hid hm
    clear hb hb6 hco HSet HB4 HC4 HP4 HZ4 HS4 d0 d1 d2 d3 d4 hc2 hm
    unfold pgV
    go_upto_region 8 with (fail)
    show Code.wp _ _ _ _ (w5.alloc (pgO P' N' K' m))
    generalize w5.alloc (pgO P' N' K' m) = w6 at *
    generalize w5.heap.size = g14 at *
    by_cases hq : setQ x i z = true
    · have hq' := hq
      unfold setQ at hq'
      simp only [Bool.and_eq_true, decide_eq_true_eq] at hq'
      obtain ⟨⟨hl1, h0⟩, h4⟩ := hq'
      obtain ⟨kk, rfl⟩ : ∃ kk : Nat, i = (kk : Int) := ⟨i.toNat, by omega⟩
      have hkk : kk < 4 := by omega
      have hc3 : upd (madeC l) kk rw0 = c2 := by rw [← HC2'.out, setC, if_pos hq, Int.toNat_natCast]
      have hm3 : m = z := by rw [← HM'.out, setN, if_pos hq]
      subst hm3
      have HC3 := Lib.hid hc3
      clear hc3 HC2' HM' hq
      have b1 : ¬ m ≤ x := by omega
      have b2 : ¬ ((kk : Int) < 0) := by omega
      have b3 : ¬ (4 ≤ (kk : Int)) := by omega
      go_cut [52] (fun u wx => u = .bool false ∧ w6 = wx)
      case first =>
        go_wp2
        go_meet
        first | exact ⟨rfl, rfl⟩ | (constructor <;> simp [*])
      case rest =>
        obtain ⟨rfl, rfl⟩ := hcut
        clear b1 b2 b3 hl1 h0 h4
        have HW : Hid (w6 = w6) := rfl
        go_wp2
        go_loopw [15] (fun i wr => ∃ k : Nat, k ≤ 4 ∧ i = .int .i64 k ∧ w6 = wr) (fun i _ => 4 - (intOf i).toNat)
        case atStart => exact ⟨0, by omega, rfl, rfl⟩
        case round =>
          obtain ⟨k, hk, rfl, rfl⟩ := hrel
          by_cases hlt : k < 4
          · have c1 := (pg_cell HP6.out).1 k hlt
            have c2' := (pg_cell HQ6.out).1 k hlt
            have v1 := conv_slK (HC6.out k hlt).2
            have v2 := conv_slK HS6.out
            have hv3 := (HD6.out k hlt).2
            rw [← HC3.out] at hv3
            by_cases e : k = kk
            · subst e
              rw [show upd (madeC l) k rw0 k = rw0 from if_pos rfl] at hv3
              have v3 := conv_slK hv3
              clear hv3
              generalize bstr (madeC l k) = X at *
              generalize bstr rw0 = Y at *
              go_wp2
              go_roundw
              all_goals first
                | exact ⟨k + 1, by omega, by go_num, trivial⟩
                | exact ⟨k + 1, by omega, by go_num, rfl⟩
                | (simp [intOf]; omega)
            · rw [show upd (madeC l) kk rw0 k = madeC l k from if_neg e] at hv3
              have v3 := conv_slK hv3
              have hne : ((k : Int) == (kk : Int)) = false := beq_eq_false_iff_ne.2 (by omega)
              have hne2 : ¬ (k : Int) = (kk : Int) := by omega
              clear hv3
              generalize bstr (madeC l k) = X at *
              generalize bstr rw0 = Y at *
              go_wp2
              go_roundw
              all_goals first
                | exact ⟨k + 1, by omega, by go_num, trivial⟩
                | exact ⟨k + 1, by omega, by go_num, rfl⟩
                | (simp [intOf]; omega)
          · obtain rfl : k = 4 := by omega
            have hlen : ∀ j, j < 4 → (c2 j).length ≤ 100000 := fun j _ => by
              rw [← HC3.out]
              unfold upd
              by_cases e : j = kk
              · rw [if_pos e, HMl.out]; decide
              · rw [if_neg e]; have := (madeC_rd l j).2.2.2; omega
            have hz7 : g14 < w6.heap.size := (Array.getElem?_eq_some_iff.1 HQ6.out).1
            have hqf : setQ m (kk : Int) m = false := by
              unfold setQ
              rw [show decide (m < m) = false from decide_eq_false (by omega)]; rfl
            have e1 : setC c2 m kk m [] = c2 := by unfold setC; rw [if_neg (by rw [hqf]; decide)]
            have e2 : setN m kk m = m := by unfold setN; rw [if_neg (by rw [hqf]; decide)]
            have HSet2 : Hid (∀ W, Below w6.heap.size w6 W → Calls Try.prog 21 #[.agg #[.slice (P' 0) (N' 0) (K' 0), .slice (P' 1) (N' 1) (K' 1), .slice (P' 2) (N' 2) (K' 2), .slice (P' 3) (N' 3) (K' 3), .int .i64 m], .int .i64 (kk : Int), .slice none 0 0, .int .i64 m] W fun e w' => ∃ P9 N9 K9, e = .returned (.agg #[.slice (P9 0) (N9 0) (K9 0), .slice (P9 1) (N9 1) (K9 1), .slice (P9 2) (N9 2) (K9 2), .slice (P9 3) (N9 3) (K9 3), .int .i64 m]) ∧ Hid (Cs w' P9 N9 K9 c2) ∧ Below w6.heap.size w6 w') := fun W hW =>
              (set_any W P' N' K' m c2 (HD6.out.below hW (Nat.le_refl _)) kk m none 0 0 [] (slK_nil _) rfl hlen (by decide)).mono fun e w' ⟨P9, N9, K9, h1, h2, h3⟩ => ⟨P9, N9, K9, by rw [h1, e2]; rfl, by rw [e1] at h2; exact h2.cs, hW.trans (h3.mono hW.size)⟩
            have HSm2 : Hid (∀ W P9 N9 K9, Hid (Cs W P9 N9 K9 c2) → Below w6.heap.size w6 W → Calls Try.prog 17 #[.agg #[.slice (P9 0) (N9 0) (K9 0), .slice (P9 1) (N9 1) (K9 1), .slice (P9 2) (N9 2) (K9 2), .slice (P9 3) (N9 3) (K9 3), .int .i64 m], .agg #[.slice (P' 0) (N' 0) (K' 0), .slice (P' 1) (N' 1) (K' 1), .slice (P' 2) (N' 2) (K' 2), .slice (P' 3) (N' 3) (K' 3), .int .i64 m]] W fun e w' => e = .returned (.bool true) ∧ Below w6.heap.size w6 w') := fun W P9 N9 K9 hc hW =>
              (same_any W P9 N9 K9 m c2 P' N' K' m c2 hc.out (HD6.out.below hW (Nat.le_refl _))).mono fun e w' ⟨h1, h2⟩ => ⟨by rw [h1, pgSame_refl], hW.trans (h2.mono hW.size)⟩
            have HS : Hid (∀ W, Below w6.heap.size w6 W → Below w6.heap.size w6 W ∧ W.cell? ⟨g14, 0, none⟩ = some (.slice (P' 0) (N' 0) (K' 0)) ∧ W.cell? ⟨g14, 1, none⟩ = some (.slice (P' 1) (N' 1) (K' 1)) ∧ W.cell? ⟨g14, 2, none⟩ = some (.slice (P' 2) (N' 2) (K' 2)) ∧ W.cell? ⟨g14, 3, none⟩ = some (.slice (P' 3) (N' 3) (K' 3)) ∧ W.cell? ⟨g14, 4, none⟩ = some (.int .i64 m)) := fun W hW => ⟨hW, pg5 ((hW.block _ hz7).trans HQ6.out)⟩
            have D0 := (Below.refl w6.heap.size w6).drew
            have wm : IntKind.i64.wrap m = m := IntWalk.i64_in _ (by omega)
            clear hlen hz7 hqf e1 e2 HW
            go_wp2_with fail
            go_region_held3 (fun W : World => Below w6.heap.size w6 W ∧ W.cell? ⟨g14, 0, none⟩ = some (.slice (P' 0) (N' 0) (K' 0)) ∧ W.cell? ⟨g14, 1, none⟩ = some (.slice (P' 1) (N' 1) (K' 1)) ∧ W.cell? ⟨g14, 2, none⟩ = some (.slice (P' 2) (N' 2) (K' 2)) ∧ W.cell? ⟨g14, 3, none⟩ = some (.slice (P' 3) (N' 3) (K' 3)) ∧ W.cell? ⟨g14, 4, none⟩ = some (.int .i64 m))
              (first | exact HS.out _ D0 | exact HS.out _ (by assumption))
              (first
                | (go_at_call 21; (with_reducible refine (HSet2.out _ (by first | exact D0 | assumption)).mono ?_); rintro e w7 ⟨P9, N9, K9, rfl, hco, hb7⟩)
                | (go_at_call 17; (with_reducible refine (HSm2.out _ _ _ _ (by assumption) (by assumption)).mono ?_); rintro e w8 ⟨rfl, hb8⟩))
            all_goals
              have HB8 := Lib.hid (HB6.out.trans (hb8.mono HB6.out.size))
              go_wp2
              go_ret
              exact ⟨rfl, HB8.out⟩
    · have hq' : setQ x i z = false := by simpa using hq
      have hc3 : madeC l = c2 := by rw [← HC2'.out, setC, if_neg hq]
      have hm3 : m = x := by rw [← HM'.out, setN, if_neg hq]
      subst hm3
      subst hc3
      clear HC2' HM'
      have hs := same_any w6 P N K m (madeC l) P' N' K' m (madeC l) HC6.out HD6.out
      rw [pgSame_refl] at hs
      have HSm := Lib.hid hs
      obtain ⟨d0, d1, d2, d3, d4⟩ := pg5 HP6.out
      obtain ⟨u0, u1, u2, u3, u4⟩ := pg5 HQ6.out
      have hz6 : g11 < w6.heap.size := (Array.getElem?_eq_some_iff.1 HP6.out).1
      have hz7 : g14 < w6.heap.size := (Array.getElem?_eq_some_iff.1 HQ6.out).1
      have HZ6 := Lib.hid hz6
      have HZ7 := Lib.hid hz7
      clear hs hz6 hz7
      have HT : Hid (∀ w7, Below w6.heap.size w6 w7 → w7.cell? ⟨g11, 4, none⟩ = some (.int .i64 m) ∧ w7.cell? ⟨g14, 4, none⟩ = some (.int .i64 m)) := fun w7 hb => ⟨(pg5 ((hb.block _ HZ6.out).trans HP6.out)).2.2.2.2, (pg5 ((hb.block _ HZ7.out).trans HQ6.out)).2.2.2.2⟩
      unfold setQ at hq'
      simp only [Bool.and_eq_false_iff, decide_eq_false_iff_not] at hq'
      clear hq d0 d1 d2 d3 d4 u0 u1 u2 u3 u4
      go_cut [52] (fun u wx => u = .bool true ∧ w6 = wx)
      case first =>
        by_cases a1 : z ≤ m
        · go_wp2
          go_meet
          first | exact ⟨rfl, rfl⟩ | (constructor <;> simp [*])
        · by_cases a2 : i < 0
          · go_wp2
            go_meet
            first | exact ⟨rfl, rfl⟩ | (constructor <;> simp [*])
          · have a3 : 4 ≤ i := by omega
            go_wp2
            go_meet
            first | exact ⟨rfl, rfl⟩ | (constructor <;> simp [*])
      case rest =>
        obtain ⟨rfl, rfl⟩ := hcut
        clear hq'
        obtain ⟨d0, d1, d2, d3, d4⟩ := pg5 HP6.out
        obtain ⟨u0, u1, u2, u3, u4⟩ := pg5 HQ6.out
        go_wp2_with fail
        refine HSm.out.mono ?_
        rintro e w7 ⟨rfl, hb⟩
        obtain ⟨t1, t2⟩ := HT.out w7 hb
        have HB7 := Lib.hid (HB6.out.trans (hb.mono HB6.out.size))
        clear hb d0 d1 d2 d3 d4 u0 u1 u2 u3 u4
        go_wp2
        go_ret
        exact ⟨rfl, HB7.out⟩

theorem own : ownKnob Try.prog.godebug = none := by kernel_rfl
theorem laidOut : laidOutB Try.prog = true := by kernel_rfl

set_option maxRecDepth 100000 in
theorem lifted (os : Os) (started : os.Started) (H : Type) (enc : TypeId × Value → H) :
    ReturnsInHanded {} Try.checked os 6 .any (Rows.leafSetsSpec.pre6 enc Try.prog Try.f6 Rows.leafSetsRow.domain false) (Rows.leafSetsSpec.post enc Try.prog Try.f6 false true false false) := by
  refine returnsInHanded_of_change (C := Try.checked) own started (by kernel_rfl) Try.func6
    (ChangeSpec.witness6 (enc := enc) (C := Try.checked) false ⟨#[], #[.slice none 0 0, .int .u16 0, .int .i64 0, .int .u8 0, .int .u16 0], []⟩ 8 (by kernel_rfl) (by kernel_rfl) (by kernel_rfl) (by kernel_rfl)) ?_
  intro W base args ds gs before hval0 hW hcnd _
  have hval : ∀ (j : Nat) t v, Try.f6.params[j]? = some t → args[j]? = some v → Value.okWide Try.prog W .any base t v := hval0
  have hW' := hW
  obtain ⟨p, q, hA0, hV, rfl, hfz, hnd⟩ := hW
  obtain ⟨rfl, rfl⟩ := trodVars_none hV
  have hA : DataW.TrodAll enc Try.prog W 0 (fun _ => true) true Try.f6.params.toList args.toList ds p := hA0
  rw [Try.params6] at hA hval
  obtain ⟨v0, vs0, d0, ds0, p0, q0, hargs, rfl, rfl, h0, r0⟩ := trodAll_cons hA
  obtain ⟨v1, vs1, d1, ds1, p1, q1, rfl, rfl, rfl, h1, r1⟩ := trodAll_cons r0
  obtain ⟨v2, vs2, d2, ds2, p2, q2, rfl, rfl, rfl, h2, r2⟩ := trodAll_cons r1
  obtain ⟨v3, vs3, d3, ds3, p3, q3, rfl, rfl, rfl, h3, r3⟩ := trodAll_cons r2
  obtain ⟨v4, vs4, d4, ds4, p4, q4, rfl, rfl, rfl, h4, r4⟩ := trodAll_cons r3
  obtain ⟨rfl, rfl, rfl⟩ := trodAll_nil r4
  obtain rfl : args = #[v0, v1, v2, v3, v4] := by cases args; simp_all
  have ok0 := hval 0 22 v0 rfl rfl
  obtain ⟨a1, rfl, rfl, rfl, w1⟩ := open_int Try.underlying45 (hval 1 45 v1 rfl rfl) h1
  obtain ⟨a2, rfl, rfl, rfl, w2⟩ := open_int Try.underlying3 (hval 2 3 v2 rfl rfl) h2
  obtain ⟨a3, rfl, rfl, rfl, w3⟩ := open_int Try.underlying5 (hval 3 5 v3 rfl rfl) h3
  obtain ⟨a4, rfl, rfl, rfl, w4⟩ := open_int Try.underlying45 (hval 4 45 v4 rfl rfl) h4
  obtain ⟨l, hl⟩ := open_sl Try.underlying22 Try.underlying5 (by kernel_rfl) ok0 h0
  have b1 := bounds_u16 w1
  have b3 := bounds_u8 w3
  have b4 := bounds_u16 w4
  refine (walk W v0 l hl a1 a2 a3 a4 b1.1 (by omega) b3.1 (by omega) b4.1 (by omega)).mono fun e W' ⟨he, hg⟩ => ?_
  subst he
  exact ⟨_, rfl, law_post laidOut Try.underlying4 rfl (by rw [Try.params6]; intro t ht; simp at ht; rcases ht with rfl | rfl | rfl | rfl | rfl <;> exact ⟨by kernel_rfl, of_decide_eq_true (by kernel_rfl)⟩) rfl hW' rfl hg⟩

theorem proved : Rows.LeafSetsSaid :=
  OpenClaim.holds_of_wide 6 Try.f6 rfl rfl rfl rfl rfl rfl rfl ⟨rfl, rfl, rfl, rfl, rfl⟩ rfl rfl rfl rfl rfl (by kernel_rfl) Try.func6 (by kernel_rfl)
    (of_decide_eq_true (by kernel_rfl)) (by unfold Func.isWrapper; first | (rw [if_pos (by decide +kernel)]; kernel_rfl) | (rw [if_neg (by decide +kernel)]; exact ⟨rfl, rfl⟩))
    (fun os started H enc _ => lifted os started H enc)
#print axioms proved

end Go.Proofs.Ytolfmgbkbmphkaa.leafSets
