/- LeafLent: for all numbers the law answers true; no condition. -/
import Derived.Test.YtolfmgbkbmphkaaLeafMade
import Derived.Deep.RegionHeld3
namespace Go.Proofs.Ytolfmgbkbmphkaa.leafLent
open Go.ChangeShapes Go.WideShapes Go.ChangeAt Go.RowKit

def Fin (w : World) (e : Ending) (w' : World) : Prop := e = .returned (.bool true) ∧ Below w.heap.size w w'
def xR : List Int := rowL ⟨#[120]⟩ ⟨#[]⟩ ⟨#[]⟩
theorem x_may : mayB ⟨#[120]⟩ ⟨#[]⟩ ⟨#[]⟩ = true := by decide
theorem sameB_refl (l : List Int) : sameB l l = true := decide_eq_true rfl
theorem pgSame_refl (c : Nat → List Int) (n : Int) : pgSame c c n n = true := by rw [pgSame_all (fun j _ => sameB_refl _)]; exact decide_eq_true rfl
theorem pgSame_num (c d : Nat → List Int) {n m : Int} (h : n ≠ m) : pgSame c d n m = false := by
  unfold pgSame; rw [decide_eq_false h, Bool.and_false]

set_option maxRecDepth 100000 in
set_option maxHeartbeats 4000000 in
theorem walk (w : World) (v : Value) (l : List Int) (hv : SlK .u8 w v l) (y : Int) (y0 : 0 ≤ y) (y1 : y < 256) :
    Calls Try.prog 9 #[v, .int .u8 y] w (Fin w) := by
  obtain ⟨kk, hkk⟩ : ∃ kk : Nat, y % 4 = (kk : Int) := ⟨(y % 4).toNat, by omega⟩
  have hk4 : kk < 4 := by omega
  have HV := Lib.hid hv
  obtain ⟨pv, cv, rfl, -⟩ := hv
  go_enter Try.func9, Try.ntmps9
  go_wp2_with fail
  refine (begun_true w).mono ?_
  rintro e w0 ⟨rfl, hb0⟩
  have HB0 := Lib.hid hb0
  clear hb0
  by_cases hl : 4 < l.length
  · go_wp2
    go_ret
    exact ⟨rfl, HB0.out⟩
  · have HM1 := Lib.hid (made_any w0 _ l 1 (HV.out.below HB0.out (Nat.le_refl _)) (by omega))
    have hl' : l.length ≤ 4 := by omega
    have HL := Lib.hid hl'
    go_wp2_with fail
    refine HM1.out.mono ?_
    rintro e w1 ⟨P, N, K, rfl, hcs, hb⟩
    have hb2 : Below w0.heap.size w0 (w1.alloc (pgO P N K 1)) := hb.alloc hb.size _
    have HB2 := Lib.hid (HB0.out.trans (hb2.mono HB0.out.size))
    have HC2 := Lib.hid (hcs.below (B := w1.heap.size) ((Below.refl _ _).alloc (Nat.le_refl _) (pgO P N K 1)) (Nat.le_refl _))
    have HP2 := Lib.hid (heap_alloc_new w1 (pgO P N K 1))
    have HZ2 : Hid (w1.heap.size < (w1.alloc (pgO P N K 1)).heap.size) := by show _ < _; simp
    clear hb hb2 hcs HM1 HB0
    unfold pgV
    go_upto_region 6 with (fail)
    show Code.wp _ _ _ _ (w1.alloc (pgO P N K 1))
    generalize w1.alloc (pgO P N K 1) = w2 at *
    generalize w1.heap.size = g5 at *
    have HRow : Hid (Calls Try.prog 20 #[.agg #[.string ⟨#[120]⟩, .string ⟨#[]⟩, .string ⟨#[]⟩]] w2 fun e w' => ∃ x, e = .returned (.tuple #[x, .int .i64 0]) ∧ w'.ownsRow w2.heap.size 5 1 x 26 (byteV xR) ∧ Below w2.heap.size w2 w') := rrow_ok w2 _ _ _ x_may
    have HMl : Hid (xR.length = 26) := rowL_len x_may
    have HMo : Hid (bytesOk xR) := rowL_ok x_may
    go_wp2_with fail
    refine HRow.out.mono ?_
    rintro e w4 ⟨v4, rfl, ho, hb⟩
    obtain ⟨gr, cr, rfl, hgr, hgr2, hcr, -, -, hrc⟩ := own_pt ho (by omega)
    have HB4 := Lib.hid hb
    have HP4 := Lib.hid ((hb.block _ HZ2.out).trans HP2.out)
    have HZ4 := Lib.hid (Nat.lt_of_lt_of_le HZ2.out hb.size)
    have HC4 := Lib.hid (HC2.out.below hb (Nat.le_refl _))
    have HS4 := Lib.hid (own_slK ho HMo.out)
    have HG := Lib.hid hgr
    have HG2 := Lib.hid hgr2
    have HO4 := Lib.hid ho
    clear hb HRow hrc hgr hgr2 ho
    have hset := set_any w4 P N K 1 (madeC l) HC4.out kk 2 (some ⟨gr, 0, none⟩) 26 cr xR HS4.out HMl.out.symm (fun j _ => by have := (madeC_rd l j).2.2.2; omega) (by rw [HMl.out]; decide)
    have hq : setQ 1 (kk : Int) 2 = true := by unfold setQ; simp; omega
    have e1 : setC (madeC l) 1 kk 2 xR = upd (madeC l) kk xR := by unfold setC; rw [if_pos hq, Int.toNat_natCast]
    have e2 : setN 1 (kk : Int) 2 = 2 := by unfold setN; rw [if_pos hq]
    rw [e1, e2] at hset
    have HSet := Lib.hid hset
    obtain ⟨d0, d1, d2, d3, d4⟩ := pg5 HP4.out
    have km : (kk : Int) < 4 := by omega
    clear hset hq e1 e2
    go_wp2_with fail
    refine HSet.out.mono ?_
    rintro e w5 ⟨P', N', K', rfl, hco, hb⟩
    have hb6 : Below w4.heap.size w4 (w5.alloc (pgO P' N' K' 2)) := hb.alloc hb.size _
    have hne : gr ≠ w5.heap.size := by have := HG2.out; have := hb.size; omega
    have hbs : Below w2.heap.size w2 ((w5.alloc (pgO P' N' K' 2)).setCell ⟨gr, 3, none⟩ (.int .u8 9)) := (HB4.out.trans (hb6.mono HB4.out.size)).setCell (p := ⟨gr, 3, none⟩) HG.out _
    have HB7 := Lib.hid (HB2.out.trans (hbs.mono HB2.out.size))
    have HC7 := Lib.hid (HC2.out.below hbs (Nat.le_refl _))
    have HP7 := Lib.hid ((hbs.block _ HZ2.out).trans HP2.out)
    have HQ7 : Hid (((w5.alloc (pgO P' N' K' 2)).setCell ⟨gr, 3, none⟩ (.int .u8 9)).heap[w5.heap.size]? = some (pgO P' N' K' 2)) := (Below.heap_setCell _ _ _ _ (fun e => hne e.symm)).trans (heap_alloc_new w5 (pgO P' N' K' 2))
    have HD7 : Hid (Cs ((w5.alloc (pgO P' N' K' 2)).setCell ⟨gr, 3, none⟩ (.int .u8 9)) P' N' K' (upd (madeC l) kk xR)) := fun j hj => by
      obtain ⟨a1, a2, a3⟩ := hco j hj
      exact ⟨a1, own_slK (own_set (own_below a2 ((Below.refl _ _).alloc (Nat.le_refl _) _)) HG2.out) a3⟩
    have hrow := own_pt (own_below HO4.out hb6) (by omega)
    obtain ⟨gr', cr', eq1, -, -, -, -, hlen, hcc⟩ := hrow
    injection eq1 with eq1 eq2 eq3
    injection eq1 with eq1
    injection eq1 with eq1
    subst eq1
    have r3 : (w5.alloc (pgO P' N' K' 2)).cell? ⟨gr, 3, none⟩ = some (.int .u8 (xR[3]'(by rw [hlen]; decide))) := hcc 3 (by rw [hlen]; decide)
    have f3 : (w5.alloc (pgO P' N' K' 2)).frozen? ⟨gr, 3, none⟩ = false := by
      obtain ⟨_, ⟨e, _⟩ | ⟨q, cap, cur, e, _, hq, _⟩⟩ := own_below HO4.out hb6
      · cases e
      · injection e with e1
        injection e1 with e1
        injection e1 with e1
        subst e1
        exact (cell_of hq 3).2
    clear hb hb6 hbs hco hcc eq2 eq3 HSet HB2 HC2 HP2 HB4 HC4 HP4 HS4 HO4 HG d0 d1 d2 d3 d4 hne
    unfold pgV
    go_upto_region 9 with (fail)
    show Code.wp _ _ _ _ (w5.alloc (pgO P' N' K' 2))
    go_upto_region 10 with (fail)
    clear r3 f3 HG2
    show Code.wp _ _ _ _ ((w5.alloc (pgO P' N' K' 2)).setCell ⟨gr, 3, none⟩ (.int .u8 9))
    have hz9 : w5.heap.size < ((w5.alloc (pgO P' N' K' 2)).setCell ⟨gr, 3, none⟩ (.int .u8 9)).heap.size := by simp
    have HZ9 := Lib.hid hz9
    clear hz9
    generalize (w5.alloc (pgO P' N' K' 2)).setCell ⟨gr, 3, none⟩ (.int .u8 9) = w7 at *
    generalize w5.heap.size = g9 at *
    have HRow2 : Hid (Calls Try.prog 20 #[.agg #[.string ⟨#[120]⟩, .string ⟨#[]⟩, .string ⟨#[]⟩]] w7 fun e w' => ∃ x, e = .returned (.tuple #[x, .int .i64 0]) ∧ w'.ownsRow w7.heap.size 5 1 x 26 (byteV xR) ∧ Below w7.heap.size w7 w') := rrow_ok w7 _ _ _ x_may
    go_wp2_with fail
    refine HRow2.out.mono ?_
    rintro e w8 ⟨v8, rfl, ho, hb⟩
    have hz5 : g5 < w7.heap.size := (Array.getElem?_eq_some_iff.1 HP7.out).1
    have HB8 := Lib.hid (HB7.out.trans (hb.mono HB7.out.size))
    have HC8 := Lib.hid (HC7.out.below hb (Nat.le_refl _))
    have HD8 := Lib.hid (HD7.out.below hb (Nat.le_refl _))
    have HP8 := Lib.hid ((hb.block _ hz5).trans HP7.out)
    have HQ8 := Lib.hid ((hb.block _ HZ9.out).trans HQ7.out)
    have HS8 := Lib.hid (own_slK ho HMo.out)
    obtain ⟨p8, q8, rfl⟩ := own_sl ho
    have hz5' : g5 < w8.heap.size := Nat.lt_of_lt_of_le hz5 hb.size
    have hz9' : g9 < w8.heap.size := Nat.lt_of_lt_of_le HZ9.out hb.size
    have HZ5 := Lib.hid hz5'
    have HZ9' := Lib.hid hz9'
    clear ho hb HRow2 HB7 HC7 HD7 HP7 HQ7 hz5 hz5' hz9' HZ9
    have hkx : SlK .u8 w8 (.slice (P' kk) (N' kk) (K' kk)) xR := by
      have := (HD8.out kk hk4).2
      rw [show upd (madeC l) kk xR kk = xR from if_pos rfl] at this
      exact this
    have HKx := Lib.hid hkx
    have HMd : Hid (∀ W, Below w8.heap.size w8 W → Calls Try.prog 18 #[.slice pv l.length cv, .int .i64 1] W fun e w' => ∃ P9 N9 K9, e = .returned (.agg #[.slice (P9 0) (N9 0) (K9 0), .slice (P9 1) (N9 1) (K9 1), .slice (P9 2) (N9 2) (K9 2), .slice (P9 3) (N9 3) (K9 3), .int .i64 1]) ∧ Hid (Cs w' P9 N9 K9 (madeC l)) ∧ Below w8.heap.size w8 w') := fun W hW =>
      (made_any W _ l 1 (HV.out.below (HB8.out.trans (hW.mono HB8.out.size)) (Nat.le_refl _)) HL.out).mono fun e w' ⟨P9, N9, K9, h1, h2, h3⟩ => ⟨P9, N9, K9, h1, h2, hW.trans (h3.mono hW.size)⟩
    have HSm1 : Hid (∀ W P9 N9 K9, Hid (Cs W P9 N9 K9 (madeC l)) → Below w8.heap.size w8 W → Calls Try.prog 17 #[.agg #[.slice (P 0) (N 0) (K 0), .slice (P 1) (N 1) (K 1), .slice (P 2) (N 2) (K 2), .slice (P 3) (N 3) (K 3), .int .i64 1], .agg #[.slice (P9 0) (N9 0) (K9 0), .slice (P9 1) (N9 1) (K9 1), .slice (P9 2) (N9 2) (K9 2), .slice (P9 3) (N9 3) (K9 3), .int .i64 1]] W fun e w' => e = .returned (.bool true) ∧ Below w8.heap.size w8 w') := fun W P9 N9 K9 hc hW =>
      (same_any W P N K 1 (madeC l) P9 N9 K9 1 (madeC l) (HC8.out.below hW (Nat.le_refl _)) hc.out).mono fun e w' ⟨h1, h2⟩ => ⟨by rw [h1, pgSame_refl], hW.trans (h2.mono hW.size)⟩
    have HSm2 : Hid (∀ W, Below w8.heap.size w8 W → Calls Try.prog 17 #[.agg #[.slice (P 0) (N 0) (K 0), .slice (P 1) (N 1) (K 1), .slice (P 2) (N 2) (K 2), .slice (P 3) (N 3) (K 3), .int .i64 1], .agg #[.slice (P' 0) (N' 0) (K' 0), .slice (P' 1) (N' 1) (K' 1), .slice (P' 2) (N' 2) (K' 2), .slice (P' 3) (N' 3) (K' 3), .int .i64 2]] W fun e w' => e = .returned (.bool false) ∧ Below w8.heap.size w8 w') := fun W hW =>
      (same_any W P N K 1 (madeC l) P' N' K' 2 _ (HC8.out.below hW (Nat.le_refl _)) (HD8.out.below hW (Nat.le_refl _))).mono fun e w' ⟨h1, h2⟩ => ⟨by rw [h1, pgSame_num _ _ (by decide)], hW.trans (h2.mono hW.size)⟩
    have HS : Hid (∀ W, Below w8.heap.size w8 W → Below w8.heap.size w8 W ∧ W.cell? ⟨g9, kk, none⟩ = some (.slice (P' kk) (N' kk) (K' kk)) ∧
        ((convert 22 9 (.slice (P' kk) (N' kk) (K' kk))).run Try.prog W = .ok (.string (bstr xR)) W ∧ (convert 22 9 (.slice p8 26 q8)).run Try.prog W = .ok (.string (bstr xR)) W) ∧
        (W.cell? ⟨g5, 0, none⟩ = some (.slice (P 0) (N 0) (K 0)) ∧ W.cell? ⟨g5, 1, none⟩ = some (.slice (P 1) (N 1) (K 1)) ∧ W.cell? ⟨g5, 2, none⟩ = some (.slice (P 2) (N 2) (K 2)) ∧ W.cell? ⟨g5, 3, none⟩ = some (.slice (P 3) (N 3) (K 3)) ∧ W.cell? ⟨g5, 4, none⟩ = some (.int .i64 1)) ∧
        (W.cell? ⟨g9, 0, none⟩ = some (.slice (P' 0) (N' 0) (K' 0)) ∧ W.cell? ⟨g9, 1, none⟩ = some (.slice (P' 1) (N' 1) (K' 1)) ∧ W.cell? ⟨g9, 2, none⟩ = some (.slice (P' 2) (N' 2) (K' 2)) ∧ W.cell? ⟨g9, 3, none⟩ = some (.slice (P' 3) (N' 3) (K' 3)) ∧ W.cell? ⟨g9, 4, none⟩ = some (.int .i64 2))) := fun W hW =>
      ⟨hW, (pg_cell ((hW.block _ HZ9'.out).trans HQ8.out)).1 kk hk4, ⟨conv_slK (HKx.out.below hW (Nat.le_refl _)), conv_slK (HS8.out.below hW (Nat.le_refl _))⟩, pg5 ((hW.block _ HZ5.out).trans HP8.out), pg5 ((hW.block _ HZ9'.out).trans HQ8.out)⟩
    have D0 := (Below.refl w8.heap.size w8).drew
    clear HV HL HMl HMo HC8 HD8 HP8 HQ8 HS8 HZ5 HZ9' hkx HKx hkk y0 y1 hl hl'
    generalize bstr xR = X at *
    go_wp2_with fail
    go_region_held3 (fun W : World => Below w8.heap.size w8 W ∧ W.cell? ⟨g9, kk, none⟩ = some (.slice (P' kk) (N' kk) (K' kk)) ∧
        ((convert 22 9 (.slice (P' kk) (N' kk) (K' kk))).run Try.prog W = .ok (.string X) W ∧ (convert 22 9 (.slice p8 26 q8)).run Try.prog W = .ok (.string X) W) ∧
        (W.cell? ⟨g5, 0, none⟩ = some (.slice (P 0) (N 0) (K 0)) ∧ W.cell? ⟨g5, 1, none⟩ = some (.slice (P 1) (N 1) (K 1)) ∧ W.cell? ⟨g5, 2, none⟩ = some (.slice (P 2) (N 2) (K 2)) ∧ W.cell? ⟨g5, 3, none⟩ = some (.slice (P 3) (N 3) (K 3)) ∧ W.cell? ⟨g5, 4, none⟩ = some (.int .i64 1)) ∧
        (W.cell? ⟨g9, 0, none⟩ = some (.slice (P' 0) (N' 0) (K' 0)) ∧ W.cell? ⟨g9, 1, none⟩ = some (.slice (P' 1) (N' 1) (K' 1)) ∧ W.cell? ⟨g9, 2, none⟩ = some (.slice (P' 2) (N' 2) (K' 2)) ∧ W.cell? ⟨g9, 3, none⟩ = some (.slice (P' 3) (N' 3) (K' 3)) ∧ W.cell? ⟨g9, 4, none⟩ = some (.int .i64 2)))
      (first | exact HS.out _ D0 | exact HS.out _ (by assumption))
      (first
        | (go_at_call 18; (with_reducible refine (HMd.out _ (by first | exact D0 | assumption)).mono ?_); rintro e w9 ⟨P9, N9, K9, rfl, hco, hb9⟩)
        | (go_at_call 17; (with_reducible refine (HSm2.out _ (by first | assumption | exact D0)).mono ?_); rintro e wb ⟨rfl, hbb⟩)
        | (go_at_call 17; (with_reducible refine (HSm1.out _ _ _ _ (by assumption) (by assumption)).mono ?_); rintro e wa ⟨rfl, hba⟩))
    all_goals
      have HBf := Lib.hid (HB8.out.trans (hbb.mono HB8.out.size))
      go_wp2
      go_ret
      exact ⟨rfl, HBf.out⟩

theorem own : ownKnob Try.prog.godebug = none := by kernel_rfl
theorem laidOut : laidOutB Try.prog = true := by kernel_rfl

set_option maxRecDepth 100000 in
theorem lifted (os : Os) (started : os.Started) (H : Type) (enc : TypeId × Value → H) :
    ReturnsInHanded {} Try.checked os 9 .any (Rows.leafLentSpec.pre6 enc Try.prog Try.f9 Rows.leafLentRow.domain false) (Rows.leafLentSpec.post enc Try.prog Try.f9 false true false false) := by
  refine returnsInHanded_of_change (C := Try.checked) own started (by kernel_rfl) Try.func9
    (ChangeSpec.witness6 (enc := enc) (C := Try.checked) false ⟨#[], #[.slice none 0 0, .int .u8 0], []⟩ 8 (by kernel_rfl) (by kernel_rfl) (by kernel_rfl) (by kernel_rfl)) ?_
  intro W base args ds gs before hval0 hW hcnd _
  have hval : ∀ (j : Nat) t v, Try.f9.params[j]? = some t → args[j]? = some v → Value.okWide Try.prog W .any base t v := hval0
  have hW' := hW
  obtain ⟨p, q, hA0, hV, rfl, hfz, hnd⟩ := hW
  obtain ⟨rfl, rfl⟩ := trodVars_none hV
  have hA : DataW.TrodAll enc Try.prog W 0 (fun _ => true) true Try.f9.params.toList args.toList ds p := hA0
  rw [Try.params9] at hA hval
  obtain ⟨v0, vs0, d0, ds0, p0, q0, hargs, rfl, rfl, h0, r0⟩ := trodAll_cons hA
  obtain ⟨v1, vs1, d1, ds1, p1, q1, rfl, rfl, rfl, h1, r1⟩ := trodAll_cons r0
  obtain ⟨rfl, rfl, rfl⟩ := trodAll_nil r1
  obtain rfl : args = #[v0, v1] := by cases args; simp_all
  have ok0 := hval 0 22 v0 rfl rfl
  obtain ⟨a1, rfl, rfl, rfl, w1⟩ := open_int Try.underlying5 (hval 1 5 v1 rfl rfl) h1
  obtain ⟨l, hl⟩ := open_sl Try.underlying22 Try.underlying5 (by kernel_rfl) ok0 h0
  have b1 := bounds_u8 w1
  refine (walk W v0 l hl a1 b1.1 (by omega)).mono fun e W' ⟨he, hg⟩ => ?_
  subst he
  exact ⟨_, rfl, law_post laidOut Try.underlying4 rfl (by rw [Try.params9]; intro t ht; simp at ht; rcases ht with rfl | rfl <;> exact ⟨by kernel_rfl, of_decide_eq_true (by kernel_rfl)⟩) rfl hW' rfl hg⟩

theorem proved : Rows.LeafLentSaid :=
  OpenClaim.holds_of_wide 9 Try.f9 rfl rfl rfl rfl rfl rfl rfl ⟨rfl, rfl, rfl, rfl, rfl⟩ rfl rfl rfl rfl rfl (by kernel_rfl) Try.func9 (by kernel_rfl)
    (of_decide_eq_true (by kernel_rfl)) (by unfold Func.isWrapper; first | (rw [if_pos (by decide +kernel)]; kernel_rfl) | (rw [if_neg (by decide +kernel)]; exact ⟨rfl, rfl⟩))
    (fun os started H enc _ => lifted os started H enc)
#print axioms proved

end Go.Proofs.Ytolfmgbkbmphkaa.leafLent
