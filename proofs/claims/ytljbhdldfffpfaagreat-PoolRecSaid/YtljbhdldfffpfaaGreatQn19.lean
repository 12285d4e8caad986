/- PoolNone, a part. -/
import Derived.Test.YtljbhdldfffpfaaGreatQn18
import Derived.Deep.CutBlock
import Derived.Deep.DeepCutAuto
namespace Go.Proofs.YtljbhdldfffpfaaGreat
open Go.RowKit

/-- The body of the frame at the beginning, if there is one. -/
def unN (l : List Int) : Nat := (l.headD 0 * 256 + (l.drop 1).headD 0).toNat
def unf (l : List Int) : Option (List Int) :=
  if l.length < 2 then none else
  if l.length < unN l + 4 then none else
  if (l.drop (2 + unN l)).headD 0 = (sumP ((l.drop 2).take (unN l))).1 ∧ (l.drop (3 + unN l)).headD 0 = (sumP ((l.drop 2).take (unN l))).2 ∧ tkB ((l.drop 2).take (unN l)) = true then some ((l.drop 2).take (unN l)) else none
def ufE (l : List Int) : Ent := match unf l with | some b => tkE b | none => ent00
def ufN (l : List Int) : Int := match unf l with | some b => (b.length : Int) + 4 | none => 0
def ufB (l : List Int) : Bool := (unf l).isSome
theorem uf_none {l : List Int} (h : unf l = none) : ufE l = ent00 ∧ ufN l = 0 ∧ ufB l = false := by unfold ufE ufN ufB; rw [h]; exact ⟨rfl, rfl, rfl⟩
theorem uf_some {l b : List Int} (h : unf l = some b) : ufE l = tkE b ∧ ufN l = (b.length : Int) + 4 ∧ ufB l = true := by unfold ufE ufN ufB; rw [h]; exact ⟨rfl, rfl, rfl⟩
def UfPost (w : World) (l : List Int) (r : Ending) (w' : World) : Prop := ∃ A1 n1 c1 A2 n2 c2 A3 n3 c3 A4 n4 c4 A5 n5 c5 A6 n6 c6, r = .returned (.tuple #[.agg (entC (ufE l) (.slice A1 n1 c1) (.slice A2 n2 c2) (.slice A3 n3 c3) (.slice A4 n4 c4) (.slice A5 n5 c5) (.slice A6 n6 c6)), .int .i64 (ufN l), .bool (ufB l)]) ∧ EntF w' (w.heap.size + 1) (.slice A1 n1 c1) (.slice A2 n2 c2) (.slice A3 n3 c3) (.slice A4 n4 c4) (.slice A5 n5 c5) (.slice A6 n6 c6) (ufE l) ∧ Below w.heap.size w w'
theorem un_end {w : World} {tmps : Array Value} {g : Nat} {cs : Array Value} {n : Int} {b : Bool} (h2 : tmps.getD 2 undef = .pointer (some ⟨g, 0, none⟩)) (h3 : tmps.getD 3 undef = .int .i64 n) (h4 : tmps.getD 4 undef = .bool b) (hb : w.heap[g]? = some (.cells cs 55 (0, 0))) (hs : cs.size = 16) :
    (results Tryz.f70 tmps).run Tryz.prog w = .ok (.tuple #[.agg cs, .int .i64 n, .bool b]) w := by
  rw [Array.getD_eq_getD_getElem?] at h2 h3 h4
  have hl := run_loadVar_row (P := Tryz.prog) w g 55 55 cs (0, 0) _ hb Tryz.underlying55 rfl (by rw [infoEnt, hs])
  simp [results, Tryz.results70, h2, h3, h4, asAddr, hl]
theorem uf_fin {w W : World} {l : List Int} {c0 : Array Value} (hb : Below w.heap.size w W) (hx : W.heap[w.heap.size]? = some (.cells c0 55 (0, 0))) (h : unf l = none) : UfPost w l (.returned (.tuple #[.agg ent0, .int .i64 0, .bool false])) (W.setRow w.heap.size #[.int .i64 0, .int .i64 0, .int .i64 0, .int .i64 0, .int .i64 0, .int .i64 0, .int .i64 0, .int .i64 0, .int .i64 0, .int .i64 0, .slice none 0 0, .slice none 0 0, .slice none 0 0, .slice none 0 0, .slice none 0 0, .slice none 0 0]) ∧ (W.setRow w.heap.size #[.int .i64 0, .int .i64 0, .int .i64 0, .int .i64 0, .int .i64 0, .int .i64 0, .int .i64 0, .int .i64 0, .int .i64 0, .int .i64 0, .slice none 0 0, .slice none 0 0, .slice none 0 0, .slice none 0 0, .slice none 0 0, .slice none 0 0]).heap[w.heap.size]? = some (.cells #[.int .i64 0, .int .i64 0, .int .i64 0, .int .i64 0, .int .i64 0, .int .i64 0, .int .i64 0, .int .i64 0, .int .i64 0, .int .i64 0, .slice none 0 0, .slice none 0 0, .slice none 0 0, .slice none 0 0, .slice none 0 0, .slice none 0 0] 55 (0, 0)) := by
  obtain ⟨e1, e2, e3⟩ := uf_none h
  exact ⟨⟨none, 0, 0, none, 0, 0, none, 0, 0, none, 0, 0, none, 0, 0, none, 0, 0, by rw [e1, e2, e3]; rfl, by rw [e1]; exact ent0_F _ _, hb.trans (setRow_below _ _ _ (Nat.le_refl _))⟩, setRow_heap W w.heap.size c0 #[.int .i64 0, .int .i64 0, .int .i64 0, .int .i64 0, .int .i64 0, .int .i64 0, .int .i64 0, .int .i64 0, .int .i64 0, .int .i64 0, .slice none 0 0, .slice none 0 0, .slice none 0 0, .slice none 0 0, .slice none 0 0, .slice none 0 0] _ _ hx⟩

set_option maxRecDepth 100000 in
set_option maxHeartbeats 1000000 in
theorem unframe_any (w : World) {sv : Value} {l : List Int} (h : SlK .u8 w sv l) (hl : l.length ≤ 126000) : Calls Tryz.prog 70 #[sv] w (UfPost w l) := by
  obtain ⟨A, c, rfl, hlc⟩ := h.form
  obtain ⟨W, hW⟩ : ∃ W, W = w.alloc (.cells ent0 55) := ⟨_, rfl⟩
  have hb0 : Below w.heap.size w W := by rw [hW]; exact (Below.refl _ _).alloc (Nat.le_refl _) _
  have hx : W.heap[w.heap.size]? = some (.cells ent0 55 (0, 0)) := by rw [hW]; exact heap_alloc_new w _
  have hqw : w.heap.size < W.heap.size := (Array.getElem?_eq_some_iff.1 hx).1
  have HS := Lib.hid (h.below hb0 (Nat.le_refl _))
  have HB := Lib.hid hb0
  have HX := Lib.hid hx
  have HQ := Lib.hid hqw
  have HN0 := Lib.hid (show ent0.size = (#[.int .i64 0, .int .i64 0, .int .i64 0, .int .i64 0, .int .i64 0, .int .i64 0, .int .i64 0, .int .i64 0, .int .i64 0, .int .i64 0, .slice none 0 0, .slice none 0 0, .slice none 0 0, .slice none 0 0, .slice none 0 0, .slice none 0 0] : Array Value).size from rfl)
  have HI0 := Lib.hid (show (Tryz.prog.info? 55).map (·.size) = some (#[.int .i64 0, .int .i64 0, .int .i64 0, .int .i64 0, .int .i64 0, .int .i64 0, .int .i64 0, .int .i64 0, .int .i64 0, .int .i64 0, .slice none 0 0, .slice none 0 0, .slice none 0 0, .slice none 0 0, .slice none 0 0, .slice none 0 0] : Array Value).size from infoEnt)
  have HA0 := Lib.hid (show (#[.int .i64 0, .int .i64 0, .int .i64 0, .int .i64 0, .int .i64 0, .int .i64 0, .int .i64 0, .int .i64 0, .int .i64 0, .int .i64 0, .slice none 0 0, .slice none 0 0, .slice none 0 0, .slice none 0 0, .slice none 0 0, .slice none 0 0] : Array Value).all (·.oneCell') = true from by simp [Value.oneCell'])
  clear h hb0 hx hqw
  go_enter Tryz.func70, Tryz.ntmps70
  go_upto_region 1 with (fail)
  show Code.wp _ _ _ _ (w.alloc (.cells ent0 55))
  rw [← hW]
  clear hW
  by_cases h2 : l.length < 2
  · have HF := Lib.hid (uf_fin HB.out HX.out (if_pos h2))
    have h2i : (l.length : Int) < 2 := by omega
    clear HS
    go_wp2_with (with_reducible refine wpList_store_row rfl 55 (.tmp 2) (.tmp 13) rfl w.heap.size _ rfl rfl 55 _ HX.out HI0.out HN0.out HA0.out ?_)
    refine bodyPost_ret (v := .tuple #[.agg ent0, .int .i64 0, .bool false]) ?_ rfl HF.out.1
    exact un_end rfl rfl rfl HF.out.2 rfl
  · obtain ⟨x, y, r, hxy⟩ : ∃ x y r, l = x :: y :: r := by
      match l, h2 with
      | [], h => simp at h
      | [_], h => simp at h
      | x :: y :: r, _ => exact ⟨x, y, r, rfl⟩
    have hx := HS.out.ok x (by rw [hxy]; simp)
    have hy := HS.out.ok y (by rw [hxy]; simp)
    obtain ⟨b', o', c', e, _, _, h3⟩ := id (HS.out.pt (by rw [hxy]; simp))
    injection e with e1 e2 e3
    subst e1 e3
    have c0 : W.cell? ⟨b', o', none⟩ = some (.int .u8 x) := by have := h3 0 (by rw [hxy]; simp); simpa [hxy] using this
    have c1 : W.cell? ⟨b', o' + 1, none⟩ = some (.int .u8 y) := by have := h3 1 (by rw [hxy]; simp); simpa [hxy] using this
    have d0 : W.drew.cell? ⟨b', o', none⟩ = some (.int .u8 x) := c0
    have d1 : W.drew.cell? ⟨b', o' + 1, none⟩ = some (.int .u8 y) := c1
    have h2i : ¬ (l.length : Int) < 2 := by omega
    have i1 : (0 : Int) < (l.length : Int) := by omega
    have i2 : (1 : Int) < (l.length : Int) := by omega
    have i3 : 0 < l.length := by omega
    have i4 : 1 < l.length := by omega
    have t1 : IntKind.i64.wrap x = x := IntWalk.i64_in _ (by omega)
    have t2 : IntKind.i64.wrap y = y := IntWalk.i64_in _ (by omega)
    obtain ⟨N, hN⟩ : ∃ N : Nat, x * 256 + y = (N : Int) := ⟨(x * 256 + y).toNat, by omega⟩
    have hun : unN l = N := by unfold unN; rw [hxy]; show (x * 256 + y).toNat = N; omega
    obtain ⟨E, hE⟩ : ∃ E : Nat, E = 2 + N := ⟨_, rfl⟩
    have t3 : bits BinOp.or IntKind.i64 (x * 256) y = (N : Int) := by rw [or_add x y hx.1 (by omega) hy.1 hy.2]; exact hN
    have hNb : (N : Int) ≤ 66000 := by omega
    have hEi : Hid (2 + (N : Int) = (E : Int)) := Lib.hid (by omega)
    have HUN := Lib.hid hun
    have HE := Lib.hid hE
    have hEb : (E : Int) ≤ 66002 := by omega
    have hlen2 : 2 ≤ l.length := by omega
    have HL2 := Lib.hid hlen2
    have HCELL : Hid (∀ k (hk : k < l.length), W.cell? ⟨b', o' + k, none⟩ = some (.int .u8 l[k])) := Lib.hid h3
    clear h3 e2 hxy hN hun hE hlen2 h2
    go_upto_region 3 with (fail)
    go_region
    rw [hEi.out]
    have hbd : Below w.heap.size w W.drew := HB.out.drew
    have hxd : W.drew.heap[w.heap.size]? = some (.cells ent0 55 (0, 0)) := HX.out
    have hsd : SlK .u8 W.drew (.slice (some ⟨b', o', none⟩) l.length c) l := HS.out.below ((Below.refl _ _).drew) (Nat.le_refl _)
    have HCELL2 : Hid (∀ k (hk : k < l.length), W.drew.cell? ⟨b', o' + k, none⟩ = some (.int .u8 l[k])) := HCELL
    have HBD := Lib.hid hbd
    have HXD := Lib.hid hxd
    have HSD := Lib.hid hsd
    have HQD : Hid (w.heap.size < W.drew.heap.size) := HQ
    clear c0 c1 d0 d1 t1 t2 t3 hbd hxd hsd HS HB HX HQ HCELL h2i i1 i2 i3 i4 hx hy
    generalize W.drew = V at *
    by_cases h4 : l.length < E + 2
    · have hnone : unf l = none := by
        unfold unf
        rw [if_neg (by have := HL2.out; omega), if_pos (by rw [HUN.out]; have := HE.out; omega)]
      have HF := Lib.hid (uf_fin HBD.out HXD.out hnone)
      have h4i : (l.length : Int) < (E : Int) + 2 := by omega
      clear hnone
      go_wp2_with (with_reducible refine wpList_store_row rfl 55 (.tmp 2) (.tmp 30) rfl w.heap.size _ rfl rfl 55 _ HXD.out HI0.out HN0.out HA0.out ?_)
      refine bodyPost_ret (v := .tuple #[.agg ent0, .int .i64 0, .bool false]) ?_ rfl HF.out.1
      exact un_end rfl rfl rfl HF.out.2 rfl
    · have h4i : ¬ (l.length : Int) < (E : Int) + 2 := by omega
      obtain ⟨B, hB⟩ : ∃ B, B = (l.drop 2).take N := ⟨_, rfl⟩
      have hBl : B.length = N := by rw [hB, List.length_take, List.length_drop]; have := HE.out; omega
      have hsb : SlK .u8 V (.slice (some ⟨b', o' + 2, none⟩) N (c - 2)) B := by
        rw [hB]
        exact (HSD.out.rest (k := 2) HL2.out).2.1.pre (by have := HE.out; omega)
      have HSB := Lib.hid hsb
      have HSU := Lib.hid (sums_any V hsb (by have := HE.out; omega))
      have hpq := sumP_bd B
      have e1 := HCELL2.out E (by omega)
      have e2 := HCELL2.out (E + 1) (by omega)
      obtain ⟨u, hu⟩ : ∃ u, u = l[E]'(by omega) := ⟨_, rfl⟩
      obtain ⟨v, hv⟩ : ∃ v, v = l[E + 1]'(by omega) := ⟨_, rfl⟩
      rw [← hu] at e1
      rw [← hv] at e2
      have e3 : V.cell? ⟨b', o' + E + 1, none⟩ = some (.int .u8 v) := by rw [Nat.add_assoc]; exact e2
      have hcond : unf l = if u = (sumP B).1 ∧ v = (sumP B).2 ∧ tkB B = true then some B else none := by
        unfold unf
        rw [if_neg (by have := HL2.out; omega), if_neg (by rw [HUN.out]; have := HE.out; omega), HUN.out, ← hB]
        have w1 : (l.drop (2 + N)).headD 0 = u := by
          rw [← HE.out, hu, List.drop_eq_getElem_cons (by omega)]; rfl
        have w2 : (l.drop (3 + N)).headD 0 = v := by
          rw [show 3 + N = E + 1 by have := HE.out; omega, hv, List.drop_eq_getElem_cons (by omega)]; rfl
        rw [w1, w2]
      obtain ⟨P, hP⟩ : ∃ P, P = (sumP B).1 := ⟨_, rfl⟩
      obtain ⟨Q, hQ⟩ : ∃ Q, Q = (sumP B).2 := ⟨_, rfl⟩
      rw [← hP, ← hQ] at hpq HSU hcond
      have HCO := Lib.hid hcond
      have HBL := Lib.hid hBl
      have k1 : (E : Int) < (l.length : Int) := by omega
      have k2 : (E : Int) + 1 < (l.length : Int) := by omega
      have k3 : E < l.length := by omega
      have k4 : E + 1 < l.length := by omega
      have k5 : (E : Int) ≤ (c : Int) := by omega
      have k6 : E ≤ c := by omega
      have k7 : 2 ≤ E := by have := HE.out; omega
      have k8 : (2 : Int) ≤ (E : Int) := by omega
      have k9 : E - 2 = N := by have := HE.out; omega
      clear hcond hB hBl hsb hu hv hP hQ h4
      go_upto_region 7 with (fail)
      go_wp2_with fail
      refine HSU.out.mono ?_
      rintro r9 w3 ⟨rfl, hw3⟩
      obtain rfl := hw3.symm
      clear hw3 HSU
      by_cases huP : u = P
      rotate_left
      · have hnone : unf l = none := by rw [HCO.out, if_neg (fun h => huP h.1)]
        have HF := Lib.hid (uf_fin HBD.out HXD.out hnone)
        clear hnone
        go_wp2_with (with_reducible refine wpList_store_row rfl 55 (.tmp 2) (.tmp 54) rfl w.heap.size _ rfl rfl 55 _ HXD.out HI0.out HN0.out HA0.out ?_)
        refine bodyPost_ret (v := .tuple #[.agg ent0, .int .i64 0, .bool false]) ?_ rfl HF.out.1
        exact un_end rfl rfl rfl HF.out.2 rfl
      · subst huP
        by_cases hvQ : v = Q
        rotate_left
        · have hnone : unf l = none := by rw [HCO.out, if_neg (fun h => hvQ h.2.1)]
          have HF := Lib.hid (uf_fin HBD.out HXD.out hnone)
          clear hnone
          go_wp2_with (with_reducible refine wpList_store_row rfl 55 (.tmp 2) (.tmp 54) rfl w.heap.size _ rfl rfl 55 _ HXD.out HI0.out HN0.out HA0.out ?_)
          refine bodyPost_ret (v := .tuple #[.agg ent0, .int .i64 0, .bool false]) ?_ rfl HF.out.1
          exact un_end rfl rfl rfl HF.out.2 rfl
        · subst hvQ
          have HTK := Lib.hid (t_take_ok V HSB.out)
          go_upto_region 10 with (fail)
          go_wp2_with fail
          refine HTK.out.mono ?_
          rintro r9 w4 ⟨B1, m1, d1, B2, m2, d2, B3, m3, d3, B4, m4, d4, B5, m5, d5, B6, m6, d6, hr, hEF, hb4⟩
          subst hr
          obtain ⟨F, hF⟩ : ∃ F, F = tkE B := ⟨_, rfl⟩
          rw [← hF] at hEF ⊢
          have hxw := (hb4.block _ HQD.out).trans HXD.out
          have hbw : Below w.heap.size w w4 := HBD.out.trans (hb4.mono (Nat.le_of_lt HQD.out))
          have HXW := Lib.hid hxw
          have HBW := Lib.hid hbw
          have HEF := Lib.hid hEF
          have HFE := Lib.hid hF
          have HZI := Lib.hid (infoEntC F (.slice B1 m1 d1) (.slice B2 m2 d2) (.slice B3 m3 d3) (.slice B4 m4 d4) (.slice B5 m5 d5) (.slice B6 m6 d6))
          have HZA := Lib.hid (entC_all F B1 B2 B3 B4 B5 B6 m1 d1 m2 d2 m3 d3 m4 d4 m5 d5 m6 d6)
          have HZN := Lib.hid (show ent0.size = (entC F (.slice B1 m1 d1) (.slice B2 m2 d2) (.slice B3 m3 d3) (.slice B4 m4 d4) (.slice B5 m5 d5) (.slice B6 m6 d6)).size from rfl)
          have hx5 := setRow_heap w4 w.heap.size ent0 (entC F (.slice B1 m1 d1) (.slice B2 m2 d2) (.slice B3 m3 d3) (.slice B4 m4 d4) (.slice B5 m5 d5) (.slice B6 m6 d6)) _ _ hxw
          have HX5 := Lib.hid hx5
          have HB5 := Lib.hid (hbw.trans (show Below w.heap.size w4 (w4.setRow w.heap.size (entC F (.slice B1 m1 d1) (.slice B2 m2 d2) (.slice B3 m3 d3) (.slice B4 m4 d4) (.slice B5 m5 d5) (.slice B6 m6 d6))) from setRow_below _ _ _ (Nat.le_refl _)))
          have HN5 := Lib.hid (show (entC F (.slice B1 m1 d1) (.slice B2 m2 d2) (.slice B3 m3 d3) (.slice B4 m4 d4) (.slice B5 m5 d5) (.slice B6 m6 d6)).size = (#[.int .i64 0, .int .i64 0, .int .i64 0, .int .i64 0, .int .i64 0, .int .i64 0, .int .i64 0, .int .i64 0, .int .i64 0, .int .i64 0, .slice none 0 0, .slice none 0 0, .slice none 0 0, .slice none 0 0, .slice none 0 0, .slice none 0 0] : Array Value).size from rfl)
          have HSS := Lib.hid (setRow_self _ _ _ _ _ hx5)
          have HQ4 : Hid (w.heap.size < w4.heap.size) := Lib.hid (Nat.lt_of_lt_of_le HQD.out hb4.size)
          clear hxw hbw hEF hb4 hF hx5 HTK
          obtain ⟨z, hz⟩ : ∃ z, z = tkN B := ⟨_, rfl⟩
          rw [← hz]
          cases htk : tkB B with
          | false =>
            have hz4 : z = 4 := by rw [hz]; exact (tk_no htk).2
            subst hz4
            have hnone : unf l = none := by rw [HCO.out, if_neg (fun h => by rw [htk] at h; exact absurd h.2.2 (by decide))]
            have HF := Lib.hid (uf_fin HB5.out HX5.out hnone)
            clear hnone hz htk
            go_wp2_with (first
              | (with_reducible refine wpList_store_row rfl 55 (.tmp 2) (.tmp 58) rfl w.heap.size _ rfl rfl 55 _ HXW.out HZI.out HZN.out HZA.out ?_)
              | (with_reducible refine wpList_store_row rfl 55 (.tmp 2) (.tmp 62) rfl w.heap.size _ rfl rfl 55 _ HX5.out HI0.out HN5.out HA0.out ?_))
            refine bodyPost_ret (v := .tuple #[.agg ent0, .int .i64 0, .bool false]) ?_ rfl HF.out.1
            exact un_end rfl rfl rfl HF.out.2 rfl
          | true =>
            have hz0 : z = 0 := by rw [hz]; exact (tk_yes htk).2
            subst hz0
            have hsome : unf l = some B := by rw [HCO.out, if_pos (by first | exact ⟨rfl, rfl, htk⟩ | exact ⟨trivial, trivial, htk⟩)]
            obtain ⟨f1, f2, f3⟩ := uf_some hsome
            have HFF := Lib.hid (And.intro f1 (And.intro f2 f3))
            clear hsome hz htk f1 f2 f3
            go_wp2_with (first
              | (with_reducible refine wpList_store_row rfl 55 (.tmp 2) (.tmp 58) rfl w.heap.size _ rfl rfl 55 _ HXW.out HZI.out HZN.out HZA.out ?_)
              | (with_reducible refine wpList_load_row rfl 55 (.tmp 2) rfl w.heap.size rfl 55 _ (0, 0) _ HX5.out Tryz.underlying55 rfl HZI.out ?_)
              | (with_reducible refine wpList_store_row rfl 55 (.tmp 2) (.tmp 63) rfl w.heap.size _ rfl rfl 55 _ HX5.out HZI.out rfl HZA.out ?_))
            rw [HSS.out]
            refine bodyPost_ret (v := .tuple #[.agg (entC F (.slice B1 m1 d1) (.slice B2 m2 d2) (.slice B3 m3 d3) (.slice B4 m4 d4) (.slice B5 m5 d5) (.slice B6 m6 d6)), .int .i64 ((E : Int) + 2), .bool true]) ?_ rfl ?_
            · exact un_end rfl rfl rfl HX5.out rfl
            · obtain ⟨f1, f2, f3⟩ := HFF.out
              refine ⟨B1, m1, d1, B2, m2, d2, B3, m3, d3, B4, m4, d4, B5, m5, d5, B6, m6, d6, ?_, ?_, HB5.out⟩
              · rw [f1, f2, f3, HFE.out, HBL.out, show (E : Int) + 2 = (N : Int) + 4 by have := HE.out; omega]
              · rw [f1, ← HFE.out]
                have := HEF.out.at (Kpt.row (g := w.heap.size) w4 (entC F (.slice B1 m1 d1) (.slice B2 m2 d2) (.slice B3 m3 d3) (.slice B4 m4 d4) (.slice B5 m5 d5) (.slice B6 m6 d6)) (by have := HQD.out; omega))
                exact ⟨⟨this.old.1, fun b hb => by have := this.old.2 b hb; have := HQD.out; omega⟩, ⟨this.new.1, fun b hb => by have := this.new.2 b hb; have := HQD.out; omega⟩, ⟨this.moves.1, fun b hb => by have := this.moves.2 b hb; have := HQD.out; omega⟩, ⟨this.lives.1, fun b hb => by have := this.lives.2 b hb; have := HQD.out; omega⟩, ⟨this.dirty.1, fun b hb => by have := this.dirty.2 b hb; have := HQD.out; omega⟩, this.opens.low (by have := HQD.out; omega)⟩
end Go.Proofs.YtljbhdldfffpfaaGreat
