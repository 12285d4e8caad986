/- TrailAll, a part. -/
import Derived.Test.YthmgafcnoedmjaaGreatQ16
import Derived.Test.YthmgafcnoedmjaaGreatQ44
import Derived.Deep.CutBlock
import Derived.Deep.DeepCutAuto
namespace Go.Proofs.YthmgafcnoedmjaaGreat
set_option maxRecDepth 100000
open Go.RowKit
theorem se_fin {w wr wx : World} {l : List Int} {n m c : Nat} {A : Option Addr} {es : List (Ent × S6)} (ho : wr.ownsRow w.heap.size 44 16 (.slice A m c) es.length (es.flatMap enV)) (e1 : es.map Prod.fst ++ (scan (l.drop n)).map tkE = (scan l).map tkE) (e2 : n + frsN (scan (l.drop n)) = frsN (scan l))
  (hin : ∀ o ∈ es, EnG wr (fun b => w.heap.size ≤ b ∧ b < wr.heap.size ∧ (Value.slice A m c).ownBlock ≠ some b) o) (hb : Below w.heap.size w wr) (hm : es.length = m) (hu : unf (l.drop n) = none) (hx : Below wr.heap.size wr wx) : SePost w l (.returned (.tuple #[.slice A m c, .int .i64 n])) wx := by
 have ho4 : wx.ownsRow w.heap.size 44 16 (.slice A m c) es.length (es.flatMap enV) := own_at ho fun k hk => hx.block k (ho.lt k hk).2
 rw [scan_none hu] at e1 e2
 have hlen : m = (scan l).length := by
  have := congrArg List.length e1
  simp only [List.length_append, List.length_map, List.map_nil, List.length_nil] at this
  omega
 have hE := own_els (f := enV) enV_len ho4 rfl
 refine ⟨A, c, es, by rw [← e2, ← hlen]; rfl, by simpa using e1, by rw [← hlen]; exact hE.1, by rw [← hlen]; exact hE.2, fun o ho => ?_, hb.trans (hx.mono hb.size)⟩
 exact ((hin o ho).at hx.size fun b hb => hx.block b hb.2.1).mono fun b hb => ⟨hb.1, Nat.lt_of_lt_of_le hb.2.1 hx.size⟩
set_option maxHeartbeats 4000000 in
theorem rscan_any (w : World) {sv : Value} {l : List Int} (h : SlK .u8 w sv l) (hl : l.length ≤ 126000) : Calls Tryz.prog 32 #[sv] w (SePost w l) := by
 obtain ⟨A0, c0, rfl, hlc⟩ := h.form
 have HS := Lib.hid h
 have H1 : Hid (SeRel w l 0 (.slice none 0 0) w) := Lib.hid ⟨[], World.ownsRow_nil _ _ _ _, by simp, by simp, Nat.le_refl _, (fun o ho => by cases ho), Below.refl _ _⟩
 obtain ⟨ii, hi, hz0, hz1, hz2⟩ := info_parts infoEntA
 have HII := Lib.hid (And.intro hi (And.intro hz0 (And.intro hz1 hz2)))
 clear h hi hz0 hz1 hz2
 go_enter Tryz.func32, Tryz.ntmps32
 go_wp2
 go_loopw [4, 5] (fun v i wr => ∃ n : Nat, n ≤ l.length ∧ i = .int .i64 n ∧ Hid (SeRel w l n v wr)) (fun _ i _ => l.length - ivT2 i)
 case atStart => exact ⟨0, Nat.zero_le _, rfl, H1⟩
 case round =>
  obtain ⟨n, hn, rfl, HR⟩ := hrel
  obtain ⟨es, ho, hs1, hs2, hkn, hin, hb⟩ := HR.out
  obtain ⟨A, m, c, rfl⟩ := own_shape ho
  have hm := own_n ho
  rw [← hm] at hkn
  have HFIN : Hid (unf (l.drop n) = none → ∀ wx, Below wr.heap.size wr wx → SePost w l (.returned (.tuple #[.slice A m c, .int .i64 n])) wx) := fun hu wx hx => se_fin ho hs1 hs2 hin hb (by omega) hu hx
  have HMM := Lib.hid hm
  have HIN := Lib.hid hin
  clear hin
  have hsw := HS.out.below hb (Nat.le_refl _)
  have HO := Lib.hid ho
  have HS1 := Lib.hid hs1
  have HS2 := Lib.hid hs2
  have HB := Lib.hid hb
  have HSW := Lib.hid hsw
  have hdl : (l.drop n).length = l.length - n := List.length_drop
  have HDL := Lib.hid hdl
  clear ho hs1 hs2 hb hsw HR H1 hm hdl
  by_cases h2 : l.length < n + 2
  ·have hnone : unf (l.drop n) = none := by
    unfold unf
    rw [if_pos (by have := HDL.out; omega)]
   have HF := Lib.hid (HFIN.out hnone wr (Below.refl _ _))
   have hc2 : ¬ (n : Int) + 2 ≤ (l.length : Int) := by omega
   have hn8 : (n : Int) ≤ 126000 := by omega
   clear hnone h2
   go_wp2
   go_ret2
   exact HF.out
  ·have hne : l ≠ [] := fun e => by rw [e] at h2; simp at h2
   obtain ⟨b', o', c', e, _, hlt', h3⟩ := id (HSW.out.pt hne)
   injection e with e1 e2 e3
   subst e1 e3
   have HCELL : Hid (∀ k (hk : k < l.length), wr.cell? ⟨b', o' + k, none⟩ = some (.int .u8 l[k])) := Lib.hid h3
   have hk0 : n < l.length := by omega
   have hk1 : n + 1 < l.length := by omega
   obtain ⟨x, hx⟩ : ∃ x, x = l[n] := ⟨_, rfl⟩
   obtain ⟨y, hy⟩ : ∃ y, y = l[n + 1] := ⟨_, rfl⟩
   have hxb := HSW.out.ok l[n] (List.getElem_mem hk0)
   have hyb := HSW.out.ok l[n + 1] (List.getElem_mem hk1)
   have a0 : wr.cell? ⟨b', o' + n, none⟩ = some (.int .u8 l[n]) := h3 n hk0
   have a1 : wr.cell? ⟨b', o' + (n + 1), none⟩ = some (.int .u8 l[n + 1]) := h3 (n + 1) hk1
   rw [← hx] at hxb a0
   rw [← hy] at hyb a1
   have hunx : (l.drop n).headD 0 = x := by rw [hx, List.headD_eq_head?_getD, List.head?_drop, List.getElem?_eq_getElem hk0]; rfl
   have huny : ((l.drop n).drop 1).headD 0 = y := by rw [hy, List.drop_drop, List.headD_eq_head?_getD, List.head?_drop, List.getElem?_eq_getElem hk1]; rfl
   obtain ⟨N, hN⟩ : ∃ N : Nat, x * 256 + y = (N : Int) := ⟨(x * 256 + y).toNat, by omega⟩
   have hun : unN (l.drop n) = N := by unfold unN; rw [hunx, huny]; omega
   have HUN := Lib.hid hun
   have hNb : (N : Int) ≤ 66000 := by omega
   have d0 : wr.drew.cell? ⟨b', o' + n, none⟩ = some (.int .u8 x) := a0
   have d1 : wr.drew.cell? ⟨b', o' + (n + 1), none⟩ = some (.int .u8 y) := a1
   obtain ⟨n1, hn1⟩ : ∃ n1 : Nat, n1 = n + 1 := ⟨_, rfl⟩
   rw [← hn1] at a1 d1
   have hn1I : (n : Int) + 1 = (n1 : Int) := by omega
   have i0 : (n : Int) < (l.length : Int) := by omega
   have i1 : (n1 : Int) < (l.length : Int) := by omega
   have j0 : n < l.length := hk0
   have j1 : n1 < l.length := by omega
   have t0 : (n : Int) + 2 ≤ (l.length : Int) := by omega
   have t1 : IntKind.i64.wrap x = x := IntWalk.i64_in _ (by omega)
   have t2 : IntKind.i64.wrap y = y := IntWalk.i64_in _ (by omega)
   have t3 : IntKind.i64.wrap (x * 256) = x * 256 := IntWalk.i64_in _ (by omega)
   have t4 : IntKind.i64.wrap (x * 256 + y) = x * 256 + y := IntWalk.i64_in _ (by omega)
   have t5 : IntKind.i64.wrap ((n : Int) + 1) = (n1 : Int) := by rw [IntWalk.i64_in _ (by omega)]; exact hn1I
   have hn8 : (n : Int) ≤ 126000 := by omega
   have HX := Lib.hid hxb
   have HY := Lib.hid hyb
   clear h3 hx hy hunx huny hun e2 hne h2 hn1 hn1I
   go_upto_region 4 with (fail)
   go_region
   have HBV : Hid (Below wr.heap.size wr wr.drew) := (Below.refl _ _).drew
   have HCV : Hid (∀ k (hk : k < l.length), wr.drew.cell? ⟨b', o' + k, none⟩ = some (.int .u8 l[k])) := HCELL
   have HSV : Hid (SlK .u8 wr.drew (.slice (some ⟨b', o', none⟩) l.length c0) l) := HSW.out.below (Below.refl _ _).drew (Nat.le_refl _)
   clear a0 a1 d0 d1 i0 i1 j0 j1 t0 t1 t2 t3 t4 t5 hxb hyb hN HCELL
   generalize wr.drew = V at *
   by_cases h4 : l.length < n + 4 + N
   ·have hnone : unf (l.drop n) = none := by
     unfold unf
     rw [if_neg (by have := HDL.out; omega), if_pos (by rw [HUN.out]; have := HDL.out; omega)]
    have HF := Lib.hid (HFIN.out hnone V HBV.out)
    have hc4 : (l.length : Int) < (n : Int) + 4 + (N : Int) := by omega
    clear hnone h4
    go_wp2
    go_ret2
    exact HF.out
   ·obtain ⟨S, hS⟩ : ∃ S, S = ((l.drop n).drop 2).take N := ⟨_, rfl⟩
    obtain ⟨n2, hn2⟩ : ∃ n2 : Nat, n2 = n + 2 := ⟨_, rfl⟩
    obtain ⟨E, hE⟩ : ∃ E : Nat, E = n2 + N := ⟨_, rfl⟩
    have hsl : SlK .u8 V (.slice (some ⟨b', o' + n2, none⟩) N (c0 - n2)) S := by
     rw [hS, List.drop_drop, ← hn2]
     exact (HSV.out.rest (k := n2) (by omega)).2.1.pre (by omega)
    have hSl : S.length = N := by rw [hS, List.length_take, List.length_drop, HDL.out]; omega
    have HSL := Lib.hid hsl
    have HSS := Lib.hid hS
    have HSN := Lib.hid hSl
    have hc4 : ¬ (l.length : Int) < (n : Int) + 4 + (N : Int) := by omega
    have t1 : (n : Int) + 2 = (n2 : Int) := by omega
    have t2 : (n2 : Int) + (N : Int) = (E : Int) := by omega
    have i1 : (n2 : Int) ≤ (E : Int) := by omega
    have i2 : (E : Int) ≤ (c0 : Int) := by omega
    have i3 : n2 ≤ E := by omega
    have i4 : E ≤ c0 := by omega
    have i5 : ¬ n2 = c0 := by omega
    have i6 : n2 < c0 := by omega
    have HNE : Hid (n2 = n + 2 ∧ E = n2 + N ∧ n + 4 + N ≤ l.length) := ⟨hn2, hE, by omega⟩
    have hEb : (E : Int) ≤ 126000 := by omega
    have hn2b : (n2 : Int) ≤ 126000 := by omega
    have hEn : E - n2 = N := by omega
    clear hsl hS hSl hn2 hE h4
    go_upto_region 7 with (fail)
    have HSUM := Lib.hid (rsums_any V HSL.out (by rw [HSN.out]; omega))
    have HTAKE := Lib.hid (rtake_any V HSL.out)
    go_wp2_with fail
    refine HSUM.out.mono ?_
    rintro r9 w9 ⟨rfl, hw9⟩
    obtain rfl := hw9.symm
    clear hw9 HSUM
    go_wp2_with fail
    refine HTAKE.out.mono ?_
    rintro r9 w2 ⟨B1, m1, d1, B2, m2, d2, B3, m3, d3, B4, m4, d4, B5, m5, d5, B6, m6, d6, hr, hef, hb2⟩
    subst hr
    clear HTAKE
    have HB2 := Lib.hid (HBV.out.trans (hb2.mono HBV.out.size))
    have HBV2 := Lib.hid hb2
    have HEF := Lib.hid hef.g
    clear hb2 hef
    have HBoq := Lib.hid (heap_alloc_new w2 (.cells #[.int .i64 0, .int .i64 0, .int .i64 0, .int .i64 0, .int .i64 0, .int .i64 0, .int .i64 0, .int .i64 0, .int .i64 0, .int .i64 0, .slice none 0 0, .slice none 0 0, .slice none 0 0, .slice none 0 0, .slice none 0 0, .slice none 0 0] 44))
    have HZIq := Lib.hid (infoEntC (tkE S) (.slice B1 m1 d1) (.slice B2 m2 d2) (.slice B3 m3 d3) (.slice B4 m4 d4) (.slice B5 m5 d5) (.slice B6 m6 d6))
    have HZAq := Lib.hid (entC_all (tkE S) B1 B2 B3 B4 B5 B6 m1 d1 m2 d2 m3 d3 m4 d4 m5 d5 m6 d6)
    have HZNq := Lib.hid (show (#[.int .i64 0, .int .i64 0, .int .i64 0, .int .i64 0, .int .i64 0, .int .i64 0, .int .i64 0, .int .i64 0, .int .i64 0, .int .i64 0, .slice none 0 0, .slice none 0 0, .slice none 0 0, .slice none 0 0, .slice none 0 0, .slice none 0 0] : Array Value).size = (entC (tkE S) (.slice B1 m1 d1) (.slice B2 m2 d2) (.slice B3 m3 d3) (.slice B4 m4 d4) (.slice B5 m5 d5) (.slice B6 m6 d6)).size from rfl)
    have HSAq := Lib.hid (setRow_alloc w2 #[.int .i64 0, .int .i64 0, .int .i64 0, .int .i64 0, .int .i64 0, .int .i64 0, .int .i64 0, .int .i64 0, .int .i64 0, .int .i64 0, .slice none 0 0, .slice none 0 0, .slice none 0 0, .slice none 0 0, .slice none 0 0, .slice none 0 0] (entC (tkE S) (.slice B1 m1 d1) (.slice B2 m2 d2) (.slice B3 m3 d3) (.slice B4 m4 d4) (.slice B5 m5 d5) (.slice B6 m6 d6)) 44)
    go_upto_region 9 with (with_reducible refine wpList_store_row rfl 44 (.tmp 10) (.tmp 53) rfl w2.heap.size _ rfl rfl 44 _ HBoq.out HZIq.out HZNq.out HZAq.out ?_)
    rw [HSAq.out]
    obtain ⟨w6, HW6, hx6, hb6⟩ : ∃ W, Hid (w2.alloc (.cells (entC (tkE S) (.slice B1 m1 d1) (.slice B2 m2 d2) (.slice B3 m3 d3) (.slice B4 m4 d4) (.slice B5 m5 d5) (.slice B6 m6 d6)) 44) = W) ∧ W.heap[w2.heap.size]? = some (.cells (entC (tkE S) (.slice B1 m1 d1) (.slice B2 m2 d2) (.slice B3 m3 d3) (.slice B4 m4 d4) (.slice B5 m5 d5) (.slice B6 m6 d6)) 44 (0, 0)) ∧ Below w2.heap.size w2 W := ⟨_, Lib.hid rfl, heap_alloc_new w2 _, (Below.refl _ _).alloc (Nat.le_refl _) _⟩
    rw [HW6.out]
    clear HBoq HZAq HZNq HSAq HW6
    have HB6 := Lib.hid (HB2.out.trans (hb6.mono HB2.out.size))
    have HX6 := Lib.hid hx6
    have hg6 := (HEF.out.at hb6.size fun b hb => hb6.block b hb.2).mono (G' := fun b => wr.heap.size ≤ b ∧ b < w6.heap.size) fun b hb => ⟨Nat.le_trans HBV.out.size (by omega), Nat.lt_of_lt_of_le hb.2 hb6.size⟩
    have HG6 := Lib.hid hg6
    have hcell6 : ∀ k (hk : k < l.length), w6.cell? ⟨b', o' + k, none⟩ = some (.int .u8 l[k]) := fun k hk => by
     have h0 := HCV.out k hk
     have hlt := block_lt_of_cell h0
     rw [← h0]
     exact World.cell?_of_block ((hb6.block _ (Nat.lt_of_lt_of_le hlt HBV2.out.size)).trans (HBV2.out.block _ hlt))
    obtain ⟨hn2, hE, hle⟩ := HNE.out
    have hkE : E < l.length := by omega
    have hkE1 : E + 1 < l.length := by omega
    obtain ⟨X, hX⟩ : ∃ X, X = l[E] := ⟨_, rfl⟩
    obtain ⟨Y, hY⟩ : ∃ Y, Y = l[E + 1] := ⟨_, rfl⟩
    have cX := hcell6 E hkE
    have cY := hcell6 (E + 1) hkE1
    have bX := HSV.out.ok l[E] (List.getElem_mem hkE)
    have bY := HSV.out.ok l[E + 1] (List.getElem_mem hkE1)
    rw [← hX] at cX bX
    rw [← hY] at cY bY
    have uX : ((l.drop n).drop (2 + N)).headD 0 = X := by rw [hX, List.drop_drop, show n + (2 + N) = E by omega, List.headD_eq_head?_getD, List.head?_drop, List.getElem?_eq_getElem hkE]; rfl
    have uY : ((l.drop n).drop (3 + N)).headD 0 = Y := by rw [hY, List.drop_drop, show n + (3 + N) = E + 1 by omega, List.headD_eq_head?_getD, List.head?_drop, List.getElem?_eq_getElem hkE1]; rfl
    have hunf : unf (l.drop n) = if X = (sumP S).1 ∧ Y = (sumP S).2 ∧ tkB S = true then some S else none := by
     unfold unf
     rw [if_neg (by rw [HDL.out]; omega), if_neg (by rw [HUN.out, HDL.out]; omega), HUN.out, uX, uY, ← HSS.out]
    have HUNF := Lib.hid hunf
    have HKT : Hid (tkN S = if tkB S = true then 0 else 4) := rfl
    clear uX uY hunf hX hY hcell6 hkE hn2 hE hle hg6 hx6 hb6
    obtain ⟨E1, hE1⟩ : ∃ E1 : Nat, E1 = E + 1 := ⟨_, rfl⟩
    obtain ⟨n3, hn3⟩ : ∃ n3 : Nat, n3 = n + 3 := ⟨_, rfl⟩
    rw [← hE1] at cY hkE1
    have t3 : (n : Int) + 3 = (n3 : Int) := by omega
    have t4 : (n3 : Int) + (N : Int) = (E1 : Int) := by have := HNE.out; omega
    have k1 : (E : Int) < (l.length : Int) := by have := HNE.out; omega
    have k2 : (E1 : Int) < (l.length : Int) := by omega
    have k3 : E < l.length := by omega
    have k4 : E1 < l.length := by omega
    have hn3b : (n3 : Int) ≤ 126003 := by omega
    have hE1b : (E1 : Int) ≤ 126003 := by omega
    have t5 : IntKind.i64.wrap X = X := IntWalk.i64_in _ (by omega)
    have t6 : IntKind.i64.wrap Y = Y := IntWalk.i64_in _ (by omega)
    clear hE1 hn3 hkE1
    generalize (sumP S).1 = P at *
    generalize (sumP S).2 = Q at *
    generalize hT : tkN S = T at *
    have HKT2 : Hid (T = if tkB S = true then 0 else 4) := HKT
    clear hT HKT
    by_cases eX : X = P
    ·by_cases eY : Y = Q
     ·cases hB : tkB S with
      | false =>
       have hnone : unf (l.drop n) = none := by rw [HUNF.out, if_neg (by rw [hB]; simp)]
       have HF := Lib.hid (HFIN.out hnone w6 HB6.out)
       have hT4 : T = 4 := by rw [HKT2.out, hB]; rfl
       subst eX eY hT4
       clear hnone hB
       go_wp2_with fail
       go_ret2
       exact HF.out
      | true =>
       have hu : unf (l.drop n) = some S := by rw [HUNF.out, if_pos ⟨eX, eY, hB⟩]
       have hT0 : T = 0 := by rw [HKT2.out, hB]; rfl
       subst eX eY hT0
       clear hB
       obtain ⟨cs, hcsd⟩ : ∃ cs, cs = entC (tkE S) (.slice B1 m1 d1) (.slice B2 m2 d2) (.slice B3 m3 d3) (.slice B4 m4 d4) (.slice B5 m5 d5) (.slice B6 m6 d6) := ⟨_, rfl⟩
       have hx4 : w6.heap[w2.heap.size]? = some (.cells cs 44 (0, 0)) := by rw [hcsd]; exact HX6.out
       have hcs : cs.size = 16 := by rw [hcsd]; rfl
       have hall : cs.all (·.oneCell') = true := by rw [hcsd]; exact entC_all (tkE S) B1 B2 B3 B4 B5 B6 m1 d1 m2 d2 m3 d3 m4 d4 m5 d5 m6 d6
       obtain ⟨s6, hse, hsg⟩ : ∃ s : S6, cs.toList = enV (ufE (l.drop n), s) ∧ EnG w6 (fun b => wr.heap.size ≤ b ∧ b < w6.heap.size) (ufE (l.drop n), s) := ⟨((.slice B1 m1 d1), (.slice B2 m2 d2), (.slice B3 m3 d3), (.slice B4 m4 d4), (.slice B5 m5 d5), (.slice B6 m6 d6)), by rw [hcsd, (uf_some hu).1]; rfl, by rw [(uf_some hu).1]; exact HG6.out⟩
       clear hcsd HX6 HG6 HEF HZIq HUNF HKT2 HFIN
       generalize w2.heap.size = g4 at *
       obtain ⟨a0, a1, a2, a3, a4, a5, a6, a7, a8, a9, a10, a11, a12, a13, a14, a15, rfl⟩ := arr16 hcs
       have hb4 : Below wr.heap.size wr w6 := HB6.out
       have hbw : Below w.heap.size w w6 := HB.out.trans (hb4.mono HB.out.size)
       have HSE := Lib.hid hse
       have HSG := Lib.hid hsg
       clear hse hsg
       have ho4 : w6.ownsRow w.heap.size 44 16 (.slice A m c) es.length (es.flatMap enV) := own_at HO.out fun k hk => hb4.block k (HO.out.lt k hk).2
       have hbl : S.length + 4 ≤ l.length - n := by have := HSN.out; have := HNE.out; omega
       obtain ⟨L, hL⟩ : ∃ L : Nat, L = S.length + 4 := ⟨_, rfl⟩
       have HZI : Hid ((Tryz.prog.info? 44).map (·.size) = some (#[a0, a1, a2, a3, a4, a5, a6, a7, a8, a9, a10, a11, a12, a13, a14, a15] : Array Value).size) := Lib.hid infoEnt
       have HX4 := Lib.hid hx4
       have HOA : Hid (∀ o, (w6.alloc o).ownsRow w.heap.size 44 16 (.slice A m c) es.length (es.flatMap enV)) := Lib.hid fun o => ho4.alloc o
       have HAL : Hid (∀ o, Below w6.heap.size w6 (w6.alloc o)) := Lib.hid fun o => (Below.refl _ _).alloc (Nat.le_refl _) _
       have HBW := Lib.hid hbw
       have HB4 := Lib.hid hb4
       have HBL := Lib.hid hbl
       have HLL := Lib.hid hL
       have HALL := Lib.hid hall
       have HCS := Lib.hid hcs
       have HU := Lib.hid hu
       obtain ⟨hi, hz0, hz1, hz2⟩ := HII.out
       clear hu hx4 hall hbw ho4 hb4 hbl hL
       go_wp2_with (first
        | (with_reducible refine wpList_load_row rfl 44 (.tmp 10) rfl g4 rfl 44 _ (0, 0) _ HX4.out Tryz.underlying44 rfl HZI.out ?_)
        | (at_builtin; refine wpList_append_lies _ rfl _ _ 29 rfl w.heap.size 44 ii (.agg #[.int .i64 0, .int .i64 0, .int .i64 0, .int .i64 0, .int .i64 0, .int .i64 0, .int .i64 0, .int .i64 0, .int .i64 0, .int .i64 0, .slice none 0 0, .slice none 0 0, .slice none 0 0, .slice none 0 0, .slice none 0 0, .slice none 0 0]) 16 224 Tryz.underlying29 hi hz0 hz1 hz2 rfl (by decide) (.slice A m c) es.length _ rfl (HOA.out _) ⟨w6.heap.size, 0, none⟩ 1 1 [a0, a1, a2, a3, a4, a5, a6, a7, a8, a9, a10, a11, a12, a13, a14, a15] rfl ?c0 ?c1 ?c2 ?c3 ?c4 ?c5 ?c6 _ rfl ?_))
       all_goals first
        | rfl
        | exact World.news_of_block (heap_alloc_new w6 _)
        | (intro u hu; exact List.all_eq_true.1 (show ([a0, a1, a2, a3, a4, a5, a6, a7, a8, a9, a10, a11, a12, a13, a14, a15] : List Value).all (·.oneCell') = true from by simpa using HALL.out) u hu)
        | (have h := HALL.out; simp at h; simpa [and_assoc] using h)
        | (have := HMM.out; unfold maxLen; omega)
        | (have := HMM.out; omega)
        | exact Nat.le_succ_of_le HBW.out.size
        | (simp; exact Nat.le_succ_of_le HBW.out.size)
        | skip
       intro g5 c5' w5 ho5 hg5 hv5 hl5
       have hR : SeRel w l (n + L) (.slice (some ⟨g5, 0, none⟩) (es.length + 1) c5') w5 := by
        have e1 := HS1.out
        have e2 := HS2.out
        have hmm := HMM.out
        rw [scan_some HU.out] at e1 e2
        rw [List.map_cons, List.drop_drop, ← HLL.out] at e1
        rw [frsN_cons, List.drop_drop, ← HLL.out] at e2
        have hbA : Below w6.heap.size w6 (w6.alloc (.cells #[a0, a1, a2, a3, a4, a5, a6, a7, a8, a9, a10, a11, a12, a13, a14, a15] 44)) := HAL.out _
        have hsame : ∀ b, b < w6.heap.size → (Value.slice A m c).ownBlock ≠ some b → w5.heap[b]? = w6.heap[b]? := fun b h1 h2 => (hg5.block b (Nat.lt_of_lt_of_le h1 hbA.size) (fun e => h2 e.symm)).trans (hbA.block b h1)
        have hgb : ∀ b, b < w6.heap.size → (Value.slice A m c).ownBlock ≠ some b → (Value.slice (some ⟨g5, 0, none⟩) (es.length + 1) c5').ownBlock ≠ some b := fun b h1 h2 e => by
         have e2 : g5 = b := by simpa [Value.ownBlock] using e
         rcases hv5 with h | h
         ·exact h2 (by rw [h, e2])
         ·have : w6.heap.size ≤ g5 := by rw [h]; first | exact hbA.size | omega
          omega
        have hw5 : w6.heap.size ≤ w5.heap.size := Nat.le_trans hbA.size hg5.size
        refine ⟨es ++ [(ufE (l.drop n), s6)], ?_, ?_, by omega, by rw [List.length_append]; simp only [List.length_singleton]; have := HLL.out; omega, fun o ho => ?_, ?_⟩
        ·rw [List.length_append, List.flatMap_append]
         simp only [List.flatMap_cons, List.flatMap_nil, List.append_nil, List.length_singleton]
         rw [← HSE.out]
         exact ho5
        ·rw [List.map_append, List.append_assoc, ← e1, (uf_some HU.out).1]
         rfl
        ·rcases List.mem_append.1 ho with ho | ho
         ·refine ((((HIN.out o ho).at HB4.out.size fun b hb => HB4.out.block b hb.2.1).at hw5 fun b hb => hsame b (Nat.lt_of_lt_of_le hb.2.1 HB4.out.size) hb.2.2)).mono fun b hb => ⟨hb.1, ?_, hgb b (Nat.lt_of_lt_of_le hb.2.1 HB4.out.size) hb.2.2⟩
          exact Nat.lt_of_lt_of_le (Nat.lt_of_lt_of_le hb.2.1 HB4.out.size) hw5
         ·obtain rfl : o = (ufE (l.drop n), s6) := by simpa using ho
          have z : ∀ b, wr.heap.size ≤ b → (Value.slice A m c).ownBlock ≠ some b := fun b hb e => by have := (HO.out.lt b e).2; omega
          refine ((HSG.out.at hw5 fun b hb => hsame b hb.2 (z b hb.1))).mono fun b hb => ⟨Nat.le_trans HB.out.size hb.1, Nat.lt_of_lt_of_le hb.2 hw5, hgb b hb.2 (z b hb.1)⟩
        ·exact HBW.out.trans ⟨hg5.os.trans hbA.os, hg5.tape.trans hbA.tape, hg5.output.trans hbA.output, hw5, fun k hk => hsame k (Nat.lt_of_lt_of_le hk HBW.out.size) (fun e => by have := (HO.out.lt k e).1; omega)⟩
       have HR5 := Lib.hid hR
       have hnL : n + L ≤ l.length := by have := HBL.out; have := HLL.out; omega
       have HR5 := Lib.hid hR
       have hnL : n + L ≤ l.length := by have := HBL.out; have := HLL.out; omega
       have hLN : (n : Int) + 4 + (N : Int) = ((n + L : Nat) : Int) := by have := HLL.out; have := HSN.out; omega
       have HLN := Lib.hid hLN
       clear ho5 hg5 hv5 hl5 hR hi hz0 hz1 hz2 hLN
       go_wp2
       go_roundw
       all_goals first
        | exact ⟨n + L, hnL, congrArg _ HLN.out, HR5⟩
        | (have h1 := HLL.out; have h2 := HSN.out; simp [ivT2]; omega)
     ·have hnone : unf (l.drop n) = none := by rw [HUNF.out, if_neg (fun h => eY h.2.1)]
      have HF := Lib.hid (HFIN.out hnone w6 HB6.out)
      subst eX
      clear hnone
      go_wp2_with fail
      go_ret2
      exact HF.out
    ·have hnone : unf (l.drop n) = none := by rw [HUNF.out, if_neg (fun h => eX h.1)]
     have HF := Lib.hid (HFIN.out hnone w6 HB6.out)
     clear hnone
     go_wp2_with fail
     go_ret2
     exact HF.out
end Go.Proofs.YthmgafcnoedmjaaGreat
