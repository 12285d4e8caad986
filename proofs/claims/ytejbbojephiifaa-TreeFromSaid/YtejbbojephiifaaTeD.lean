/- tree: Shape. -/
import Derived.Test.YtejbbojephiifaaTeK
namespace Go.Proofs.Ytejbbojephiifaa
open Go.RowKit

theorem szPair (p q : Value) : (Try.prog.info? 72).map (·.size) = some (#[p, q] : Array Value).size := szKN
theorem undSS : Try.prog.underlying 41 = some (.slice 54) := by kernel_rfl
theorem alloc_sz (w : World) (o : Obj) : (w.alloc o).heap.size = w.heap.size + 1 := by
  show (w.heap.push _).size = _
  rw [Array.size_push]

theorem sh_next {w w7 : World} {tot done : List (List Nat)} {vs : List Value} {h' kl : Nat} {gs : List (G h')} {A1 A2 : Option Addr} {m1 m2 : Nat} {v7 : Value}
    (hb : Below w.heap.size w w7)
    (hs : w7.ownsRow w.heap.size 54 1 v7 (done.length + 1) (vs ++ [.slice A1 gs.length m1]))
    (hvl : vs.length = done.length)
    (hin : ∀ i (_ : i < done.length), ∃ v, vs[i]? = some v ∧ w7.ownsRow w.heap.size 3 1 v (done.getD i []).length ((done.getD i []).map intV))
    (hc : w7.ownsRow w.heap.size 3 1 (.slice A1 gs.length m1) gs.length ((gs.map (cnt h')).map intV))
    (hbv : w7.ownsRow w.heap.size 69 1 (.slice A2 kl m2) kl ((gs.flatMap (kp h')).map ptrV))
    (hkl : (gs.flatMap (kp h')).length = kl)
    (hrow : Row h' w gs) (hne : gs ≠ []) (hd : done ++ lv h' gs = tot) (hbig : ∀ r ∈ tot, r.length ≤ 100000) : ShS w tot h' v7 (.slice A2 kl m2) w7 := by
  refine ⟨hb, ?_⟩
  have hin' : ∀ i (_ : i < (done ++ [gs.map (cnt h')]).length), ∃ v, (vs ++ [Value.slice A1 gs.length m1])[i]? = some v ∧ w7.ownsRow w.heap.size 3 1 v ((done ++ [gs.map (cnt h')]).getD i []).length (((done ++ [gs.map (cnt h')]).getD i []).map intV) := by
    intro i hi
    rw [List.length_append] at hi
    simp only [List.length_cons, List.length_nil] at hi
    by_cases h : i < done.length
    · obtain ⟨v, h1, h2⟩ := hin i h
      refine ⟨v, by rw [List.getElem?_append_left (by omega)]; exact h1, ?_⟩
      have e : (done ++ [gs.map (cnt h')]).getD i [] = done.getD i [] := by simp [List.getD_eq_getElem?_getD, List.getElem?_append_left h]
      rw [e]
      exact h2
    · obtain rfl : i = done.length := by omega
      refine ⟨.slice A1 gs.length m1, by rw [← hvl]; simp, ?_⟩
      have e : (done ++ [gs.map (cnt h')]).getD done.length [] = gs.map (cnt h') := by simp [List.getD_eq_getElem?_getD]
      rw [e, List.length_map]
      exact hc
  cases h' with
  | zero =>
    have e : kl = 0 := by rw [← hkl, kp_zero]; rfl
    subst e
    exact ⟨done ++ [gs.map (cnt 0)], vs ++ [.slice A1 gs.length m1], by rw [List.length_append]; exact hs, by simp [hvl], hin', .inl ⟨rfl, ⟨A2, m2, rfl⟩, hd⟩⟩
  | succ h =>
    have e : (gs.flatMap (kids h)).length = kl := by rw [← hkl, kp_flat, List.length_map]
    have hne' := kids_ne hrow hne
    have hk0 : 0 < kl := by rw [← e]; exact List.length_pos_iff.2 hne'
    obtain ⟨q, cp, e2, hq1, hq2⟩ := hbv.form hk0
    cases e2
    have hd' : (done ++ [gs.map (cnt (h + 1))]) ++ lv h (gs.flatMap (kids h)) = tot := by rw [← hd, List.append_assoc]; rfl
    refine ⟨done ++ [gs.map (cnt (h + 1))], vs ++ [.slice A1 gs.length m1], by rw [List.length_append]; exact hs, by simp [hvl], hin', .inr ⟨h, rfl, gs.flatMap (kids h), kids_at hrow, hne', hd', ?_, q, m2, by rw [e], hq1, hq2, fun i hi => ?_⟩⟩
    · obtain ⟨r, h1, _, t, h2⟩ := lv_head h (gs.flatMap (kids h))
      rw [← h1]
      exact hbig r (by rw [← hd', h2]; simp)
    · have h3 := hbv.cellAt i (by omega)
      rw [h3, kp_flat]
      have hi2 : i < ((gs.flatMap (kids h)).map (gb h)).length := by rw [List.length_map]; exact hi
      simp only [ptrs, List.map_map, List.getD_eq_getElem?_getD, List.getElem?_map, List.getElem?_eq_getElem hi]
      rfl

set_option maxRecDepth 100000 in
set_option maxHeartbeats 4000000 in
theorem shape_any (w : World) {p : Nat} {xs : List KV} {L : List Nat} (hT : TA w p xs L) (hx : xs.length ≤ 100000) :
    Calls Try.prog 20 #[.pointer (some ⟨p, 0, none⟩)] w fun e w' => ∃ s h, ∃ g : G h, e = .returned s ∧ Ok h g ∧ (h = 0 ∨ 2 ≤ cnt h g) ∧ cnt h g ≤ 4 ∧ kvs h g = xs ∧ Below w.heap.size w w' ∧ ∃ vs, w'.ownsRow w.heap.size 54 1 s (lv h [g]).length vs ∧ vs.length = (lv h [g]).length ∧ (∀ i (_ : i < (lv h [g]).length), ∃ v, vs[i]? = some v ∧ w'.ownsRow w.heap.size 3 1 v ((lv h [g]).getD i []).length (((lv h [g]).getD i []).map intV)) := by
  obtain ⟨bd, M, h1, h2, rfl, h3⟩ := hT.ex
  obtain ⟨h, g, ha, e1, hnd, ho, hc, h4, hkv, hM⟩ := h2.ex
  have HALL := Lib.hid (all_any w h1)
  have HFIN : Hid (Ok h g ∧ (h = 0 ∨ 2 ≤ cnt h g) ∧ cnt h g ≤ 4 ∧ kvs h g = xs) := ⟨ho, hc, h4, hkv⟩
  have HAT := Lib.hid ha
  have HEB := Lib.hid e1
  obtain ⟨tot, ht⟩ : ∃ tot, tot = lv h [g] := ⟨_, rfl⟩
  have HTT := Lib.hid ht
  have HBIG : Hid (∀ r ∈ tot, r.length ≤ 100000) := by
    show ∀ r ∈ tot, r.length ≤ 100000
    rw [ht]
    exact lv_top ho hc (by rw [hkv]; exact hx) (by omega)
  have HSH := lv_short ho hc (n := 100000) (by rw [hkv]; exact hx) (by omega)
  clear hT h1 h2 h3 ha e1 hnd ho hc h4 hkv hM ht hx
  have HTL : Hid (tot.length ≤ 100000) := by
    show tot.length ≤ 100000
    rw [HTT.out]
    exact HSH
  clear HSH
  go_enter Try.func20, Try.ntmps20
  go_wp2_with (go_at_call 25; refine HALL.out.mono ?_; rintro e w1 ⟨rfl, hb1⟩; have HB1 := Lib.hid hb1; clear hb1)
  have HS0 : Hid (ShS w tot (h + 1) (.slice none 0 0) (.slice (some ⟨w1.heap.size, 0, none⟩) 1 1) (w1.alloc (.cells #[.pointer (some ⟨bd, 0, none⟩)] 69))) := by
    refine ⟨HB1.out.alloc HB1.out.size _, [], [], World.ownsRow_nil _ _ _ _, rfl, (fun i hi => absurd hi (Nat.not_lt_zero i)), .inr ⟨h, rfl, [g], (fun x hx => by rw [List.mem_singleton.1 hx]; exact ⟨⟨_, HAT.out⟩, HFIN.out.2.2.1, HFIN.out.1, HFIN.out.2.1⟩), by simp, by rw [HTT.out]; rfl, by simp, w1.heap.size, 1, rfl, HB1.out.size, by show _ < (w1.heap.push _).size; rw [Array.size_push]; omega, fun i hi => ?_⟩⟩
    have hi0 : i = 0 := by simp at hi; exact hi
    subst hi0
    refine ((cell_of (heap_alloc_new w1 _) 0).1).trans ?_
    show some (.pointer (some ⟨bd, 0, none⟩)) = some (ptrV (gb h g))
    rw [HEB.out]; rfl
  generalize w1.alloc (.cells #[.pointer (some ⟨bd, 0, none⟩)] 69) = w2 at *
  generalize hl0 : (Value.slice (some ⟨w1.heap.size, 0, none⟩) 1 1) = l0 at *
  go_loopg [3, 4] (h + 1) (fun gk s l wr => Hid (ShS w tot gk s l wr))
  case atStart => exact HS0.out
  case round =>
    obtain ⟨hb, done, vs, hs, hvl, hin, hcase⟩ := hrel.out
    rcases hcase with ⟨rfl, ⟨A, c, rfl⟩, hd⟩ | ⟨h', rfl, gs, hrow, hne, hd, hgl, q, c, rfl, hq1, hq2, hq3⟩
    · subst hd
      have HS := Lib.hid (And.intro hb (And.intro hs (And.intro hvl hin)))
      clear hb hs hvl hin hrel HS0
      go_wp2_with fail
      go_ret
      obtain ⟨hb, hs, hvl, hin⟩ := HS.out
      rw [HTT.out] at hs hvl hin
      exact ⟨u3, h, g, rfl, HFIN.out.1, HFIN.out.2.1, HFIN.out.2.2.1, HFIN.out.2.2.2, hb, vs, hs, hvl, hin⟩
    · obtain ⟨n, hn⟩ : ∃ n, n = gs.length := ⟨_, rfl⟩
      have hn0 : 0 < n := by rw [hn]; exact List.length_pos_iff.2 hne
      have HN := Lib.hid (And.intro hn hne)
      rw [← hn] at hgl ⊢
      have HST := Lib.hid (And.intro hb (And.intro hs (And.intro hvl (And.intro hin (And.intro hrow (And.intro hd (And.intro hq1 (And.intro hq2 hq3))))))))
      have hnI : (0 : Int) < (n : Int) := by omega
      have hn9 : (n : Int) ≤ 100000 := by omega
      clear hb hs hvl hin hrow hd hq1 hq2 hq3 hrel HS0 hne hn
      go_wp2_with fail
      generalize hwo : wr = wo at *
      clear hwo
      go_loopw [5, 6, 21] (fun cv bv i w2 => ∃ j : Nat, j ≤ n ∧ i = .int .i64 j ∧ Hid (Below wo.heap.size wo w2 ∧ w2.ownsRow wo.heap.size 3 1 cv j (((gs.take j).map (cnt h')).map intV) ∧ w2.ownsRow wo.heap.size 69 1 bv ((gs.take j).flatMap (kp h')).length (((gs.take j).flatMap (kp h')).map ptrV))) (fun _ _ i _ => n - intN i)
      case atStart => exact ⟨0, Nat.zero_le _, rfl, Below.refl _ _, World.ownsRow_nil _ _ _ _, World.ownsRow_nil _ _ _ _⟩
      case round =>
        obtain ⟨j, hj, rfl, HR⟩ := hrel
        by_cases hlt : j < n
        · obtain ⟨hb2, hcv, hbv⟩ := HR.out
          obtain ⟨hb, hs, hvl, hin, hrow, hd, hq1, hq2, hq3⟩ := HST.out
          have hjg : j < gs.length := by rw [← HN.out.1]; exact hlt
          obtain ⟨⟨Rg, hga⟩, hg4, _⟩ := hrow gs[j] (List.getElem_mem hjg)
          have hbw : Below w.heap.size w wr := hb.trans (hb2.mono hb.size)
          have c0 : wr.cell? ⟨q, j, none⟩ = some (.pointer (some ⟨gb h' gs[j], 0, none⟩)) := by
            refine (World.cell?_of_block (hb2.block q hq2)).trans ((hq3 j hjg).trans ?_)
            simp [ptrs, List.getD_eq_getElem?_getD, hjg, ptrV]
          have HCT := Lib.hid (count_G wr (hga.below hbw) (by omega))
          obtain ⟨A1, m1, rfl⟩ := own_shape hcv
          obtain ⟨A2, m2, rfl⟩ := own_shape hbv
          obtain ⟨Ak, ck, ek, hkc⟩ := kp_at hga
          have htp := hga.top
          rw [ek] at htp
          have hkid := htp.c1
          have HG := Lib.hid (And.intro htp (And.intro hkc hbw))
          have et : gs.take (j + 1) = gs.take j ++ [gs[j]] := (List.take_append_getElem hjg).symm
          have HET := Lib.hid et
          have hgbl : gb h' gs[j] < w.heap.size := htp.lt
          have hk4 : (kp h' gs[j]).length ≤ 4 := Nat.le_trans (kp_le h' _) hg4
          have hfl : ((gs.take j).flatMap (kp h')).length ≤ 400000 := by
            have h1 := flat_le (kp h') 4 (gs.take j) fun x hx => Nat.le_trans (kp_le h' x) (hrow x (List.mem_of_mem_take hx)).2.1
            have h2 : (gs.take j).length ≤ n := by rw [List.length_take]; omega
            omega
          have HCV := Lib.hid hcv
          have HBV := Lib.hid hbv
          have HB2 := Lib.hid hb2
          generalize gs[j] = gj at *
          generalize hfls : (gs.take j).flatMap (kp h') = fl at *
          generalize hcts : ((gs.take j).map (cnt h')) = cts at *
          have HFLS := Lib.hid (And.intro hfls hcts)
          have hws : w.heap.size ≤ wr.heap.size := hbw.size
          have hwo2 : wo.heap.size ≤ wr.heap.size := hb2.size
          clear hfls hcts hb2 hcv hbv hb hs hvl hin hrow hd hq1 hq2 hq3 hga ek hkc htp hbw et HR hg4
          obtain ⟨ii, hi, hz0, hz1, hz2⟩ := info_parts infoInt
          obtain ⟨ip, pi, pz0, pz1, pz2⟩ := info_parts infoPtr
          go_wp2_with (first | (go_at_call 30; refine HCT.out.mono ?_; rintro e w3 ⟨rfl, hb3⟩; have HB3 := Lib.hid hb3; have hz3 := hb3.size; have HO3 := Lib.hid (own_up HCV.out hb3); have kid3 := (hb3.cell (p := ⟨gb h' gj, 1, none⟩) (by show gb h' gj < _; omega)).trans ((HG.out.2.2.cell (p := ⟨gb h' gj, 1, none⟩) hgbl).trans hkid); clear hb3) | (at_builtin; refine wpList_append_own _ rfl _ _ 54 rfl wo.heap.size 3 ii (.int .i64 0) 1 8 Try.underlying54 hi hz0 hz1 hz2 rfl (by decide) _ _ _ rfl (HO3.out.alloc _) ⟨_, 0, none⟩ 1 1 [.int .i64 (cnt h' gj)] rfl ?c2 ?c3 ?c4 ?c5 ?c6 ?c7 ?_))
          · rfl
          · exact news_v _ _ _
          · intro u hu; obtain rfl := List.mem_singleton.1 hu; rfl
          · unfold maxLen; omega
          · omega
          · rw [alloc_sz]; omega
          intro v' w4 hown hgrow _
          have hB4 : Below wo.heap.size wo w4 := ((HB2.out.trans (HB3.out.mono hwo2)).alloc (by omega) _).grown hgrow (by rw [alloc_sz]; omega) (fun k hk => (HCV.out.lt k hk).1)
          have HBV4 := Lib.hid (own_apart ((own_up HBV.out HB3.out).alloc _) (HO3.out.alloc _) (by decide) hgrow)
          have hbw4 : Below w.heap.size w w4 := HST.out.1.trans (hB4.mono HST.out.1.size)
          have kid4 := (hbw4.cell (p := ⟨gb h' gj, 1, none⟩) hgbl).trans hkid
          have HB4 := Lib.hid hB4
          have HO4 := Lib.hid hown
          have HK := Lib.hid HG.out.2.1
          have hz4 : wo.heap.size ≤ w4.heap.size := hB4.size
          clear hB4 hown hgrow kid3 hkid HO3 HBV HCV HB3 HB2 HG hbw4 c0 HCT hz3
          have hkI : ((kp h' gj).length : Int) ≤ 4 := by omega
          have hk0 : (0 : Int) ≤ ((kp h' gj).length : Int) := by omega
          go_wp2_with fail
          generalize hwm : wr = wm at *
          clear hwm
          go_loopw [6, 35] (fun bv i w5 => ∃ m : Nat, m ≤ (kp h' gj).length ∧ i = .int .i64 m ∧ Hid (Below wo.heap.size wo w5 ∧ w5.ownsRow wo.heap.size 3 1 v' (j + 1) (cts.map intV ++ [.int .i64 (cnt h' gj)]) ∧ w5.ownsRow wo.heap.size 69 1 bv (fl.length + m) ((fl ++ (kp h' gj).take m).map ptrV))) (fun _ i _ => (kp h' gj).length - intN i)
          case atStart => exact ⟨0, Nat.zero_le _, rfl, HB4.out, HO4.out, by simpa using HBV4.out⟩
          case round =>
            obtain ⟨m, hm, rfl, HR3⟩ := hrel
            by_cases hml : m < (kp h' gj).length
            · obtain ⟨hb5, ho5, hv5⟩ := HR3.out
              obtain ⟨q', k', rfl, hq', c1', c2'⟩ := HK.out m hml
              generalize hpm : (kp h' gj).getD m 0 = pm at c2'
              have HPM := Lib.hid hpm
              clear hpm
              have hbw5 : Below w.heap.size w wr := HST.out.1.trans (hb5.mono HST.out.1.size)
              have HLD : Hid (∀ j u, (#[.string k', (.pointer (some ⟨pm, 0, none⟩))] : Array Value)[j]? = some u → wr.cell? ⟨q', m * 2 + j, none⟩ = some u) := fun j u hu => by
                refine (hbw5.cell (p := ⟨q', m * 2 + j, none⟩) hq').trans ?_
                match j, hu with
                | 0, hu => exact c1'.trans hu
                | 1, hu => exact c2'.trans hu
              obtain ⟨A3, m3, rfl⟩ := own_shape hv5
              have hz5 : wo.heap.size ≤ wr.heap.size := hb5.size
              have H5 := Lib.hid (And.intro hb5 (And.intro ho5 hv5))
              have HAL := Lib.hid (heap_alloc_new wr (.cells #[.string ⟨#[]⟩, .pointer none] 72))
              have HU := Lib.hid undKN
              have HSZ := Lib.hid (fun p q => szPair p q)
              clear HR3 hb5 ho5 hv5 hbw5 c1' c2'
              go_upto_region 13 with (first
                | (with_reducible refine wpList_load_at rfl 72 (.tmp 37) rfl q' (m * 2) rfl #[.string k', (.pointer (some ⟨pm, 0, none⟩))] _ HLD.out HU.out rfl (HSZ.out _ _) ?_)
                | (with_reducible refine wpList_store_at rfl 72 (.tmp 10) (.tmp 38) rfl wr.heap.size 0 #[.string k', (.pointer (some ⟨pm, 0, none⟩))] rfl rfl 72 #[.string ⟨#[]⟩, .pointer none] HAL.out (HSZ.out _ _) (by simp) (by simp [Value.oneCell']) ?_))
              rw [show (wr.alloc (.cells #[.string ⟨#[]⟩, .pointer none] 72)).setRow wr.heap.size (putRow #[.string ⟨#[]⟩, .pointer none] 0 [.string k', (.pointer (some ⟨pm, 0, none⟩))]) = wr.alloc (.cells #[.string k', (.pointer (some ⟨pm, 0, none⟩))] 72) from setRow_alloc wr _ _ _]
              have hW6 := heap_alloc_new wr (.cells #[.string k', (.pointer (some ⟨pm, 0, none⟩))] 72)
              have hz6 := alloc_sz wr (.cells #[.string k', (.pointer (some ⟨pm, 0, none⟩))] 72)
              have H6 := Lib.hid (And.intro (H5.out.1.alloc hz5 (.cells #[.string k', (.pointer (some ⟨pm, 0, none⟩))] 72)) (And.intro (H5.out.2.1.alloc (.cells #[.string k', (.pointer (some ⟨pm, 0, none⟩))] 72)) (H5.out.2.2.alloc (.cells #[.string k', (.pointer (some ⟨pm, 0, none⟩))] 72))))
              generalize wr.alloc (.cells #[.string k', (.pointer (some ⟨pm, 0, none⟩))] 72) = w6 at *
              have c61 := (cell_of hW6 1).1
              clear HAL HLD H5 hW6
              go_wp2_with (at_builtin; refine wpList_append_own _ rfl _ _ 70 rfl wo.heap.size 69 ip (.pointer none) 1 8 Try.underlying70 pi pz0 pz1 pz2 rfl (by decide) _ _ _ rfl (H6.out.2.2.alloc _) ⟨_, 0, none⟩ 1 1 [.pointer (some ⟨pm, 0, none⟩)] rfl ?d2 ?d3 ?d4 ?d5 ?d6 ?d7 ?_)
              · rfl
              · rw [← hz6]; exact news_v _ _ _
              · intro u hu; obtain rfl := List.mem_singleton.1 hu; rfl
              · unfold maxLen; omega
              · omega
              · rw [alloc_sz]; omega
              intro v7 w7 hown hgrow _
              have hB7 : Below wo.heap.size wo w7 := (H6.out.1.alloc (by omega) _).grown hgrow (by rw [alloc_sz]; omega) (fun k hk => (H6.out.2.2.lt k hk).1)
              have HO7 := Lib.hid (own_apart (H6.out.2.1.alloc _) (H6.out.2.2.alloc _) (by decide) hgrow)
              have e3 : Value.pointer (some ⟨pm, 0, none⟩) = ((kp h' gj).map ptrV)[m]'(by rw [List.length_map]; exact hml) := by
                rw [List.getElem_map, ← HPM.out, List.getD_eq_getElem?_getD, List.getElem?_eq_getElem hml]
                rfl
              have e2 : fl.map ptrV ++ (((kp h' gj).map ptrV).take m ++ [Value.pointer (some ⟨pm, 0, none⟩)]) = (fl ++ (kp h' gj).take (m + 1)).map ptrV := by
                rw [e3, List.take_append_getElem, List.map_append, List.map_take]
              clear e3
              rw [e2, Nat.add_assoc] at hown
              have HV7 := Lib.hid hown
              have HB7 := Lib.hid hB7
              clear e2 hown hgrow hB7 H6 c61
              go_wp2_with fail
              go_roundw
              case rel => exact ⟨m + 1, by omega, by go_num, HB7.out, HO7.out, HV7.out⟩
              case measure => simp [intN]; omega
            · obtain rfl : m = (kp h' gj).length := by omega
              obtain ⟨hb5, ho5, hv5⟩ := HR3.out
              rw [List.take_length] at hv5
              have H5 := Lib.hid (And.intro hb5 (And.intro ho5 hv5))
              clear hb5 ho5 hv5 HR3
              go_wp2_with fail
              refine ⟨⟨j + 1, by omega, by go_num, H5.out.1, ?_, ?_⟩, by simp [intN]; omega⟩
              · rw [HET.out, List.map_append, List.map_append, HFLS.out.2]; exact H5.out.2.1
              · rw [HET.out, List.flatMap_append, HFLS.out.1, List.flatMap_singleton, List.length_append]; exact H5.out.2.2
        · obtain rfl : j = n := by omega
          obtain ⟨hb5, hcv, hbv⟩ := HR.out
          have eg : gs.take j = gs := by rw [HN.out.1, List.take_length]
          rw [eg] at hcv hbv
          obtain ⟨A1, m1, rfl⟩ := own_shape hcv
          obtain ⟨A2, m2, rfl⟩ := own_shape hbv
          have H5 := Lib.hid (And.intro hb5 (And.intro hcv hbv))
          have hz5 : wo.heap.size ≤ wr.heap.size := hb5.size
          have hfl : (gs.flatMap (kp h')).length ≤ 400000 := by
            have h1 := flat_le (kp h') 4 gs fun x hx => Nat.le_trans (kp_le h' x) (HST.out.2.2.2.2.1 x hx).2.1
            have h2 := HN.out.1
            omega
          clear hb5 hcv hbv HR eg
          have HFL := Lib.hid hfl
          generalize hkl : (gs.flatMap (kp h')).length = kl at *
          have HKL := Lib.hid hkl
          have hsl := infoSl
          obtain ⟨is, si, sz0, sz1, sz2⟩ := info_parts infoSl
          have hd9 : done.length ≤ 100000 := by
            have h1 := congrArg List.length HST.out.2.2.2.2.2.1
            rw [List.length_append] at h1
            have h2 := HTL.out
            omega
          have hws : w.heap.size ≤ wo.heap.size := HST.out.1.size
          have HS3 := Lib.hid (own_up HST.out.2.1 H5.out.1)
          clear hkl hfl
          go_wp2_with (at_builtin; refine wpList_append_own _ rfl _ _ 41 rfl w.heap.size 54 is (.slice none 0 0) 1 24 undSS si sz0 sz1 sz2 rfl (by decide) _ _ _ rfl (HS3.out.alloc _) ⟨_, 0, none⟩ 1 1 [.slice A1 j m1] rfl ?e2 ?e3 ?e4 ?e5 ?e6 ?e7 ?_)
          · rfl
          · exact news_v _ _ _
          · intro u hu; obtain rfl := List.mem_singleton.1 hu; rfl
          · unfold maxLen; omega
          · omega
          · rw [alloc_sz]; omega
          intro v7 w7 hown hgrow _
          have HN7 : Hid (ShS w tot h' v7 (.slice A2 kl m2) w7) := by
            obtain ⟨hb, hs, hvl, hin, hrow, hd, hq1, hq2, hq3⟩ := HST.out
            obtain ⟨hb5, hcv, hbv⟩ := H5.out
            obtain ⟨hnj, hne⟩ := HN.out
            subst hnj
            refine sh_next (((hb.trans (hb5.mono hb.size)).alloc (by omega) _).grown hgrow (by rw [alloc_sz]; omega) (fun k hk => (HS3.out.lt k hk).1)) hown hvl (fun i hi => ?_) ((own_apart (hcv.alloc _) (HS3.out.alloc _) (by decide) hgrow).mono hb.size) ((own_apart (hbv.alloc _) (HS3.out.alloc _) (by decide) hgrow).mono hb.size) HKL.out hrow hne hd HBIG.out
            obtain ⟨v, h1, h2⟩ := hin i hi
            exact ⟨v, h1, own_apart ((own_up h2 hb5).alloc _) (HS3.out.alloc _) (by decide) hgrow⟩
          clear hown hgrow H5 HST HS3 HKL HFL
          go_wp2_with fail
          go_roundg h'
          · exact HN7.out
          · omega

end Go.Proofs.Ytejbbojephiifaa
