/- WaitAll's walk. -/
import Derived.Test.YtcfibmbeojdifaaWtN
namespace Go.Proofs.Ytcfibmbeojdifaa
open Go.RowKit Go.Maps Go.WideMaps

set_option maxRecDepth 100000 in
set_option maxHeartbeats 4000000 in
theorem all_walk (w : World) (v : Value) (ds : List ((Int × Int) × Value × List Int)) (hv : RdE w v 3 (ds.map dV)) (hd : ∀ d ∈ ds, DeedOk w d) : Calls Try.prog 3 #[v] w fun e w' => e = .returned (.bool true) ∧ Below w.heap.size w w' := by
  have CB := begun_any w
  obtain ⟨A, ca, rfl, hA⟩ := hv
  rw [List.length_map]
  have HA : Hid (∀ i (hi : i < ds.length), ∃ g o, A = some ⟨g, o, none⟩ ∧ g < w.heap.size ∧ w.cell? ⟨g, o + i * 3, none⟩ = some (.int .i64 ds[i].1.1) ∧ w.cell? ⟨g, o + i * 3 + 1, none⟩ = some (.int .i64 ds[i].1.2) ∧ w.cell? ⟨g, o + i * 3 + 2, none⟩ = some ds[i].2.1) := fun i hi => by
    obtain ⟨g, o, e, hg, hc⟩ := hA i (by rw [List.length_map]; exact hi)
    have c0 := hc 0 (by decide)
    have c1 := hc 1 (by decide)
    have c2 := hc 2 (by decide)
    rw [List.getElem_map] at c0 c1 c2
    exact ⟨g, o, e, hg, c0, c1, c2⟩
  have HD := Lib.hid hd
  clear hA hd
  go_enter Try.func3, Try.ntmps3
  go_upto_region 3 with (first | (go_at_call 7; refine CB.mono ?_; rintro e w0 ⟨rfl, hb0⟩))
  have HB0 := Lib.hid hb0
  clear CB hb0
  by_cases h1 : 30 < ds.length
  · have h1' : (30 : Int) < (ds.length : Int) := by omega
    go_wp2
    go_ret
    exact ⟨rfl, HB0.out⟩
  have h1' : ¬ (30 : Int) < (ds.length : Int) := by omega
  go_upto_region 5 with fail
  have CN := new_gr w0
  go_upto_region 6 with (first | (go_at_call 8; refine CN.mono ?_; rintro e w1 ⟨rfl, hg1, hb1⟩))
  have hB0 : Below w1.heap.size w1 (w1.alloc (.cells #[.slice none 0 0] 29)) := (Below.refl _ _).alloc (Nat.le_refl _) _
  have BT0 : Bt (w1.alloc (.cells #[.slice none 0 0] 29)) w w0.heap.size (w0.heap.size + 1) w0.heap.size 0 w1.heap.size w1.heap.size [] (fun _ => none) :=
    ⟨hg1.on_ hB0, ⟨hB0.size, Nat.le_refl _, .slice none 0 0, heap_alloc_new _ _, World.ownsRow_nil _ _ _ _⟩, (HB0.out.trans (hb1.mono HB0.out.size)).trans (hB0.mono (Nat.le_trans HB0.out.size hb1.size)), HB0.out.size, Nat.le_trans HB0.out.size hb1.size⟩
  have HLEN := Lib.hid (show ds.length ≤ 30 by omega)
  clear CN hg1 hb1 hB0 HB0 h1
  obtain ⟨nd, hnd⟩ : ∃ nd, ds.length = nd := ⟨_, rfl⟩
  have HND := Lib.hid hnd
  rw [hnd] at h1' ⊢
  have hndI : (nd : Int) ≤ 30 := by omega
  have R0 : Hid (∃ (i m : Nat) (es : List (Int × Int)) (ob : Lit → Option Nat), i ≤ nd ∧ Value.int .i64 0 = .int .i64 (i : Int) ∧ m ≤ 10 * i ∧ es.length ≤ 10 * i ∧ Bt (w1.alloc (.cells #[.slice none 0 0] 29)) w w0.heap.size (w0.heap.size + 1) w0.heap.size m w1.heap.size w1.heap.size es ob) := ⟨0, 0, _, _, Nat.zero_le _, rfl, Nat.le_refl _, Nat.le_refl _, BT0⟩
  clear BT0 hnd
  generalize w1.alloc (.cells #[.slice none 0 0] 29) = w2 at *
  generalize w1.heap.size = p2 at *
  generalize w0.heap.size + 1 = p at *
  generalize w0.heap.size = B at *
  go_upto_region 7 with fail
  go_loopw [5, 6, 7, 8, 9] (fun iv _ _ _ _ wr => Hid (∃ (i m : Nat) (es : List (Int × Int)) (ob : Lit → Option Nat), i ≤ nd ∧ iv = .int .i64 (i : Int) ∧ m ≤ 10 * i ∧ es.length ≤ 10 * i ∧ Bt wr w B p B m p2 p2 es ob)) (fun iv _ _ _ _ _ => nd - ivN iv)
  case atStart => exact R0
  case round =>
    obtain ⟨i, m, es, ob, hi, rfl, hm, he, hT⟩ := hrel.out
    clear hrel R0
    by_cases hlt : i < nd
    · have hil : i < ds.length := by rw [HND.out]; exact hlt
      obtain ⟨g, o, rfl, hg, hx, hy, hz⟩ := HA.out i hil
      obtain ⟨hw1, hw2, hr, hwf, hol⟩ := HD.out ds[i] (List.getElem_mem hil)
      generalize ds[i].1.1 = kd at *
      generalize ds[i].1.2 = who at *
      generalize ds[i].2.2 = on at *
      obtain ⟨A2, c2, hv2, hA2⟩ := hr
      rw [hv2] at hz
      have hRd : RdI w (.slice A2 on.length c2) on := ⟨A2, c2, rfl, hA2⟩
      have HRD := Lib.hid hRd
      have hcx := (hT.bl.cell (p := ⟨g, o + i * 3, none⟩) hg).trans hx
      have hcy := (hT.bl.cell (p := ⟨g, o + i * 3 + 1, none⟩) hg).trans hy
      have hcz := (hT.bl.cell (p := ⟨g, o + i * 3 + 2, none⟩) hg).trans hz
      have hltI : (i : Int) < (nd : Int) := by omega
      have hi0 : (0 : Int) ≤ (i : Int) := by omega
      have HT := Lib.hid hT
      have HI : Hid (i < nd ∧ m ≤ 10 * i ∧ es.length ≤ 10 * i ∧ i < 30) := ⟨hlt, hm, he, by have := HLEN.out; have := HND.out; omega⟩
      have HWF : Hid (Wf kd ∧ Wf who ∧ ∀ y ∈ on, Wf y) := ⟨hw1, hw2, hwf⟩
      have hol63 : (on.length : Int) ≤ 9223372036854775807 := by have : on.length ≤ 9223372036854775807 := hol; omega
      have hol0 : (0 : Int) ≤ (on.length : Int) := by omega
      clear hT hi hm he hlt hil hg hx hy hz hw1 hw2 hwf hRd hv2 hA2 hol
      go_upto_region 10 with fail
      have hq := heap_alloc_new wr (.cells #[.int .i64 kd, .int .i64 who, .slice A2 on.length c2] 32)
      have hT4 := HT.out.on_ ((Below.refl wr.heap.size wr).alloc (Nat.le_refl _) (.cells #[.int .i64 kd, .int .i64 who, .slice A2 on.length c2] 32))
      clear hcx hcy hcz HT
      generalize wr.alloc (.cells #[.int .i64 kd, .int .i64 who, .slice A2 on.length c2] 32) = w4 at *
      generalize wr.heap.size = q at *
      have HQ := Lib.hid hq
      have HT4 := Lib.hid hT4
      have y2 : w4.cell? ⟨q, 2, none⟩ = some (.slice A2 on.length c2) := (cell_of hq 2).1
      clear hq hT4
      obtain ⟨lo, hlo⟩ : ∃ lo, on.length = lo := ⟨_, rfl⟩
      have HLO := Lib.hid hlo
      rw [hlo] at y2 hol63 hol0
      clear hlo
      by_cases hgt : 6 < lo
      · have hgI : (6 : Int) < (lo : Int) := by omega
        clear hgt
        go_wp2
        go_ret
        exact ⟨rfl, HT4.out.bl⟩
      have hgI : ¬ (6 : Int) < (lo : Int) := by omega
      have HL6 := Lib.hid (show on.length ≤ 6 by rw [HLO.out]; omega)
      clear hgt
      go_upto_region 12 with fail
      clear hgI y2
      have y0 : w4.cell? ⟨q, 0, none⟩ = some (.int .i64 kd) := (cell_of HQ.out 0).1
      have HKD : Hid (-9223372036854775808 ≤ kd ∧ kd ≤ 9223372036854775807) := by
        have h := HWF.out.1
        unfold Wf at h
        simp only [Lit.wf, Bool.and_eq_true, decide_eq_true_eq] at h
        have hmin : IntKind.i64.min = -9223372036854775808 := rfl
        have hmax : IntKind.i64.max = 9223372036854775807 := rfl
        exact ⟨by omega, by omega⟩
      go_cut [37] (fun q' wx => ∃ z : Int, 0 ≤ z ∧ z < 7 ∧ q' = .int .i64 z ∧ wx = w4)
      case first =>
        obtain ⟨hk0, hk1⟩ := HKD.out
        go_wp2_with fail
        go_meet
        have y1 := Int.lt_tmod_of_pos kd (show (0:Int) < 7 by omega)
        have y2 := Int.tmod_lt_of_pos kd (show (0:Int) < 7 by omega)
        have y3 : wrap64 (kd.tmod 7 + 7) = kd.tmod 7 + 7 := by unfold wrap64; omega
        refine ⟨_, ?_, ?_, rfl, rfl⟩
        · rw [y3]; exact Int.tmod_nonneg 7 (by omega)
        · exact Int.tmod_lt_of_pos _ (by omega)
      case rest =>
        obtain ⟨z, hz0, hz9, rfl, rfl⟩ := hcut
        clear y0
        go_upto_block 2 with (fail)
        go_cut [] (fun wx => Hid (∃ (m' : Nat) (es' : List (Int × Int)) (ob' : Lit → Option Nat), m' ≤ 10 * (i + 1) ∧ es'.length ≤ 10 * (i + 1) ∧ Bt wx w B p B m' p2 p2 es' ob' ∧ wx.heap[q]? = some (.cells #[.int .i64 kd, .int .i64 who, .slice A2 on.length c2] 32 (0, 0))))
        case first =>
          have y1 : wc.cell? ⟨q, 1, none⟩ = some (.int .i64 who) := (cell_of HQ.out 1).1
          have y2 : wc.cell? ⟨q, 2, none⟩ = some (.slice A2 lo c2) := by rw [← HLO.out]; exact (cell_of HQ.out 2).1
          have hes : es.length < 50000 := by have := HI.out; omega
          have hm5 : m < 100000 := by have := HI.out; omega
          have hql := lt_of_heap HQ.out
          have hon : RdI wc (.slice A2 lo c2) on := by
            have := HRD.out.below HT4.out.bl (Nat.le_refl _)
            rw [HLO.out] at this
            exact this
          have HON := Lib.hid hon
          clear hon
          by_cases h5 : z = 5
          · have CA := clear_any wc HT4.out.g hm5 HWF.out.2.1
            clear hz0 hz9
            subst h5
            go_upto_region 17 with (first | (go_at_call 9; refine CA.mono ?_; rintro e w5 ⟨rfl, ob5, g5, _, t5⟩))
            have r5 := HT4.out.r.tn HT4.out.g t5
            have hq5 := cells_kept_tn HT4.out.g t5 HQ.out
            have CR := rclear_any w5 r5 (by omega) who
            have y1 : w5.cell? ⟨q, 1, none⟩ = some (.int .i64 who) := (cell_of hq5 1).1
            have y2 : w5.cell? ⟨q, 2, none⟩ = some (.slice A2 lo c2) := by rw [← HLO.out]; exact (cell_of hq5 2).1
            have G5 := Lib.hid g5
            have T5 := Lib.hid t5
            have R5 := Lib.hid r5
            have HQ5 := Lib.hid hq5
            clear CA g5 t5 r5 hq5
            go_wp2_with (first | (go_at_call 10; refine CR.mono ?_; rintro e w6 ⟨rfl, r6, f6⟩))
            go_meet
            have hq6 := (f6.block q (lt_of_heap HQ5.out) (fun e => by
              obtain ⟨v2, h2, _⟩ := R5.out.ex
              rw [← e, HQ5.out] at h2
              cases h2)).trans HQ5.out
            exact ⟨_, es.filter (fun q => decide (q.1 ≠ who)), ob5, by have := HI.out; omega, by have := HI.out; have := List.length_filter_le (fun q : Int × Int => decide (q.1 ≠ who)) es; omega, HT4.out.both (G5.out.eqv fun x y => by rw [show setE es who [] = es.filter (fun q => decide (q.1 ≠ who)) by simp [setE]]) T5.out r6 f6 R5.out, hq6⟩
          · have h5b : (z == 5) = false := by simpa using h5
            by_cases h6 : z = 6
            · have CA := gone_any wc HT4.out.g HWF.out.2.1
              clear hz0 hz9 h5 h5b
              subst h6
              go_upto_region 20 with (first | (go_at_call 11; refine CA.mono ?_; rintro e w5 ⟨rfl, ob5, g5, _, t5⟩))
              have r5 := HT4.out.r.tn HT4.out.g t5
              have hq5 := cells_kept_tn HT4.out.g t5 HQ.out
              have CR := rgone_any w5 r5 (by omega) who
              have y1 : w5.cell? ⟨q, 1, none⟩ = some (.int .i64 who) := (cell_of hq5 1).1
              have y2 : w5.cell? ⟨q, 2, none⟩ = some (.slice A2 lo c2) := by rw [← HLO.out]; exact (cell_of hq5 2).1
              have G5 := Lib.hid g5
              have T5 := Lib.hid t5
              have R5 := Lib.hid r5
              have HQ5 := Lib.hid hq5
              clear CA g5 t5 r5 hq5
              go_wp2_with (first | (go_at_call 12; refine CR.mono ?_; rintro e w6 ⟨rfl, r6, f6⟩))
              go_meet
              have hq6 := (f6.block q (lt_of_heap HQ5.out) (fun e => by
                obtain ⟨v2, h2, _⟩ := R5.out.ex
                rw [← e, HQ5.out] at h2
                cases h2)).trans HQ5.out
              exact ⟨_, goneE es who, ob5, by have := HI.out; omega, by have := HI.out; have := goneE_length es who; omega, HT4.out.both G5.out T5.out r6 f6 R5.out, hq6⟩
            · have h6b : (z == 6) = false := by simpa using h6
              have CA := set_any wc HT4.out.g hm5 HWF.out.2.1 (show on.length < 1000 by have := HL6.out; omega) HWF.out.2.2 HON.out
              clear hz0 hz9 h5 h6
              go_upto_region 14 with (first | (go_at_call 13; refine CA.mono ?_; rintro e w5 ⟨rfl, ob5, g5, _, t5⟩))
              have r5 := HT4.out.r.tn HT4.out.g t5
              have hq5 := cells_kept_tn HT4.out.g t5 HQ.out
              have HON5 : RdI w5 (.slice A2 lo c2) on := by
                obtain ⟨A3, c3, e3, h3⟩ := HRD.out.below (HT4.out.bl.trans ((t5.below HT4.out.g).mono HT4.out.b1)) (Nat.le_refl _)
                rw [HLO.out] at e3
                cases e3
                exact ⟨_, _, by rw [HLO.out], h3⟩
              have CR := rset_any w5 r5 hes who (show RdI w5 (.slice A2 lo c2) on from HON5) (show on.length < 1000 by have := HL6.out; omega)
              have y1 : w5.cell? ⟨q, 1, none⟩ = some (.int .i64 who) := (cell_of hq5 1).1
              have y2 : w5.cell? ⟨q, 2, none⟩ = some (.slice A2 lo c2) := by rw [← HLO.out]; exact (cell_of hq5 2).1
              have G5 := Lib.hid g5
              have T5 := Lib.hid t5
              have R5 := Lib.hid r5
              have HQ5 := Lib.hid hq5
              clear CA g5 t5 r5 hq5
              go_wp2_with (first | (go_at_call 14; refine CR.mono ?_; rintro e w6 ⟨rfl, r6, f6⟩))
              go_meet
              have hq6 := (f6.block q (lt_of_heap HQ5.out) (fun e => by
                obtain ⟨v2, h2, _⟩ := R5.out.ex
                rw [← e, HQ5.out] at h2
                cases h2)).trans HQ5.out
              exact ⟨_, setE es who on, ob5, by have := HI.out; have := HL6.out; omega, by have := HI.out; have := setE_length es who on; have := HL6.out; omega, HT4.out.both G5.out T5.out r6 f6 R5.out, hq6⟩
        case rest =>
          clear HT4 HQ HKD hz0 hz9
          obtain ⟨m6, es6, ob6, hm6, hl6, hT6, hq6⟩ := hcut.out
          clear hcut
          have hes6 : es6.length < 50000 := by have := HI.out; omega
          have hm65 : m6 < 100000 := by have := HI.out; omega
          have hdr : Below wc.heap.size wc wc.drew := (Below.refl _ wc).drew
          have CO := on_any wc.drew (hT6.on_ hdr).g hm65 HWF.out.2.1
          have y1 : wc.cell? ⟨q, 1, none⟩ = some (.int .i64 who) := (cell_of hq6 1).1
          have HT6 := Lib.hid hT6
          have HQ6 := Lib.hid hq6
          have HM6 : Hid (m6 ≤ 10 * (i + 1) ∧ es6.length ≤ 10 * (i + 1) ∧ es6.length < 50000) := ⟨hm6, hl6, hes6⟩
          clear hT6 hq6 hm6 hl6 hes6 hm65
          go_upto_region 21 with fail
          obtain ⟨N, hN⟩ : ∃ N, (rowL es6 who).length = N := ⟨_, rfl⟩
          have HNN := Lib.hid hN
          have hNl : N < 50000 := by have := rowL_length es6 who; have := HM6.out.2.2; omega
          clear hN
          go_cut [7, 8] (fun av bv wx => Hid (∃ (A7 A8 : Option Addr) (c7 c8 : Nat), av = .slice A7 N c7 ∧ bv = .slice A8 N c8 ∧ RdI wx (.slice A7 N c7) (rowL es6 who) ∧ RdI wx (.slice A8 N c8) (rowL es6 who) ∧ Below wc.heap.size wc wx))
          case first =>
            go_region_with (first
              | (go_at_call 16; refine CO2.mono ?_; rintro e w8 ⟨v8, rfl, hS8, hb8⟩)
              | (go_at_call 15; refine CO.mono ?_; rintro e w7 ⟨v7, rfl, hS7, hb7⟩; have hb7' := hdr.trans hb7; have y7 : w7.cell? ⟨q, 1, none⟩ = some (.int .i64 who) := (hb7'.cell (p := ⟨q, 1, none⟩) (lt_of_heap HQ6.out)).trans y1; have hT7 := HT6.out.on_ hb7'; have CO2 := ron_any w7 hT7.r (Nat.lt_trans HM6.out.2.2 (by decide)) who))
            all_goals (
              have hR7 := hS7.rd.below hb8 (Nat.le_refl _)
              have hR8 := hS8.rd
              have hbb := hb7'.trans (hb8.mono hb7'.size)
              obtain ⟨A7, c7, e7, h7⟩ := hR7
              obtain ⟨A8, c8, e8, h8⟩ := hR8
              rw [HNN.out] at e7 e8
              subst e7 e8
              have HFIN : Hid (∃ (A7' A8' : Option Addr) (c7' c8' : Nat), Value.slice A7 N c7 = .slice A7' N c7' ∧ Value.slice A8 N c8 = .slice A8' N c8' ∧ RdI w8 (.slice A7' N c7') (rowL es6 who) ∧ RdI w8 (.slice A8' N c8') (rowL es6 who) ∧ Below wc.heap.size wc w8) := ⟨A7, A8, c7, c8, rfl, rfl, ⟨A7, c7, by rw [HNN.out], h7⟩, ⟨A8, c8, by rw [HNN.out], h8⟩, hbb⟩
              clear hS7 hS8 hb7 hb8 hb7' hT7 CO2 CO hdr y1 y7 h7 h8 hbb
              go_wp2_with fail
              go_meet
              exact HFIN.out)
          case rest =>
            obtain ⟨A7, A8, c7, c8, rfl, rfl, hR7, hR8, hb8⟩ := hcut.out
            clear hcut CO hdr y1
            have hT8 := HT6.out.on_ hb8
            have hq8 := (hb8.block q (lt_of_heap HQ6.out)).trans HQ6.out
            have HT8 := Lib.hid hT8
            have HQ8 := Lib.hid hq8
            have HR7 := Lib.hid hR7
            have HR8 := Lib.hid hR8
            have HCC : Hid (∀ w7, Below wc.heap.size wc w7 → Calls Try.prog 17 #[.pointer (some ⟨p, 0, none⟩), .int .i64 who] w7 fun e w' => e = .returned (.bool (cyB es6 who)) ∧ Below w7.heap.size w7 w') := fun w7 hb => cycle_any w7 (HT8.out.on_ hb).g (Nat.lt_trans HM6.out.2.2 (by decide)) HWF.out.2.1
            have HCL : Hid (∀ W : World, Below wc.heap.size wc W → W.cell? ⟨q, 1, none⟩ = some (.int .i64 who)) := fun W hb => (hb.cell (p := ⟨q, 1, none⟩) (lt_of_heap HQ8.out)).trans (cell_of HQ8.out 1).1
            have HCR : Hid (∀ w7, Below wc.heap.size wc w7 → Calls Try.prog 18 #[.pointer (some ⟨p2, 0, none⟩), .int .i64 who] w7 fun e w' => e = .returned (.bool (cyB es6 who)) ∧ Below w7.heap.size w7 w') := fun w7 hb => rcycle_any w7 (HT8.out.on_ hb).r (Nat.lt_trans HM6.out.2.2 (by decide)) who
            generalize cyB es6 who = cy at *
            have hNI : (N : Int) < 50000 := by omega
            clear hT8 hq8 hR7 hR8 hb8 HT6 HQ6
            go_upto_region 22 with fail
            go_cut [93] (fun cv wx => cv = .bool false ∧ Below wc.heap.size wc wx)
            case first =>
              refine wp_region_F (fun (_ : Unit) W => W.cell? ⟨q, 1, none⟩ = some (.int .i64 who)) (fun _ j => StT 99 () j) (by kernel_rfl) ?_
              have HK0 := Lib.hid (Below.refl wc.heap.size wc).drew
              generalize wc.drew = WK0 at *
              refine wpAnyF_take0 (i := 0) (oi := ⟨_, _, _, _, _, _⟩) (v := ?_) rfl (by kernel_rfl) (by kernel_rfl) (by kernel_rfl) (fun _ _ _ h => h) (Or.inl ⟨by rfl, ?_⟩) ?_
              rotate_left
              · intro W _
                go_simp
                try with_reducible rfl
              rotate_left
              try simp only [Act.put, List.setIfInBounds_toArray, List.set_cons_zero, List.set_cons_succ]
              refine wpAnyF_take0 (i := 1) (oi := ⟨_, _, _, _, _, _⟩) (v := ?_) rfl (by kernel_rfl) (by kernel_rfl) (by kernel_rfl) (fun _ _ _ h => h) (Or.inl ⟨by rfl, ?_⟩) ?_
              rotate_left
              · intro W _
                go_simp
                try with_reducible rfl
              rotate_left
              try simp only [Act.put, List.setIfInBounds_toArray, List.set_cons_zero, List.set_cons_succ]
              refine wpAnyF_take0 (i := 2) (oi := ⟨_, _, _, _, _, _⟩) (v := ?_) rfl (by kernel_rfl) (by kernel_rfl) (by kernel_rfl) (fun _ _ _ h => h) (Or.inl ⟨by rfl, ?_⟩) ?_
              rotate_left
              · intro W _
                go_simp
                try with_reducible rfl
              rotate_left
              try simp only [Act.put, List.setIfInBounds_toArray, List.set_cons_zero, List.set_cons_succ]
              refine wpAnyF_take0 (i := 3) (oi := ⟨_, _, _, _, _, _⟩) (v := ?_) rfl (by kernel_rfl) (by kernel_rfl) (by kernel_rfl) (fun _ _ _ h => h) (Or.inl ⟨by rfl, ?_⟩) ?_
              rotate_left
              · intro W _
                go_simp
                try with_reducible rfl
              rotate_left
              try simp only [Act.put, List.setIfInBounds_toArray, List.set_cons_zero, List.set_cons_succ]
              refine wpAnyF_take0 (i := 4) (oi := ⟨_, _, _, _, _, _⟩) (v := (.bool false)) rfl (by kernel_rfl) (by kernel_rfl) (by kernel_rfl) (fun _ _ _ h => h) (Or.inl ⟨by rfl, fun W _ => ?_⟩) ?_
              · go_simp
              try simp only [Act.put, List.setIfInBounds_toArray, List.set_cons_zero, List.set_cons_succ]
              refine wpAnyF_take0 (i := 5) (oi := ⟨_, _, _, _, _, _⟩) (v := ?_) rfl (by kernel_rfl) (by kernel_rfl) (by kernel_rfl) (fun _ _ _ h => h) (Or.inl ⟨by rfl, ?_⟩) ?_
              rotate_left
              · intro W _
                go_simp
                try with_reducible rfl
              rotate_left
              try simp only [Act.put, List.setIfInBounds_toArray, List.set_cons_zero, List.set_cons_succ]
              refine wpAnyF_take0 (i := 6) (oi := ⟨_, _, _, _, _, _⟩) (v := ?_) rfl (by kernel_rfl) (by kernel_rfl) (by kernel_rfl) (fun _ _ _ h => h) (Or.inl ⟨by rfl, ?_⟩) ?_
              rotate_left
              · intro W _
                go_simp
                try with_reducible rfl
              rotate_left
              try simp only [Act.put, List.setIfInBounds_toArray, List.set_cons_zero, List.set_cons_succ]
              refine wpAnyF_take0 (i := 7) (oi := ⟨_, _, _, _, _, _⟩) (v := ?_) rfl (by kernel_rfl) (by kernel_rfl) (by kernel_rfl) (fun _ _ _ h => h) (Or.inl ⟨by rfl, ?_⟩) ?_
              rotate_left
              · intro W _
                go_simp
                try with_reducible rfl
              rotate_left
              try simp only [Act.put, List.setIfInBounds_toArray, List.set_cons_zero, List.set_cons_succ]
              refine wpAnyF_take () (i := 8) (oi := ⟨_, _, _, _, _, _⟩) (v := (.int .i64 who)) rfl (by kernel_rfl) (by kernel_rfl) (by kernel_rfl) (by kernel_rfl) (fun _ _ _ h => h) (HCL.out _ HK0.out) (Or.inl ⟨by rfl, fun W hSW => ?_⟩) ?_
              · have hS : W.cell? ⟨q, 1, none⟩ = some (.int .i64 who) := hSW
                go_simp
              try simp only [Act.put, List.setIfInBounds_toArray, List.set_cons_zero, List.set_cons_succ]
              refine wpAnyF_take0 (i := 10) (oi := ⟨_, _, _, _, _, _⟩) (v := ?_) rfl (by kernel_rfl) (by kernel_rfl) (by kernel_rfl) (fun _ _ _ h => h) (Or.inl ⟨by rfl, ?_⟩) ?_
              rotate_left
              · intro W _
                go_simp
                try with_reducible rfl
              rotate_left
              try simp only [Act.put, List.setIfInBounds_toArray, List.set_cons_zero, List.set_cons_succ]
              refine wpAnyF_take0 (i := 11) (oi := ⟨_, _, _, _, _, _⟩) (v := ?_) rfl (by kernel_rfl) (by kernel_rfl) (by kernel_rfl) (fun _ _ _ h => h) (Or.inl ⟨by rfl, ?_⟩) ?_
              rotate_left
              · intro W _
                go_simp
                try with_reducible rfl
              rotate_left
              try simp only [Act.put, List.setIfInBounds_toArray, List.set_cons_zero, List.set_cons_succ]
              refine wpAnyF_take () (i := 12) (oi := ⟨_, _, _, _, _, _⟩) (v := (.int .i64 who)) rfl (by kernel_rfl) (by kernel_rfl) (by kernel_rfl) (by kernel_rfl) (fun _ _ _ h => h) (HCL.out _ HK0.out) (Or.inl ⟨by rfl, fun W hSW => ?_⟩) ?_
              · have hS : W.cell? ⟨q, 1, none⟩ = some (.int .i64 who) := hSW
                go_simp
              try simp only [Act.put, List.setIfInBounds_toArray, List.set_cons_zero, List.set_cons_succ]
              refine wpAnyF_ready (rs := [9]) (by kernel_rfl) (by simp) ?_
              refine AllReadyF.cons (o := ⟨_, _, _, _, _, _⟩) rfl (fun K hK => ?_) AllReadyF.nil
              rw [if_pos (by rfl)]
              go_simp
              go_at_call 17
              refine (HCC.out _ HK0.out).mono ?_
              rintro e WK1 ⟨rfl, hb1⟩
              have HK1 := Lib.hid (HK0.out.trans (hb1.mono HK0.out.size))
              clear hb1
              go_wp2_with fail
              refine hK.out _ _ (fun _ _ _ => HCL.out _ HK1.out) ?_
              clear hK K
              try simp only [Act.put, List.setIfInBounds_toArray, List.set_cons_zero, List.set_cons_succ]
              refine wpAnyF_ready (rs := [13]) (by kernel_rfl) (by simp) ?_
              refine AllReadyF.cons (o := ⟨_, _, _, _, _, _⟩) rfl (fun K hK => ?_) AllReadyF.nil
              rw [if_pos (by rfl)]
              go_simp
              go_at_call 18
              refine (HCR.out _ HK1.out).mono ?_
              rintro e WK2 ⟨rfl, hb2⟩
              have HK2 := Lib.hid (HK1.out.trans (hb2.mono HK1.out.size))
              clear hb2
              go_wp2_with fail
              refine hK.out _ _ (fun _ _ _ => HCL.out _ HK2.out) ?_
              clear hK K
              try simp only [Act.put, List.setIfInBounds_toArray, List.set_cons_zero, List.set_cons_succ]
              refine wpAnyF_take0 (i := 14) (oi := ⟨_, _, _, _, _, _⟩) (v := (.bool false)) rfl (by kernel_rfl) (by kernel_rfl) (by kernel_rfl) (fun _ _ _ h => h) (Or.inl ⟨by rfl, fun W _ => ?_⟩) ?_
              · go_simp
              try simp only [Act.put, List.setIfInBounds_toArray, List.set_cons_zero, List.set_cons_succ]
              refine wpAnyF_take0 (i := 15) (oi := ⟨_, _, _, _, _, _⟩) (v := ?_) rfl (by kernel_rfl) (by kernel_rfl) (by kernel_rfl) (fun _ _ _ h => h) (Or.inl ⟨by rfl, ?_⟩) ?_
              rotate_left
              · intro W _
                go_simp
                try with_reducible rfl
              rotate_left
              try simp only [Act.put, List.setIfInBounds_toArray, List.set_cons_zero, List.set_cons_succ]
              refine wpAnyF_done (by kernel_rfl) ?_ _
              have HBB := Lib.hid HK2.out
              go_wp2_with fail
              go_meet
              exact ⟨rfl, HBB.out⟩
            case rest =>
              obtain ⟨rfl, hb9⟩ := hcut
              clear HCC HCL HCR
              have HT9 := Lib.hid (HT8.out.on_ hb9)
              have HR7' := Lib.hid (HR7.out.below hb9 (Nat.le_refl _))
              have HR8' := Lib.hid (HR8.out.below hb9 (Nat.le_refl _))
              clear hb9 HT8 HQ8 HR7 HR8
              go_upto_region 25 with fail
              obtain ⟨w9, hw9⟩ : ∃ w9, w9 = wc := ⟨_, rfl⟩
              have R9 : Hid (∃ k : Nat, k ≤ N ∧ Value.int .i64 0 = .int .i64 (k : Int) ∧ Below w9.heap.size w9 wc) := ⟨0, Nat.zero_le _, rfl, by rw [hw9]; exact Below.refl _ _⟩
              rw [← hw9] at HT9 HR7' HR8'
              clear hw9
              go_loopw [9] (fun kv wz => Hid (∃ k : Nat, k ≤ N ∧ kv = .int .i64 (k : Int) ∧ Below w9.heap.size w9 wz)) (fun kv _ => N - ivN kv)
              case atStart => exact R9
              case round =>
                obtain ⟨k, hk, rfl, hbk⟩ := hrel.out
                clear hrel R9
                have hk0 : (0 : Int) ≤ (k : Int) := by omega
                by_cases hkt : k < N
                · obtain ⟨A7', c7', e7, h7⟩ := HR7'.out.below hbk (Nat.le_refl _)
                  obtain ⟨A8', c8', e8, h8⟩ := HR8'.out.below hbk (Nat.le_refl _)
                  rw [HNN.out] at e7 e8
                  cases e7
                  cases e8
                  have hkl : k < (rowL es6 who).length := by rw [HNN.out]; exact hkt
                  obtain ⟨g7, o7, rfl, _, hc7⟩ := h7 k hkl
                  obtain ⟨g8, o8, rfl, _, hc8⟩ := h8 k hkl
                  generalize (rowL es6 who)[k] = y at *
                  have hkI : (k : Int) < (N : Int) := by omega
                  have HK := Lib.hid hkt
                  have HBK := Lib.hid (hbk.trans ((Below.refl w9.heap.size _).drew))
                  clear h7 h8 hbk hk hkt hkl
                  go_upto_region 27 with fail
                  go_region
                  have HU : Hid ((∃ k' : Nat, k' ≤ N ∧ Value.int .i64 ((k : Int) + 1) = .int .i64 (k' : Int) ∧ Below w9.heap.size w9 _) ∧ N - ivN (.int .i64 ((k : Int) + 1)) < N - ivN (.int .i64 (k : Int))) := ⟨⟨k + 1, HK.out, rfl, HBK.out⟩, by have := HK.out; simp only [ivN]; omega⟩
                  clear hc7 hc8
                  go_wp2_with fail
                  exact HU.out
                · have hkn : ¬ (k : Int) < (N : Int) := by omega
                  have HU : Hid ((∃ (i' m' : Nat) (es' : List (Int × Int)) (ob' : Lit → Option Nat), i' ≤ nd ∧ Value.int .i64 ((i : Int) + 1) = .int .i64 (i' : Int) ∧ m' ≤ 10 * i' ∧ es'.length ≤ 10 * i' ∧ Bt _ w B p B m' p2 p2 es' ob') ∧ nd - ivN (.int .i64 ((i : Int) + 1)) < nd - ivN (.int .i64 (i : Int))) :=
                    ⟨⟨i + 1, m6, es6, ob6, HI.out.1, rfl, HM6.out.1, HM6.out.2.1, HT9.out.on_ hbk⟩, by have := HI.out.1; simp only [ivN]; omega⟩
                  clear hbk hk hkt
                  go_wp2
                  exact HU.out
    · obtain rfl : i = nd := by omega
      have HB := Lib.hid hT.bl
      have CS := set_np
      clear hT hi hm he hlt HA HD HND
      go_upto_region 30 with fail
      have CS2 := CS (wr.alloc (.cells #[.int .i64 2] 3)) 1 (some ⟨wr.heap.size, 0, none⟩) 1 1
      go_upto_region 31 with (first | (go_at_call 13; refine CS2.mono ?_; rintro e w5 ⟨rfl, hw⟩; obtain rfl := hw.symm; clear hw))
      have HB5 := Lib.hid (HB.out.alloc HB.out.size (.cells #[.int .i64 2] 3))
      clear CS CS2
      generalize wr.alloc (.cells #[.int .i64 2] 3) = w5 at *
      have C1 := clear_np w5 1
      have C2 := gone_np w5 1
      have C3 := cycle_np w5 1
      have C4 := on_np w5 1
      go_wp2_with (first
        | (go_at_call 9; refine C1.mono ?_; rintro e w6 ⟨rfl, hw⟩; obtain rfl := hw.symm; clear hw)
        | (go_at_call 11; refine C2.mono ?_; rintro e w6 ⟨rfl, hw⟩; obtain rfl := hw.symm; clear hw)
        | (go_at_call 17; refine C3.mono ?_; rintro e w6 ⟨rfl, hw⟩; obtain rfl := hw.symm; clear hw)
        | (go_at_call 15; refine C4.mono ?_; rintro e w6 ⟨rfl, hw⟩; obtain rfl := hw.symm; clear hw))
      go_ret
      exact ⟨rfl, HB5.out⟩
end Go.Proofs.Ytcfibmbeojdifaa
