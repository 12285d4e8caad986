/- The reference's graph in memory: On, Cycle. -/
import Derived.Test.YtcfibmbeojdifaaWtH
namespace Go.Proofs.Ytcfibmbeojdifaa
open Go.RowKit Go.Maps Go.WideMaps

theorem rowL_take {es : List (Int × Int)} {who : Int} {i : Nat} (hi : i < es.length) : rowL (es.take (i + 1)) who = if es[i].1 = who then riseL (rowL (es.take i) who) es[i].2 else rowL (es.take i) who := by
  rw [← List.take_append_getElem hi, rowL_snoc]

set_option maxRecDepth 100000 in
set_option maxHeartbeats 2000000 in
theorem ron_any (w : World) {B p : Nat} {es : List (Int × Int)} (h : RG w B p es) (hn : es.length < 100000) (who : Int) :
    Calls Try.prog 16 #[.pointer (some ⟨p, 0, none⟩), .int .i64 who] w fun e w' => ∃ v, e = .returned v ∧ SlR w' w.heap.size v (rowL es who) ∧ Below w.heap.size w w' := by
  obtain ⟨v, hp, hs⟩ := h.ex
  obtain ⟨pt, cp, rfl, hcap, hat⟩ := hs.at_
  have c0 : w.cell? ⟨p, 0, none⟩ = some (.slice pt es.length cp) := (cell_of hp 0).1
  obtain ⟨n, hN⟩ : ∃ n, es.length = n := ⟨_, rfl⟩
  have HAT := Lib.hid hat
  have HN := Lib.hid hN
  have HPL := Lib.hid h.lt
  rw [hN] at c0 hn hcap
  have hnI : (n : Int) < 100000 := by omega
  clear h hs hat hp hN hcap
  go_enter Try.func16, Try.ntmps16
  go_upto_region 3 with fail
  go_loopw [5, 6] (fun lv iv wr => Hid (∃ i : Nat, i ≤ n ∧ iv = .int .i64 (i : Int) ∧ SlR wr w.heap.size lv (rowL (es.take i) who) ∧ Below w.heap.size w wr)) (fun _ iv _ => n - ivN iv)
  case atStart => exact ⟨0, Nat.zero_le _, rfl, World.ownsRow_nil _ _ _ _, Below.refl _ _⟩
  case round =>
    obtain ⟨i, hi, rfl, hL, hb⟩ := hrel.out
    clear hrel
    have hc0 := (hb.cell (p := ⟨p, 0, none⟩) HPL.out).trans c0
    have hi0 : (0 : Int) ≤ (i : Int) := by omega
    have hi1 : (i : Int) < 100000 := by omega
    obtain ⟨pt2, cp2, rfl⟩ := hL.form
    by_cases hlt : i < n
    · have hie : i < es.length := by rw [HN.out]; exact hlt
      obtain ⟨g, rfl, hgB, hg, hx, hy⟩ := HAT.out i hie
      have hcx := (hb.cell (p := ⟨g, i * 2, none⟩) hg).trans hx
      have hcy := (hb.cell (p := ⟨g, i * 2 + 1, none⟩) hg).trans hy
      have hft := rowL_take (who := who) hie
      have hrl := rowL_length (es.take i) who
      rw [List.length_take] at hrl
      generalize es[i].1 = x at *
      generalize es[i].2 = y at *
      have hltI : (i : Int) < (n : Int) := by omega
      have CR := rise_any wr hL hb.size (rowL_row _ _).up (by omega) y
      have HL := Lib.hid hL
      have HBL := Lib.hid hb
      have HI := Lib.hid hlt
      have HFT := Lib.hid hft
      clear hL hb hi hlt hft hx hy hg hgB hie hrl
      generalize rowL (es.take i) who = M at *
      by_cases hw : x = who
      · have hHF := Lib.hid (show rowL (es.take (i + 1)) who = riseL M y by rw [HFT.out]; simp [hw])
        have hwb : (x == who) = true := by simpa using hw
        clear HFT hw
        go_wp2_with (first | (go_at_call 22; refine CR.mono ?_; rintro e w5 ⟨v5, rfl, h5, hb5⟩))
        exact ⟨⟨i + 1, HI.out, rfl, by rw [hHF.out]; exact h5, HBL.out.trans (hb5.mono HBL.out.size)⟩, by have := HI.out; simp only [ivN]; omega⟩
      · have hHF := Lib.hid (show rowL (es.take (i + 1)) who = M by rw [HFT.out]; simp [hw])
        have hwb : (x == who) = false := by simpa using hw
        clear HFT hw CR
        go_wp2
        exact ⟨⟨i + 1, HI.out, rfl, by rw [hHF.out]; exact HL.out, HBL.out⟩, by have := HI.out; simp only [ivN]; omega⟩
    · obtain rfl : i = n := by omega
      have ee : es.take i = es := List.take_of_length_le (Nat.le_of_eq HN.out)
      rw [ee] at hL ⊢
      have HL := Lib.hid hL
      have HBL := Lib.hid hb
      clear hL hb hi hlt ee
      generalize hMr : rowL es who = M at *
      have HMR := Lib.hid hMr
      clear hMr
      go_wp2
      go_ret
      exact ⟨.slice pt2 M.length cp2, rfl, by rw [HMR.out]; exact HL.out, HBL.out⟩

/-- What has been seen. -/
structure Sn (es : List (Int × Int)) (who : Int) (L : List Int) : Prop where
  up : L.Pairwise (· < ·)
  way : ∀ x, x ∈ L → Way es who x
  first : ∀ y, (who, y) ∈ es → y ∈ L
theorem Sn.len {es : List (Int × Int)} {who : Int} {L : List Int} (h : Sn es who L) : L.length ≤ es.length := by
  have := nodup_le (M := es.map Prod.snd) (h.up.imp fun hab e => by subst e; exact absurd hab (Int.lt_irrefl _)) fun x hx => by
    have hw := h.way x hx
    cases hw with
    | one e => exact List.mem_map.2 ⟨_, e, rfl⟩
    | more _ e => exact List.mem_map.2 ⟨_, e, rfl⟩
  rwa [List.length_map] at this
theorem Sn.start (es : List (Int × Int)) (who : Int) : Sn es who (rowL es who) := ⟨(rowL_row es who).up, fun x hx => .one (((rowL_row es who).iff x).1 hx), fun y hy => ((rowL_row es who).iff y).2 hy⟩
theorem Sn.rise {es : List (Int × Int)} {who x y : Int} {L : List Int} (h : Sn es who L) (hx : Way es who x) (hy : (x, y) ∈ es) : Sn es who (riseL L y) :=
  ⟨riseL_up h.up, fun z hz => by rcases mem_riseL.1 hz with rfl | hz; exact .more hx hy; exact h.way z hz, fun z hz => mem_riseL.2 (Or.inr (h.first z hz))⟩
/-- All up to i lead to nobody new, nor to who. -/
def Done (es : List (Int × Int)) (who : Int) (L : List Int) (i : Nat) : Prop := ∀ j (hj : j < L.length), j < i → L[j] ≠ who ∧ ∀ y, (L[j], y) ∈ es → y ∈ L
structure Mid (es : List (Int × Int)) (who : Int) (s0 : Nat) (L : List Int) (ag : Bool) (i : Nat) : Prop where
  sn : Sn es who L
  yes : ag = true → s0 < L.length
  no : ag = false → L.length = s0 ∧ Done es who L i
structure Inn (es : List (Int × Int)) (who : Int) (s0 : Nat) (L : List Int) (ag : Bool) (i : Nat) (x : Int) (k : Nat) : Prop where
  sn : Sn es who L
  way : Way es who x
  yes : ag = true → s0 < L.length
  no : ag = false → L.length = s0 ∧ Done es who L i ∧ (∃ h : i < L.length, L[i] = x) ∧ x ≠ who ∧ ∀ j (hj : j < (rowL es x).length), j < k → (rowL es x)[j] ∈ L
theorem Inn.step {es : List (Int × Int)} {who : Int} {s0 : Nat} {L : List Int} {ag : Bool} {i : Nat} {x : Int} {k : Nat} (h : Inn es who s0 L ag i x k) (hk : k < (rowL es x).length) :
    Inn es who s0 (riseL L (rowL es x)[k]) (ag || decide (L.length < (riseL L (rowL es x)[k]).length)) i x (k + 1) := by
  have hy : (x, (rowL es x)[k]) ∈ es := ((rowL_row es x).iff _).1 (List.getElem_mem hk)
  generalize hyy : (rowL es x)[k] = y at *
  by_cases hm : y ∈ L
  · have e := riseL_same h.sn.up hm
    rw [e]
    have e2 : (ag || decide (L.length < L.length)) = ag := by simp
    rw [e2]
    refine ⟨h.sn, h.way, h.yes, fun ha => ?_⟩
    obtain ⟨h1, h2, h3, h4, h5⟩ := h.no ha
    refine ⟨h1, h2, h3, h4, fun j hj hjk => ?_⟩
    by_cases ej : j = k
    · subst ej; rw [hyy]; exact hm
    · exact h5 j hj (by omega)
  · have e := riseL_more hm
    have e2 : (ag || decide (L.length < (riseL L y).length)) = true := by rw [e]; simp
    rw [e2]
    refine ⟨h.sn.rise h.way hy, h.way, fun _ => ?_, fun ha => by cases ha⟩
    rw [e]
    cases ag with
    | true => have := h.yes rfl; omega
    | false => have := (h.no rfl).1; omega
theorem Inn.done {es : List (Int × Int)} {who : Int} {s0 : Nat} {L : List Int} {ag : Bool} {i : Nat} {x : Int} (h : Inn es who s0 L ag i x (rowL es x).length) : Mid es who s0 L ag (i + 1) := by
  refine ⟨h.sn, h.yes, fun ha => ?_⟩
  obtain ⟨h1, h2, ⟨h3, h3'⟩, h4, h5⟩ := h.no ha
  refine ⟨h1, fun j hj hji => ?_⟩
  by_cases e : j = i
  · subst e
    rw [h3']
    refine ⟨h4, fun y hy => ?_⟩
    obtain ⟨k, hk, rfl⟩ := List.getElem_of_mem (((rowL_row es x).iff y).2 hy)
    exact h5 k hk hk
  · exact h2 j hj (by omega)
theorem closed_no {es : List (Int × Int)} {who : Int} {L : List Int} (h : Sn es who L) (hd : Done es who L L.length) : ¬ Way es who who := fun hw => by
  have hm : who ∈ L := way_closed (S := fun y => y ∈ L) h.first (fun x hx y hy => by
    obtain ⟨j, hj, rfl⟩ := List.getElem_of_mem hx
    exact (hd j hj hj).2 y hy) hw
  obtain ⟨j, hj, e⟩ := List.getElem_of_mem hm
  exact (hd j hj hj).1 e
theorem riseL_ge {y : Int} {L : List Int} (hu : L.Pairwise (· < ·)) : L.length ≤ (riseL L y).length := by
  by_cases hm : y ∈ L
  · rw [riseL_same hu hm]; exact Nat.le_refl _
  · rw [riseL_more hm]; omega
def slN (v : Value) : Nat := match v with | .slice _ n _ => n | _ => 0
def agN (v : Value) : Nat := match v with | .bool true => 1 | _ => 0

set_option maxRecDepth 100000 in
set_option maxHeartbeats 4000000 in
theorem rcycle_any (w : World) {B p : Nat} {es : List (Int × Int)} (h : RG w B p es) (hn : es.length < 100000) (who : Int) :
    Calls Try.prog 18 #[.pointer (some ⟨p, 0, none⟩), .int .i64 who] w fun e w' => e = .returned (.bool (cyB es who)) ∧ Below w.heap.size w w' := by
  have CO := ron_any w h hn who
  have H := Lib.hid h
  have HN := Lib.hid hn
  clear h hn
  go_enter Try.func18, Try.ntmps18
  go_upto_region 3 with (first | (go_at_call 16; refine CO.mono ?_; rintro e w1 ⟨v1, rfl, hS1, hb1⟩))
  have R0 : Hid (∃ (L : List Int) (ag : Bool), Value.bool true = .bool ag ∧ SlR w1 w.heap.size v1 L ∧ Sn es who L ∧ (ag = false → Done es who L L.length) ∧ Below w.heap.size w w1) := ⟨_, true, rfl, hS1, Sn.start es who, fun e => (by cases e), hb1⟩
  clear CO hS1 hb1
  go_loopw [5, 6, 7, 8, 9, 10] (fun sv av _ _ _ _ wr => Hid (∃ (L : List Int) (ag : Bool), av = .bool ag ∧ SlR wr w.heap.size sv L ∧ Sn es who L ∧ (ag = false → Done es who L L.length) ∧ Below w.heap.size w wr)) (fun sv av _ _ _ _ _ => 2 * (es.length - slN sv) + agN av)
  case atStart => exact R0
  case round =>
    obtain ⟨L, ag, rfl, hS, hSn, hD, hb⟩ := hrel.out
    clear hrel R0
    obtain ⟨pt, cp, rfl⟩ := hS.form
    cases ag with
    | false =>
      have HC := Lib.hid (cyB_no (closed_no hSn (hD rfl)))
      have HB := Lib.hid hb
      clear hS hSn hD hb
      go_wp2
      go_ret
      exact ⟨by rw [HC.out]; rfl, HB.out⟩
    | true =>
      have hlen := hSn.len
      obtain ⟨s0, hs0⟩ : ∃ s0, L.length = s0 := ⟨_, rfl⟩
      have R1 : Hid (∃ (L' : List Int) (ag : Bool) (i : Nat), i ≤ L'.length ∧ Value.bool false = .bool ag ∧ Value.int .i64 0 = .int .i64 (i : Int) ∧ SlR wr w.heap.size (.slice pt s0 cp) L' ∧ Mid es who s0 L' ag i ∧ Below w.heap.size w wr) := ⟨L, false, 0, Nat.zero_le _, rfl, rfl, by rw [← hs0]; exact hS, ⟨hSn, fun e => (by cases e), fun _ => ⟨hs0, fun j _ hj => by omega⟩⟩, hb⟩
      rw [hs0] at hlen ⊢
      have HLE := Lib.hid hlen
      clear hS hSn hD hb hs0 hlen
      go_upto_region 6 with fail
      go_loopw [5, 6, 7, 8, 9, 10] (fun sv av iv _ _ _ wr => Hid (∃ (L : List Int) (ag : Bool) (i : Nat), i ≤ L.length ∧ av = .bool ag ∧ iv = .int .i64 (i : Int) ∧ SlR wr w.heap.size sv L ∧ Mid es who s0 L ag i ∧ Below w.heap.size w wr)) (fun _ _ iv _ _ _ _ => es.length + 1 - ivN iv)
      case atStart => exact R1
      case round =>
        obtain ⟨L, ag, i, hi, rfl, rfl, hS, hM, hb⟩ := hrel.out
        clear hrel R1
        have hlen := hM.sn.len
        have hn := HN.out
        obtain ⟨n, hnn⟩ : ∃ n, L.length = n := ⟨_, rfl⟩
        obtain ⟨pt2, cp2, rfl⟩ := hS.form
        have hi0 : (0 : Int) ≤ (i : Int) := by omega
        have hi1 : (i : Int) < 100000 := by omega
        have hnI : (n : Int) < 100000 := by omega
        by_cases hlt : i < n
        · have hiL : i < L.length := by rw [hnn]; exact hlt
          obtain ⟨g, rfl, hg, hc⟩ : ∃ g, pt2 = some ⟨g, 0, none⟩ ∧ g < wr.heap.size ∧ wr.cell? ⟨g, i, none⟩ = some (.int .i64 L[i]) := by
            rcases hS.shape with ⟨e, _⟩ | ⟨g, cap, cur, e, _, hg, hbk, hc⟩
            · rw [e] at hiL; simp at hiL
            · cases e
              exact ⟨g, rfl, hg, (cell_of hbk i).1.trans (hc i hiL)⟩
          have hltI : (i : Int) < (n : Int) := by omega
          have hway := hM.sn.way L[i] (List.getElem_mem hiL)
          obtain ⟨x, hx⟩ : ∃ x, L[i] = x := ⟨_, rfl⟩
          rw [hx] at hc hway
          rw [hnn] at hi hlen ⊢
          by_cases hw : x = who
          · have HC := Lib.hid (cyB_yes (show Way es who who by rw [hw] at hway; exact hway))
            have hwb : (x == who) = true := by simpa using hw
            have HB := Lib.hid hb
            clear hS hM hb hway hw hx
            go_wp2
            go_ret
            exact ⟨by rw [HC.out]; rfl, HB.out⟩
          · have hwb : (x == who) = false := by simpa using hw
            have h' : RG wr B p es := H.out.on_ hb
            have CO := ron_any wr h' HN.out x
            have HI : Hid (i < n ∧ n ≤ es.length) := ⟨hlt, hlen⟩
            have HS := Lib.hid hS
            have HM := Lib.hid hM
            have HB := Lib.hid hb
            have HWY := Lib.hid hway
            have HX : Hid (∃ h : i < L.length, L[i] = x) := ⟨hiL, hx⟩
            have HW := Lib.hid hw
            have HNN := Lib.hid hnn
            clear hS hM hb hway hw hx h' hiL hlt hi hnn
            go_upto_region 12 with (first | (go_at_call 16; refine CO.mono ?_; rintro e w2 ⟨v2, rfl, hO, hb2⟩))
            obtain ⟨A2, c2, rfl⟩ := hO.form
            have hOc : ∀ k (hk : k < (rowL es x).length), ∃ g, A2 = some ⟨g, 0, none⟩ ∧ g < w2.heap.size ∧ w2.cell? ⟨g, k, none⟩ = some (.int .i64 (rowL es x)[k]) := fun k hk => by
              rcases hO.shape with ⟨e, _⟩ | ⟨g, cap, cur, e, _, hg, hbk, hc⟩
              · rw [e] at hk; simp at hk
              · cases e
                exact ⟨g, rfl, hg, (cell_of hbk k).1.trans (hc k hk)⟩
            have HOC := Lib.hid hOc
            obtain ⟨m, hm⟩ : ∃ m, (rowL es x).length = m := ⟨_, rfl⟩
            have hml := rowL_length es x
            have HMM := Lib.hid hm
            rw [hm] at hml ⊢
            have hmI : (m : Int) < 100000 := by omega
            have HB2 := Lib.hid (HB.out.trans (hb2.mono HB.out.size))
            have R2 : Hid (∃ (L' : List Int) (ag' : Bool) (k : Nat), k ≤ m ∧ Value.bool ag = .bool ag' ∧ Value.int .i64 0 = .int .i64 (k : Int) ∧ SlR w2 w.heap.size (.slice (some ⟨g, 0, none⟩) n cp2) L' ∧ Inn es who s0 L' ag' i x k ∧ i < L'.length ∧ Below w2.heap.size w2 w2) := by
              refine ⟨L, ag, 0, Nat.zero_le _, rfl, rfl, ?_, ⟨HM.out.sn, HWY.out, HM.out.yes, fun ha => ?_⟩, (by obtain ⟨h, _⟩ := HX.out; exact h), Below.refl _ _⟩
              · have := own_up HS.out hb2
                rw [HNN.out] at this
                exact (show SlR w2 w.heap.size (.slice (some ⟨g, 0, none⟩) n cp2) L by unfold SlR; rw [HNN.out]; exact this)
              · obtain ⟨h1, h2⟩ := HM.out.no ha
                exact ⟨h1, h2, HX.out, HW.out, fun j _ hj => by omega⟩
            clear hO hOc hm CO hb2 HS HM hc hwb hml
            go_loopw [5, 6, 9, 10] (fun sv av kv _ wr => Hid (∃ (L : List Int) (ag : Bool) (k : Nat), k ≤ m ∧ av = .bool ag ∧ kv = .int .i64 (k : Int) ∧ SlR wr w.heap.size sv L ∧ Inn es who s0 L ag i x k ∧ i < L.length ∧ Below w2.heap.size w2 wr)) (fun _ _ kv _ _ => m - ivN kv)
            case atStart => exact R2
            case round =>
              obtain ⟨L, ag, k, hk, rfl, rfl, hS, hI, hiL, hb⟩ := hrel.out
              clear hrel R2
              have hln := hI.sn.len
              obtain ⟨pt3, cp3, rfl⟩ := hS.form
              have hk0 : (0 : Int) ≤ (k : Int) := by omega
              have hk1 : (k : Int) < 100000 := by omega
              have hbw : Below w.heap.size w wr := HB2.out.trans (hb.mono HB2.out.size)
              by_cases hkt : k < m
              · have hkm : k < (rowL es x).length := by rw [HMM.out]; exact hkt
                obtain ⟨g2, rfl, hg2, hc2⟩ := HOC.out k hkm
                have hcw := (hb.cell (p := ⟨g2, k, none⟩) hg2).trans hc2
                have hst := hI.step hkm
                generalize (rowL es x)[k] = y at *
                have CR := rise_any wr hS hbw.size hI.sn.up (by omega) y
                have hkI : (k : Int) < (m : Int) := by omega
                obtain ⟨lr, hlr⟩ : ∃ lr, (riseL L y).length = lr := ⟨_, rfl⟩
                obtain ⟨ln, hll⟩ : ∃ ln, L.length = ln := ⟨_, rfl⟩
                have hlr1 : lr ≤ es.length := by rw [← hlr]; exact hst.sn.len
                have HLR := Lib.hid hlr
                have HST := Lib.hid hst
                have HBW := Lib.hid hbw
                have HBB := Lib.hid hb
                have HK := Lib.hid hkt
                have HIL := Lib.hid (Nat.lt_of_lt_of_le hiL (riseL_ge (y := y) hI.sn.up))
                rw [hlr, hll] at hst
                have HST2 := Lib.hid hst
                rw [hll] at CR ⊢
                have hlrI : (lr : Int) < 100000 := by omega
                have hlnI : (ln : Int) < 100000 := by omega
                clear hS hI hst hb hbw hk hkt hkm hg2 hc2 hln hll hlr HST hlr1 hiL
                cases ag with
                | true =>
                  go_wp2_with (first | (go_at_call 22; refine CR.mono ?_; rintro e w5 ⟨v5, rfl, h5, hb5⟩; obtain ⟨pt5, cp5, rfl⟩ := h5.form; rw [HLR.out]))
                  exact ⟨⟨riseL L y, true, k + 1, HK.out, rfl, rfl, by have := h5; rw [HLR.out] at this; exact this, by have := HST2.out; simpa using this, HIL.out, HBB.out.trans (hb5.mono HBB.out.size)⟩, by have := HK.out; simp only [ivN]; omega⟩
                | false =>
                  have HDC : Hid (∀ u : Bool, u = decide (ln < lr) → Inn es who s0 (riseL L y) u i x (k + 1)) := fun u hu => by rw [hu]; have := HST2.out; simpa using this
                  by_cases hgt : ln < lr
                  · have hgI : (ln : Int) < (lr : Int) := by omega
                    have HD := Lib.hid (HDC.out true (by simp [hgt]))
                    clear HDC HST2 hgt
                    go_wp2_with (first | (go_at_call 22; refine CR.mono ?_; rintro e w5 ⟨v5, rfl, h5, hb5⟩; obtain ⟨pt5, cp5, rfl⟩ := h5.form; rw [HLR.out]))
                    exact ⟨⟨riseL L y, true, k + 1, HK.out, rfl, rfl, by have := h5; rw [HLR.out] at this; exact this, HD.out, HIL.out, HBB.out.trans (hb5.mono HBB.out.size)⟩, by have := HK.out; simp only [ivN]; omega⟩
                  · have hgI : ¬ (ln : Int) < (lr : Int) := by omega
                    have HD := Lib.hid (HDC.out false (by simp [hgt]))
                    have HGT := Lib.hid hgt
                    clear HDC HST2 hgt
                    go_wp2_with (first | (go_at_call 22; refine CR.mono ?_; rintro e w5 ⟨v5, rfl, h5, hb5⟩; obtain ⟨pt5, cp5, rfl⟩ := h5.form; rw [HLR.out]))
                    exact ⟨⟨riseL L y, false, k + 1, HK.out, (by rw [decide_eq_false HGT.out]), rfl, by have := h5; rw [HLR.out] at this; exact this, HD.out, HIL.out, HBB.out.trans (hb5.mono HBB.out.size)⟩, by have := HK.out; simp only [ivN]; omega⟩
              · have hkm : k = (rowL es x).length := by rw [HMM.out]; omega
                have hkn : ¬ (k : Int) < (m : Int) := by omega
                have hge : i + 1 ≤ L.length := hiL
                have HMD := Lib.hid (show Mid es who s0 L ag (i + 1) from Inn.done (by rw [← hkm]; exact hI))
                have HS := Lib.hid hS
                have HBW := Lib.hid hbw
                have HGE := Lib.hid hge
                clear hS hI hb hbw hk hkt hkm hge hiL
                go_wp2
                exact ⟨⟨L, ag, i + 1, HGE.out, rfl, rfl, HS.out, HMD.out, HBW.out⟩, by have := HI.out; simp only [ivN]; omega⟩
        · have hin : i = n := by omega
          have hnl : ¬ (i : Int) < (n : Int) := by omega
          have HU : Hid ((∃ (L : List Int) (ag' : Bool), Value.bool ag = .bool ag' ∧ SlR wr w.heap.size (.slice pt2 n cp2) L ∧ Sn es who L ∧ (ag' = false → Done es who L L.length) ∧ Below w.heap.size w wr) ∧ 2 * (es.length - slN (.slice pt2 n cp2)) + agN (.bool ag) < 2 * (es.length - s0) + 1) := by
            refine ⟨⟨L, ag, rfl, by rw [← hnn]; exact hS, hM.sn, fun ha => by have := (hM.no ha).2; rw [hin, ← hnn] at this; exact this, hb⟩, ?_⟩
            cases ag with
            | true => have := hM.yes rfl; simp only [slN, agN]; omega
            | false => have := (hM.no rfl).1; simp only [slN, agN]; omega
          rw [hnn]
          clear hS hM hb hi hlt hin hlen hnn
          go_wp2
          exact HU.out
end Go.Proofs.Ytcfibmbeojdifaa
