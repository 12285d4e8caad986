/- EntryTurned: its walk. -/
import Derived.Test.YtbjfhlcfnohiiaaEntTz
import Derived.Test.YtbjfhlcfnohiiaaEntPu
import Derived.Test.YtbjfhlcfnohiiaaEntRe
import Derived.Test.YtbjfhlcfnohiiaaEntK
import Derived.Test.YtbjfhlcfnohiiaaEntBx
import Derived.Deep.CutBlock
namespace Go.Proofs.Ytbjfhlcfnohiiaa.entryTurned
open Go.ChangeShapes Go.WideShapes Go.ChangeAt Go.RowKit

def Fin (w : World) (e : Ending) (w' : World) : Prop := e = .returned (.bool true) ∧ Below w.heap.size w w'

/-- A block of so many bytes, and what it holds. -/
def AL (W : World) (B g n : Nat) (L : List Int) : Prop := B ≤ g ∧ L.length = n ∧ bytesOk L ∧ ∃ cur t, W.heap[g]? = some (.cells cur t (0, 0)) ∧ ∀ j (h : j < L.length), cur[j]? = some (.int .u8 L[j])
theorem al_of_own {W : World} {B n : Nat} {v : Value} {L : List Int} (h : W.ownsRow B 5 1 v n (byteV L)) (hn : 0 < n) (hok : bytesOk L) : ∃ g cap, v = .slice (some ⟨g, 0, none⟩) n cap ∧ n ≤ cap ∧ cap ≤ 9223372036854775807 ∧ AL W B g n L := by
  obtain ⟨h1, ⟨_, h0⟩ | ⟨g, cap, cur, rfl, hB, hg, hle, hm, _, htake⟩⟩ := h
  · omega
  · have hl : L.length = n := by simpa [byteV] using h1
    refine ⟨g, cap, rfl, hle, hm, hB, hl, hok, cur, _, hg, fun j hj => ?_⟩
    have e1 : (cur.toList.take (n * 1))[j]? = some (.int .u8 L[j]) := by rw [htake]; simp [byteV, hj]
    rw [List.getElem?_take, if_pos (by omega)] at e1
    simpa using e1
theorem AL.slk {W : World} {B g n cap : Nat} {L : List Int} (h : AL W B g n L) (hc : n ≤ cap) : SlK .u8 W (.slice (some ⟨g, 0, none⟩) n cap) L := by
  obtain ⟨_, hl, hok, cur, t, hg, hj⟩ := h
  refine Pt.slK (?_ : Pt W (.slice (some ⟨g, 0, none⟩) n cap) L) hok
  refine ⟨g, 0, cap, by rw [hl], by omega, (Array.getElem?_eq_some_iff.1 hg).1, fun j h => ?_⟩
  rw [Nat.zero_add, (cell_of hg j).1, hj j h]
theorem AL.set {W : World} {B g n : Nat} {L : List Int} (h : AL W B g n L) {i : Nat} {x : Int} (x0 : 0 ≤ x) (x1 : x < 256) : AL (W.setCell ⟨g, i, none⟩ (.int .u8 x)) B g n (L.set i x) := by
  obtain ⟨hB, hl, hok, cur, t, hg, hj⟩ := h
  refine ⟨hB, by simpa using hl, fun y hy => ?_, _, t, heap_setCell_same W g i _ _ _ hg, fun j hj' => ?_⟩
  · rcases List.mem_or_eq_of_mem_set hy with h | rfl
    · exact hok y h
    · exact ⟨x0, x1⟩
  · have hj2 : j < L.length := by simpa using hj'
    have hc := hj j hj2
    have hlt : j < cur.size := (Array.getElem?_eq_some_iff.1 hc).1
    rw [List.getElem_set]
    by_cases e : i = j
    · subst e
      rw [if_pos rfl]
      simp [hlt]
    · rw [if_neg e]
      simp [e, hc]
theorem AL.cell {W : World} {B g n : Nat} {L : List Int} (h : AL W B g n L) {i : Nat} (hi : i < n) : (∃ y, W.cell? ⟨g, i, none⟩ = some (.int .u8 y)) ∧ W.frozen? ⟨g, i, none⟩ = false := by
  obtain ⟨hB, hl, hok, cur, t, hg, hj⟩ := h
  exact ⟨⟨_, by rw [(cell_of hg i).1]; exact hj i (by omega)⟩, (cell_of hg i).2⟩
theorem AL.lt {W : World} {B g n : Nat} {L : List Int} (h : AL W B g n L) : g < W.heap.size := by
  obtain ⟨_, _, _, cur, t, hg, _⟩ := h
  exact (Array.getElem?_eq_some_iff.1 hg).1
theorem entL_pos (e : Ent) : 0 < (entL e).length := by unfold entL; simp [numL]

set_option maxRecDepth 100000 in
set_option maxHeartbeats 4000000 in
theorem walk (w : World) (e : Ent) {s1 s2 s3 s4 s5 s6 : Value} (hs : EntS w s1 s2 s3 s4 s5 s6 e) (hi : EntI e) (va vt : Value) (m t : List Int) (ha : SlK .u8 w va m) (ht : SlK .u8 w vt t) :
    Calls Try.prog 4 #[.agg (entC e s1 s2 s3 s4 s5 s6), va, vt] w (Fin w) := by
  obtain ⟨A1, c1, A2, c2, A3, c3, A4, c4, A5, c5, A6, c6, rfl, rfl, rfl, rfl, rfl, rfl⟩ := hs.form
  obtain ⟨n1, hn1⟩ : ∃ n, n = e.old.length := ⟨_, rfl⟩
  rw [← hn1] at hs ⊢
  obtain ⟨n2, hn2⟩ : ∃ n, n = e.new.length := ⟨_, rfl⟩
  rw [← hn2] at hs ⊢
  obtain ⟨n3, hn3⟩ : ∃ n, n = e.moves.length := ⟨_, rfl⟩
  rw [← hn3] at hs ⊢
  obtain ⟨n4, hn4⟩ : ∃ n, n = e.lives.length := ⟨_, rfl⟩
  rw [← hn4] at hs ⊢
  obtain ⟨n5, hn5⟩ : ∃ n, n = e.dirty.length := ⟨_, rfl⟩
  rw [← hn5] at hs ⊢
  obtain ⟨n6, hn6⟩ : ∃ n, n = e.opens.length := ⟨_, rfl⟩
  rw [← hn6] at hs ⊢
  clear hn1 hn2 hn3 hn4 hn5 hn6
  have HI := Lib.hid hi
  obtain ⟨Aa, ca, rfl, -⟩ := ha.form
  obtain ⟨At, ct, rfl, -⟩ := ht.form
  obtain ⟨W, hW⟩ : ∃ W, W = w.alloc (entO e (.slice A1 n1 c1) (.slice A2 n2 c2) (.slice A3 n3 c3) (.slice A4 n4 c4) (.slice A5 n5 c5) (.slice A6 n6 c6)) := ⟨_, rfl⟩
  have hB0 : Below w.heap.size w W := by rw [hW]; exact (Below.refl _ _).alloc (Nat.le_refl _) _
  have hZ0 : Bz w.heap.size e (.slice A1 n1 c1) (.slice A2 n2 c2) (.slice A3 n3 c3) (.slice A4 n4 c4) (.slice A5 n5 c5) (.slice A6 n6 c6) W := ⟨by rw [hW]; exact heap_alloc_new w _, hs.below hB0 (Nat.le_refl _)⟩
  have HB0 := Lib.hid hB0
  have HZ0 := Lib.hid hZ0
  have HA := Lib.hid ha
  have HT := Lib.hid ht
  have HOKo := Lib.hid hs.old.ok
  have HOKn := Lib.hid hs.new.ok
  clear hs hi ha ht hB0 hZ0
  show Calls _ _ #[.agg #[.int .i64 e.kind, .int .i64 e.txn, .int .i64 e.unit, .int .i64 e.half, .int .i64 e.prev, .int .i64 e.next, .int .i64 e.ap, .int .i64 e.ac, .int .i64 e.tp, .int .i64 e.tc, _, _, _, _, _, _], _, _] _ _
  go_enter Try.func4, Try.ntmps4
  go_upto_region 1 with (fail)
  show Code.wp _ _ _ _ (w.alloc (entO e (.slice A1 n1 c1) (.slice A2 n2 c2) (.slice A3 n3 c3) (.slice A4 n4 c4) (.slice A5 n5 c5) (.slice A6 n6 c6)))
  rw [← hW]
  clear hW
  go_wp2_with fail
  refine (begun_any W).mono ?_
  rintro r w2 ⟨rfl, hb2⟩
  have HB2 := Lib.hid (below_on HB0.out hb2)
  have HZ2 := Lib.hid (HZ0.out.on hb2)
  clear HB0 HZ0 hb2
  have HZI := Lib.hid (infoEntC e (.slice A1 n1 c1) (.slice A2 n2 c2) (.slice A3 n3 c3) (.slice A4 n4 c4) (.slice A5 n5 c5) (.slice A6 n6 c6))
  have HL := Lib.hid (light_any w2 e HZ2.out.2)
  go_wp2_with (with_reducible refine wpList_load_row rfl 30 (.tmp 3) rfl w.heap.size rfl 30 _ (0, 0) _ HZ2.out.bx Try.underlying30 rfl HZI.out ?_)
  refine HL.out.mono ?_
  rintro r w3 ⟨b, rfl, hb3, -⟩
  have HB3 := Lib.hid (below_on HB2.out hb3)
  have HZ3 := Lib.hid (HZ2.out.on hb3)
  clear HB2 HZ2 hb3 HL
  have HF : Hid (Fin w (.returned (.bool true)) w3) := ⟨rfl, HB3.out⟩
  cases b with
  | false =>
    go_wp2
    go_ret
    exact HF.out
  | true =>
    by_cases hm : 3 < m.length
    · have hm2 : (3 : Int) < (m.length : Int) := by omega
      go_wp2
      go_ret
      exact HF.out
    · have hm2 : ¬ (3 : Int) < (m.length : Int) := by omega
      by_cases hlt : t.length < m.length
      · have hl2 : (t.length : Int) < (m.length : Int) := by omega
        go_wp2
        go_ret
        exact HF.out
      · have hl2 : ¬ (t.length : Int) < (m.length : Int) := by omega
        have hq1 : decide ((3 : Int) < (m.length : Int)) = false := decide_eq_false hm2
        have hq2 : decide ((t.length : Int) < (m.length : Int)) = false := decide_eq_false hl2
        have HM := Lib.hid (rmay_any w3 e HZ3.out.2 HI.out)
        clear HF
        cases hB : entB e with
        | false =>
          rw [hB] at HM
          clear hB
          go_wp2_with ((with_reducible refine wpList_load_rowG ?_ 30 (.tmp 3) rfl w.heap.size rfl 30 _ (0, 0) _ HZ3.out.bx Try.underlying30 rfl HZI.out ?_); · first | rfl | (simp [Region.wanted, yielded, hq1, hq2]))
          refine HM.out.mono ?_
          rintro r w4 ⟨rfl, hb4⟩
          have HF : Hid (Fin w (.returned (.bool true)) w4) := ⟨rfl, below_on HB3.out hb4⟩
          go_wp2
          go_ret
          exact HF.out
        | true =>
          have HBT := Lib.hid hB
          rw [hB] at HM
          clear hB
          go_wp2_with ((with_reducible refine wpList_load_rowG ?_ 30 (.tmp 3) rfl w.heap.size rfl 30 _ (0, 0) _ HZ3.out.bx Try.underlying30 rfl HZI.out ?_); · first | rfl | (simp [Region.wanted, yielded, hq1, hq2]))
          refine HM.out.mono ?_
          rintro r w4 ⟨rfl, hb4⟩
          have HB4 := Lib.hid (below_on HB3.out hb4)
          have HZ4 := Lib.hid (HZ3.out.on hb4)
          clear HB3 HZ3 hb4 HM hm2 hl2
          go_upto_region 5 with (fail)
          have HP := Lib.hid (rput_any w4 e HZ4.out.2 HI.out)
          go_wp2_with ((with_reducible refine wpList_load_row rfl 30 (.tmp 3) rfl w.heap.size rfl 30 _ (0, 0) _ HZ4.out.bx Try.underlying30 rfl HZI.out ?_))
          refine HP.out.mono ?_
          rintro r w5 ⟨A, mm, cc, rfl, ho, hb5⟩
          rw [(putL_yes HBT.out)] at ho
          have hLp := entL_pos e
          obtain ⟨N, hN⟩ : ∃ N, N = (entL e).length := ⟨_, rfl⟩
          obtain ⟨L0, hL0⟩ : ∃ L, L = entL e := ⟨_, rfl⟩
          have hok0 : bytesOk (entL e) := entL_okE HOKo.out HOKn.out
          rw [← hN] at ho hLp
          rw [← hL0] at ho hok0
          obtain ⟨g, cap, he, hcap, hmax, hal⟩ := al_of_own ho hLp hok0
          injection he with he1 he2 he3
          subst he1 he2 he3
          have HB5 := Lib.hid (below_on HB4.out hb5)
          have HAL : Hid (∃ L, AL w5 w4.heap.size g mm L) := ⟨_, hal⟩
          have HBz : Hid (w.heap.size ≤ w4.heap.size) := HB4.out.size
          have hB5' : Below w4.heap.size w5 w5 := ⟨rfl, rfl, rfl, Nat.le_refl _, fun _ _ => rfl⟩
          have HR5 : Hid (Below w4.heap.size w5 w5) := hB5'
          have hN1 : (mm : Int) ≤ 9223372036854775807 := by omega
          have hN0 : (mm : Int) ≠ 0 := by omega
          have hNN := Nat.le_trans HB4.out.size hb5.size
          clear ho hL0 hN hok0 hal hb5 hB5' HP HZ4 HB4 HOKo HOKn HZI HBT HI
          generalize w4.heap.size = B at *
          go_wp2
          go_loopw [8] (fun i wr => ∃ k : Nat, k ≤ m.length ∧ i = .int .i64 k ∧ Hid (∃ L, AL wr B g mm L) ∧ Hid (Below B w5 wr)) (fun i _ => m.length - (intOf i).toNat)
          case atStart => exact ⟨0, by omega, rfl, HAL, HR5⟩
          case round =>
            obtain ⟨k, hk, rfl, HAL2, HBr⟩ := hrel
            have HSz : Hid (w.heap.size ≤ B) := HBz
            clear HAL
            by_cases hlk : k < m.length
            · have hlt2 : k < t.length := by omega
              have hBw : Below w.heap.size w wr := HB5.out.trans (HBr.out.mono HSz.out)
              have hpa := (HA.out.below hBw (Nat.le_refl _)).pt (fun e => by rw [e] at hlk; cases hlk)
              have hpt := (HT.out.below hBw (Nat.le_refl _)).pt (fun e => by rw [e] at hlt2; cases hlt2)
              have hx := HA.out.ok m[k] (List.getElem_mem hlk)
              have hy := HT.out.ok t[k] (List.getElem_mem hlt2)
              obtain ⟨ba, oa, ca', e, _, _, ha3⟩ := id hpa
              injection e with e1 e2 e3
              subst e1 e3
              obtain ⟨bt, ot, ct', e, _, _, ht3⟩ := id hpt
              injection e with e1 e4 e3
              subst e1 e3
              have c1 := ha3 k hlk
              have c2 := ht3 k hlt2
              obtain ⟨z, hz⟩ : ∃ z, m[k] = z := ⟨_, rfl⟩
              obtain ⟨y, hyy⟩ : ∃ y, t[k] = y := ⟨_, rfl⟩
              rw [hz] at c1 hx
              rw [hyy] at c2 hy
              have hz0 := Int.emod_nonneg z hN0
              have hz1 := Int.emod_lt_of_pos z (show (0 : Int) < (mm : Int) by omega)
              obtain ⟨r, hr⟩ : ∃ r : Nat, z % (mm : Int) = (r : Int) := ⟨(z % (mm : Int)).toNat, by omega⟩
              obtain ⟨L, hL⟩ := HAL2.out
              have r1 : (r : Int) < (mm : Int) := by omega
              have r2 : r < mm := by omega
              obtain ⟨⟨u, hu⟩, hf⟩ := hL.cell r2
              have HX : Hid (∃ L, AL (wr.drew.setCell ⟨g, r, none⟩ (.int .u8 y)) B g mm L) := ⟨_, AL.set (W := wr.drew) hL hy.1 hy.2⟩
              have HX2 : Hid (∃ L, AL (wr.setCell ⟨g, r, none⟩ (.int .u8 y)).drew B g mm L) := ⟨_, AL.set (W := wr) hL hy.1 hy.2⟩
              have hBg : B ≤ g := hL.1
              have HBn := Lib.hid ((HBr.out.drew).setCell (p := ⟨g, r, none⟩) hBg (.int .u8 y))
              have HBn2 := Lib.hid (((HBr.out).setCell (p := ⟨g, r, none⟩) hBg (.int .u8 y)).drew)
              have t1 : IntKind.i64.wrap z = z := IntWalk.i64_in _ (by omega)
              have t2 : z.tmod (mm : Int) = (r : Int) := by rw [Int.tmod_eq_emod_of_nonneg hx.1]; exact hr
              have t3 : IntKind.i64.wrap (r : Int) = (r : Int) := IntWalk.i64_in _ (by omega)
              have d1 : wr.drew.cell? ⟨ba, oa + k, none⟩ = some (.int .u8 z) := c1
              have d2 : wr.drew.cell? ⟨bt, ot + k, none⟩ = some (.int .u8 y) := c2
              have d3 : wr.drew.cell? ⟨g, r, none⟩ = some (.int .u8 u) := hu
              have d4 : wr.drew.frozen? ⟨g, r, none⟩ = false := hf
              clear hpa hpt ha3 ht3 hz hyy hr hL HAL2 HBr e2 e4 hBg hBw hz0 hz1
              go_wp2_with fail
              go_region
              all_goals
                go_wp2
                go_roundw
                all_goals first
                  | exact ⟨k + 1, by omega, by go_num, HX, HBn⟩
                  | exact ⟨k + 1, by omega, by go_num, HX2, HBn2⟩
                  | (simp [intOf]; omega)
            · obtain rfl : k = m.length := by omega
              obtain ⟨L, hL⟩ := HAL2.out
              have hsb := hL.slk hcap
              have hok := hL.2.2.1
              have HBw := Lib.hid (HB5.out.trans (HBr.out.mono HSz.out))
              have HLen : Hid (EntLen (tkE L)) := Lib.hid (by
                cases htk : tkB L with
                | true => rw [(tk_yes htk).1]; exact (entR_I hok).2.1
                | false => rw [(tk_no htk).1]; exact ⟨by decide, by decide, by decide, by decide, fun o ho => by cases ho⟩)
              have HSb := Lib.hid hsb
              have HT1 := Lib.hid (take_ok wr hsb)
              clear hL hok hsb HAL2 HBr HB5 HSz HBz HR5 hcap hmax hN0 hN1 hNN hq1 hq2 hlk hm hlt HA HT
              go_upto_region 10 with (fail)
              go_wp2_with fail
              refine HT1.out.mono ?_
              rintro r w6 ⟨B1, m1, d1, B2, m2, d2, B3, m3, d3, B4, m4, d4, B5, m5, d5, B6, m6, d6, hr, hE, hb6⟩
              subst hr
              obtain ⟨y, hy⟩ : ∃ y, y = tkE L := ⟨_, rfl⟩
              obtain ⟨q, hq⟩ : ∃ q, q = tkN L := ⟨_, rfl⟩
              have HY := Lib.hid hy
              have HQ := Lib.hid hq
              rw [← hy] at hE
              rw [← hy, ← hq]
              have HB6 := Lib.hid (below_on HBw.out hb6)
              have HSb6 := Lib.hid (HSb.out.below hb6 (Nat.le_refl _))
              have HE6 := Lib.hid hE.entS
              clear HBw hE hb6 HT1 hy hq HSb
              have HBoy := Lib.hid (heap_alloc_new w6 (.cells #[.int .i64 0, .int .i64 0, .int .i64 0, .int .i64 0, .int .i64 0, .int .i64 0, .int .i64 0, .int .i64 0, .int .i64 0, .int .i64 0, .slice none 0 0, .slice none 0 0, .slice none 0 0, .slice none 0 0, .slice none 0 0, .slice none 0 0] 30))
              have HZIy := Lib.hid (infoEntC y (.slice B1 m1 d1) (.slice B2 m2 d2) (.slice B3 m3 d3) (.slice B4 m4 d4) (.slice B5 m5 d5) (.slice B6 m6 d6))
              have HZAy := Lib.hid (entC_all y B1 B2 B3 B4 B5 B6 m1 d1 m2 d2 m3 d3 m4 d4 m5 d5 m6 d6)
              have HZNy := Lib.hid (show (#[.int .i64 0, .int .i64 0, .int .i64 0, .int .i64 0, .int .i64 0, .int .i64 0, .int .i64 0, .int .i64 0, .int .i64 0, .int .i64 0, .slice none 0 0, .slice none 0 0, .slice none 0 0, .slice none 0 0, .slice none 0 0, .slice none 0 0] : Array Value).size = (entC y (.slice B1 m1 d1) (.slice B2 m2 d2) (.slice B3 m3 d3) (.slice B4 m4 d4) (.slice B5 m5 d5) (.slice B6 m6 d6)).size from rfl)
              have HSAy := Lib.hid (setRow_alloc w6 #[.int .i64 0, .int .i64 0, .int .i64 0, .int .i64 0, .int .i64 0, .int .i64 0, .int .i64 0, .int .i64 0, .int .i64 0, .int .i64 0, .slice none 0 0, .slice none 0 0, .slice none 0 0, .slice none 0 0, .slice none 0 0, .slice none 0 0] (entC y (.slice B1 m1 d1) (.slice B2 m2 d2) (.slice B3 m3 d3) (.slice B4 m4 d4) (.slice B5 m5 d5) (.slice B6 m6 d6)) 30)
              go_upto_region 11 with (with_reducible refine wpList_store_row rfl 30 (.tmp 9) (.tmp 60) rfl w6.heap.size _ rfl rfl 30 _ HBoy.out HZIy.out HZNy.out HZAy.out ?_)
              rw [HSAy.out]
              obtain ⟨w7, HWy, hxy, hbxy⟩ : ∃ W, Hid (w6.alloc (.cells (entC y (.slice B1 m1 d1) (.slice B2 m2 d2) (.slice B3 m3 d3) (.slice B4 m4 d4) (.slice B5 m5 d5) (.slice B6 m6 d6)) 30) = W) ∧ W.heap[w6.heap.size]? = some (.cells (entC y (.slice B1 m1 d1) (.slice B2 m2 d2) (.slice B3 m3 d3) (.slice B4 m4 d4) (.slice B5 m5 d5) (.slice B6 m6 d6)) 30 (0, 0)) ∧ Below w6.heap.size w6 W := ⟨_, Lib.hid rfl, heap_alloc_new w6 _, (Below.refl _ _).alloc (Nat.le_refl _) _⟩
              rw [HWy.out]
              clear HBoy HZAy HZNy HSAy HWy
              have HB7 := Lib.hid (below_on HB6.out hbxy)
              have HSb7 := Lib.hid (HSb6.out.below hbxy (Nat.le_refl _))
              have HY7 : Hid (Bz w6.heap.size y (.slice B1 m1 d1) (.slice B2 m2 d2) (.slice B3 m3 d3) (.slice B4 m4 d4) (.slice B5 m5 d5) (.slice B6 m6 d6) w7) := ⟨hxy, HE6.out.below hbxy (Nat.le_refl _)⟩
              clear HB6 HSb6 HE6 hxy hbxy
              generalize w6.heap.size = gy at *
              have HT2 := Lib.hid (rtake_any w7 HSb7.out)
              go_wp2_with fail
              refine HT2.out.mono ?_
              rintro r w8 ⟨C1, l1, f1, C2, l2, f2, C3, l3, f3, C4, l4, f4, C5, l5, f5, C6, l6, f6, hr, hE, hb8⟩
              subst hr
              rw [← HY.out] at hE
              rw [← HY.out, ← HQ.out]
              have HB8 := Lib.hid (below_on HB7.out hb8)
              have HY8 := Lib.hid (HY7.out.on hb8)
              have HE8 := Lib.hid hE.entS
              clear HB7 HY7 hE hb8 HT2 HSb7
              have HBoz := Lib.hid (heap_alloc_new w8 (.cells #[.int .i64 0, .int .i64 0, .int .i64 0, .int .i64 0, .int .i64 0, .int .i64 0, .int .i64 0, .int .i64 0, .int .i64 0, .int .i64 0, .slice none 0 0, .slice none 0 0, .slice none 0 0, .slice none 0 0, .slice none 0 0, .slice none 0 0] 30))
              have HZIz := Lib.hid (infoEntC y (.slice C1 l1 f1) (.slice C2 l2 f2) (.slice C3 l3 f3) (.slice C4 l4 f4) (.slice C5 l5 f5) (.slice C6 l6 f6))
              have HZAz := Lib.hid (entC_all y C1 C2 C3 C4 C5 C6 l1 f1 l2 f2 l3 f3 l4 f4 l5 f5 l6 f6)
              have HZNz := Lib.hid (show (#[.int .i64 0, .int .i64 0, .int .i64 0, .int .i64 0, .int .i64 0, .int .i64 0, .int .i64 0, .int .i64 0, .int .i64 0, .int .i64 0, .slice none 0 0, .slice none 0 0, .slice none 0 0, .slice none 0 0, .slice none 0 0, .slice none 0 0] : Array Value).size = (entC y (.slice C1 l1 f1) (.slice C2 l2 f2) (.slice C3 l3 f3) (.slice C4 l4 f4) (.slice C5 l5 f5) (.slice C6 l6 f6)).size from rfl)
              have HSAz := Lib.hid (setRow_alloc w8 #[.int .i64 0, .int .i64 0, .int .i64 0, .int .i64 0, .int .i64 0, .int .i64 0, .int .i64 0, .int .i64 0, .int .i64 0, .int .i64 0, .slice none 0 0, .slice none 0 0, .slice none 0 0, .slice none 0 0, .slice none 0 0, .slice none 0 0] (entC y (.slice C1 l1 f1) (.slice C2 l2 f2) (.slice C3 l3 f3) (.slice C4 l4 f4) (.slice C5 l5 f5) (.slice C6 l6 f6)) 30)
              go_upto_region 12 with (with_reducible refine wpList_store_row rfl 30 (.tmp 11) (.tmp 65) rfl w8.heap.size _ rfl rfl 30 _ HBoz.out HZIz.out HZNz.out HZAz.out ?_)
              rw [HSAz.out]
              obtain ⟨w9, HWz, hxz, hbxz⟩ : ∃ W, Hid (w8.alloc (.cells (entC y (.slice C1 l1 f1) (.slice C2 l2 f2) (.slice C3 l3 f3) (.slice C4 l4 f4) (.slice C5 l5 f5) (.slice C6 l6 f6)) 30) = W) ∧ W.heap[w8.heap.size]? = some (.cells (entC y (.slice C1 l1 f1) (.slice C2 l2 f2) (.slice C3 l3 f3) (.slice C4 l4 f4) (.slice C5 l5 f5) (.slice C6 l6 f6)) 30 (0, 0)) ∧ Below w8.heap.size w8 W := ⟨_, Lib.hid rfl, heap_alloc_new w8 _, (Below.refl _ _).alloc (Nat.le_refl _) _⟩
              rw [HWz.out]
              clear HBoz HZAz HZNz HSAz HWz
              have HB9 := Lib.hid (below_on HB8.out hbxz)
              have HY9 := Lib.hid (HY8.out.on hbxz)
              have HZ9 : Hid (Bz w8.heap.size y (.slice C1 l1 f1) (.slice C2 l2 f2) (.slice C3 l3 f3) (.slice C4 l4 f4) (.slice C5 l5 f5) (.slice C6 l6 f6) w9) := ⟨hxz, HE8.out.below hbxz (Nat.le_refl _)⟩
              clear HB8 HY8 HE8 hxz hbxz
              generalize w8.heap.size = gz at *
              have HS := rsame_any w9 y y HY9.out.2 HZ9.out.2 (by rw [HY.out]; exact HLen.out)
              rw [(sameE_iff y y).2 rfl] at HS
              have HSS := Lib.hid HS
              clear HS
              go_wp2_with (first
                | ((with_reducible refine wpList_load_rowG ?_ 30 (.tmp 9) rfl gy rfl 30 _ (0, 0) _ HY9.out.bx Try.underlying30 rfl HZIy.out ?_); · first | rfl | simp [Region.wanted, yielded])
                | ((with_reducible refine wpList_load_rowG ?_ 30 (.tmp 11) rfl gz rfl 30 _ (0, 0) _ HZ9.out.bx Try.underlying30 rfl HZIz.out ?_); · first | rfl | simp [Region.wanted, yielded])
                | (go_at_call 18; refine HSS.out.mono ?_; rintro r w10 ⟨rfl, hb10⟩; have HB10 := Lib.hid (below_on HB9.out hb10); clear hb10))
              go_ret
              exact ⟨rfl, HB10.out⟩
end Go.Proofs.Ytbjfhlcfnohiiaa.entryTurned
