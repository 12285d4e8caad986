/- tree: get. -/
import Derived.Test.YtejbbojephiifaaTeZ
namespace Go.Proofs.Ytejbbojephiifaa
open Go.RowKit

/-- What is found, as get says it. -/
def fndV (o : Option KV) : Value := match o with
  | some y => .tuple #[.agg #[.int .i64 y.p, .int .i64 y.c], .bool true]
  | none => .tuple #[.agg #[.int .i64 0, .int .i64 0], .bool false]
/-- A tree that get looks into. -/
def GetS (k : ByteArray) (xs : List KV) (w0 : World) (h : Nat) (s : Value) (wr : World) : Prop := ∃ R, ∃ g : G h, s = .pointer (some ⟨gb h g, 0, none⟩) ∧ At h R wr g ∧ Ok h g ∧ (h = 0 ∨ 2 ≤ cnt h g) ∧ cnt h g ≤ 4 ∧ Rise KV.k (kvs h g) ∧ fnd k (kvs h g) = fnd k xs ∧ Below w0.heap.size w0 wr

theorem szRID (p d : Int) : (Try.prog.info? 35).map (·.size) = some (#[.int .i64 p, .int .i64 d] : Array Value).size := (by kernel_rfl : (Try.prog.info? 35).map (·.size) = some 2)
theorem undRID : Try.prog.underlying 35 = some (.struct (Try.prog.fieldsOf 35)) := by kernel_rfl

set_option maxRecDepth 100000 in
set_option maxHeartbeats 2000000 in
theorem get_any (w : World) {h : Nat} {R : Rest} {g : G h} {xs : List KV} (k : ByteArray) (ha : At h R w g) (ho : Ok h g) (hc : h = 0 ∨ 2 ≤ cnt h g) (h4 : cnt h g ≤ 4) (hr : Rise KV.k (kvs h g)) (hx : kvs h g = xs) :
    Calls Try.prog 29 #[.pointer (some ⟨gb h g, 0, none⟩), .string k] w fun e w' => e = .returned (fndV (fnd k xs)) ∧ Below w.heap.size w w' := by
  have hb0 := (Below.refl w.heap.size w).alloc (Nat.le_refl _) (.cells #[.int .i64 0, .int .i64 0] 35)
  have HST : Hid (GetS k xs (w.alloc (.cells #[.int .i64 0, .int .i64 0] 35)) h (.pointer (some ⟨gb h g, 0, none⟩)) (w.alloc (.cells #[.int .i64 0, .int .i64 0] 35))) := ⟨R, g, rfl, ha.below hb0, ho, hc, h4, hr, by rw [hx], Below.refl _ _⟩
  have HB0 := Lib.hid hb0
  have HX := Lib.hid (heap_alloc_new w (.cells #[.int .i64 0, .int .i64 0] 35))
  clear ha ho hc h4 hr hx hb0
  go_enter Try.func29, Try.ntmps29
  generalize gb h g = b0 at *
  go_wp2
  generalize hw0 : w.alloc (.cells #[.int .i64 0, .int .i64 0] 35) = w0 at *
  clear hw0
  go_loopg [0] h (fun gk s wr => Hid (GetS k xs w0 gk s wr))
  case atStart => exact HST.out
  case round =>
    obtain ⟨R, g, rfl, ha, ho, hc, h4, hr, hx, hb⟩ := hrel.out
    have hXr : wr.heap[w.heap.size]? = some (.cells #[.int .i64 0, .int .i64 0] 35 (0, 0)) := (hb.block _ (Array.getElem?_eq_some_iff.1 HX.out).1).trans HX.out
    cases gk with
    | zero =>
      obtain ⟨b, v, l⟩ : Lf := g
      have hp : PAP wr b R v l := ha
      have hri : Rise KV.k l := hr
      have hl4 : l.length ≤ 4 := h4
      obtain ⟨A, B, is, hs⟩ := stand_ex k hri
      have HFI := Lib.hid (find_leaf hp (by omega) hri hs wr (Below.refl _ _))
      have HLE := Lib.hid (leafP_any wr hp)
      have HB := Lib.hid hb
      have HXR := Lib.hid hXr
      have HS := Lib.hid hs
      have HP := Lib.hid hp
      have hfx : fnd k l = fnd k xs := hx
      have HFX := Lib.hid hfx
      obtain ⟨A0, cp0, hv⟩ := own_shape hp.own
      subst hv
      have c0 : wr.cell? ⟨b, 0, none⟩ = some (.slice A0 l.length cp0) := hp.at_.c0
      have hbl := hp.lt
      show Code.wp _ _ _ { tmps := #[.pointer (some ⟨b, 0, none⟩), _, _, _, _, _, _, _, _, _, _, _, _, _, _, _, _, _, _, _, _, _, _, _, _, _, _, _, _, _, _, _, _, _, _, _, _, _, _, _, _, _, _, _], defers := [] } _
      clear hp hri hs hfx ha ho hc h4 hr hx hb hXr hrel HST
      cases is with
      | false =>
        go_upto_region 5 with (first
          | (go_at_call 39; refine HFI.out.mono ?_; rintro e w1 ⟨rfl, hb1⟩; have HB1 := Lib.hid hb1; clear hb1)
          | (go_at_call 37; refine HLE.out.mono ?_; rintro e w' ⟨rfl, hw⟩; obtain rfl := hw.symm; clear hw))
        have hbx1 : w1.heap[w.heap.size]? = some (.cells #[.int .i64 0, .int .i64 0] 35 (0, 0)) := (HB1.out.block _ (Array.getElem?_eq_some_iff.1 HXR.out).1).trans HXR.out
        have HB2 := Lib.hid hbx1
        have HSZ := Lib.hid (szRID 0 0)
        have HLD : Hid (∀ j u, (#[.int .i64 0, .int .i64 0] : Array Value)[j]? = some u → w1.cell? ⟨w.heap.size, 0 + j, none⟩ = some u) := fun j u hu => by
          rw [Nat.zero_add, (cell_of HB2.out j).1]; exact hu
        have HWB : Hid (Below w.heap.size w (w1.setRow w.heap.size (putRow #[.int .i64 0, .int .i64 0] 0 [.int .i64 0, .int .i64 0]))) := ((Fr.of_below (S := fun _ => False) (HB0.out.trans ((HB.out.trans (HB1.out.mono HB.out.size)).mono HB0.out.size))).setRow (b := w.heap.size) (.inr (Nat.le_refl _)) _).toBelow (Nat.le_refl _) (fun k e => e.elim)
        have q0 : (w1.setRow w.heap.size (putRow #[.int .i64 0, .int .i64 0] 0 [.int .i64 0, .int .i64 0])).cell? ⟨w.heap.size, 0, none⟩ = some (.int .i64 0) := (cell_of (setRow_heap w1 w.heap.size _ _ _ _ hbx1) 0).1.trans rfl
        have q1 : (w1.setRow w.heap.size (putRow #[.int .i64 0, .int .i64 0] 0 [.int .i64 0, .int .i64 0])).cell? ⟨w.heap.size, 1, none⟩ = some (.int .i64 0) := (cell_of (setRow_heap w1 w.heap.size _ _ _ _ hbx1) 1).1.trans rfl
        clear hbx1
        go_wp2_with (first
          | (with_reducible refine wpList_load_at rfl 35 (.tmp 4) rfl w.heap.size 0 rfl #[.int .i64 0, .int .i64 0] _ HLD.out undRID rfl HSZ.out ?_)
          | (with_reducible refine wpList_store_at rfl 35 (.tmp 4) (.tmp 35) rfl w.heap.size 0 #[.int .i64 0, .int .i64 0] rfl rfl 35 #[.int .i64 0, .int .i64 0] HB2.out HSZ.out (by simp) (by simp [Value.oneCell']) ?_))
        generalize w1.setRow w.heap.size (putRow #[.int .i64 0, .int .i64 0] 0 [.int .i64 0, .int .i64 0]) = w2 at *
        have e3 : fnd k xs = none := by rw [← HFX.out]; exact (Stand.ins_no (x := ⟨k, 0, 0⟩) HS.out).2.2.2.1
        refine bodyPost_ret (v := .tuple #[.agg #[.int .i64 0, .int .i64 0], .bool false]) ?_ rfl ⟨by rw [e3]; rfl, HWB.out⟩
        simp [results, Try.results29, go_sem, q0, q1]
      | true =>
        obtain ⟨y, r, rfl, hk, _, _, _, e3, _⟩ := Stand.ins_yes (x := ⟨k, 0, 0⟩) HS.out
        have el := HS.out.eq
        subst el
        have hn : (A ++ y :: r).length = A.length + 1 + r.length := by simp; omega
        obtain ⟨q, cp, hv, _, hql⟩ := HP.out.own.form (by rw [hn]; omega)
        cases hv
        have e3 : fnd k xs = some y := by rw [← HFX.out]; exact e3
        have HE3 := Lib.hid e3
        have hlt : A.length < (A ++ y :: r).length := by omega
        have ey : (A ++ y :: r)[A.length] = y := by simp
        have HCI : Hid (∀ w1, Below wr.heap.size wr w1 → ∀ j u, (#[.int .i64 y.p, .int .i64 y.c] : Array Value)[j]? = some u → w1.cell? ⟨q, A.length * 3 + 1 + j, none⟩ = some u) := fun w1 hw j u hu => by
          refine (World.cell?_of_block (hw.block q hql)).trans ?_
          match j, hu with
          | 0, hu =>
            have h2 := (own_cell KV.en_len HP.out.own hlt (j := 1) (by omega)).1
            rw [ey] at h2
            exact h2.trans hu
          | 1, hu =>
            have h2 := (own_cell KV.en_len HP.out.own hlt (j := 2) (by omega)).1
            rw [ey] at h2
            exact h2.trans hu
        have hli : (A.length : Int) < ((A ++ y :: r).length : Int) := by omega
        clear hlt ey
        generalize (A ++ y :: r).length = n at *
        generalize A.length = i at *
        clear e3 hn hk
        go_upto_region 6 with (first
          | (go_at_call 39; refine HFI.out.mono ?_; rintro e w1 ⟨rfl, hb1⟩; have HB1 := Lib.hid hb1; clear hb1)
          | (go_at_call 37; refine HLE.out.mono ?_; rintro e w' ⟨rfl, hw⟩; obtain rfl := hw.symm; clear hw))
        have hbx1 : w1.heap[w.heap.size]? = some (.cells #[.int .i64 0, .int .i64 0] 35 (0, 0)) := (HB1.out.block _ (Array.getElem?_eq_some_iff.1 HXR.out).1).trans HXR.out
        have d0 : w1.cell? ⟨b, 0, none⟩ = some (.slice (some ⟨q, 0, none⟩) n cp0) := (World.cell?_of_block (HB1.out.block b hbl)).trans c0
        have HB2 := Lib.hid hbx1
        have HSZ := Lib.hid (szRID y.p y.c)
        have HLD := Lib.hid (HCI.out w1 HB1.out)
        have HWB : Hid (Below w.heap.size w (w1.setRow w.heap.size (putRow #[.int .i64 0, .int .i64 0] 0 [.int .i64 y.p, .int .i64 y.c]))) := ((Fr.of_below (S := fun _ => False) (HB0.out.trans ((HB.out.trans (HB1.out.mono HB.out.size)).mono HB0.out.size))).setRow (b := w.heap.size) (.inr (Nat.le_refl _)) _).toBelow (Nat.le_refl _) (fun k e => e.elim)
        have q0 : (w1.setRow w.heap.size (putRow #[.int .i64 0, .int .i64 0] 0 [.int .i64 y.p, .int .i64 y.c])).cell? ⟨w.heap.size, 0, none⟩ = some (.int .i64 y.p) := (cell_of (setRow_heap w1 w.heap.size _ _ _ _ hbx1) 0).1.trans rfl
        have q1 : (w1.setRow w.heap.size (putRow #[.int .i64 0, .int .i64 0] 0 [.int .i64 y.p, .int .i64 y.c])).cell? ⟨w.heap.size, 1, none⟩ = some (.int .i64 y.c) := (cell_of (setRow_heap w1 w.heap.size _ _ _ _ hbx1) 1).1.trans rfl
        clear hbx1
        generalize hyp : y.p = yp at *
        generalize hyc : y.c = yc at *
        have HYP := Lib.hid (And.intro hyp hyc)
        clear hyp hyc
        go_wp2_with (first
          | (with_reducible refine wpList_load_at rfl 35 (.tmp 42) rfl q (i * 3 + 1) rfl #[.int .i64 yp, .int .i64 yc] _ HLD.out undRID rfl HSZ.out ?_)
          | (with_reducible refine wpList_store_at rfl 35 (.tmp 4) (.tmp 43) rfl w.heap.size 0 #[.int .i64 yp, .int .i64 yc] rfl rfl 35 #[.int .i64 0, .int .i64 0] HB2.out HSZ.out (by simp) (by simp [Value.oneCell']) ?_))
        generalize w1.setRow w.heap.size (putRow #[.int .i64 0, .int .i64 0] 0 [.int .i64 yp, .int .i64 yc]) = w2 at *
        refine bodyPost_ret (v := .tuple #[.agg #[.int .i64 yp, .int .i64 yc], .bool true]) ?_ rfl ⟨by rw [HE3.out]; show _ = Ending.returned (.tuple #[.agg #[.int .i64 y.p, .int .i64 y.c], .bool true]); rw [HYP.out.1, HYP.out.2], HWB.out⟩
        simp [results, Try.results29, go_sem, q0, q1]
    | succ h' =>
      obtain ⟨b, v, l⟩ : Nd (G h') := g
      have hl4 : l.length ≤ 4 := h4
      have hl2 : 2 ≤ l.length := by rcases hc with e | e; omega; exact e
      have hk : ∀ x ∈ l, Kid h' (Ok h') x := ho
      have hri : Rise KV.k (kk h' l) := hr
      have hne : kns h' l ≠ [] := fun e => by have := congrArg List.length e; rw [kns_len] at this; simp at this; rw [this] at hl2; simp at hl2
      have hpa : PAQ wr b R v (kns h' l) := ha.1
      have hkids : KidsAt h' wr l := ha.2
      obtain ⟨q, cp, hv, _, hql⟩ := hpa.own.form (by rw [kns_len]; omega)
      rw [kns_len] at hv
      subst hv
      have HLE : Hid (Calls Try.prog 37 #[.pointer (some ⟨b, 0, none⟩)] wr fun e w' => e = .returned (.bool false) ∧ w' = wr) := by
        have hle := leafQ_any wr hpa hne
        exact hle
      have HOV := Lib.hid (over_any wr.drew _ (kns h' l) k (by rw [kns_len]; omega) hne (own_same (w' := wr.drew) hpa.own (fun _ _ => rfl)) (kns_rise hk hri))
      have c0 : wr.cell? ⟨b, 1, none⟩ = some (.slice (some ⟨q, 0, none⟩) l.length cp) := by
        have h0 := hpa.at_.c1
        exact h0
      have hstep : ∀ (A : List KN) y B w1, Under (kns h' l) k A y B → Below wr.drew.heap.size wr.drew w1 → A.length < l.length ∧ w1.cell? ⟨b, 1, none⟩ = some (.slice (some ⟨q, 0, none⟩) l.length cp) ∧ ∃ b2, w1.cell? ⟨q, A.length * 2 + 1, none⟩ = some (.pointer (some ⟨b2, 0, none⟩)) ∧ GetS k xs w0 h' (.pointer (some ⟨b2, 0, none⟩)) w1 := fun A y B w1 hu hb1 => by
        obtain ⟨LA, k0, c, LB, el, hAl, hlo, hhi, hrc⟩ := under_kids hk hri hu
        have hw : Below wr.heap.size wr w1 := ⟨hb1.os, hb1.tape, hb1.output, hb1.size, hb1.block⟩
        have hmem : (k0, c) ∈ l := by rw [el]; exact List.mem_append_right _ (List.mem_cons_self ..)
        have hkc := hk _ hmem
        refine ⟨by rw [hAl, el]; simp, (World.cell?_of_block (hw.block b hpa.lt)).trans c0, gb h' c, ?_, R0, c, rfl, (hkids _ hmem).below hw, hkc.2.2.1, .inr hkc.1, hkc.2.1, hrc, ?_, hb.trans (hw.mono hb.size)⟩
        · refine (World.cell?_of_block (hw.block q hql)).trans ?_
          have hlt : A.length < (kns h' l).length := by rw [kns_len, hAl, el]; simp
          have h1 := (own_cell KN.en_len hpa.own hlt (j := 1) (by omega)).1
          have e2 : (kns h' l)[A.length] = ⟨k0, gb h' c⟩ := by
            simp [kns, el, hAl]
          rw [e2] at h1
          exact h1
        · have h2 : fnd k (kk h' l) = fnd k xs := hx
          rw [el, kk_app, kk_cons, fnd_lo hlo, fnd_hi hhi] at h2
          exact h2
      have HST2 := Lib.hid hstep
      have hl9 := Lib.hid (And.intro hl2 hl4)
      generalize l.length = n at *
      show Code.wp _ _ _ { tmps := #[.pointer (some ⟨b, 0, none⟩), _, _, _, _, _, _, _, _, _, _, _, _, _, _, _, _, _, _, _, _, _, _, _, _, _, _, _, _, _, _, _, _, _, _, _, _, _, _, _, _, _, _, _], defers := [] } _
      clear hstep hpa hkids hk hri hne ha ho hc h4 hr hx hb hXr hrel HST hl2 hl4
      go_wp2_with (go_at_call 37; refine HLE.out.mono ?_; rintro e w' ⟨rfl, hw⟩; obtain rfl := hw.symm; clear hw)
      go_region_with (go_at_call 38; refine HOV.out.mono ?_; rintro e w1 ⟨A, y, B, hu, rfl, hb1⟩; obtain ⟨z0, z1, b2, z2, z3⟩ := HST2.out A y B w1 hu hb1; have HZ3 := Lib.hid z3; have hzi : (A.length : Int) < (n : Int) := (by omega); clear hu z3 hb1)
      all_goals go_wp2
      all_goals
        simp only [List.getElem_toArray, List.getElem_cons_succ, List.getElem_cons_zero, Act.put, List.setIfInBounds_toArray, List.set_cons_zero]
        go_roundg h'
        case measure => omega
        case rel => exact HZ3.out
end Go.Proofs.Ytejbbojephiifaa
