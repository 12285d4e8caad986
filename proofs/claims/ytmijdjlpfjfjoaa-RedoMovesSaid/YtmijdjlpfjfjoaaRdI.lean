/- The iterator over what an entry gives. -/
import Derived.Shelf.Abstract
import Derived.Shelf.RegionOpen
import Derived.OwnWalkIn
import Derived.TacticsInMore
import Derived.LoopNIn
import Derived.LoopIn
import Derived.RangeFuncCalls
import Derived.Test.YtmijdjlpfjfjoaaRdL
import Derived.Test.YtmijdjlpfjfjoaaRdB
import Derived.Test.YtmijdjlpfjfjoaaStubP
namespace Go.Proofs.Ytmijdjlpfjfjoaa.Rx
open Go.RowKit Go.Shelf
attribute [local go_sem] Oper.semAt_some

/-- What a round keeps: all below n0, and the entry's box. -/
def Kp (n0 b : Nat) (W W' : World) : Prop := Below n0 W W' ∧ W'.heap[b]? = W.heap[b]?
theorem Kp.refl (n0 b : Nat) (W : World) : Kp n0 b W W := ⟨Below.refl _ _, rfl⟩
theorem Kp.trans {n0 b : Nat} {A B C : World} (h : Kp n0 b A B) (k : Kp n0 b B C) : Kp n0 b A C := ⟨h.1.trans k.1, k.2.trans h.2⟩
theorem Kp.of_below {n0 b : Nat} {W W' : World} {B : Nat} (h : Below B W W') (hn : n0 ≤ B) (hb : b < B) : Kp n0 b W W' := ⟨h.mono hn, h.block b hb⟩
/-- The cells of an entry's box. -/
structure Bx (W : World) (b : Nat) (e : En) (x : Ex) : Prop where
  at_ : W.heap[b]? = some (enO e x)
theorem Bx.c {W : World} {b : Nat} {e : En} {x : Ex} (h : Bx W b e x) (i : Nat) : W.cell? ⟨b, i, none⟩ = (enC e x)[i]? := (cell_of h.at_ i).1
theorem Bx.on {W W' : World} {b n0 : Nat} {e : En} {x : Ex} (h : Bx W b e x) (k : Kp n0 b W W') : Bx W' b e x := ⟨k.2.trans h.at_⟩
theorem Bx.below {W W' : World} {b B : Nat} {e : En} {x : Ex} (h : Bx W b e x) (k : Below B W W') (hb : b < B) : Bx W' b e x := ⟨(k.block b hb).trans h.at_⟩
theorem Bx.lt {W : World} {b : Nat} {e : En} {x : Ex} (h : Bx W b e x) : b < W.heap.size := (Array.getElem?_eq_some_iff.1 h.at_).1

theorem tl_set {e : En} (h : e.k = 1 ∨ e.k = 2) : tl e = [(e.ap, e.ac, e.new)] := by unfold tl; rw [if_pos h]
theorem tl_move {e : En} (h : e.k = 7) : tl e = [(e.ap, e.ac, stubE e.tp e.tc), (e.tp, e.tc, e.new)] := by unfold tl; rw [if_neg (by omega), if_pos h]
theorem tl_done {e : En} (h : e.k = 8) : tl e = e.mv.map fun m => (m.1, m.2.1, []) := by unfold tl; rw [if_neg (by omega), if_neg (by omega), if_pos h]
theorem tl_none {e : En} (h1 : ¬ e.k = 1) (h2 : ¬ e.k = 2) (h7 : ¬ e.k = 7) (h8 : ¬ e.k = 8) : tl e = [] := by unfold tl; rw [if_neg (by omega), if_neg h7, if_neg h8]

theorem stubE_ok (p c : Int) : bytesOk (stubE p c) := by
  unfold stubE
  by_cases h : placeB p c = true
  · rw [if_pos h]; exact stubL_ok h
  · rw [if_neg h]; intro x hx; cases hx
theorem pstub_any (w : World) (p c : Int) : Calls Try.prog 30 #[.agg #[.int .i64 p, .int .i64 c]] w fun r w' => ∃ A k er, r = .returned (.tuple #[.slice A (stubE p c).length k, .int .i64 er]) ∧ SlK .u8 w' (.slice A (stubE p c).length k) (stubE p c) ∧ Below w.heap.size w w' := by
  cases h : placeB p c with
  | false =>
    refine (stub_bad w p c h).mono ?_
    rintro r w' ⟨rfl, hb⟩
    have : stubE p c = [] := by unfold stubE; rw [h, if_neg (by simp)]
    exact ⟨none, 0, 1, by rw [this]; rfl, by rw [this]; exact slK_nil _, hb⟩
  | true =>
    refine (stub_ok w p c h).mono ?_
    rintro r w' ⟨g, rfl, hg, hk, hb⟩
    have : stubE p c = stubL p c := by unfold stubE; rw [h, if_pos rfl]
    rw [this]
    exact ⟨some ⟨g, 0, none⟩, 26, 0, rfl, (hk.pt (n := 26) (c := 26) rfl (Nat.le_refl _)).slK (stubL_ok h), hb⟩

set_option maxRecDepth 100000 in
set_option maxHeartbeats 1000000 in
theorem touched1_in (n : Nat) (hn : 1 ≤ n) (l b : Nat) (e : En) (x : Ex) (w0 : World) (hE : EnIn w0 e x) (J Jx : List Tx → World → Prop) (hJ : ∀ s W W', J s W → Below W.heap.size W W' → J s W')
    (hY : ∀ pre t W, J pre W → Gd t W → YieldAt Fence.wide (n - 1) Try.prog l (encT t) W fun r W' =>
      (r = .returned (.bool true) ∧ J (pre ++ [t]) W' ∧ Kp w0.heap.size b W W') ∨ (r = .returned (.bool false) ∧ Jx (pre ++ [t]) W'))
    (W : World) (hw : Below w0.heap.size w0 W) (hB : Bx W b e x) (h0 : J [] W) :
    CallsIn Fence.wide n Try.prog 29 #[.func (.yield l) #[] #[], .pointer (some ⟨b, 0, none⟩)] W fun r W' => (∃ v, r = .returned v) ∧
      ((∃ ys, tls ys = tl e ∧ J ys W') ∨ (∃ pre, tls pre <+: tl e ∧ Jx pre W')) := by
  refine callsIn_of_wp Try.func29 rfl trivial ?_ rfl
  simp only [Try.ntmps29, List.size_toArray, List.length_cons, List.length_nil, Nat.reduceAdd, Nat.reduceSub, Array.replicate_succ, Array.replicate_zero, List.push_toArray, List.append_toArray, List.nil_append, List.cons_append]
  have HE := Lib.hid hE
  have HB := Lib.hid hB
  have HW := Lib.hid hw
  have HY := Lib.hid hY
  have HJ := Lib.hid hJ
  have H0 := Lib.hid h0
  have c0 : W.cell? ⟨b, 0, none⟩ = some (.int .i64 e.k) := hB.c 0
  obtain ⟨k, hk⟩ : ∃ k, k = e.k := ⟨_, rfl⟩
  rw [← hk] at c0
  have HK := Lib.hid hk
  clear hE hB hw hY hJ h0 hk
  by_cases h12 : k = 1 ∨ k = 2
  · have HT := Lib.hid (tl_set (e := e) (by rw [← HK.out]; exact h12))
    have c6 : W.cell? ⟨b, 6, none⟩ = some (.int .i64 e.ap) := HB.out.c 6
    have c7 : W.cell? ⟨b, 7, none⟩ = some (.int .i64 e.ac) := HB.out.c 7
    have c11 : W.cell? ⟨b, 11, none⟩ = some (.slice x.NA e.new.length x.NK) := HB.out.c 11
    obtain ⟨fn, tmps, assign, body, hy, hR⟩ := HY.out [] ⟨e.ap, e.ac, x.NA, x.NK, e.new⟩ W H0.out (HE.out.new.below HW.out (Nat.le_refl _))
    unfold encT at hy
    have HR := Lib.hid hR
    clear hR
    rcases h12 with rfl | rfl
    all_goals
      gi_wp2
      refine HR.out.mono ?_
      rintro r W3 (⟨rfl, hJ7, hk7⟩ | ⟨rfl, hJx7⟩)
      · have HJ7 := Lib.hid hJ7
        clear hJ7 hk7
        gi_wp2
        go_end0
        exact ⟨⟨_, rfl⟩, .inl ⟨[⟨e.ap, e.ac, x.NA, x.NK, e.new⟩], HT.out.symm, HJ7.out⟩⟩
      · have HJ7 := Lib.hid hJx7
        clear hJx7
        gi_wp2
        go_end0
        exact ⟨⟨_, rfl⟩, .inr ⟨_, by rw [HT.out]; exact List.prefix_refl _, HJ7.out⟩⟩
  · by_cases h7 : k = 7
    · subst h7
      have HT := Lib.hid (tl_move (e := e) HK.out.symm)
      have c8 : W.cell? ⟨b, 8, none⟩ = some (.int .i64 e.tp) := HB.out.c 8
      have c9 : W.cell? ⟨b, 9, none⟩ = some (.int .i64 e.tc) := HB.out.c 9
      clear h12
      gi_wp2_with (refine ⟨trivial, ?_⟩; gi_at_call 30; refine (callsIn_wide.2 (pstub_any _ _ _)).mono ?_; rintro r W2 ⟨A, q, er, rfl, hs, hb2⟩; have HB2 := Lib.hid (HB.out.below hb2 HB.out.lt); have HW2 := Lib.hid (HW.out.trans (hb2.mono HW.out.size)); have c6 : W2.cell? ⟨b, 6, none⟩ = some (.int .i64 e.ap) := HB2.out.c 6; have c7 : W2.cell? ⟨b, 7, none⟩ = some (.int .i64 e.ac) := HB2.out.c 7; obtain ⟨fn, tmps, assign, body, hy, hR⟩ := HY.out [] ⟨e.ap, e.ac, A, q, stubE e.tp e.tc⟩ W2 (HJ.out _ _ _ H0.out hb2) hs; unfold encT at hy; have HR := Lib.hid hR; clear hR hs hb2)
      refine HR.out.mono ?_
      rintro r W3 (⟨rfl, hJ7, hk7⟩ | ⟨rfl, hJx7⟩)
      · have HB3 := Lib.hid (HB2.out.on hk7)
        have HW3 := Lib.hid (HW2.out.trans hk7.1)
        clear hy HR c6 c7 c8 c9
        have c8 : W3.cell? ⟨b, 8, none⟩ = some (.int .i64 e.tp) := HB3.out.c 8
        have c9 : W3.cell? ⟨b, 9, none⟩ = some (.int .i64 e.tc) := HB3.out.c 9
        have c11 : W3.cell? ⟨b, 11, none⟩ = some (.slice x.NA e.new.length x.NK) := HB3.out.c 11
        obtain ⟨fn, tmps, assign, body, hy, hR⟩ := HY.out _ ⟨e.tp, e.tc, x.NA, x.NK, e.new⟩ W3 hJ7 (HE.out.new.below HW3.out (Nat.le_refl _))
        unfold encT at hy
        have HR := Lib.hid hR
        clear hR hJ7 hk7
        gi_wp2
        refine HR.out.mono ?_
        rintro r W4 (⟨rfl, hJ8, hk8⟩ | ⟨rfl, hJx8⟩)
        · have HJ8 := Lib.hid hJ8
          clear hJ8 hk8
          gi_wp2
          go_end0
          exact ⟨⟨_, rfl⟩, .inl ⟨[⟨e.ap, e.ac, A, q, stubE e.tp e.tc⟩, ⟨e.tp, e.tc, x.NA, x.NK, e.new⟩], HT.out.symm, HJ8.out⟩⟩
        · have HJ8 := Lib.hid hJx8
          clear hJx8
          gi_wp2
          go_end0
          exact ⟨⟨_, rfl⟩, .inr ⟨_, by rw [HT.out]; exact List.prefix_refl _, HJ8.out⟩⟩
      · have HJ7 := Lib.hid hJx7
        clear hJx7
        gi_wp2
        go_end0
        exact ⟨⟨_, rfl⟩, .inr ⟨_, by rw [HT.out]; exact ⟨[(e.tp, e.tc, e.new)], rfl⟩, HJ7.out⟩⟩
    · by_cases h8 : k = 8
      · subst h8
        have HT := Lib.hid (tl_done (e := e) HK.out.symm)
        have c12 : W.cell? ⟨b, 12, none⟩ = some (.slice x.MA e.mv.length x.MK) := HB.out.c 12
        have hmax := HE.out.len
        have hW0 := Lib.hid (Kp.refl w0.heap.size b W)
        clear h12 h7
        gi_wp2
        gi_loopw [42] (fun i wr => Hid (∃ j : Nat, j ≤ e.mv.length ∧ i = .int .i64 (j : Int) ∧ Kp w0.heap.size b W wr ∧ ∃ ys, tls ys = (e.mv.take j).map (fun m => (m.1, m.2.1, ([] : List Int))) ∧ J ys wr)) (fun i _ => e.mv.length - (RowKit.intOf i).toNat)
        case atStart => exact ⟨0, Nat.zero_le _, rfl, hW0.out, [], rfl, H0.out⟩
        case round =>
          obtain ⟨j, hj, rfl, hk, ys, hys, hJs⟩ := hrel.out
          clear hrel
          have HWr := Lib.hid (HW.out.trans hk.1)
          have HK2 := Lib.hid hk
          have HYs := Lib.hid hys
          have HJs := Lib.hid hJs
          clear hk hys hJs
          by_cases hlt : j < e.mv.length
          · obtain ⟨mb, mo, hma, hml, hmc⟩ := (HE.out.mv.below HWr.out (Nat.le_refl _)).one (i := j) (by simpa using hlt)
            rw [hma]
            have k0 : wr.cell? ⟨mb, mo + j * 4, none⟩ = some (.int .i64 e.mv[j].1) := by simpa [mvV] using hmc 0 (by omega)
            have k1 : wr.cell? ⟨mb, mo + j * 4 + 1, none⟩ = some (.int .i64 e.mv[j].2.1) := by simpa [mvV] using hmc 1 (by omega)
            have k2 : wr.cell? ⟨mb, mo + j * 4 + 2, none⟩ = some (.int .i64 e.mv[j].2.2.1) := by simpa [mvV] using hmc 2 (by omega)
            have k3 : wr.cell? ⟨mb, mo + j * 4 + 3, none⟩ = some (.int .i64 e.mv[j].2.2.2) := by simpa [mvV] using hmc 3 (by omega)
            have hal : Below wr.heap.size wr (wr.alloc (.cells #[.int .i64 e.mv[j].1, .int .i64 e.mv[j].2.1, .int .i64 e.mv[j].2.2.1, .int .i64 e.mv[j].2.2.2] 54)) := (Below.refl _ _).alloc (Nat.le_refl _) _
            obtain ⟨fn, tmps, assign, body, hy, hR⟩ := HY.out ys ⟨e.mv[j].1, e.mv[j].2.1, none, 0, []⟩ (wr.alloc (.cells #[.int .i64 e.mv[j].1, .int .i64 e.mv[j].2.1, .int .i64 e.mv[j].2.2.1, .int .i64 e.mv[j].2.2.2] 54)) (HJ.out _ _ _ HJs.out hal) (slK_nil _)
            have hbr : b < wr.heap.size := (HB.out.on HK2.out).lt
            have HKA := Lib.hid (HK2.out.trans (Kp.of_below (n0 := w0.heap.size) (b := b) hal HWr.out.size hbr))
            have HYn : Hid (∀ t : Tx, t.t = (e.mv[j].1, e.mv[j].2.1, []) → tls (ys ++ [t]) = (e.mv.take (j + 1)).map (fun m => (m.1, m.2.1, ([] : List Int)))) := fun t ht => by
              rw [tls_snoc, ht, List.take_succ_eq_append_getElem hlt, List.map_append, HYs.out]; rfl
            unfold encT at hy
            have hy2 : (Instr.yield l #[.agg #[.int .i64 e.mv[j].1, .int .i64 e.mv[j].2.1], .slice none 0 0]).run Try.prog _ = _ := hy
            have HR := Lib.hid hR
            have HLT := Lib.hid hlt
            clear hmc hma hR hal hbr hy
            gi_wp2
            refine HR.out.mono ?_
            rintro r W3 (⟨rfl, hJ7, hk7⟩ | ⟨rfl, hJx7⟩)
            · have HJ7 := Lib.hid hJ7
              have HK7 := Lib.hid (HKA.out.trans hk7)
              clear hJ7 hk7
              gi_wp2
              go_roundw
              case rel => exact ⟨j + 1, HLT.out, by simp, HK7.out, _, HYn.out _ rfl, HJ7.out⟩
              case measure => have := HLT.out; simp [RowKit.intOf]; omega
            · have HJ7 := Lib.hid hJx7
              clear hJx7
              gi_wp2
              refine bodyPost_ret (results_none rfl _ _ _) rfl ?_
              exact ⟨⟨_, rfl⟩, .inr ⟨_, by rw [HYn.out _ rfl, HT.out]; exact (List.take_prefix _ _).map _, HJ7.out⟩⟩
          · obtain rfl : j = e.mv.length := by omega
            clear hlt
            gi_wp2
            go_end0
            exact ⟨⟨_, rfl⟩, .inl ⟨ys, by rw [HYs.out, HT.out, List.take_length], HJs.out⟩⟩
      · have HT := Lib.hid (tl_none (e := e) (by rw [← HK.out]; omega) (by rw [← HK.out]; omega) (by rw [← HK.out]; exact h7) (by rw [← HK.out]; exact h8))
        have k1 : ¬ k = 1 := by omega
        have k2 : ¬ k = 2 := by omega
        clear h12
        gi_wp2
        go_end0
        exact ⟨⟨_, rfl⟩, .inl ⟨[], HT.out.symm, H0.out⟩⟩
end Go.Proofs.Ytmijdjlpfjfjoaa.Rx
