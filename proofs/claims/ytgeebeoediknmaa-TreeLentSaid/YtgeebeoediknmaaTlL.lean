/- TreeLent: the walk. -/
import Derived.Test.YtgeebeoediknmaaTlK
import Derived.Laws.Cover1
import Derived.BigQuiet
namespace Go.Proofs.Ytgeebeoediknmaa
open Go.RowKit

/-- What the law's keys are like. -/
def Tame (xs : List KV) : Prop := ∀ y ∈ xs, y.k.size ≤ 2 ∧ 0 ≤ y.p
theorem Tame.ins {xs : List KV} (h : Tame xs) {x : KV} (hr : Rise KV.k xs) (h1 : x.k.size ≤ 2) (h2 : 0 ≤ x.p) : Tame (ins x xs) := fun y hy => by
  rcases (ins_rise (x := x) hr).2 y hy with rfl | hy
  · exact ⟨h1, h2⟩
  · exact h y hy

theorem ShA.top {B : Nat} {w : World} {s : Value} {rows : List (List Nat)} (h : ShA B w s rows) (h0 : 0 < rows.length) (h1 : (rows.getD 0 []).length = 1) :
    ∃ gs cs gr m, s = .slice (some ⟨gs, 0, none⟩) rows.length cs ∧ (∃ o : Array Value, w.heap[gs]? = some (.cells o 54 (0, 0)) ∧ o[0]? = some (.slice (some ⟨gr, 0, none⟩) 1 m)) ∧ RwAt w gr 1 3 ∧ B ≤ gs ∧ B ≤ gr := by
  obtain ⟨vs, o1, h2, h3⟩ := h
  obtain ⟨gs, cs, rfl, _, _⟩ := o1.form (by omega)
  obtain ⟨v, hv, ho⟩ := h3 0 h0
  obtain ⟨gr, m, rfl, _, _⟩ := ho.form (by omega)
  have hc := o1.cellAt 0 (by omega)
  obtain ⟨⟨cur, hq, _⟩, hb⟩ := own_rw o1
  obtain ⟨hr, hb2⟩ := own_rw ho
  rw [h1] at hr hv
  refine ⟨gs, cs, gr, m, rfl, ⟨cur, hq, ?_⟩, hr, hb, hb2⟩
  rw [(cell_of hq 0).1, hv] at hc
  exact hc

set_option maxRecDepth 100000 in
set_option maxHeartbeats 8000000 in
theorem lent_walk (w : World) (v : Value) (l : List Int) (hl : SlK .u8 w v l) :
    Calls Try.prog 8 #[v] w fun e w' => e = .returned (.bool true) ∧ Below w.heap.size w w' := by
  obtain ⟨pv, cap, rfl, _⟩ := id hl
  have HL := Lib.hid hl
  clear hl
  go_enter Try.func8, Try.ntmps8
  go_wp2_with fail
  refine (begun_any w).mono ?_
  rintro e w1 ⟨rfl, b1⟩
  by_cases hll : l.length ≤ 30
  · go_wp2_with fail
    refine tnew.mono ?_
    rintro e w2 ⟨p, rfl, t2, b2⟩
    have HB2 := Lib.hid (b1.trans (b2.mono b1.size))
    generalize hM : w1.heap.size = M at *
    have HM : Hid (w.heap.size ≤ M) := hM ▸ b1.size
    have HT2 := Lib.hid t2
    clear b1 b2 hM t2
    obtain ⟨n, hn⟩ : ∃ n, l.length = n := ⟨_, rfl⟩
    have HLN := Lib.hid hn
    have hn30 : n ≤ 30 := by omega
    rw [hn]
    clear hll hn
    go_wp2_with fail
    go_loopw [4] (fun i wr => ∃ j : Nat, j ≤ n ∧ i = .int .i64 j ∧ Hid (∃ xs, xs.length ≤ j ∧ (0 < j → xs ≠ []) ∧ Tame xs ∧ TT M wr p xs ∧ Below w.heap.size w wr)) (fun i _ => n - intN i)
    case atStart => exact ⟨0, Nat.zero_le _, rfl, [], Nat.le_refl _, (fun h => absurd h (Nat.lt_irrefl _)), (fun y hy => by cases hy), HT2.out, HB2.out⟩
    case round =>
      obtain ⟨j, hj, rfl, HR⟩ := hrel
      clear HT2 HB2
      by_cases hlt : j < n
      · obtain ⟨xs, hx, _, htm, tr, br⟩ := HR.out
        obtain ⟨ab, ao, x0, rfl, hx8, hab, hcell⟩ := sl_at (i := j) HL.out br (by have := HLN.out; omega)
        obtain ⟨x, rfl, hx9⟩ := u8_nat hx8
        have HT := Lib.hid tr
        have HB := Lib.hid br
        have HTM := Lib.hid htm
        clear tr br HR hx8 htm
        go_wp2_with fail
        refine (key_any wr x hx9).mono ?_
        rintro e w3 ⟨rfl, b3⟩
        have HB3 := Lib.hid (HB.out.trans (b3.mono (Nat.le_trans HM.out HT.out.1)))
        have t3 := HT.out.below b3
        clear HT HB b3
        go_wp2_with fail
        refine (tput t3 (by omega) ⟨keyN x, (j : Int), 0⟩).mono ?_
        rintro e w4 ⟨rfl, t4, b4⟩
        have H4 : Hid (∃ xs, xs.length ≤ j + 1 ∧ (0 < j + 1 → xs ≠ []) ∧ Tame xs ∧ TT M w4 p xs ∧ Below w.heap.size w w4) := by
          refine ⟨_, ?_, ?_, HTM.out.ins t3.rise (keyN_size x) (by dsimp only; omega), t4, HB3.out.trans (b4.mono HM.out)⟩
          · rw [ins_len]; split <;> omega
          · intro _ e
            have h1 := ins_len ⟨keyN x, (j : Int), 0⟩ xs
            rw [e] at h1
            have : xs = [] := by
              cases xs with
              | nil => rfl
              | cons a r => simp at h1; split at h1 <;> omega
            subst this
            simp [has] at h1
        clear t3 t4 b4 HB3 HTM
        go_wp2_with fail
        go_roundw
        case rel => exact ⟨j + 1, by omega, by go_num, H4.out⟩
        case measure => simp [intN]; omega
      · obtain ⟨xs, hx, _, htm, tr, br⟩ := HR.out
        have HB := Lib.hid br
        have HTM := Lib.hid htm
        have hx30 : xs.length ≤ 30 := by omega
        clear HR br htm hx
        go_wp2_with fail
        refine (tfrom tr (by omega) ⟨#[]⟩ (-1)).mono ?_
        rintro e w5 ⟨sk, sv, rfl, t5, b5, o1, o2⟩
        rw [frm_nil] at o1 o2
        have HB5 := Lib.hid (HB.out.trans (b5.mono (Nat.le_trans HM.out tr.1)))
        have n5 := tr.tn b5
        have hNM : M ≤ wr.heap.size := tr.1
        have hN5 : wr.heap.size ≤ w5.heap.size := b5.size
        generalize hN : wr.heap.size = N at *
        have hw9 : w.heap.size ≤ N := Nat.le_trans HM.out hNM
        obtain ⟨m, hm⟩ : ∃ m, xs.length = m := ⟨_, rfl⟩
        rw [hm] at o1 o2 hx30
        obtain ⟨A1, c1, rfl⟩ := own_shape o1
        obtain ⟨A2, c2, rfl⟩ := own_shape o2
        have r1 : 0 < m → ∃ q1, A1 = some ⟨q1, 0, none⟩ ∧ RwAt w5 q1 m 9 ∧ N ≤ q1 := fun h0 => by
          obtain ⟨q1, c, e, _, _⟩ := o1.form h0
          cases e
          have := own_rw o1
          rw [Nat.mul_one] at this
          exact ⟨q1, rfl, this⟩
        have r2 : 0 < m → ∃ q2, A2 = some ⟨q2, 0, none⟩ ∧ RwAt w5 q2 (m * 2) 35 ∧ N ≤ q2 := fun h0 => by
          obtain ⟨q2, c, e, _, _⟩ := o2.form h0
          cases e
          exact ⟨q2, rfl, own_rw o2⟩
        have HM5 := Lib.hid hm
        clear o1 o2 tr b5 hN HB hm
        go_wp2_with fail
        refine (tshape t5 (by have := HM5.out; omega)).mono ?_
        rintro e w6 ⟨s, h', g', rfl, f6, t6, b6, a6⟩
        have hsn := f6.snd (by have := HM5.out; omega)
        obtain ⟨gs, cs, gr, ms, rfl, hgs, hgr, hb1, hb2⟩ := a6.top hsn.pos hsn.one
        have hp0 := hsn.pos
        have hp1 := hsn.len
        generalize lv h' [g'] = rows at *
        have HB6 := Lib.hid (HB5.out.trans (b6.mono (Nat.le_trans hw9 hN5)))
        have n6 := n5.old (b6.mono hN5)
        have q1 : 0 < m → ∃ q1, A1 = some ⟨q1, 0, none⟩ ∧ RwAt w6 q1 m 9 ∧ N ≤ q1 := fun h0 => by
          obtain ⟨q, e, h1, h2⟩ := r1 h0
          exact ⟨q, e, h1.below b6, h2⟩
        have q2 : 0 < m → ∃ q2, A2 = some ⟨q2, 0, none⟩ ∧ RwAt w6 q2 (m * 2) 35 ∧ N ≤ q2 := fun h0 => by
          obtain ⟨q, e, h1, h2⟩ := r2 h0
          exact ⟨q, e, h1.below b6, h2⟩
        have hb1' : N ≤ gs := Nat.le_trans hN5 hb1
        have hb2' : N ≤ gr := Nat.le_trans hN5 hb2
        have hN6 : N ≤ w6.heap.size := Nat.le_trans hN5 b6.size
        clear r1 r2 n5 t5 b6 HB5 hb1 hb2 hN5 f6 a6 hsn
        obtain ⟨o, hgo, ho0⟩ := hgs
        have k0 := (cell_of hgo 0).1.trans ho0
        go_wp2_with fail
        refine (tlen t6).mono ?_
        rintro e w7 ⟨rfl, t7, b7⟩
        rw [HM5.out]
        have k7 := (b7.cell (p := ⟨gs, 0, none⟩) (Array.getElem?_eq_some_iff.1 hgo).1).trans k0
        have hgo7 := (b7.block gs (Array.getElem?_eq_some_iff.1 hgo).1).trans hgo
        clear k0
        go_wp2_with fail
        refine (tlen t7).mono ?_
        rintro e w8 ⟨rfl, t8, b8⟩
        rw [HM5.out]
        have k8 := (b8.cell (p := ⟨gs, 0, none⟩) (Array.getElem?_eq_some_iff.1 hgo7).1).trans k7
        have hgo8 := (b8.block gs (Array.getElem?_eq_some_iff.1 hgo7).1).trans hgo7
        have b68 : Below w6.heap.size w6 w8 := b7.trans (b8.mono b7.size)
        have B8 : Below w.heap.size w w8 := HB6.out.trans (b68.mono (Nat.le_trans hw9 hN6))
        have n8 := n6.old (b68.mono hN6)
        have hgr8 := hgr.below b68
        have Q1 : Hid (0 < m → ∃ q1, A1 = some ⟨q1, 0, none⟩ ∧ RwAt w8 q1 m 9 ∧ N ≤ q1) := fun h0 => by
          obtain ⟨q, e, h1, h2⟩ := q1 h0
          exact ⟨q, e, h1.below b68, h2⟩
        have Q2 : Hid (0 < m → ∃ q2, A2 = some ⟨q2, 0, none⟩ ∧ RwAt w8 q2 (m * 2) 35 ∧ N ≤ q2) := fun h0 => by
          obtain ⟨q, e, h1, h2⟩ := q2 h0
          exact ⟨q, e, h1.below b68, h2⟩
        have H8 : Hid (TN M N w8 p xs ∧ Below w.heap.size w w8 ∧ w8.heap[gs]? = some (.cells o 54 (0, 0)) ∧ RwAt w8 gr 1 3) := ⟨n8, B8, hgo8, hgr8⟩
        clear k7 hgo hgo7 hgo8 b7 b8 t6 t7 t8 b68 B8 n8 n6 hgr hgr8 q1 q2 HB6 hN6
        obtain ⟨rl, hrl⟩ : ∃ rl, rows.length = rl := ⟨_, rfl⟩
        rw [hrl] at hp0 hp1
        have hri : (0 : Int) < (rl : Int) := by omega
        go_wp2_with fail
        go_loopw [8] (fun i wr => ∃ j : Nat, j ≤ m ∧ i = .int .i64 j ∧ Hid ((TN M N wr p xs ∧ Below w.heap.size w wr ∧ wr.heap[gs]? = some (.cells o 54 (0, 0)) ∧ RwAt wr gr 1 3) ∧ (0 < m → ∃ q1, A1 = some ⟨q1, 0, none⟩ ∧ RwAt wr q1 m 9 ∧ N ≤ q1) ∧ (0 < m → ∃ q2, A2 = some ⟨q2, 0, none⟩ ∧ RwAt wr q2 (m * 2) 35 ∧ N ≤ q2))) (fun i _ => m - intN i)
        case atStart => exact ⟨0, Nat.zero_le _, rfl, H8.out, Q1.out, Q2.out⟩
        case round =>
          obtain ⟨j, hj, rfl, HR⟩ := hrel
          clear H8 Q1 Q2 k8
          by_cases hlt : j < m
          · obtain ⟨⟨h1, h2, h3, h4⟩, h5, h6⟩ := HR.out
            obtain ⟨q1, rfl, h5, h7⟩ := h5 (by omega)
            obtain ⟨q2, rfl, h6, h8⟩ := h6 (by omega)
            obtain ⟨u1, x1, x2⟩ := h5.cell hlt
            have e12 : q1 ≠ q2 := h5.ne h6 (by decide)
            have h6' := h6.other (i := j) (r := q1) (Ne.symm e12) (.string ⟨#[115, 112, 111, 105, 108, 116]⟩)
            obtain ⟨u2, y1, y2⟩ := h6'.cell (i := j * 2) (by omega)
            have g1 : RwAt wr gs 0 54 := ⟨o, h3, Nat.zero_le _⟩
            have H9 := Lib.hid (And.intro h1 (And.intro h2 (And.intro h3 (And.intro h4 (And.intro h5 (And.intro h6' (And.intro h7 (And.intro h8 e12))))))))
            have e1g : gs ≠ q1 := g1.ne h5 (by decide)
            have e2g : gs ≠ q2 := g1.ne h6 (by decide)
            have e1r : gr ≠ q1 := h4.ne h5 (by decide)
            have e2r : gr ≠ q2 := h4.ne h6 (by decide)
            have hbN := below_set (i := j * 2) (below_set (i := j) (Below.refl N wr) h7 (.string ⟨#[115, 112, 111, 105, 108, 116]⟩)) h8 (.int .i64 (-1))
            have hbW := below_set (i := j * 2) (below_set (i := j) h2 (Nat.le_trans hw9 h7) (.string ⟨#[115, 112, 111, 105, 108, 116]⟩)) (Nat.le_trans hw9 h8) (.int .i64 (-1))
            have HX : Hid ((TN M N ((wr.setCell ⟨q1, j, none⟩ (.string ⟨#[115, 112, 111, 105, 108, 116]⟩)).setCell ⟨q2, j * 2, none⟩ (.int .i64 (-1))) p xs ∧ Below w.heap.size w ((wr.setCell ⟨q1, j, none⟩ (.string ⟨#[115, 112, 111, 105, 108, 116]⟩)).setCell ⟨q2, j * 2, none⟩ (.int .i64 (-1))) ∧ ((wr.setCell ⟨q1, j, none⟩ (.string ⟨#[115, 112, 111, 105, 108, 116]⟩)).setCell ⟨q2, j * 2, none⟩ (.int .i64 (-1))).heap[gs]? = some (.cells o 54 (0, 0)) ∧ RwAt ((wr.setCell ⟨q1, j, none⟩ (.string ⟨#[115, 112, 111, 105, 108, 116]⟩)).setCell ⟨q2, j * 2, none⟩ (.int .i64 (-1))) gr 1 3) ∧ (0 < m → ∃ q, some (⟨q1, 0, none⟩ : Addr) = some ⟨q, 0, none⟩ ∧ RwAt ((wr.setCell ⟨q1, j, none⟩ (.string ⟨#[115, 112, 111, 105, 108, 116]⟩)).setCell ⟨q2, j * 2, none⟩ (.int .i64 (-1))) q m 9 ∧ N ≤ q) ∧ (0 < m → ∃ q, some (⟨q2, 0, none⟩ : Addr) = some ⟨q, 0, none⟩ ∧ RwAt ((wr.setCell ⟨q1, j, none⟩ (.string ⟨#[115, 112, 111, 105, 108, 116]⟩)).setCell ⟨q2, j * 2, none⟩ (.int .i64 (-1))) q (m * 2) 35 ∧ N ≤ q)) :=
              ⟨⟨h1.old hbN, hbW, (Below.heap_setCell _ ⟨q2, j * 2, none⟩ _ gs e2g).trans ((Below.heap_setCell wr ⟨q1, j, none⟩ _ gs e1g).trans h3), (h4.other e1r _).other e2r _⟩, fun _ => ⟨q1, rfl, (h5.set j _).other e12 _, h7⟩, fun _ => ⟨q2, rfl, h6'.set (j * 2) _, h8⟩⟩
            clear HR h1 h2 h3 h4 h5 h6 h6' h7 h8 g1 e1g e2g e1r e2r hbN hbW H9
            go_wp2_with fail
            go_roundw
            case rel => exact ⟨j + 1, by omega, by go_num, HX.out⟩
            case measure => simp [intN]; omega
          · obtain ⟨⟨h1, h2, h3, h4⟩, _, _⟩ := HR.out
            have k0 := (cell_of h3 0).1.trans ho0
            obtain ⟨u1, x1, x2⟩ := h4.cell (i := 0) (by omega)
            have n9 := h1.old (below_set (i := 0) (Below.refl N wr) hb2' (.int .i64 99))
            have B9 := below_set (i := 0) h2 (Nat.le_trans hw9 hb2') (.int .i64 99)
            clear HR h1 h2 h3 h4
            go_wp2_with fail
            generalize wr.setCell ⟨gr, 0, none⟩ (.int .i64 99) = wE at *
            refine (tfrom n9.tt (by have := HM5.out; omega) ⟨#[]⟩ (-1)).mono ?_
            rintro e wF ⟨sk2, sv2, rfl, tF, bF, p1, p2⟩
            rw [frm_nil] at p1 p2
            have hME : w.heap.size ≤ wE.heap.size := Nat.le_trans HM.out n9.1
            have BF := B9.trans (bF.mono hME)
            rw [HM5.out] at p1 p2
            obtain ⟨C1, d1, rfl⟩ := own_shape p1
            obtain ⟨C2, d2, rfl⟩ := own_shape p2
            have HCK : Hid (∀ i (h : i < xs.length), ∃ qc qd, C1 = some ⟨qc, 0, none⟩ ∧ C2 = some ⟨qd, 0, none⟩ ∧ (∀ j (hj : j < xs.length), wF.cell? ⟨qc, j, none⟩ = some (.string xs[j].k)) ∧ wF.cell? ⟨qd, i * 2, none⟩ = some (.int .i64 xs[i].p)) := fun i h => by
              have hm' := HM5.out
              obtain ⟨qc, _, e1, _, _⟩ := p1.form (by omega)
              obtain ⟨qd, _, e2, _, _⟩ := p2.form (by omega)
              cases e1
              cases e2
              refine ⟨qc, qd, rfl, rfl, fun j hj => ?_, ?_⟩
              · rw [p1.cellAt j (by omega)]
                simp [keyV, hj]
              · have := (own_cell (f := ridV) (k := 2) (fun _ => rfl) (l := xs) (by rw [← hm'] at p2; exact p2) h (j := 0) (by omega)).1
                rw [Nat.add_zero] at this
                exact this
            have HRS := Lib.hid tF.rise
            have HF : Hid (TT M wF p xs ∧ Below w.heap.size w wF) := ⟨tF, BF⟩
            clear n9 B9 tF bF p1 p2 BF x1 x2 k0
            go_wp2_with fail
            go_loopw [11] (fun i wr => ∃ j : Nat, j ≤ m ∧ i = .int .i64 j ∧ Hid (wr.heap = wF.heap ∧ TT M wr p xs ∧ Below w.heap.size w wr)) (fun i _ => m - intN i)
            case atStart => exact ⟨0, Nat.zero_le _, rfl, ⟨rfl, HF.out⟩⟩
            case round =>
              obtain ⟨i, hi, rfl, HR⟩ := hrel
              clear HF
              by_cases hlt : i < m
              · have hix : i < xs.length := by rw [HM5.out]; exact hlt
                obtain ⟨qc, qd, rfl, rfl, ckk, cd⟩ := HCK.out i hix
                have hh := HR.out.1
                have kc := (World.cell?_of_block (w := wF) (w' := wr) (a := ⟨qc, i, none⟩) (by rw [hh])).trans (ckk i hix)
                have kd := (World.cell?_of_block (w := wF) (w' := wr) (a := ⟨qd, i * 2, none⟩) (by rw [hh])).trans cd
                have htm := HTM.out xs[i] (List.getElem_mem hix)
                have E1 : (xs[i].k.toList == [115, 112, 111, 105, 108, 116]) = false := by
                  apply beq_eq_false_iff_ne.2
                  intro e
                  have h1 := congrArg List.length e
                  rw [Lib.toList_data, ← Lib.size_eq] at h1
                  have := htm.1
                  simp at h1
                  omega
                have E2 : ¬ (xs[i].p < 0) := by have := htm.2; omega
                have HR2 := Lib.hid HR.out
                by_cases hi0 : i = 0
                · have e0 : ¬ ((0 : Int) < (i : Int)) := by omega
                  have e00 : decide ((0 : Int) < (i : Int)) = false := decide_eq_false e0
                  have e01 : decide (0 < i) = false := decide_eq_false (by omega)
                  generalize xs[i].k = ki at *
                  generalize xs[i].p = pi at *
                  have E3 : decide (pi < 0) = false := decide_eq_false E2
                  have SD : wr.drew.cell? ⟨qc, i, none⟩ = some (.string ki) ∧ wr.drew.cell? ⟨qd, i * 2, none⟩ = some (.int .i64 pi) := ⟨kc, kd⟩
                  clear htm HR hh ckk cd HCK hi0 hrl e0 E2
                  go_upto_region 23 with (fail)
                  refine wp_region_held_drew (S := (fun W : World => W.cell? ⟨qc, i, none⟩ = some (.string ki) ∧ W.cell? ⟨qd, i * 2, none⟩ = some (.int .i64 pi))) (by kernel_rfl) SD (fun hHeld => ?_)
                  refine wpAnyH_take (i := 0) (oi := ⟨_, _, _, _, _, _⟩) (v := ?_) rfl (by kernel_rfl) (by kernel_rfl) (by kernel_rfl) (fun _ _ _ h => h) (Or.inl ⟨by rfl, ?_⟩) (by assumption) ?_
                  rotate_left
                  · intro W hSW
                    try dsimp only at hSW
                    go_simp
                    try with_reducible rfl
                  rotate_left
                  try simp only [Act.put, List.setIfInBounds_toArray, List.set_cons_zero, List.set_cons_succ]
                  refine wpAnyH_take (i := 1) (oi := ⟨_, _, _, _, _, _⟩) (v := ?_) rfl (by kernel_rfl) (by kernel_rfl) (by kernel_rfl) (fun _ _ _ h => h) (Or.inl ⟨by rfl, ?_⟩) (by assumption) ?_
                  rotate_left
                  · intro W hSW
                    try dsimp only at hSW
                    go_simp
                    try with_reducible rfl
                  rotate_left
                  try simp only [Act.put, List.setIfInBounds_toArray, List.set_cons_zero, List.set_cons_succ]
                  refine wpAnyH_take (i := 2) (oi := ⟨_, _, _, _, _, _⟩) (v := ?_) rfl (by kernel_rfl) (by kernel_rfl) (by kernel_rfl) (fun _ _ _ h => h) (Or.inl ⟨by rfl, ?_⟩) (by assumption) ?_
                  rotate_left
                  · intro W hSW
                    try dsimp only at hSW
                    go_simp
                    try with_reducible rfl
                  rotate_left
                  try simp only [Act.put, List.setIfInBounds_toArray, List.set_cons_zero, List.set_cons_succ]
                  refine wpAnyH_take (i := 3) (oi := ⟨_, _, _, _, _, _⟩) (v := ?_) rfl (by kernel_rfl) (by kernel_rfl) (by kernel_rfl) (fun _ _ _ h => h) (Or.inl ⟨by rfl, ?_⟩) (by assumption) ?_
                  rotate_left
                  · intro W hSW
                    try dsimp only at hSW
                    go_simp
                    try with_reducible rfl
                  rotate_left
                  try simp only [Act.put, List.setIfInBounds_toArray, List.set_cons_zero, List.set_cons_succ]
                  refine wpAnyH_take (i := 4) (oi := ⟨_, _, _, _, _, _⟩) (v := ?_) rfl (by kernel_rfl) (by kernel_rfl) (by kernel_rfl) (fun _ _ _ h => h) (Or.inl ⟨by rfl, ?_⟩) (by assumption) ?_
                  rotate_left
                  · intro W hSW
                    try dsimp only at hSW
                    go_simp
                    try with_reducible rfl
                  rotate_left
                  try simp only [Act.put, List.setIfInBounds_toArray, List.set_cons_zero, List.set_cons_succ]
                  refine wpAnyH_take (i := 5) (oi := ⟨_, _, _, _, _, _⟩) (v := ?_) rfl (by kernel_rfl) (by kernel_rfl) (by kernel_rfl) (fun _ _ _ h => h) (Or.inl ⟨by rfl, ?_⟩) (by assumption) ?_
                  rotate_left
                  · intro W hSW
                    try dsimp only at hSW
                    go_simp
                    try with_reducible rfl
                  rotate_left
                  try simp only [Act.put, List.setIfInBounds_toArray, List.set_cons_zero, List.set_cons_succ]
                  refine wpAnyH_take (i := 6) (oi := ⟨_, _, _, _, _, _⟩) (v := ?_) rfl (by kernel_rfl) (by kernel_rfl) (by kernel_rfl) (fun _ _ _ h => h) (Or.inl ⟨by rfl, ?_⟩) (by assumption) ?_
                  rotate_left
                  · intro W hSW
                    try dsimp only at hSW
                    go_simp
                    try with_reducible rfl
                  rotate_left
                  try simp only [Act.put, List.setIfInBounds_toArray, List.set_cons_zero, List.set_cons_succ]
                  refine wpAnyH_take (i := 7) (oi := ⟨_, _, _, _, _, _⟩) (v := ?_) rfl (by kernel_rfl) (by kernel_rfl) (by kernel_rfl) (fun _ _ _ h => h) (Or.inl ⟨by rfl, ?_⟩) (by assumption) ?_
                  rotate_left
                  · intro W hSW
                    try dsimp only at hSW
                    go_simp
                    try with_reducible rfl
                  rotate_left
                  try simp only [Act.put, List.setIfInBounds_toArray, List.set_cons_zero, List.set_cons_succ]
                  refine wpAnyH_take (i := 8) (oi := ⟨_, _, _, _, _, _⟩) (v := ?_) rfl (by kernel_rfl) (by kernel_rfl) (by kernel_rfl) (fun _ _ _ h => h) (Or.inl ⟨by rfl, ?_⟩) (by assumption) ?_
                  rotate_left
                  · intro W hSW
                    try dsimp only at hSW
                    go_simp
                    try with_reducible rfl
                  rotate_left
                  try simp only [Act.put, List.setIfInBounds_toArray, List.set_cons_zero, List.set_cons_succ]
                  refine wpAnyH_take (i := 9) (oi := ⟨_, _, _, _, _, _⟩) (v := ?_) rfl (by kernel_rfl) (by kernel_rfl) (by kernel_rfl) (fun _ _ _ h => h) (Or.inl ⟨by rfl, ?_⟩) (by assumption) ?_
                  rotate_left
                  · intro W hSW
                    try dsimp only at hSW
                    go_simp
                    try with_reducible rfl
                  rotate_left
                  try simp only [Act.put, List.setIfInBounds_toArray, List.set_cons_zero, List.set_cons_succ]
                  refine wpAnyH_take (i := 10) (oi := ⟨_, _, _, _, _, _⟩) (v := ?_) rfl (by kernel_rfl) (by kernel_rfl) (by kernel_rfl) (fun _ _ _ h => h) (Or.inl ⟨by rfl, ?_⟩) (by assumption) ?_
                  rotate_left
                  · intro W hSW
                    try dsimp only at hSW
                    go_simp
                    try with_reducible rfl
                  rotate_left
                  try simp only [Act.put, List.setIfInBounds_toArray, List.set_cons_zero, List.set_cons_succ]
                  refine wpAnyH_take (i := 11) (oi := ⟨_, _, _, _, _, _⟩) (v := ?_) rfl (by kernel_rfl) (by kernel_rfl) (by kernel_rfl) (fun _ _ _ h => h) (Or.inl ⟨by rfl, ?_⟩) (by assumption) ?_
                  rotate_left
                  · intro W hSW
                    try dsimp only at hSW
                    go_simp
                    try with_reducible rfl
                  rotate_left
                  try simp only [Act.put, List.setIfInBounds_toArray, List.set_cons_zero, List.set_cons_succ]
                  refine wpAnyH_take (i := 12) (oi := ⟨_, _, _, _, _, _⟩) (v := ?_) rfl (by kernel_rfl) (by kernel_rfl) (by kernel_rfl) (fun _ _ _ h => h) (Or.inl ⟨by rfl, ?_⟩) (by assumption) ?_
                  rotate_left
                  · intro W hSW
                    try dsimp only at hSW
                    go_simp
                    try with_reducible rfl
                  rotate_left
                  try simp only [Act.put, List.setIfInBounds_toArray, List.set_cons_zero, List.set_cons_succ]
                  refine wpAnyH_take (i := 13) (oi := ⟨_, _, _, _, _, _⟩) (v := ?_) rfl (by kernel_rfl) (by kernel_rfl) (by kernel_rfl) (fun _ _ _ h => h) (Or.inl ⟨by rfl, ?_⟩) (by assumption) ?_
                  rotate_left
                  · intro W hSW
                    try dsimp only at hSW
                    go_simp
                    try with_reducible rfl
                  rotate_left
                  try simp only [Act.put, List.setIfInBounds_toArray, List.set_cons_zero, List.set_cons_succ]
                  refine wpAnyH_take (i := 14) (oi := ⟨_, _, _, _, _, _⟩) (v := ?_) rfl (by kernel_rfl) (by kernel_rfl) (by kernel_rfl) (fun _ _ _ h => h) (Or.inl ⟨by rfl, ?_⟩) (by assumption) ?_
                  rotate_left
                  · intro W hSW
                    try dsimp only at hSW
                    go_simp
                    try with_reducible rfl
                  rotate_left
                  try simp only [Act.put, List.setIfInBounds_toArray, List.set_cons_zero, List.set_cons_succ]
                  refine wpAnyH_take (i := 15) (oi := ⟨_, _, _, _, _, _⟩) (v := ?_) rfl (by kernel_rfl) (by kernel_rfl) (by kernel_rfl) (fun _ _ _ h => h) (Or.inl ⟨by rfl, ?_⟩) (by assumption) ?_
                  rotate_left
                  · intro W hSW
                    try dsimp only at hSW
                    go_simp
                    try with_reducible rfl
                  rotate_left
                  try simp only [Act.put, List.setIfInBounds_toArray, List.set_cons_zero, List.set_cons_succ]
                  refine wpAnyH_take (i := 16) (oi := ⟨_, _, _, _, _, _⟩) (v := ?_) rfl (by kernel_rfl) (by kernel_rfl) (by kernel_rfl) (fun _ _ _ h => h) (Or.inl ⟨by rfl, ?_⟩) (by assumption) ?_
                  rotate_left
                  · intro W hSW
                    try dsimp only at hSW
                    go_simp
                    try with_reducible rfl
                  rotate_left
                  try simp only [Act.put, List.setIfInBounds_toArray, List.set_cons_zero, List.set_cons_succ]
                  refine wpAnyH_take (i := 17) (oi := ⟨_, _, _, _, _, _⟩) (v := undef) rfl (by kernel_rfl) (by kernel_rfl) (by kernel_rfl) (fun _ _ _ h => h) (Or.inr ⟨by rfl, rfl⟩) (by assumption) ?_
                  try simp only [Act.put, List.setIfInBounds_toArray, List.set_cons_zero, List.set_cons_succ]
                  refine wpAnyH_take (i := 18) (oi := ⟨_, _, _, _, _, _⟩) (v := undef) rfl (by kernel_rfl) (by kernel_rfl) (by kernel_rfl) (fun _ _ _ h => h) (Or.inr ⟨by rfl, rfl⟩) (by assumption) ?_
                  try simp only [Act.put, List.setIfInBounds_toArray, List.set_cons_zero, List.set_cons_succ]
                  refine wpAnyH_take (i := 19) (oi := ⟨_, _, _, _, _, _⟩) (v := undef) rfl (by kernel_rfl) (by kernel_rfl) (by kernel_rfl) (fun _ _ _ h => h) (Or.inr ⟨by rfl, rfl⟩) (by assumption) ?_
                  try simp only [Act.put, List.setIfInBounds_toArray, List.set_cons_zero, List.set_cons_succ]
                  refine wpAnyH_take (i := 20) (oi := ⟨_, _, _, _, _, _⟩) (v := undef) rfl (by kernel_rfl) (by kernel_rfl) (by kernel_rfl) (fun _ _ _ h => h) (Or.inr ⟨by rfl, rfl⟩) (by assumption) ?_
                  try simp only [Act.put, List.setIfInBounds_toArray, List.set_cons_zero, List.set_cons_succ]
                  refine wpAnyH_take (i := 21) (oi := ⟨_, _, _, _, _, _⟩) (v := undef) rfl (by kernel_rfl) (by kernel_rfl) (by kernel_rfl) (fun _ _ _ h => h) (Or.inr ⟨by rfl, rfl⟩) (by assumption) ?_
                  try simp only [Act.put, List.setIfInBounds_toArray, List.set_cons_zero, List.set_cons_succ]
                  refine wpAnyH_take (i := 22) (oi := ⟨_, _, _, _, _, _⟩) (v := undef) rfl (by kernel_rfl) (by kernel_rfl) (by kernel_rfl) (fun _ _ _ h => h) (Or.inr ⟨by rfl, rfl⟩) (by assumption) ?_
                  try simp only [Act.put, List.setIfInBounds_toArray, List.set_cons_zero, List.set_cons_succ]
                  refine wpAnyH_take (i := 23) (oi := ⟨_, _, _, _, _, _⟩) (v := undef) rfl (by kernel_rfl) (by kernel_rfl) (by kernel_rfl) (fun _ _ _ h => h) (Or.inr ⟨by rfl, rfl⟩) (by assumption) ?_
                  try simp only [Act.put, List.setIfInBounds_toArray, List.set_cons_zero, List.set_cons_succ]
                  refine wpAnyH_take (i := 24) (oi := ⟨_, _, _, _, _, _⟩) (v := undef) rfl (by kernel_rfl) (by kernel_rfl) (by kernel_rfl) (fun _ _ _ h => h) (Or.inr ⟨by rfl, rfl⟩) (by assumption) ?_
                  try simp only [Act.put, List.setIfInBounds_toArray, List.set_cons_zero, List.set_cons_succ]
                  refine wpAnyH_take (i := 25) (oi := ⟨_, _, _, _, _, _⟩) (v := undef) rfl (by kernel_rfl) (by kernel_rfl) (by kernel_rfl) (fun _ _ _ h => h) (Or.inr ⟨by rfl, rfl⟩) (by assumption) ?_
                  try simp only [Act.put, List.setIfInBounds_toArray, List.set_cons_zero, List.set_cons_succ]
                  refine wpAnyH_take (i := 26) (oi := ⟨_, _, _, _, _, _⟩) (v := undef) rfl (by kernel_rfl) (by kernel_rfl) (by kernel_rfl) (fun _ _ _ h => h) (Or.inr ⟨by rfl, rfl⟩) (by assumption) ?_
                  try simp only [Act.put, List.setIfInBounds_toArray, List.set_cons_zero, List.set_cons_succ]
                  refine wpAnyH_take (i := 27) (oi := ⟨_, _, _, _, _, _⟩) (v := ?_) rfl (by kernel_rfl) (by kernel_rfl) (by kernel_rfl) (fun _ _ _ h => h) (Or.inl ⟨by rfl, ?_⟩) (by assumption) ?_
                  rotate_left
                  · intro W hSW
                    try dsimp only at hSW
                    go_simp
                    try with_reducible rfl
                  rotate_left
                  try simp only [Act.put, List.setIfInBounds_toArray, List.set_cons_zero, List.set_cons_succ]
                  refine wpAnyH_take (i := 28) (oi := ⟨_, _, _, _, _, _⟩) (v := ?_) rfl (by kernel_rfl) (by kernel_rfl) (by kernel_rfl) (fun _ _ _ h => h) (Or.inl ⟨by rfl, ?_⟩) (by assumption) ?_
                  rotate_left
                  · intro W hSW
                    try dsimp only at hSW
                    go_simp
                    try with_reducible rfl
                  rotate_left
                  try simp only [Act.put, List.setIfInBounds_toArray, List.set_cons_zero, List.set_cons_succ]
                  refine wpAnyH_done (by kernel_rfl) ?_ _
                  clear SD
                  go_wp2
                  go_roundw
                  case rel => exact ⟨i + 1, by omega, by go_num, ⟨HR2.out.1, HR2.out.2.1.below (Below.refl _ _).drew, HR2.out.2.2.drew⟩⟩
                  case measure => simp [intN]; omega
                · have e0 : (0 : Int) < (i : Int) := by omega
                  have e00 : decide ((0 : Int) < (i : Int)) = true := decide_eq_true e0
                  have e01 : decide (0 < i) = true := decide_eq_true (by omega)
                  obtain ⟨i1, hi1⟩ : ∃ i1, i - 1 = i1 := ⟨_, rfl⟩
                  have hii : (i : Int) - 1 = (i1 : Int) := by omega
                  have h1x : i1 < xs.length := by omega
                  have h1m : i1 < m := by omega
                  have hwi : IntKind.i64.wrap (i1 : Int) = i1 := by rw [IntKind.wrap_i64]; omega
                  have h1n : (i1 : Int) < (m : Int) := by omega
                  have h10 : (0 : Int) ≤ (i1 : Int) := by omega
                  have kj0 := (World.cell?_of_block (w := wF) (w' := wr) (a := ⟨qc, i1, none⟩) (by rw [hh])).trans (ckk i1 h1x)
                  have E4 : Op.bytesLess xs[i1].k.toList xs[i].k.toList = true := List.pairwise_iff_getElem.1 HRS.out i1 i h1x hix (by omega)
                  generalize xs[i].k = ki at *
                  generalize xs[i].p = pi at *
                  generalize xs[i1].k = kj at *
                  have E3 : decide (pi < 0) = false := decide_eq_false E2
                  have SD : wr.drew.cell? ⟨qc, i, none⟩ = some (.string ki) ∧ wr.drew.cell? ⟨qd, i * 2, none⟩ = some (.int .i64 pi) ∧ wr.drew.cell? ⟨qc, i1, none⟩ = some (.string kj) := ⟨kc, kd, kj0⟩
                  clear htm HR hh ckk cd HCK hi0 hrl E2 hi1
                  go_upto_region 23 with (fail)
                  refine wp_region_held_drew (S := (fun W : World => W.cell? ⟨qc, i, none⟩ = some (.string ki) ∧ W.cell? ⟨qd, i * 2, none⟩ = some (.int .i64 pi) ∧ W.cell? ⟨qc, i1, none⟩ = some (.string kj))) (by kernel_rfl) SD (fun hHeld => ?_)
                  refine wpAnyH_take (i := 0) (oi := ⟨_, _, _, _, _, _⟩) (v := ?_) rfl (by kernel_rfl) (by kernel_rfl) (by kernel_rfl) (fun _ _ _ h => h) (Or.inl ⟨by rfl, ?_⟩) (by assumption) ?_
                  rotate_left
                  · intro W hSW
                    try dsimp only at hSW
                    go_simp
                    try with_reducible rfl
                  rotate_left
                  try simp only [Act.put, List.setIfInBounds_toArray, List.set_cons_zero, List.set_cons_succ]
                  refine wpAnyH_take (i := 1) (oi := ⟨_, _, _, _, _, _⟩) (v := ?_) rfl (by kernel_rfl) (by kernel_rfl) (by kernel_rfl) (fun _ _ _ h => h) (Or.inl ⟨by rfl, ?_⟩) (by assumption) ?_
                  rotate_left
                  · intro W hSW
                    try dsimp only at hSW
                    go_simp
                    try with_reducible rfl
                  rotate_left
                  try simp only [Act.put, List.setIfInBounds_toArray, List.set_cons_zero, List.set_cons_succ]
                  refine wpAnyH_take (i := 2) (oi := ⟨_, _, _, _, _, _⟩) (v := ?_) rfl (by kernel_rfl) (by kernel_rfl) (by kernel_rfl) (fun _ _ _ h => h) (Or.inl ⟨by rfl, ?_⟩) (by assumption) ?_
                  rotate_left
                  · intro W hSW
                    try dsimp only at hSW
                    go_simp
                    try with_reducible rfl
                  rotate_left
                  try simp only [Act.put, List.setIfInBounds_toArray, List.set_cons_zero, List.set_cons_succ]
                  refine wpAnyH_take (i := 3) (oi := ⟨_, _, _, _, _, _⟩) (v := ?_) rfl (by kernel_rfl) (by kernel_rfl) (by kernel_rfl) (fun _ _ _ h => h) (Or.inl ⟨by rfl, ?_⟩) (by assumption) ?_
                  rotate_left
                  · intro W hSW
                    try dsimp only at hSW
                    go_simp
                    try with_reducible rfl
                  rotate_left
                  try simp only [Act.put, List.setIfInBounds_toArray, List.set_cons_zero, List.set_cons_succ]
                  refine wpAnyH_take (i := 4) (oi := ⟨_, _, _, _, _, _⟩) (v := ?_) rfl (by kernel_rfl) (by kernel_rfl) (by kernel_rfl) (fun _ _ _ h => h) (Or.inl ⟨by rfl, ?_⟩) (by assumption) ?_
                  rotate_left
                  · intro W hSW
                    try dsimp only at hSW
                    go_simp
                    try with_reducible rfl
                  rotate_left
                  try simp only [Act.put, List.setIfInBounds_toArray, List.set_cons_zero, List.set_cons_succ]
                  refine wpAnyH_take (i := 5) (oi := ⟨_, _, _, _, _, _⟩) (v := ?_) rfl (by kernel_rfl) (by kernel_rfl) (by kernel_rfl) (fun _ _ _ h => h) (Or.inl ⟨by rfl, ?_⟩) (by assumption) ?_
                  rotate_left
                  · intro W hSW
                    try dsimp only at hSW
                    go_simp
                    try with_reducible rfl
                  rotate_left
                  try simp only [Act.put, List.setIfInBounds_toArray, List.set_cons_zero, List.set_cons_succ]
                  refine wpAnyH_take (i := 6) (oi := ⟨_, _, _, _, _, _⟩) (v := ?_) rfl (by kernel_rfl) (by kernel_rfl) (by kernel_rfl) (fun _ _ _ h => h) (Or.inl ⟨by rfl, ?_⟩) (by assumption) ?_
                  rotate_left
                  · intro W hSW
                    try dsimp only at hSW
                    go_simp
                    try with_reducible rfl
                  rotate_left
                  try simp only [Act.put, List.setIfInBounds_toArray, List.set_cons_zero, List.set_cons_succ]
                  refine wpAnyH_take (i := 7) (oi := ⟨_, _, _, _, _, _⟩) (v := ?_) rfl (by kernel_rfl) (by kernel_rfl) (by kernel_rfl) (fun _ _ _ h => h) (Or.inl ⟨by rfl, ?_⟩) (by assumption) ?_
                  rotate_left
                  · intro W hSW
                    try dsimp only at hSW
                    go_simp
                    try with_reducible rfl
                  rotate_left
                  try simp only [Act.put, List.setIfInBounds_toArray, List.set_cons_zero, List.set_cons_succ]
                  refine wpAnyH_take (i := 8) (oi := ⟨_, _, _, _, _, _⟩) (v := ?_) rfl (by kernel_rfl) (by kernel_rfl) (by kernel_rfl) (fun _ _ _ h => h) (Or.inl ⟨by rfl, ?_⟩) (by assumption) ?_
                  rotate_left
                  · intro W hSW
                    try dsimp only at hSW
                    go_simp
                    try with_reducible rfl
                  rotate_left
                  try simp only [Act.put, List.setIfInBounds_toArray, List.set_cons_zero, List.set_cons_succ]
                  refine wpAnyH_take (i := 9) (oi := ⟨_, _, _, _, _, _⟩) (v := ?_) rfl (by kernel_rfl) (by kernel_rfl) (by kernel_rfl) (fun _ _ _ h => h) (Or.inl ⟨by rfl, ?_⟩) (by assumption) ?_
                  rotate_left
                  · intro W hSW
                    try dsimp only at hSW
                    go_simp
                    try with_reducible rfl
                  rotate_left
                  try simp only [Act.put, List.setIfInBounds_toArray, List.set_cons_zero, List.set_cons_succ]
                  refine wpAnyH_take (i := 10) (oi := ⟨_, _, _, _, _, _⟩) (v := ?_) rfl (by kernel_rfl) (by kernel_rfl) (by kernel_rfl) (fun _ _ _ h => h) (Or.inl ⟨by rfl, ?_⟩) (by assumption) ?_
                  rotate_left
                  · intro W hSW
                    try dsimp only at hSW
                    go_simp
                    try with_reducible rfl
                  rotate_left
                  try simp only [Act.put, List.setIfInBounds_toArray, List.set_cons_zero, List.set_cons_succ]
                  refine wpAnyH_take (i := 11) (oi := ⟨_, _, _, _, _, _⟩) (v := ?_) rfl (by kernel_rfl) (by kernel_rfl) (by kernel_rfl) (fun _ _ _ h => h) (Or.inl ⟨by rfl, ?_⟩) (by assumption) ?_
                  rotate_left
                  · intro W hSW
                    try dsimp only at hSW
                    go_simp
                    try with_reducible rfl
                  rotate_left
                  try simp only [Act.put, List.setIfInBounds_toArray, List.set_cons_zero, List.set_cons_succ]
                  refine wpAnyH_take (i := 12) (oi := ⟨_, _, _, _, _, _⟩) (v := ?_) rfl (by kernel_rfl) (by kernel_rfl) (by kernel_rfl) (fun _ _ _ h => h) (Or.inl ⟨by rfl, ?_⟩) (by assumption) ?_
                  rotate_left
                  · intro W hSW
                    try dsimp only at hSW
                    go_simp
                    try with_reducible rfl
                  rotate_left
                  try simp only [Act.put, List.setIfInBounds_toArray, List.set_cons_zero, List.set_cons_succ]
                  refine wpAnyH_take (i := 13) (oi := ⟨_, _, _, _, _, _⟩) (v := ?_) rfl (by kernel_rfl) (by kernel_rfl) (by kernel_rfl) (fun _ _ _ h => h) (Or.inl ⟨by rfl, ?_⟩) (by assumption) ?_
                  rotate_left
                  · intro W hSW
                    try dsimp only at hSW
                    go_simp
                    try with_reducible rfl
                  rotate_left
                  try simp only [Act.put, List.setIfInBounds_toArray, List.set_cons_zero, List.set_cons_succ]
                  refine wpAnyH_take (i := 14) (oi := ⟨_, _, _, _, _, _⟩) (v := ?_) rfl (by kernel_rfl) (by kernel_rfl) (by kernel_rfl) (fun _ _ _ h => h) (Or.inl ⟨by rfl, ?_⟩) (by assumption) ?_
                  rotate_left
                  · intro W hSW
                    try dsimp only at hSW
                    go_simp
                    try with_reducible rfl
                  rotate_left
                  try simp only [Act.put, List.setIfInBounds_toArray, List.set_cons_zero, List.set_cons_succ]
                  refine wpAnyH_take (i := 15) (oi := ⟨_, _, _, _, _, _⟩) (v := ?_) rfl (by kernel_rfl) (by kernel_rfl) (by kernel_rfl) (fun _ _ _ h => h) (Or.inl ⟨by rfl, ?_⟩) (by assumption) ?_
                  rotate_left
                  · intro W hSW
                    try dsimp only at hSW
                    go_simp
                    try with_reducible rfl
                  rotate_left
                  try simp only [Act.put, List.setIfInBounds_toArray, List.set_cons_zero, List.set_cons_succ]
                  refine wpAnyH_take (i := 16) (oi := ⟨_, _, _, _, _, _⟩) (v := ?_) rfl (by kernel_rfl) (by kernel_rfl) (by kernel_rfl) (fun _ _ _ h => h) (Or.inl ⟨by rfl, ?_⟩) (by assumption) ?_
                  rotate_left
                  · intro W hSW
                    try dsimp only at hSW
                    go_simp
                    try with_reducible rfl
                  rotate_left
                  try simp only [Act.put, List.setIfInBounds_toArray, List.set_cons_zero, List.set_cons_succ]
                  refine wpAnyH_take (i := 17) (oi := ⟨_, _, _, _, _, _⟩) (v := ?_) rfl (by kernel_rfl) (by kernel_rfl) (by kernel_rfl) (fun _ _ _ h => h) (Or.inl ⟨by rfl, ?_⟩) (by assumption) ?_
                  rotate_left
                  · intro W hSW
                    try dsimp only at hSW
                    go_simp
                    try with_reducible rfl
                  rotate_left
                  try simp only [Act.put, List.setIfInBounds_toArray, List.set_cons_zero, List.set_cons_succ]
                  refine wpAnyH_take (i := 18) (oi := ⟨_, _, _, _, _, _⟩) (v := ?_) rfl (by kernel_rfl) (by kernel_rfl) (by kernel_rfl) (fun _ _ _ h => h) (Or.inl ⟨by rfl, ?_⟩) (by assumption) ?_
                  rotate_left
                  · intro W hSW
                    try dsimp only at hSW
                    go_simp
                    try with_reducible rfl
                  rotate_left
                  try simp only [Act.put, List.setIfInBounds_toArray, List.set_cons_zero, List.set_cons_succ]
                  refine wpAnyH_take (i := 19) (oi := ⟨_, _, _, _, _, _⟩) (v := ?_) rfl (by kernel_rfl) (by kernel_rfl) (by kernel_rfl) (fun _ _ _ h => h) (Or.inl ⟨by rfl, ?_⟩) (by assumption) ?_
                  rotate_left
                  · intro W hSW
                    try dsimp only at hSW
                    go_simp
                    try with_reducible rfl
                  rotate_left
                  try simp only [Act.put, List.setIfInBounds_toArray, List.set_cons_zero, List.set_cons_succ]
                  refine wpAnyH_take (i := 20) (oi := ⟨_, _, _, _, _, _⟩) (v := ?_) rfl (by kernel_rfl) (by kernel_rfl) (by kernel_rfl) (fun _ _ _ h => h) (Or.inl ⟨by rfl, ?_⟩) (by assumption) ?_
                  rotate_left
                  · intro W hSW
                    try dsimp only at hSW
                    go_simp
                    try with_reducible rfl
                  rotate_left
                  try simp only [Act.put, List.setIfInBounds_toArray, List.set_cons_zero, List.set_cons_succ]
                  refine wpAnyH_take (i := 21) (oi := ⟨_, _, _, _, _, _⟩) (v := ?_) rfl (by kernel_rfl) (by kernel_rfl) (by kernel_rfl) (fun _ _ _ h => h) (Or.inl ⟨by rfl, ?_⟩) (by assumption) ?_
                  rotate_left
                  · intro W hSW
                    try dsimp only at hSW
                    go_simp
                    try with_reducible rfl
                  rotate_left
                  try simp only [Act.put, List.setIfInBounds_toArray, List.set_cons_zero, List.set_cons_succ]
                  refine wpAnyH_take (i := 22) (oi := ⟨_, _, _, _, _, _⟩) (v := ?_) rfl (by kernel_rfl) (by kernel_rfl) (by kernel_rfl) (fun _ _ _ h => h) (Or.inl ⟨by rfl, ?_⟩) (by assumption) ?_
                  rotate_left
                  · intro W hSW
                    try dsimp only at hSW
                    go_simp
                    try with_reducible rfl
                  rotate_left
                  try simp only [Act.put, List.setIfInBounds_toArray, List.set_cons_zero, List.set_cons_succ]
                  refine wpAnyH_take (i := 23) (oi := ⟨_, _, _, _, _, _⟩) (v := ?_) rfl (by kernel_rfl) (by kernel_rfl) (by kernel_rfl) (fun _ _ _ h => h) (Or.inl ⟨by rfl, ?_⟩) (by assumption) ?_
                  rotate_left
                  · intro W hSW
                    try dsimp only at hSW
                    go_simp
                    try with_reducible rfl
                  rotate_left
                  try simp only [Act.put, List.setIfInBounds_toArray, List.set_cons_zero, List.set_cons_succ]
                  refine wpAnyH_take (i := 24) (oi := ⟨_, _, _, _, _, _⟩) (v := ?_) rfl (by kernel_rfl) (by kernel_rfl) (by kernel_rfl) (fun _ _ _ h => h) (Or.inl ⟨by rfl, ?_⟩) (by assumption) ?_
                  rotate_left
                  · intro W hSW
                    try dsimp only at hSW
                    go_simp
                    try with_reducible rfl
                  rotate_left
                  try simp only [Act.put, List.setIfInBounds_toArray, List.set_cons_zero, List.set_cons_succ]
                  refine wpAnyH_take (i := 25) (oi := ⟨_, _, _, _, _, _⟩) (v := ?_) rfl (by kernel_rfl) (by kernel_rfl) (by kernel_rfl) (fun _ _ _ h => h) (Or.inl ⟨by rfl, ?_⟩) (by assumption) ?_
                  rotate_left
                  · intro W hSW
                    try dsimp only at hSW
                    go_simp
                    try with_reducible rfl
                  rotate_left
                  try simp only [Act.put, List.setIfInBounds_toArray, List.set_cons_zero, List.set_cons_succ]
                  refine wpAnyH_take (i := 26) (oi := ⟨_, _, _, _, _, _⟩) (v := ?_) rfl (by kernel_rfl) (by kernel_rfl) (by kernel_rfl) (fun _ _ _ h => h) (Or.inl ⟨by rfl, ?_⟩) (by assumption) ?_
                  rotate_left
                  · intro W hSW
                    try dsimp only at hSW
                    go_simp
                    try with_reducible rfl
                  rotate_left
                  try simp only [Act.put, List.setIfInBounds_toArray, List.set_cons_zero, List.set_cons_succ]
                  refine wpAnyH_take (i := 27) (oi := ⟨_, _, _, _, _, _⟩) (v := ?_) rfl (by kernel_rfl) (by kernel_rfl) (by kernel_rfl) (fun _ _ _ h => h) (Or.inl ⟨by rfl, ?_⟩) (by assumption) ?_
                  rotate_left
                  · intro W hSW
                    try dsimp only at hSW
                    go_simp
                    try with_reducible rfl
                  rotate_left
                  try simp only [Act.put, List.setIfInBounds_toArray, List.set_cons_zero, List.set_cons_succ]
                  refine wpAnyH_take (i := 28) (oi := ⟨_, _, _, _, _, _⟩) (v := ?_) rfl (by kernel_rfl) (by kernel_rfl) (by kernel_rfl) (fun _ _ _ h => h) (Or.inl ⟨by rfl, ?_⟩) (by assumption) ?_
                  rotate_left
                  · intro W hSW
                    try dsimp only at hSW
                    go_simp
                    try with_reducible rfl
                  rotate_left
                  try simp only [Act.put, List.setIfInBounds_toArray, List.set_cons_zero, List.set_cons_succ]
                  refine wpAnyH_done (by kernel_rfl) ?_ _
                  clear SD
                  go_wp2
                  go_roundw
                  case rel => exact ⟨i + 1, by omega, by go_num, ⟨HR2.out.1, HR2.out.2.1.below (Below.refl _ _).drew, HR2.out.2.2.drew⟩⟩
                  case measure => simp [intN]; omega
              · have hR := Lib.hid HR.out.2
                clear HR
                go_wp2_with fail
                refine (tshape hR.out.1 (by have := HM5.out; omega)).mono ?_
                rintro e wG ⟨s5, h5, g5, rfl, f5, tG, bG, a5⟩
                have HBG := Lib.hid (hR.out.2.trans (bG.mono (Nat.le_trans HM.out hR.out.1.1)))
                have hsn := f5.snd (by have := HM5.out; omega)
                have HA5 := Lib.hid (And.intro a5 hsn)
                clear bG f5 a5 hsn
                go_wp2_with fail
                refine (tlen tG).mono ?_
                rintro e wH ⟨rfl, tH, bH⟩
                have HBH := Lib.hid (HBG.out.trans (bH.mono (Nat.le_trans HM.out tG.1)))
                have HSO := Lib.hid (sound_any wH (HA5.out.1.up bH) HA5.out.2 (by have := HM5.out; omega))
                clear tG tH bH HBG HA5
                go_wp2_with fail
                refine HSO.out.mono ?_
                rintro e wI ⟨rfl, rfl⟩
                go_wp2_with fail
                go_ret
                exact ⟨rfl, HBH.out⟩
  · go_wp2_with fail
    go_ret
    exact ⟨rfl, b1⟩
end Go.Proofs.Ytgeebeoediknmaa
