/- The reference's cache: Put where one goes out. -/
import Derived.Test.YtnpgiboapckgpaaHrP
namespace Go.Proofs.Ytnpgiboapckgpaa
open Go.RowKit

theorem set5 {W : World} {q : Nat} {x0 x1 x2 x3 x4 : Value} {T : TypeId} (h : W.heap[q]? = some (.cells #[x0, x1, x2, x3, x4] T (0, 0))) (a b c d e : Value) :
    (((((W.setCell ⟨q, 0, none⟩ a).setCell ⟨q, 1, none⟩ b).setCell ⟨q, 2, none⟩ c).setCell ⟨q, 3, none⟩ d).setCell ⟨q, 4, none⟩ e).heap[q]? = some (.cells #[a, b, c, d, e] T (0, 0)) := by
  have st : ∀ {W : World} {cs : Array Value} (j : Nat) (v : Value), W.heap[q]? = some (.cells cs T (0, 0)) → (W.setCell ⟨q, j, none⟩ v).heap[q]? = some (.cells (cs.setIfInBounds j v) T (0, 0)) := fun {W cs} j v h => by
    rw [setCell_eq_setRow W q j _ _ (0, 0) _ h, setRow_heap W q _ _ _ _ h]
  exact st 4 e (st 3 d (st 2 c (st 1 b (st 0 a h))))
theorem RA.set5 {w : World} {p g : Nat} {s : St} (h : RA w p g s) {i : Nat} (hi : i < s.n) (x : Pl) :
    RA (((((w.setCell ⟨g, i * 5, none⟩ (.int .i64 x.k)).setCell ⟨g, i * 5 + 1, none⟩ (.string x.v)).setCell ⟨g, i * 5 + 2, none⟩ (.bool x.u)).setCell ⟨g, i * 5 + 3, none⟩ (.bool x.b)).setCell ⟨g, i * 5 + 4, none⟩ (.int .i64 (x.n : Int))) p g { s with P := up s.P i x } := by
  have h0 := h.set (i := i) (j := 0) hi (by omega) (.int .i64 x.k) { s.P i with k := x.k } rfl
  have h1 := h0.set (i := i) (j := 1) hi (by omega) (.string x.v) { s.P i with k := x.k, v := x.v } (by simp only [up_same]; rfl)
  have h2 := h1.set (i := i) (j := 2) hi (by omega) (.bool x.u) { s.P i with k := x.k, v := x.v, u := x.u } (by simp only [up_same]; rfl)
  have h3 := h2.set (i := i) (j := 3) hi (by omega) (.bool x.b) { s.P i with k := x.k, v := x.v, u := x.u, b := x.b } (by simp only [up_same]; rfl)
  have h4 := h3.set (i := i) (j := 4) hi (by omega) (.int .i64 (x.n : Int)) x (by simp only [up_same]; rfl)
  simp only [up_up] at h4
  exact h4

def TR (w : World) (p g n : Nat) (r : (Nat → Pl) × Nat × Nat) (f : Nat) : Prop := ∃ s : St, s.n = n ∧ RA w p g s ∧ turnF n f s.P s.a = some r

set_option maxRecDepth 100000 in
set_option maxHeartbeats 4000000 in
theorem rput_turn (w : World) {p g : Nat} {s : St} {k : Int} {v : ByteArray} {i j a f : Nat} {P : Nat → Pl} (hh : RA w p g s) (hf : First s.n (hit s k) s.n) (hv : First s.n (vac s) s.n) (hl : First s.n (loose s) i) (hi : i < s.n) (ht : turnF s.n f s.P s.a = some (P, a, j)) :
    Calls Try.prog 13 #[.pointer (some ⟨p, 0, none⟩), .int .i64 k, .string v] w fun e w' => e = tup4 (P j).k (P j).v true 0 ∧ RA w' p g { s with P := up P j ⟨true, k, v, true, 0⟩, a := a } ∧ Fr w.heap.size (Two p g) w w' := by
  have HH := Lib.hid hh
  have HF := Lib.hid hf
  have HV := Lib.hid hv
  have h0 := hh.c0
  have hnn := hh.ln
  have hci : (cntP s.P s.n : Int) < (s.n : Int) := by
    have := cntP_some (P := s.P) (t := i) (by have := hl.yes hi; unfold loose at this; simpa using this) s.n hi
    omega
  have HCI := Lib.hid hci
  have HS : Hid (∃ f, TR w p g s.n (P, a, j) f) := ⟨f, s, rfl, hh, ht⟩
  have hnot : ∀ (x : Bool) (w : World), (Op.unary .not (.bool x)).run Try.prog w = .ok (.bool (!x)) w := fun _ _ => rfl
  clear hh hf hv hl hi ht hci
  go_enter Try.func13, Try.ntmps13
  go_wp2_with (first | (go_at_call 28; refine (rfind_any _ HH.out HF.out).mono ?_; rintro e w1 ⟨rfl, hw1⟩; obtain rfl := hw1.symm; clear hw1; rw [num_none]))
  go_loopw [11, 12] (fun c v wr => ∃ t : Nat, t ≤ s.n ∧ v = .int .i64 (t : Int) ∧ c = .int .i64 ((cntP s.P t : Nat) : Int) ∧ w = wr) (fun _ v _ => s.n - lvN v)
  case atStart => exact ⟨0, Nat.zero_le _, rfl, rfl, rfl⟩
  case round =>
    obtain ⟨t, ht, rfl, rfl, rfl⟩ := hrel
    have hct := cntP_le s.P t
    by_cases hlt : t < s.n
    · have hlI : (t : Int) < (s.n : Int) := by omega
      have c2 := HH.out.cell hlt (j := 2) (by omega)
      rw [show (s.P t).r[2]? = some (.bool (s.P t).u) from rfl] at c2
      have hu : (s.P t).u = true := by have := HV.out.no t (by omega); unfold vac at this; simpa using this
      have c4 := HH.out.cell hlt (j := 4) (by omega)
      rw [show (s.P t).r[4]? = some (.int .i64 ((s.P t).n : Int)) from rfl] at c4
      rw [hu] at c2
      have HT : Hid (t + 1 ≤ s.n) := Lib.hid (by omega)
      clear hu ht hlt
      by_cases hp : 0 < (s.P t).n
      · have hpI : (0 : Int) < ((s.P t).n : Int) := by omega
        have HC : Hid (cntP s.P (t + 1) = cntP s.P t + 1) := by show cntP s.P t + _ = _; rw [if_pos hp]
        clear hp
        go_wp2_with fail
        exact ⟨⟨t + 1, HT.out, by go_num, by rw [HC.out]; rfl, trivial⟩, by simp [lvN]; omega⟩
      · have hpI : ¬ (0 : Int) < ((s.P t).n : Int) := by omega
        have HC : Hid (cntP s.P (t + 1) = cntP s.P t) := by show cntP s.P t + _ = _; rw [if_neg hp]; rfl
        clear hp
        go_wp2_with fail
        exact ⟨⟨t + 1, HT.out, by go_num, by rw [HC.out], trivial⟩, by simp [lvN]; omega⟩
    · obtain rfl : t = s.n := by omega
      have hne : ((cntP s.P s.n : Int) == (s.n : Int)) = false := by have := HCI.out; simp; omega
      have HP : Hid (p < w.heap.size ∧ g < w.heap.size ∧ p ≠ g) := ⟨HH.out.lp, HH.out.lg, HH.out.ne⟩
      clear ht hlt hct
      go_wp2_with fail
      clear HCI HV HF h0 hne
      generalize hn' : s.n = n at *
      clear HH
      go_loopw [] (fun wr => Hid ((∃ f, TR wr p g n (P, a, j) f) ∧ Fr w.heap.size (Two p g) w wr)) (fun wr => lst (TR wr p g n (P, a, j)))
      case atStart => exact ⟨HS.out, Fr.refl _ _ _⟩
      case round =>
        obtain ⟨hx, hfr⟩ := hrel.out
        clear hrel HS
        have hT := lst_of hx
        clear hx
        generalize hl : lst (TR wr p g n (P, a, j)) = f1 at hT
        have HL : Hid (lst (TR wr p g n (P, a, j)) = f1) := hl
        clear hl
        obtain ⟨s1, hn1, h1, ht⟩ := hT
        cases f1 with
        | zero => cases ht
        | succ f1 =>
        obtain ⟨n1, P1, a1⟩ := s1
        dsimp only at hn1 ht
        subst hn1
        have HH := Lib.hid h1
        have HFR := Lib.hid hfr
        have c0 := h1.c0
        have c1 := h1.c1
        have fz := h1.f1
        have la := h1.la
        have l64 := h1.ln
        dsimp only at c0 c1 la l64
        have laI : (a1 : Int) < (n1 : Int) := by omega
        have c4 := h1.cell la (j := 4) (by omega)
        have c3 := h1.cell la (j := 3) (by omega)
        have f3 := h1.froz (a1 * 5 + 3)
        rw [show (P1 a1).r[4]? = some (.int .i64 ((P1 a1).n : Int)) from rfl] at c4
        rw [show (P1 a1).r[3]? = some (.bool (P1 a1).b) from rfl] at c3
        have hm : ((a1 : Int) + 1) % (n1 : Int) = (((a1 + 1) % n1 : Nat) : Int) := by simp
        have l2 : (a1 + 1) % n1 < n1 := Nat.mod_lt _ (by omega)
        have hn0 : ¬ (n1 : Int) = 0 := by omega
        clear h1 hfr hnn
        unfold turnF at ht
        generalize (a1 + 1) % n1 = a2 at *
        have HM := Lib.hid hm
        have L2 := Lib.hid l2
        have LA := Lib.hid la
        clear hm l2 la
        by_cases hpin : 0 < (P1 a1).n
        · obtain ⟨z, hz⟩ : ∃ z : Int, ((P1 a1).n : Int) = z := ⟨_, rfl⟩
          rw [hz] at c4
          have hp0 : (0 : Int) < z := by omega
          have hp1 : (z == 0) = false := by simp; omega
          clear hz
          rw [if_pos hpin] at ht
          have HT2 := Lib.hid ht
          clear hpin ht c3 f3
          go_wp2_with fail
          go_quiet (fail)
          go_wp2_with fail
          go_quiet (fail)
          go_wp2_with fail
          go_region
          rw [HM.out]
          go_wp2_with fail
          exact ⟨⟨⟨f1, _, rfl, (HH.out.drewN _).at_ L2.out, HT2.out⟩, (HFR.out.drewN _).setCell (p := ⟨p, 1, none⟩) (Or.inl (Or.inl rfl)) _⟩, Nat.lt_succ_of_le (lst_le ⟨_, rfl, (HH.out.drewN _).at_ L2.out, HT2.out⟩)⟩
        · have hp0 : (P1 a1).n = 0 := by omega
          rw [if_neg hpin] at ht
          rw [hp0, show ((0 : Nat) : Int) = 0 from rfl] at c4
          cases hb : (P1 a1).b with
          | true =>
            rw [if_pos hb] at ht
            have HT2 := Lib.hid ht
            rw [hb] at c3
            have HA2 : Hid (∀ m, RA ((wr.drewN m).setCell ⟨g, a1 * 5 + 3, none⟩ (.bool false)) p g ⟨n1, up P1 a1 { P1 a1 with b := false }, a1⟩) := fun m => (HH.out.drewN m).set (i := a1) (j := 3) LA.out (by omega) (.bool false) { P1 a1 with b := false } rfl
            have d0 : ∀ m, ((wr.drewN m).setCell ⟨g, a1 * 5 + 3, none⟩ (.bool false)).cell? ⟨p, 0, none⟩ = some (.slice (some ⟨g, 0, none⟩) n1 n1) := fun m => (HA2.out m).c0
            have d1 : ∀ m, ((wr.drewN m).setCell ⟨g, a1 * 5 + 3, none⟩ (.bool false)).cell? ⟨p, 1, none⟩ = some (.int .i64 (a1 : Int)) := fun m => (HA2.out m).c1
            have df : ∀ m, ((wr.drewN m).setCell ⟨g, a1 * 5 + 3, none⟩ (.bool false)).frozen? ⟨p, 1, none⟩ = false := fun m => (HA2.out m).f1
            clear hpin ht hp0 hb
            go_wp2_with fail
            go_quiet (fail)
            go_wp2_with fail
            go_quiet (fail)
            go_wp2_with fail
            go_region
            go_wp2_with fail
            go_region
            rw [HM.out]
            go_wp2_with fail
            exact ⟨⟨⟨f1, _, rfl, ((HA2.out _).at_ L2.out).drew, HT2.out⟩, (((HFR.out.drewN _).setCell (p := ⟨g, a1 * 5 + 3, none⟩) (Or.inl (Or.inr rfl)) _).setCell (p := ⟨p, 1, none⟩) (Or.inl (Or.inl rfl)) _).drew⟩, Nat.lt_succ_of_le (lst_le ⟨_, rfl, ((HA2.out _).at_ L2.out).drew, HT2.out⟩)⟩
          | false =>
            rw [if_neg (by rw [hb]; decide)] at ht
            injection ht with h4
            injection h4 with h4 h5
            injection h5 with h5 h6
            rw [hb] at c3
            subst h4 h5 h6
            have HZC : Hid (∀ o m, RA ((wr.drewN m).alloc o) p g ⟨n1, P1, a1⟩) := fun o m => HH.out.on (((below_dn (Below.refl _ _) m)).alloc (Nat.le_refl _) o)
            have d0 : ∀ o m, ((wr.drewN m).alloc o).cell? ⟨p, 0, none⟩ = some (.slice (some ⟨g, 0, none⟩) n1 n1) := fun o m => (HZC.out o m).c0
            have d1 : ∀ o m, ((wr.drewN m).alloc o).cell? ⟨p, 1, none⟩ = some (.int .i64 (a1 : Int)) := fun o m => (HZC.out o m).c1
            have hold : ∃ old, P1 a1 = old := ⟨_, rfl⟩
            obtain ⟨old, hold⟩ := hold
            have x0 := HH.out.cell LA.out (j := 0) (by omega)
            have x1 := HH.out.cell LA.out (j := 1) (by omega)
            have x2 := HH.out.cell LA.out (j := 2) (by omega)
            have x3 := HH.out.cell LA.out (j := 3) (by omega)
            have x4 := HH.out.cell LA.out (j := 4) (by omega)
            have y0 := fun o m => (HZC.out o m).cell (i := a1) LA.out (j := 0) (by omega)
            have y1 := fun o m => (HZC.out o m).cell (i := a1) LA.out (j := 1) (by omega)
            have y2 := fun o m => (HZC.out o m).cell (i := a1) LA.out (j := 2) (by omega)
            have y3 := fun o m => (HZC.out o m).cell (i := a1) LA.out (j := 3) (by omega)
            have y4 := fun o m => (HZC.out o m).cell (i := a1) LA.out (j := 4) (by omega)
            simp only [hold, Nat.add_zero] at x0 x1 x2 x3 x4 y0 y1 y2 y3 y4
            rw [show old.r[0]? = some (.int .i64 old.k) from rfl] at x0
            rw [show old.r[1]? = some (.string old.v) from rfl] at x1
            rw [show old.r[2]? = some (.bool old.u) from rfl] at x2
            rw [show old.r[3]? = some (.bool old.b) from rfl] at x3
            rw [show old.r[4]? = some (.int .i64 (old.n : Int)) from rfl] at x4
            simp only [show old.r[0]? = some (.int .i64 old.k) from rfl] at y0
            simp only [show old.r[1]? = some (.string old.v) from rfl] at y1
            simp only [show old.r[2]? = some (.bool old.u) from rfl] at y2
            have hob : old.b = false := by rw [← hold]; exact hb
            have hon : old.n = 0 := by rw [← hold]; exact hp0
            simp only [show old.r[3]? = some (.bool old.b) from rfl, hob] at y3
            simp only [show old.r[4]? = some (.int .i64 (old.n : Int)) from rfl, hon, show ((0 : Nat) : Int) = 0 from rfl] at y4
            clear x3 x4 hob hon
            have hal := fun m => heap_alloc_new (wr.drewN m) (.cells #[.int .i64 0, .string ⟨#[]⟩, .bool false, .bool false, .int .i64 0] 60)
            have HAL := Lib.hid hal
            clear hal
            have z0 : ∀ m, ((wr.drewN m).alloc (.cells #[.int .i64 0, .string ⟨#[]⟩, .bool false, .bool false, .int .i64 0] 60)).cell? ⟨wr.heap.size, 0, none⟩ = some (.int .i64 0) := fun m => (cell_of (HAL.out m) 0).1
            have z1 : ∀ m, ((wr.drewN m).alloc (.cells #[.int .i64 0, .string ⟨#[]⟩, .bool false, .bool false, .int .i64 0] 60)).cell? ⟨wr.heap.size, 1, none⟩ = some (.string ⟨#[]⟩) := fun m => (cell_of (HAL.out m) 1).1
            have z2 : ∀ m, ((wr.drewN m).alloc (.cells #[.int .i64 0, .string ⟨#[]⟩, .bool false, .bool false, .int .i64 0] 60)).cell? ⟨wr.heap.size, 2, none⟩ = some (.bool false) := fun m => (cell_of (HAL.out m) 2).1
            have z3 : ∀ m, ((wr.drewN m).alloc (.cells #[.int .i64 0, .string ⟨#[]⟩, .bool false, .bool false, .int .i64 0] 60)).cell? ⟨wr.heap.size, 3, none⟩ = some (.bool false) := fun m => (cell_of (HAL.out m) 3).1
            have z4 : ∀ m, ((wr.drewN m).alloc (.cells #[.int .i64 0, .string ⟨#[]⟩, .bool false, .bool false, .int .i64 0] 60)).cell? ⟨wr.heap.size, 4, none⟩ = some (.int .i64 0) := fun m => (cell_of (HAL.out m) 4).1
            have zf : ∀ m o, ((wr.drewN m).alloc (.cells #[.int .i64 0, .string ⟨#[]⟩, .bool false, .bool false, .int .i64 0] 60)).frozen? ⟨wr.heap.size, o, none⟩ = false := fun m o => (cell_of (HAL.out m) o).2
            clear hpin hb hp0
            go_wp2_with fail
            go_quiet (fail)
            go_wp2_with fail
            go_region
            have W5 : ∀ m, ∃ W, Hid ((((((((wr.drewN m).alloc (.cells #[.int .i64 0, .string ⟨#[]⟩, .bool false, .bool false, .int .i64 0] 60)).setCell ⟨wr.heap.size, 0, none⟩ (.int .i64 old.k)).setCell ⟨wr.heap.size, 1, none⟩ (.string old.v)).setCell ⟨wr.heap.size, 2, none⟩ (.bool old.u)).setCell ⟨wr.heap.size, 3, none⟩ (.bool false)).setCell ⟨wr.heap.size, 4, none⟩ (.int .i64 0)) = W) ∧ W.heap[wr.heap.size]? = some (.cells #[.int .i64 old.k, .string old.v, .bool old.u, .bool false, .int .i64 0] 60 (0, 0)) ∧ Below wr.heap.size wr W := fun m =>
              ⟨_, Lib.hid rfl, _root_.Go.Proofs.Ytnpgiboapckgpaa.set5 (HAL.out m) _ _ _ _ _, (((((((below_dn (Below.refl _ _) m).alloc (Nat.le_refl _) _).setCell (p := ⟨wr.heap.size, 0, none⟩) (Nat.le_refl _) _).setCell (p := ⟨wr.heap.size, 1, none⟩) (Nat.le_refl _) _).setCell (p := ⟨wr.heap.size, 2, none⟩) (Nat.le_refl _) _).setCell (p := ⟨wr.heap.size, 3, none⟩) (Nat.le_refl _) _).setCell (p := ⟨wr.heap.size, 4, none⟩) (Nat.le_refl _) _)⟩
            obtain ⟨w5, hw5, hq5, hb5⟩ := W5 (nq + 1)
            rw [hw5.out]
            have R5 := Lib.hid (HH.out.below hb5 HH.out.lp HH.out.lg)
            have F5 := Lib.hid (HFR.out.below hb5 (Nat.le_trans (Nat.le_refl _) HFR.out.size))
            have HNQ : Hid (g ≠ wr.heap.size ∧ p ≠ wr.heap.size) := ⟨Nat.ne_of_lt HH.out.lg, Nat.ne_of_lt HH.out.lp⟩
            clear W5 hb5 d0 d1 x0 x1 x2 y0 y1 y2 y3 y4 z0 z1 z2 z3 z4 zf HAL HZC hw5 c0 c1 fz c3 c4 f3
            have c0 := R5.out.c0
            have c1 := R5.out.c1
            have fz := R5.out.f1
            have ff := R5.out.froz
            have x0 := R5.out.cell (i := a1) LA.out (j := 0) (by omega)
            have x1 := R5.out.cell (i := a1) LA.out (j := 1) (by omega)
            have x2 := R5.out.cell (i := a1) LA.out (j := 2) (by omega)
            have x3 := R5.out.cell (i := a1) LA.out (j := 3) (by omega)
            have x4 := R5.out.cell (i := a1) LA.out (j := 4) (by omega)
            simp only [hold, Nat.add_zero] at x0 x1 x2 x3 x4
            rw [show old.r[0]? = some (.int .i64 old.k) from rfl] at x0
            rw [show old.r[1]? = some (.string old.v) from rfl] at x1
            rw [show old.r[2]? = some (.bool old.u) from rfl] at x2
            rw [show old.r[3]? = some (.bool old.b) from rfl] at x3
            rw [show old.r[4]? = some (.int .i64 (old.n : Int)) from rfl] at x4
            have HQ5 := Lib.hid hq5
            clear hq5
            go_wp2_with fail
            go_region
            have r6 := (R5.out.set5 LA.out ⟨true, k, v, true, 0⟩).drew
            have f6 := (((((((Fr.refl w5.heap.size (Two p g) w5).setCell (p := ⟨g, a1 * 5, none⟩) (Or.inl (Or.inr rfl)) (.int .i64 k)).setCell (p := ⟨g, a1 * 5 + 1, none⟩) (Or.inl (Or.inr rfl)) (.string v)).setCell (p := ⟨g, a1 * 5 + 2, none⟩) (Or.inl (Or.inr rfl)) (.bool true)).setCell (p := ⟨g, a1 * 5 + 3, none⟩) (Or.inl (Or.inr rfl)) (.bool true)).setCell (p := ⟨g, a1 * 5 + 4, none⟩) (Or.inl (Or.inr rfl)) (.int .i64 0)).drew)
            dsimp only at r6
            rw [show ((0 : Nat) : Int) = 0 from rfl] at r6
            obtain ⟨w6, hw6⟩ : ∃ W, (((((w5.setCell ⟨g, a1 * 5, none⟩ (.int .i64 k)).setCell ⟨g, a1 * 5 + 1, none⟩ (.string v)).setCell ⟨g, a1 * 5 + 2, none⟩ (.bool true)).setCell ⟨g, a1 * 5 + 3, none⟩ (.bool true)).setCell ⟨g, a1 * 5 + 4, none⟩ (.int .i64 0)).drew = W := ⟨_, rfl⟩
            rw [hw6] at r6 f6 ⊢
            clear hw6
            have q6 := block_fr HQ5.out f6 HNQ.out.2 HNQ.out.1
            have R6 := Lib.hid r6
            have F6 := Lib.hid (F5.out.trans f6 (F5.out.size) (fun _ _ h => h))
            clear c0 c1 fz ff x0 x1 x2 x3 x4 r6 f6 HQ5
            have c0 := R6.out.c0
            have c1 := R6.out.c1
            have fz := R6.out.f1
            dsimp only at c0 c1
            have R7 := Lib.hid (R6.out.at_ (a := a2) L2.out)
            have F7 := Lib.hid (F6.out.setCell (p := ⟨p, 1, none⟩) (Or.inl (Or.inl rfl)) (.int .i64 (a2 : Int)))
            have q7 : (w6.setCell ⟨p, 1, none⟩ (.int .i64 (a2 : Int))).heap[wr.heap.size]? = _ := (Below.heap_setCell w6 ⟨p, 1, none⟩ _ _ (Ne.symm HNQ.out.2)).trans q6
            clear q6
            go_wp2_with fail
            go_region
            rw [HM.out]
            generalize w6.setCell ⟨p, 1, none⟩ (.int .i64 (a2 : Int)) = w7 at *
            have y0 := (cell_of q7 0).1
            have y1 := (cell_of q7 1).1
            simp only [List.getElem?_toArray, List.getElem?_cons_succ, List.getElem?_cons_zero] at y0 y1
            clear q7 c0 c1 fz
            go_wp2_with fail
            go_quiet (fail)
            go_wp2_with fail
            refine bodyPost_ret (v := .tuple #[.int .i64 old.k, .string old.v, .bool true, .int .i64 0]) (by simp [results, Try.results13, go_sem]) rfl ⟨by rw [hold]; rfl, by rw [hn']; exact R7.out.drew.drewN _, F7.out.drew.drewN _⟩
/-- What empty places have. -/
def Clean (s : St) : Prop := ∀ i, i < s.n → (s.P i).u = false → s.P i = Pl.zero
theorem rput_any (w : World) {p g : Nat} {s s' : St} {k : Int} {v : ByteArray} {e0 : Ending} (hh : RA w p g s) (hc : Clean s) (hr : PutR s k v s' e0) :
    Calls Try.prog 13 #[.pointer (some ⟨p, 0, none⟩), .int .i64 k, .string v] w fun e w' => e = e0 ∧ RA w' p g s' ∧ Fr w.heap.size (Two p g) w w' := by
  cases hr with
  | hit i hf hi => exact rput_hit w hh hf hi
  | vac i hf hv hi =>
    have hu : (s.P i).u = false := by have := hv.yes hi; unfold vac at this; simpa using this
    have hz := hc i hi hu
    have e : tup4 (s.P i).k (s.P i).v (s.P i).u 0 = tup4 0 emp false 0 := by rw [hz]; rfl
    rw [e]
    exact rput_vac w hh hf hv hi hz
  | full hf hv hl => exact rput_full w hh hf hv hl
  | turn i j a f P hf hv hl hi ht =>
    have hj := (turnF_lt f _ _ hh.la ht).1
    have hu : (P j).u = true := by
      rw [(turnF_sim f _ _ ht j).1]
      have := hv.no j hj
      unfold vac at this
      simpa using this
    rw [hu]
    exact rput_turn w hh hf hv hl hi ht
end Go.Proofs.Ytnpgiboapckgpaa
