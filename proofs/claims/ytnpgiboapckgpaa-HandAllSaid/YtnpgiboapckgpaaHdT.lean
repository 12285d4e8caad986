/- hand: a key's place, an empty place, and the hand's turn. -/
import Derived.Test.YtnpgiboapckgpaaHdG
namespace Go.Proofs.Ytnpgiboapckgpaa
open Go.RowKit

theorem below_dn {B : Nat} {a w : World} (h : Below B a w) (m : Nat) : Below B a (w.drewN m) := ⟨h.os, h.tape, h.output, h.size, h.block⟩

theorem Fr.drewN {B : Nat} {S : Nat → Prop} {a w : World} (h : Fr B S a w) (m : Nat) : Fr B S a (w.drewN m) := ⟨h.os, h.tape, h.output, h.size, h.block⟩

theorem find_any (w : World) {p g : Nat} {s : St} {k : Int} {i : Nat} (hh : HA w p g s) (hf : First s.n (hit s k) i) :
    Calls Try.prog 25 #[.pointer (some ⟨p, 0, none⟩), .int .i64 k] w fun e w' => e = .returned (ptr g s.n i) ∧ Below w.heap.size w w' := by
  have hmf := hmf
  have HH := Lib.hid hh
  have HF := Lib.hid hf
  clear hh hf
  go_enter Try.func25, Try.ntmps25
  go_wp2_with (first | (go_at_call 30; refine (firstHit _ (HH.out.on ((Below.refl _ _).alloc (Nat.le_refl _) _)) ((cell_of (heap_alloc_new w (.cells #[.int .i64 k] 3)) 0).1.trans rfl) HF.out).mono ?_; rintro e w1 ⟨rfl, m, hw⟩; obtain rfl := hw.symm; clear hw))
  go_ret
  exact ⟨rfl, below_dn ((Below.refl _ _).alloc (Nat.le_refl _) _) m⟩

theorem empty_any (w : World) {p g : Nat} {s : St} {i : Nat} (hh : HA w p g s) (hf : First s.n (vac s) i) :
    Calls Try.prog 26 #[.pointer (some ⟨p, 0, none⟩)] w fun e w' => e = .returned (ptr g s.n i) ∧ Below w.heap.size w w' := by
  have HH := Lib.hid hh
  have HF := Lib.hid hf
  clear hh hf
  go_enter Try.func26, Try.ntmps26
  go_wp2_with (first | (go_at_call 30; refine (firstVac _ HH.out HF.out).mono ?_; rintro e w1 ⟨rfl, m, hw⟩; obtain rfl := hw.symm; clear hw))
  go_ret
  exact ⟨rfl, below_dn (Below.refl _ _) m⟩

/-- The hand goes on to the place that is to be replaced: the places then, the hand then, and that place. -/
def turnF (n : Nat) : Nat → (Nat → Pl) → Nat → Option ((Nat → Pl) × Nat × Nat)
  | 0, _, _ => none
  | f + 1, P, a => if 0 < (P a).n then turnF n f P ((a + 1) % n) else if (P a).b then turnF n f (up P a { P a with b := false }) ((a + 1) % n) else some (P, (a + 1) % n, a)

theorem least {Q : Nat → Prop} (h : ∃ f, Q f) : ∃ f, Q f ∧ ∀ g, Q g → f ≤ g := by
  obtain ⟨f, hf⟩ := h
  induction f using Nat.strongRecOn with
  | _ f ih =>
    by_cases hx : ∃ g, g < f ∧ Q g
    · obtain ⟨g, hg, hq⟩ := hx
      exact ih g hg hq
    · exact ⟨f, hf, fun g hq => by
        rcases Nat.lt_or_ge g f with e | e
        · exact absurd ⟨g, e, hq⟩ hx
        · exact e⟩
open Classical in
noncomputable def lst (Q : Nat → Prop) : Nat := if h : ∃ f, Q f then Classical.choose (least h) else 0
theorem lst_of {Q : Nat → Prop} (h : ∃ f, Q f) : Q (lst Q) := by
  unfold lst
  rw [dif_pos h]
  exact (Classical.choose_spec (least h)).1
theorem lst_le {Q : Nat → Prop} {g : Nat} (hg : Q g) : lst Q ≤ g := by
  unfold lst
  rw [dif_pos ⟨g, hg⟩]
  exact (Classical.choose_spec (least ⟨g, hg⟩)).2 g hg

theorem turn_full (w : World) {p g : Nat} {s : St} (hh : HA w p g s) (hf : First s.n (loose s) s.n) :
    Calls Try.prog 27 #[.pointer (some ⟨p, 0, none⟩)] w fun e w' => e = .returned (.pointer none) ∧ Below w.heap.size w w' := by
  have HH := Lib.hid hh
  have HF := Lib.hid hf
  clear hh hf
  go_enter Try.func27, Try.ntmps27
  go_wp2_with (first | (go_at_call 30; refine (firstLoose _ HH.out HF.out).mono ?_; rintro e w1 ⟨rfl, m, hw⟩; obtain rfl := hw.symm; clear hw; rw [ptr_none]))
  go_ret
  exact ⟨rfl, below_dn (Below.refl _ _) m⟩

def TT (w : World) (p g n : Nat) (r : (Nat → Pl) × Nat × Nat) (f : Nat) : Prop := ∃ s : St, s.n = n ∧ HA w p g s ∧ turnF n f s.P s.a = some r

set_option maxHeartbeats 1000000 in
theorem turn_any (w : World) {p g : Nat} {s : St} {i f j : Nat} {P : Nat → Pl} {a : Nat} (hh : HA w p g s) (hf : First s.n (loose s) i) (hi : i < s.n) (ht : turnF s.n f s.P s.a = some (P, a, j)) :
    Calls Try.prog 27 #[.pointer (some ⟨p, 0, none⟩)] w fun e w' => e = .returned (.pointer (some ⟨g, j * 5, none⟩)) ∧ HA w' p g ⟨s.n, P, a⟩ ∧ Fr w.heap.size (Two p g) w w' := by
  obtain rfl := hh.eq
  have HH := Lib.hid hh
  have HF := Lib.hid hf
  have HI := Lib.hid hi
  have HS : Hid (∃ f, TT w g g s.n (P, a, j) f) := ⟨f, s, rfl, hh, ht⟩
  have hn := hh.ln
  generalize hN : s.n = n at *
  clear hh hf hi ht
  go_enter Try.func27, Try.ntmps27
  go_wp2_with (first | (go_at_call 30; refine (firstLoose _ HH.out (hN.symm ▸ HF.out)).mono ?_; rintro e w1 ⟨rfl, m, hw⟩; obtain rfl := hw.symm; clear hw; rw [hN, ptr_some HI.out]))
  have hB := below_dn (Below.refl w.heap.size w) m
  have HS1 : Hid (∃ f, TT (w.drewN m) g g n (P, a, j) f) := by
    obtain ⟨f, s1, e, h1, h2⟩ := HS.out
    exact ⟨f, s1, e, h1.on hB, h2⟩
  have HP : Hid (g < w.heap.size ∧ g < w.heap.size) := ⟨HH.out.lp, HH.out.lg⟩
  have HFr : Hid (Fr w.heap.size (Two g g) w (w.drewN m)) := Fr.of_below hB
  clear hB HS HH HI HF
  generalize hW : w.drewN m = w0 at *
  clear hW
  clear hN
  go_loopw [] (fun wr => Hid ((∃ f, TT wr g g n (P, a, j) f) ∧ Fr w.heap.size (Two g g) w wr)) (fun wr => lst (TT wr g g n (P, a, j)))
  case atStart => exact ⟨HS1.out, HFr.out⟩
  case round =>
    obtain ⟨hx, hfr⟩ := hrel.out
    clear hrel HS1 HFr w0
    have hT := lst_of hx
    clear hx
    generalize hl : lst (TT wr g g n (P, a, j)) = f at hT
    have HL : Hid (lst (TT wr g g n (P, a, j)) = f) := hl
    clear hl
    obtain ⟨s1, hn1, h1, ht⟩ := hT
    cases f with
    | zero => cases ht
    | succ f =>
    obtain ⟨n1, P1, a1⟩ := s1
    dsimp only at hn1 ht
    subst hn1
    have HH := Lib.hid h1
    have HFR := Lib.hid hfr
    have c0 := h1.c0
    have c1 := h1.c1
    have f1 := h1.f1
    have la := h1.la
    dsimp only at c0 c1 la
    have laI : (a1 : Int) < (n1 : Int) := by omega
    have hn0 : ¬ (n1 : Int) = 0 := by omega
    have la64 : (a1 : Int) < 64 := by omega
    clear h1 hfr
    have hm : ((a1 : Int) + 1) % (n1 : Int) = (((a1 + 1) % n1 : Nat) : Int) := by simp
    have l2 : (a1 + 1) % n1 < n1 := Nat.mod_lt _ (by omega)
    unfold turnF at ht
    generalize (a1 + 1) % n1 = a2 at *
    have HM := Lib.hid hm
    have HT := Lib.hid ht
    have L2 := Lib.hid l2
    clear hm ht l2
    go_wp2_with fail
    go_quiet (fail)
    go_wp2_with fail
    go_region
    rw [HM.out]
    have h2 : HA ((wr.drewN (nq + 1)).setCell ⟨g, 321, none⟩ (.int .i64 (a2 : Int))) g g ⟨n1, P1, a2⟩ := (HH.out.drewN (nq + 1)).at_ L2.out
    have hfr2 : Fr w.heap.size (Two g g) w ((wr.drewN (nq + 1)).setCell ⟨g, 321, none⟩ (.int .i64 (a2 : Int))) := (HFR.out.drewN (nq + 1)).setCell (p := ⟨g, 321, none⟩) (Or.inl (Or.inl rfl)) _
    generalize (wr.drewN (nq + 1)).setCell ⟨g, 321, none⟩ (.int .i64 (a2 : Int)) = w2 at h2 hfr2 ⊢
    have H2 := Lib.hid h2
    have HFR2 := Lib.hid hfr2
    clear HFR HH f1 c0 c1 laI hn0 la64
    have LA := Lib.hid la
    have c4 := h2.cell la (j := 4) (by omega)
    have c3 := h2.cell la (j := 3) (by omega)
    have f3 := h2.froz (a1 * 5 + 3)
    rw [show (P1 a1).c[4]? = some (.int .i64 ((P1 a1).n : Int)) from rfl] at c4
    rw [show (P1 a1).c[3]? = some (.bool (P1 a1).b) from rfl] at c3
    have hnot : ∀ (x : Bool) (w : World), (Op.unary .not (.bool x)).run Try.prog w = .ok (.bool (!x)) w := fun _ _ => rfl
    clear h2 hfr2 la hn
    by_cases hpin : 0 < (P1 a1).n
    · have hp0 : (0 : Int) < ((P1 a1).n : Int) := by omega
      have HT2 := Lib.hid ((if_pos hpin).symm.trans HT.out)
      clear hpin HT c3 f3
      go_wp2_with fail
      exact ⟨⟨⟨f, ⟨n1, P1, a2⟩, rfl, H2.out, HT2.out⟩, HFR2.out⟩, Nat.lt_succ_of_le (lst_le ⟨_, rfl, H2.out, HT2.out⟩)⟩
    · have hp0 : ¬ (0 : Int) < ((P1 a1).n : Int) := by omega
      have HT2 := Lib.hid ((if_neg hpin).symm.trans HT.out)
      clear hpin HT
      cases hb : (P1 a1).b with
      | true =>
        have HT3 := Lib.hid ((if_pos hb).symm.trans HT2.out)
        rw [hb] at c3
        clear hb HT2
        go_wp2_with fail
        have H3 := H2.out.set (i := a1) (j := 3) LA.out (by omega) (.bool false) { P1 a1 with b := false } rfl
        have HFR3 : Fr w.heap.size (Two g g) w (w2.setCell ⟨g, a1 * 5 + 3, none⟩ (.bool false)) := HFR2.out.setCell (p := ⟨g, a1 * 5 + 3, none⟩) (Or.inl (Or.inr rfl)) _
        exact ⟨⟨⟨f, _, rfl, H3, HT3.out⟩, HFR3⟩, Nat.lt_succ_of_le (lst_le ⟨_, rfl, H3, HT3.out⟩)⟩
      | false =>
        have HT3 := Lib.hid ((if_neg (by rw [hb]; decide)).symm.trans HT2.out)
        rw [hb] at c3
        clear hb HT2
        go_wp2_with fail
        have h4 := HT3.out
        injection h4 with h4
        injection h4 with h4 h5
        injection h5 with h5 h6
        subst h4 h5 h6
        go_ret
        exact ⟨rfl, H2.out, HFR2.out⟩
end Go.Proofs.Ytnpgiboapckgpaa
