/- lock: begun answers true; plain facts of who hinders. -/
import Derived.Test.YtlphbnjoopaboaaDoorLkK
namespace Go.Proofs.YtlphbnjoopaboaaDoor
open Go.RowKit Go.Maps Go.WideMaps

theorem rising_eq {L L' : List Int} (h : L.Pairwise (· < ·)) (h' : L'.Pairwise (· < ·)) (hm : ∀ x, x ∈ L ↔ x ∈ L') : L = L' := by
  have n1 : L.Nodup := h.imp fun hab e => by subst e; exact absurd hab (Int.lt_irrefl _)
  have n2 : L'.Nodup := h'.imp fun hab e => by subst e; exact absurd hab (Int.lt_irrefl _)
  exact List.Perm.eq_of_pairwise (le := fun a b => a < b) (fun a b _ _ h1 h2 => absurd (Int.lt_trans h1 h2) (Int.lt_irrefl _)) h h' ((List.perm_ext_iff_of_nodup n1 n2).2 hm)
theorem Ways.eq {M : Lit → Lit → Option Value} {l : Lit} {who : Int} {m : Nat} {L L' : List Int} (h : Ways M l who m L) (h' : L'.Pairwise (· < ·)) (hm : ∀ x, x ∈ L' ↔ Cond M l who m x) : L = L' :=
  rising_eq h.up h' fun x => (h.iff x).trans (hm x).symm

theorem upd2_same (F : Lit → Lit → Option Value) (a c : Lit) (v : Value) : upd2 F a c v a c = some v := by unfold upd2; rw [updL_same, updL_same]
theorem upd2_in (F : Lit → Lit → Option Value) (a : Lit) {c d : Lit} (h : d ≠ c) (v : Value) : upd2 F a c v a d = F a d := by unfold upd2; rw [updL_same, updL_other _ h]
theorem upd2_out (F : Lit → Lit → Option Value) {a b : Lit} (h : b ≠ a) (c d : Lit) (v : Value) : upd2 F a c v b d = F b d := by unfold upd2; rw [updL_other _ h]
theorem iL_ne {x y : Int} (h : x ≠ y) : iL x ≠ iL y := fun e => h (by simpa [iL] using e)
theorem mN_of {M : Lit → Lit → Option Value} {l j : Lit} {k : Nat} (h : M l j = some (.int .i64 (k : Int))) : mN M l j = k := by unfold mN; rw [h]; simp
theorem mN_none {M : Lit → Lit → Option Value} {l j : Lit} (h : M l j = none) : mN M l j = 0 := by unfold mN; rw [h]

/-- A slice of numbers of one's own that has something. -/
theorem SlR.pos {w : World} {B : Nat} {v : Value} {x : Int} {L : List Int} (h : SlR w B v (x :: L)) : ∃ g cap cur, v = .slice (some ⟨g, 0, none⟩) (x :: L).length cap ∧ B ≤ g ∧ g < w.heap.size ∧ w.heap[g]? = some (.cells cur 3 (0, 0)) ∧ ∀ j (hj : j < (x :: L).length), cur[j]? = some (.int .i64 (x :: L)[j]) := by
  rcases h.2 with ⟨_, h0⟩ | ⟨g, cap, cur, hv, hbase, hbk, h1, h2, h3, h4⟩
  · simp at h0
  · refine ⟨g, cap, cur, hv, hbase, (Array.getElem?_eq_some_iff.1 hbk).1, hbk, fun j hj => ?_⟩
    have e : (cur.toList.take ((x :: L).length * 1))[j]? = some (.int .i64 (x :: L)[j]) := by
      rw [h4]
      simp only [intV, List.getElem?_map, List.getElem?_eq_getElem hj]
      rfl
    rw [List.getElem?_take, if_pos (by omega)] at e
    simpa using e

theorem SlR.pos2 {w : World} {B : Nat} {v : Value} {L : List Int} (h : SlR w B v L) (hl : 0 < L.length) : ∃ g cap cur, v = .slice (some ⟨g, 0, none⟩) L.length cap ∧ B ≤ g ∧ g < w.heap.size ∧ w.heap[g]? = some (.cells cur 3 (0, 0)) ∧ ∀ j (hj : j < L.length), cur[j]? = some (.int .i64 L[j]) := by
  cases L with
  | nil => simp at hl
  | cons x L => exact h.pos

def nX : ByteArray := ⟨#[120]⟩
noncomputable def M1 : Lit → Lit → Option Value := upd2 (fun _ _ => none) (sL nX) (iL 1) (.int .i64 ((4 : Nat) : Int))
noncomputable def N1 : Lit → Lit → Option Value := upd2 (fun _ _ => none) (iL 1) (sL nX) (.agg #[])
theorem wf_small {i : Int} (h : 0 ≤ i) (h2 : i ≤ 1000) : (Lit.int .i64 i).wf = true := WalkArith.wf_i64 (by omega)
theorem nX_size : nX.size ≤ 1000 := by decide
theorem m1_iff (x : Int) : Cond M1 (sL nX) 2 3 x ↔ x = 1 := by
  constructor
  · rintro ⟨_, k, _, hk, _⟩
    by_cases e : x = 1
    · exact e
    · unfold M1 at hk
      rw [upd2_in _ _ (iL_ne e)] at hk
      cases hk
  · rintro rfl
    exact ⟨by decide, 4, by decide, upd2_same _ _ _ _, rfl⟩

theorem get_on {w : World} {P : Program} {k1 k2 b n : Nat} {F : Lit → Lit → Option Value} {ob : Lit → Option Nat} (h : MM w P k1 k2 b n F ob) {l j : Lit} {v : Value} (hv : F l j = some v) : ∃ c, ob l = some c := by
  cases ho : ob l with
  | some c => exact ⟨c, rfl⟩
  | none => rw [h.non _ ho] at hv; cases hv

set_option maxRecDepth 100000 in
set_option maxHeartbeats 2000000 in
theorem begun_any (w : World) (T : Tb w) (hB : 2 ≤ w.heap.size) : Calls Tryd.prog 5 #[] w fun e w' => e = .returned (.bool true) ∧ Below w.heap.size w w' := by
  have CN := new_lk w T hB
  go_enter Tryd.func5, Tryd.ntmps5
  go_upto_region 4 with (first | (go_at_call 6; refine CN.mono ?_; rintro e w1 ⟨rfl, h1, hb1⟩))
  clear CN
  generalize w.heap.size + 2 = p at *
  generalize w.heap.size + 1 = bn at *
  have CA := ask_ok w1 h1 (s := nX) nX_size (i := 1) (wf_small (by decide) (by decide)) (a := 4) (by decide) (by decide) (by decide) (q := 4) (by rw [mN_none rfl]; rfl) (fun x hx => by obtain ⟨_, k, _, hk, _⟩ := hx; cases hk)
  have HB1 := Lib.hid hb1
  clear h1 hb1
  unfold nX at CA
  go_upto_region 5 with (first | (go_at_call 7; refine CA.mono ?_; rintro e w2 ⟨rfl, om, on, h2, hb2⟩))
  have H2 : Hid (LkAt w2 w.heap.size p w.heap.size bn 4 M1 N1 om on) := h2
  have HB2 : Hid (Below w.heap.size w w2) := HB1.out.trans hb2
  clear CA h2 hb2 HB1
  have e0 : mN M1 (sL nX) (iL 2) = 0 := mN_none (by unfold M1; rw [upd2_in _ _ (iL_ne (by decide))])
  have CB := ask_no w2 H2.out (s := nX) nX_size (i := 2) (wf_small (by decide) (by decide)) (a := 3) (by decide) (by decide) (by decide) (q := 3) (by rw [e0]; rfl) (x0 := 1) ((m1_iff 1).2 rfl)
  clear e0
  unfold nX at CB
  go_upto_region 6 with (first | (go_at_call 7; refine CB.mono ?_; rintro e w3 ⟨v, L, rfl, hW, hS, hb3⟩))
  obtain rfl : L = [1] := Ways.eq hW (by simp) (fun x => by rw [List.mem_singleton]; exact (m1_iff x).symm)
  obtain ⟨g, cap, cur, rfl, hg1, hg2, hg3, hg4⟩ := hS.pos
  have hc0 := hg4 0 (by simp)
  have H3 := Lib.hid (H2.out.on_ hb3)
  have HB3 : Hid (Below w.heap.size w w3) := HB2.out.trans (hb3.mono HB2.out.size)
  have HG3 := Lib.hid hg3
  clear CB hW hS hg1 hg2 hg3 hg4 H2 HB2 hb3
  obtain ⟨cN, hcN⟩ := get_on H3.out.nn (upd2_same (fun _ _ => none) (iL 1) (sL nX) (.agg #[]))
  obtain ⟨cM, hcM⟩ := get_on H3.out.m (upd2_same (fun _ _ => none) (sL nX) (iL 1) (.int .i64 ((4 : Nat) : Int)))
  have CL := locks_one w3 H3.out (s := nX) nX_size (i := 1) (wf_small (by decide) (by decide)) (by decide) hcN (fun l => by
    unfold N1
    by_cases e : l = sL nX
    · subst e; rw [upd2_same]; simp
    · rw [upd2_in _ _ e]; simp [e])
  go_upto_region 7 with (first | (go_at_call 10; refine CL.mono ?_; rintro e w4 ⟨g4, cap4, rfl, hc4, hb4⟩))
  have H4 := Lib.hid (H3.out.on_ hb4)
  have HB4 : Hid (Below w.heap.size w w4) := HB3.out.trans (hb4.mono HB3.out.size)
  have HG4 : Hid (w4.heap[g]? = some (.cells cur 3 (0, 0))) := (hb4.block g (Array.getElem?_eq_some_iff.1 HG3.out).1).trans HG3.out
  have HL4 : Hid (g4 < w4.heap.size) := World.block_lt_of_cell? w4 _ hc4
  clear CL H3 HB3 HG3 hb4
  have CH := holders_any w4 H4.out (s := nX) (Nat.le_trans nX_size (by unfold maxLen; omega)) (by decide) hcM (L := [1]) (by simp) (fun x => by
    unfold M1
    by_cases e : x = 1
    · subst e; rw [upd2_same]; simp
    · rw [upd2_in _ _ (iL_ne e)]; simp [e])
  unfold nX at CH
  go_upto_region 8 with (first | (go_at_call 8; refine CH.mono ?_; rintro e w5 ⟨pt5, cap5, rfl, hb5⟩))
  have H5 := Lib.hid (H4.out.on_ hb5)
  have HB5 : Hid (Below w.heap.size w w5) := HB4.out.trans (hb5.mono HB4.out.size)
  have hg5 : w5.cell? ⟨g, 0, none⟩ = some (.int .i64 1) := (cell_of ((hb5.block g (Array.getElem?_eq_some_iff.1 HG4.out).1).trans HG4.out) 0).1.trans hc0
  have hg6 : w5.cell? ⟨g4, 0, none⟩ = some (.string ⟨#[120]⟩) := (hb5.cell (p := ⟨g4, 0, none⟩) HL4.out).trans hc4
  clear CH H4 HB4 HG4 HL4 hb5 hc4 hc0
  have CE := held_any w5 H5.out (s := nX) (Nat.le_trans nX_size (by unfold maxLen; omega)) (i := 1) (wf_small (by decide) (by decide))
  rw [show mN M1 (sL nX) (iL 1) = 4 from mN_of (upd2_same (fun _ _ => none) (sL nX) (iL 1) (.int .i64 ((4 : Nat) : Int)))] at CE
  rw [show ((4 : Nat) : Int) = 4 from rfl] at CE
  unfold nX at CE
  go_wp2_with (first | (go_at_call 9; refine CE.mono ?_; rintro e w6 ⟨rfl, hw⟩; obtain rfl := hw.symm; clear hw))
  go_ret
  exact ⟨rfl, HB5.out⟩
end Go.Proofs.YtlphbnjoopaboaaDoor
