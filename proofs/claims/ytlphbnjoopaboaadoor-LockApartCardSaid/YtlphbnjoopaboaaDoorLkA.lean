/- LockApart's walk: locks of different things do not meet. -/
import Derived.Test.YtlphbnjoopaboaaDoorLkL
namespace Go.Proofs.YtlphbnjoopaboaaDoor
open Go.RowKit Go.Maps Go.WideMaps

def nA : ByteArray := ⟨#[97]⟩
def nB : ByteArray := ⟨#[98]⟩
theorem nA_size : nA.size ≤ 1000 := by decide
theorem nB_size : nB.size ≤ 1000 := by decide
theorem max_size {s : ByteArray} (h : s.size ≤ 1000) : s.size ≤ maxLen := Nat.le_trans h (by unfold maxLen; omega)
theorem nAB : sL nB ≠ sL nA := by simp [sL, nA, nB]
theorem jN_zero {a : Nat} (h : a < 5) : jN a 0 = a := by
  have : ∀ a : Fin 5, jN a 0 = a := by decide
  exact this ⟨a, h⟩

set_option maxRecDepth 100000 in
set_option maxHeartbeats 2000000 in
theorem apart_walk (w : World) (T : Tb w) (hB : 2 ≤ w.heap.size) (a b : Nat) (ha : a < 256) (hb : b < 256) : Calls Tryd.prog 4 #[.int .u8 (a : Int), .int .u8 (b : Int)] w fun e w' => e = .returned (.bool true) ∧ Below w.heap.size w w' := by
  have ea := Nat.mod_lt a (by decide : 4 > 0)
  have eb := Nat.mod_lt b (by decide : 4 > 0)
  have ra : (a : Int) % 4 = ((a % 4 : Nat) : Int) := by simp
  have rb : (b : Int) % 4 = ((b % 4 : Nat) : Int) := by simp
  generalize a % 4 = x at *
  generalize b % 4 = y at *
  obtain ⟨m, hm, sx⟩ : ∃ m : Nat, (1 ≤ m ∧ m < 5) ∧ (1 : Int) + (x : Int) = (m : Int) := ⟨1 + x, by omega, by omega⟩
  obtain ⟨n, hn, sy⟩ : ∃ n : Nat, (1 ≤ n ∧ n < 5) ∧ (1 : Int) + (y : Int) = (n : Int) := ⟨1 + y, by omega, by omega⟩
  have CB := begun_any w T hB
  go_enter Tryd.func4, Tryd.ntmps4
  go_upto_region 3 with (first | (go_at_call 5; refine CB.mono ?_; rintro e w0 ⟨rfl, hb0⟩))
  have T0 := T.below hb0 hB
  have hB0 := Nat.le_trans hB hb0.size
  have CN := new_lk w0 T0 hB0
  have HB0 := Lib.hid hb0
  clear CB hb0
  go_upto_region 4 with (first | (go_at_call 6; refine CN.mono ?_; rintro e w1 ⟨rfl, h1, hb1⟩))
  have HB1 : Hid (Below w.heap.size w w1) := HB0.out.trans (hb1.mono HB0.out.size)
  have HBB : Hid (w.heap.size ≤ w0.heap.size) := HB0.out.size
  have H1 := Lib.hid h1
  clear CN h1 hb1 HB0 T0 hB0
  generalize w0.heap.size + 2 = p at *
  generalize w0.heap.size + 1 = bn at *
  generalize w0.heap.size = B at *
  go_upto_region 5 with fail
  have HM := Lib.hid hm
  have HN := Lib.hid hn
  clear ra rb sx sy ea eb ha hb hm hn
  have CA := ask_ok w1 H1.out (s := nA) nA_size (i := 1) (wf_small (by decide) (by decide)) (a := m) HM.out.1 HM.out.2 (by decide) (q := m) (by rw [mN_none rfl, jN_zero HM.out.2]) (fun x hx => by obtain ⟨_, k, _, hk, _⟩ := hx; cases hk)
  unfold nA at CA
  go_upto_region 6 with (first | (go_at_call 7; refine CA.mono ?_; rintro e w2 ⟨rfl, om, on, h2, hb2⟩))
  have H2 : Hid (LkAt w2 B p B bn 4 (upd2 (fun _ _ => none) (sL nA) (iL 1) (.int .i64 (m : Int))) (upd2 (fun _ _ => none) (iL 1) (sL nA) (.agg #[])) om on) := h2
  have HB2 : Hid (Below w.heap.size w w2) := HB1.out.trans (hb2.mono HBB.out)
  clear CA h2 hb2 HB1 H1
  generalize hM2 : upd2 (fun _ _ => none) (sL nA) (iL 1) (.int .i64 (m : Int)) = M2 at H2
  generalize upd2 (fun _ _ => none) (iL 1) (sL nA) (.agg #[]) = N2 at H2
  have v1 : M2 (sL nA) (iL 1) = some (.int .i64 (m : Int)) := by rw [← hM2]; exact upd2_same _ _ _ _
  have v2 : ∀ j, M2 (sL nB) j = none := fun j => by rw [← hM2]; exact upd2_out _ nAB _ _ _
  have v3 : M2 (sL nA) (iL 2) = none := by rw [← hM2]; exact upd2_in _ _ (iL_ne (by decide)) _
  clear hM2
  have CA := ask_ok w2 H2.out (s := nB) nB_size (i := 2) (wf_small (by decide) (by decide)) (a := n) HN.out.1 HN.out.2 (by decide) (q := n) (by rw [mN_none (v2 _), jN_zero HN.out.2]) (fun x hx => by obtain ⟨_, k, _, hk, _⟩ := hx; rw [v2] at hk; cases hk)
  unfold nB at CA
  have V : Hid (M2 (sL nA) (iL 1) = some (.int .i64 (m : Int)) ∧ (∀ j, M2 (sL nB) j = none) ∧ M2 (sL nA) (iL 2) = none) := ⟨v1, v2, v3⟩
  clear v1 v2 v3
  go_upto_region 7 with (first | (go_at_call 7; refine CA.mono ?_; rintro e w3 ⟨rfl, om3, on3, h3, hb3⟩))
  have HB3 : Hid (Below w.heap.size w w3) := HB2.out.trans (hb3.mono HBB.out)
  clear CA hb3 HB2 H2
  have h3' : LkAt w3 B p B bn 8 (upd2 M2 (sL nB) (iL 2) (.int .i64 (n : Int))) (upd2 N2 (iL 2) (sL nB) (.agg #[])) om3 on3 := h3
  clear h3
  have C1 := held_any w3 h3' (max_size nA_size) (i := 1) (wf_small (by decide) (by decide))
  have C2 := held_any w3 h3' (max_size nB_size) (i := 2) (wf_small (by decide) (by decide))
  have C3 := held_any w3 h3' (max_size nB_size) (i := 1) (wf_small (by decide) (by decide))
  have C4 := held_any w3 h3' (max_size nA_size) (i := 2) (wf_small (by decide) (by decide))
  rw [show mN (upd2 M2 (sL nB) (iL 2) (.int .i64 (n : Int))) (sL nA) (iL 1) = m from mN_of (by rw [upd2_out _ (Ne.symm nAB)]; exact V.out.1)] at C1
  rw [show mN (upd2 M2 (sL nB) (iL 2) (.int .i64 (n : Int))) (sL nB) (iL 2) = n from mN_of (upd2_same _ _ _ _)] at C2
  rw [show mN (upd2 M2 (sL nB) (iL 2) (.int .i64 (n : Int))) (sL nB) (iL 1) = 0 from mN_none (by rw [upd2_in _ _ (iL_ne (by decide))]; exact V.out.2.1 _)] at C3
  rw [show mN (upd2 M2 (sL nB) (iL 2) (.int .i64 (n : Int))) (sL nA) (iL 2) = 0 from mN_none (by rw [upd2_out _ (Ne.symm nAB)]; exact V.out.2.2)] at C4
  rw [show ((0 : Nat) : Int) = 0 from rfl] at C3 C4
  unfold nA at C1 C4
  unfold nB at C2 C3
  clear h3' HN HM V
  go_wp2_with (first | (go_at_call 9; first | (with_reducible refine C1.mono ?_; rintro e w6 ⟨rfl, hw⟩; obtain rfl := hw.symm; clear hw) | (with_reducible refine C2.mono ?_; rintro e w6 ⟨rfl, hw⟩; obtain rfl := hw.symm; clear hw) | (with_reducible refine C3.mono ?_; rintro e w6 ⟨rfl, hw⟩; obtain rfl := hw.symm; clear hw) | (with_reducible refine C4.mono ?_; rintro e w6 ⟨rfl, hw⟩; obtain rfl := hw.symm; clear hw)))
  go_ret
  exact ⟨rfl, HB3.out⟩
end Go.Proofs.YtlphbnjoopaboaaDoor
