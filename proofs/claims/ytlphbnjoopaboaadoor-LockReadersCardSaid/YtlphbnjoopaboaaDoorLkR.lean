/- LockReaders' walk: any number may read one thing. -/
import Derived.Test.YtlphbnjoopaboaaDoorLkA
import Derived.Deep.DeepCutAuto
namespace Go.Proofs.YtlphbnjoopaboaaDoor
open Go.RowKit Go.Maps Go.WideMaps

noncomputable def Rd : Nat → Lit → Lit → Option Value
  | 0 => fun _ _ => none
  | i + 1 => upd2 (Rd i) (sL nA) (iL ((i + 1 : Nat) : Int)) (.int .i64 ((3 : Nat) : Int))
noncomputable def Nd : Nat → Lit → Lit → Option Value
  | 0 => fun _ _ => none
  | i + 1 => upd2 (Nd i) (iL ((i + 1 : Nat) : Int)) (sL nA) (.agg #[])
theorem rd_at (i : Nat) (x : Int) : Rd i (sL nA) (iL x) = if 1 ≤ x ∧ x ≤ i then some (.int .i64 ((3 : Nat) : Int)) else none := by
  induction i with
  | zero => rw [if_neg (by omega)]; rfl
  | succ i ih =>
    unfold Rd
    by_cases e : x = ((i + 1 : Nat) : Int)
    · subst e; rw [upd2_same, if_pos (by omega)]
    · rw [upd2_in _ _ (iL_ne e), ih]
      by_cases h : 1 ≤ x ∧ x ≤ i
      · rw [if_pos h, if_pos (by omega)]
      · rw [if_neg h, if_neg (by omega)]
theorem rd_cond {k m : Nat} {W x : Int} (hm : gN 3 m = false) : Cond (Rd k) (sL nA) W m x ↔ (1 ≤ x ∧ x ≤ k ∧ x ≠ W) := by
  unfold Cond
  rw [rd_at]
  constructor
  · rintro ⟨h1, j, _, h2, _⟩
    by_cases h : 1 ≤ x ∧ x ≤ k
    · exact ⟨h.1, h.2, h1⟩
    · rw [if_neg h] at h2; cases h2
  · rintro ⟨h1, h2, h3⟩
    exact ⟨h3, 3, by decide, if_pos ⟨h1, h2⟩, hm⟩
theorem rd_free {k : Nat} {W x : Int} : ¬ Cond (Rd k) (sL nA) W 3 x := by
  unfold Cond
  rw [rd_at]
  rintro ⟨_, j, hj, h2, h3⟩
  by_cases h : 1 ≤ x ∧ x ≤ k
  · rw [if_pos h] at h2
    injection h2 with h2
    injection h2 with _ h2
    obtain rfl : j = 3 := by omega
    cases h3
  · rw [if_neg h] at h2; cases h2

def lenW (k W : Nat) : Nat := if W ≤ k then k - 1 else k
def itW (W j : Nat) : Int := if j + 1 < W then (j : Int) + 1 else (j : Int) + 2
def Lw (k W : Nat) : List Int := (List.range (lenW k W)).map (itW W)
theorem Lw_len (k W : Nat) : (Lw k W).length = lenW k W := by simp [Lw]
theorem Lw_at {k W j : Nat} (h : j < (Lw k W).length) : (Lw k W)[j] = itW W j := by simp [Lw]
theorem Lw_up (k W : Nat) : (Lw k W).Pairwise (· < ·) := by
  unfold Lw
  rw [List.pairwise_map]
  refine List.pairwise_lt_range.imp fun {a b} h => ?_
  unfold itW
  split <;> split <;> omega
theorem Lw_mem {k W : Nat} (h1 : 1 ≤ W) (h2 : W ≤ k + 1) (x : Int) : x ∈ Lw k W ↔ (1 ≤ x ∧ x ≤ k ∧ x ≠ W) := by
  unfold Lw
  rw [List.mem_map]
  constructor
  · rintro ⟨j, hj, rfl⟩
    rw [List.mem_range] at hj
    unfold lenW at hj
    unfold itW
    split at hj <;> split <;> omega
  · rintro ⟨a, b, c⟩
    by_cases e : x < W
    · refine ⟨(x - 1).toNat, ?_, ?_⟩
      · rw [List.mem_range]; unfold lenW; split <;> omega
      · unfold itW; rw [if_pos (by omega)]; omega
    · refine ⟨(x - 2).toNat, ?_, ?_⟩
      · rw [List.mem_range]; unfold lenW; split <;> omega
      · unfold itW; rw [if_neg (by omega)]; omega
/-- Those that read, from 1 on. -/
def L1 (k : Nat) : List Int := (List.range k).map fun j : Nat => (j : Int) + 1
theorem L1_len (k : Nat) : (L1 k).length = k := by simp [L1]
theorem L1_nodup (k : Nat) : (L1 k).Nodup := by
  unfold L1
  refine List.pairwise_map.2 (List.pairwise_lt_range.imp fun {a b} h e => ?_)
  omega
theorem L1_mem (k : Nat) (x : Int) : x ∈ L1 k ↔ 1 ≤ x ∧ x ≤ k := by
  unfold L1
  rw [List.mem_map]
  constructor
  · rintro ⟨j, hj, rfl⟩
    rw [List.mem_range] at hj
    omega
  · rintro ⟨a, b⟩
    exact ⟨(x - 1).toNat, by rw [List.mem_range]; omega, by omega⟩
def lvN : Value → Nat
  | .int _ n => n.toNat
  | _ => 0

set_option maxRecDepth 100000 in
set_option maxHeartbeats 2000000 in
theorem readers_walk (w : World) (T : Tb w) (hB : 2 ≤ w.heap.size) (a u : Nat) (hu : u < 256) : Calls Tryd.prog 3 #[.int .u8 (a : Int), .int .u8 (u : Int)] w fun e w' => e = .returned (.bool true) ∧ Below w.heap.size w w' := by
  have ea := Nat.mod_lt a (by decide : 6 > 0)
  have ra : (a : Int) % 6 = ((a % 6 : Nat) : Int) := by simp
  generalize a % 6 = x at *
  obtain ⟨k, hk, sx⟩ : ∃ m : Nat, (1 ≤ m ∧ m ≤ 6) ∧ (1 : Int) + (x : Int) = (m : Int) := ⟨1 + x, by omega, by omega⟩
  have CB := begun_any w T hB
  go_enter Tryd.func3, Tryd.ntmps3
  go_upto_region 3 with (first | (go_at_call 5; refine CB.mono ?_; rintro e w0 ⟨rfl, hb0⟩))
  have T0 := T.below hb0 hB
  have hB0 := Nat.le_trans hB hb0.size
  have CN := new_lk w0 T0 hB0
  have HB0 := Lib.hid hb0
  clear CB hb0
  go_upto_region 5 with (first | (go_at_call 6; refine CN.mono ?_; rintro e w1 ⟨rfl, h1, hb1⟩))
  have HB1 : Hid (Below w.heap.size w w1) := HB0.out.trans (hb1.mono HB0.out.size)
  have HBB : Hid (w.heap.size ≤ w0.heap.size) := HB0.out.size
  have H1 := Lib.hid h1
  have HK := Lib.hid hk
  clear CN h1 hb1 HB0 T0 hB0 ra sx ea
  generalize w0.heap.size + 2 = p at *
  generalize w0.heap.size + 1 = bn at *
  generalize w0.heap.size = B at *
  clear hk
  go_wp2_with fail
  go_loopw [7] (fun v wr => Hid (∃ (i j : Nat) (om on : Lit → Option Nat), j = i + 1 ∧ i ≤ k ∧ v = .int .i64 (j : Int) ∧ LkAt wr B p B bn (4 * i) (Rd i) (Nd i) om on ∧ Below w.heap.size w wr)) (fun v _ => k + 1 - lvN v)
  case atStart => exact ⟨0, 1, _, _, rfl, Nat.zero_le _, rfl, H1.out, HB1.out⟩
  case round =>
    obtain ⟨i, j, om, on, hj, hi, rfl, hL, hb⟩ := hrel.out
    clear hrel H1 HB1
    have H := Lib.hid hL
    have HB := Lib.hid hb
    clear hL hb
    have hk6 := HK.out
    by_cases hlt : i < k
    · have hjk : (j : Int) ≤ (k : Int) := by omega
      have CA := ask_ok wr H.out (s := nA) nA_size (i := (j : Int)) (wf_small (by omega) (by omega)) (a := 3) (by decide) (by decide) (by omega) (q := 3) (by rw [mN_none (by rw [rd_at, if_neg (by omega)])]; rfl) (fun x hx => rd_free hx)
      unfold nA at CA
      have HJ : Hid (j = i + 1 ∧ i < k ∧ j ≤ 6) := ⟨hj, hlt, by omega⟩
      have hj6 : j ≤ 6 := by omega
      clear hj hi hlt H hk6
      go_wp2_with (first | (go_at_call 7; refine CA.mono ?_; rintro e w2 ⟨rfl, om2, on2, h2, hb2⟩))
      have HR : Hid (LkAt w2 B p B bn (4 * (i + 1)) (Rd (i + 1)) (Nd (i + 1)) om2 on2) := by
        have e1 : 4 * i + 4 = 4 * (i + 1) := by omega
        rw [← e1]
        unfold Rd Nd
        rw [← HJ.out.1]
        exact h2
      have HBR : Hid (Below w.heap.size w w2) := HB.out.trans (hb2.mono HBB.out)
      clear h2 hb2 CA
      go_roundw
      case rel => exact ⟨i + 1, j + 1, om2, on2, by rw [HJ.out.1], HJ.out.2.1, by go_num, HR.out, HBR.out⟩
      case measure => have := HJ.out; simp [lvN]; omega
    · have hjk : ¬ (j : Int) ≤ (k : Int) := by omega
      obtain rfl : i = k := by omega
      clear hlt hi hj
      have hkk := hk6
      generalize i = k at *
      obtain ⟨k1, hk1, ek1⟩ : ∃ k1 : Nat, k1 = k + 1 ∧ (k : Int) + 1 = (k1 : Int) := ⟨k + 1, rfl, by omega⟩
      have hr := Nat.mod_lt u (show k1 > 0 by omega)
      have er : (u : Int) % (k1 : Int) = ((u % k1 : Nat) : Int) := by simp
      have hz : ¬ (k1 : Int) = 0 := by omega
      generalize u % k1 = r at *
      obtain ⟨W, hW, eW⟩ : ∃ W : Nat, (1 ≤ W ∧ W ≤ k + 1) ∧ (1 : Int) + (r : Int) = (W : Int) := ⟨1 + r, by omega, by omega⟩
      have HW := Lib.hid hW
      have HK1 := Lib.hid hk6
      clear hk1 hW hk6
      go_upto_region 12 with fail
      have hW := HW.out
      clear er ek1 hz eW hr hjk
      by_cases al : k = 1 ∧ W = 1
      · have CA := ask_ok wr H.out (s := nA) nA_size (i := (W : Int)) (wf_small (by omega) (by omega)) (a := 4) (by decide) (by decide) (by omega) (q := 4) (by rw [mN_of (k := 3) (by rw [rd_at, if_pos (by omega)])]; rfl) (fun x hx => by have := (rd_cond rfl).1 hx; omega)
        unfold nA at CA
        have HAL := Lib.hid al
        clear al hkk hW
        go_upto_region 13 with (first | (go_at_call 7; refine CA.mono ?_; rintro e w2 ⟨rfl, om2, on2, h2, hb2⟩))
        have hb3 : Below w.heap.size w w2 := HB.out.trans (hb2.mono HBB.out)
        have h2' : LkAt w2 B p B bn (4 * k + 4) (upd2 (Rd k) (sL nA) (iL (W : Int)) (.int .i64 ((4 : Nat) : Int))) (upd2 (Nd k) (iL (W : Int)) (sL nA) (.agg #[])) om2 on2 := h2
        obtain ⟨cM, hcM⟩ := get_on h2'.m (upd2_same (Rd k) (sL nA) (iL (W : Int)) (.int .i64 ((4 : Nat) : Int)))
        have CH := holders_any w2 h2' (max_size nA_size) (by have := HK1.out; omega) hcM (L := L1 k) (L1_nodup k) (fun x => by
          have := HAL.out
          rw [L1_mem]
          by_cases e : x = (W : Int)
          · subst e; rw [upd2_same]; simp; omega
          · rw [upd2_in _ _ (iL_ne e), rd_at, if_neg (by omega)]; simp; omega)
        rw [L1_len] at CH
        unfold nA at CH
        have HB3 := Lib.hid hb3
        clear hb2 hb3 h2 h2' CA H HB
        have hkI : (k : Int) = 1 := by have := HAL.out; omega
        have hWI : (W : Int) = 1 := by have := HAL.out; omega
        go_wp2_with fail
        refine wp_loop_rounds 2 ?_
        rw [rounds_succ]
        go_wp2_with fail
        rw [rounds_succ]
        go_wp2_with (first | (go_at_call 8; refine CH.mono ?_; rintro e w3 ⟨pt, cp, rfl, hb4⟩))
        go_ret
        exact ⟨rfl, HB3.out.trans (hb4.mono HB3.out.size)⟩
      · obtain ⟨x0, hx0⟩ : ∃ x0 : Int, 1 ≤ x0 ∧ x0 ≤ k ∧ x0 ≠ (W : Int) := by
          by_cases e : W = 1
          · exact ⟨2, by omega, by omega, by omega⟩
          · exact ⟨1, by omega, by omega, by omega⟩
        have hq : jN 4 (mN (Rd k) (sL nA) (iL (W : Int))) = 4 := by
          by_cases e : W ≤ k
          · rw [mN_of (k := 3) (by rw [rd_at, if_pos (by omega)])]; rfl
          · rw [mN_none (by rw [rd_at, if_neg (by omega)])]; rfl
        have CA := ask_no wr H.out (s := nA) nA_size (i := (W : Int)) (wf_small (by omega) (by omega)) (a := 4) (by decide) (by decide) (by omega) (q := 4) hq (x0 := x0) ((rd_cond rfl).2 hx0)
        unfold nA at CA
        have HAL := Lib.hid al
        clear al hkk hW hq hx0
        go_upto_region 13 with (first | (go_at_call 7; refine CA.mono ?_; rintro e w2 ⟨v, L, rfl, hWy, hS, hb2⟩))
        obtain rfl : L = Lw k W := Ways.eq hWy (Lw_up k W) (fun x => (Lw_mem HW.out.1 HW.out.2 x).trans (rd_cond rfl).symm)
        have hlen : 0 < (Lw k W).length := by
          have h1 := HAL.out
          have h2 := HW.out
          have h3 := HK1.out
          rw [Lw_len]
          unfold lenW
          split <;> omega
        obtain ⟨g, cap, cur, rfl, hg1, hg2, hg3, hg4⟩ := hS.pos2 hlen
        have h2' := H.out.on_ hb2
        have hb3 : Below w.heap.size w w2 := HB.out.trans (hb2.mono HB.out.size)
        obtain ⟨cM, hcM⟩ := get_on h2'.m (l := sL nA) (j := iL 1) (v := .int .i64 ((3 : Nat) : Int)) (by rw [rd_at, if_pos (by have := HK1.out; omega)])
        have CH := holders_any w2 h2' (max_size nA_size) (by have := HK1.out; omega) hcM (L := L1 k) (L1_nodup k) (fun x => by
          rw [L1_mem, rd_at]
          by_cases e : 1 ≤ x ∧ x ≤ k
          · rw [if_pos e]; simp [e]
          · rw [if_neg e]; simp; omega)
        rw [L1_len] at CH
        unfold nA at CH
        have HC : Hid (∀ j : Nat, j < lenW k W → w2.cell? ⟨g, j, none⟩ = some (.int .i64 (itW W j))) := fun j hj => by
          have hj' : j < (Lw k W).length := by rw [Lw_len]; exact hj
          rw [(cell_of hg3 j).1, hg4 j hj', Lw_at hj']
        rw [Lw_len]
        have HB3 := Lib.hid hb3
        have hlc : (lenW k W : Int) ≤ (cap : Int) := by
          rcases hS.2 with ⟨h0, _⟩ | ⟨g', cap', cur', hv, _, _, h1, _⟩
          · cases h0
          · injection hv with e1 e2 e3
            subst e3
            rw [Lw_len] at h1
            omega
        clear hb2 hb3 h2' CA H HB hWy hS hlen hg1 hg2 hg3 hg4
        go_cut [13] (fun u wx => u = .bool false ∧ w2 = wx)
        case first =>
          have h1 := HAL.out
          by_cases e : k = 1
          · have hkI : (k : Int) = 1 := by omega
            have hWI : ((W : Int) == 1) = false := by simp; omega
            clear h1 e
            go_wp2_with fail
            go_meet
            exact ⟨rfl, rfl⟩
          · have hkI : ¬ (k : Int) = 1 := by omega
            clear h1 e
            go_wp2_with fail
            go_meet
            exact ⟨rfl, rfl⟩
        case rest =>
          obtain ⟨rfl, hwx⟩ := hcut
          obtain rfl := hwx
          go_wp2_with fail
          go_loopw [14, 15] (fun a b wr => Hid (∃ i c : Nat, 1 ≤ i ∧ i ≤ k + 1 ∧ c = (if i ≤ W then i - 1 else i - 2) ∧ a = .int .i64 (c : Int) ∧ b = .int .i64 (i : Int) ∧ wr = w2)) (fun _ b _ => k + 1 - lvN b)
          case atStart => exact ⟨1, 0, by decide, by have := HK1.out; omega, by rw [if_pos HW.out.1], rfl, rfl, rfl⟩
          case round =>
            obtain ⟨i, c, hi1, hi2, hc, rfl, rfl, hwr⟩ := hrel.out
            obtain rfl := hwr
            clear hrel
            have hW := HW.out
            have hk6 := HK1.out
            have hi7 : i ≤ 7 := by omega
            by_cases hlt : i ≤ k
            · have hlI : (i : Int) ≤ (k : Int) := by omega
              by_cases e : i = W
              · subst e
                have HI : Hid (1 ≤ i ∧ i ≤ k ∧ c = i - 1) := ⟨hi1, hlt, by rw [hc, if_pos (Nat.le_refl _)]⟩
                clear hc hi1 hi2 hlt hW hk6
                go_wp2_with fail
                go_roundw
                case rel => exact ⟨i + 1, c, by omega, by have := HI.out; omega, by rw [if_neg (by omega)]; have := HI.out; omega, rfl, by go_num, trivial⟩
                case measure => have := HI.out; simp [lvN]; omega
              · have eI : ((i : Int) == (W : Int)) = false := by simp; omega
                have hcl : c < lenW k W := by unfold lenW; rw [hc]; split <;> split <;> omega
                have hcell := HC.out c hcl
                have hit : itW W c = (i : Int) := by unfold itW; rw [hc]; split <;> split <;> omega
                rw [hit] at hcell
                have hclI : ¬ (lenW k W : Int) ≤ (c : Int) := by omega
                have hclJ : (c : Int) < (lenW k W : Int) := by omega
                have hc7 : c ≤ 7 := by rw [hc]; split <;> omega
                have HI : Hid (1 ≤ i ∧ i ≤ k ∧ c = (if i ≤ W then i - 1 else i - 2) ∧ i ≠ W) := ⟨hi1, hlt, hc, e⟩
                clear hit hc hi1 hi2 hlt hW e
                generalize lenW k W = q at *
                go_wp2_with fail
                go_roundw
                case rel => exact ⟨i + 1, c + 1, by omega, by have := HI.out; omega, by
                  obtain ⟨a1, a2, a3, a4⟩ := HI.out
                  have a5 := HW.out
                  rw [a3]
                  split <;> split <;> omega, by go_num, by go_num, trivial⟩
                case measure =>
                  obtain ⟨a1, a2, _, _⟩ := HI.out
                  simp [lvN]
                  omega
            · have hlI : ¬ (i : Int) ≤ (k : Int) := by omega
              obtain rfl : c = lenW k W := by unfold lenW; rw [hc]; split <;> split <;> omega
              clear hc hi1 hi2 hlt hW hk6
              generalize lenW k W = q at *
              go_wp2_with (first | (go_at_call 8; refine CH.mono ?_; rintro e w3 ⟨pt, cp, rfl, hb4⟩))
              go_ret
              exact ⟨rfl, HB3.out.trans (hb4.mono HB3.out.size)⟩
end Go.Proofs.YtlphbnjoopaboaaDoor
