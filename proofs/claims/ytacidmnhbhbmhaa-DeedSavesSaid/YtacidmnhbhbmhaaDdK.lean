/- DeedBack's walk: what comes back is what was pushed since, the newest first, and once. -/
import Derived.Test.YtacidmnhbhbmhaaDdL
namespace Go.Proofs.Ytacidmnhbhbmhaa
open Go.RowKit

def rg (n : Nat) : List Int := (List.range n).map fun k : Nat => (k : Int)
theorem rg_len (n : Nat) : (rg n).length = n := by simp [rg]
theorem rg_succ (n : Nat) : rg n ++ [(n : Int)] = rg (n + 1) := by simp [rg, List.range_succ]
theorem rg_get (n j : Nat) (h : j < (rg n).length) : (rg n)[j] = (j : Int) := by simp [rg]
theorem rg_take {n t : Nat} (h : t ≤ n) : (rg n).take t = rg t := by
  apply List.ext_getElem
  · rw [List.length_take, rg_len, rg_len]; omega
  · intro i h1 h2
    rw [List.getElem_take, rg_get, rg_get]
theorem rg_back {n t j : Nat} (ht : t ≤ n) (hj : j < n - t) : (intV ((rg n).drop t).reverse)[j]? = some (.int .i64 ((n : Int) - 1 - (j : Int))) := by
  have hl : ((rg n).drop t).length = n - t := by rw [List.length_drop, rg_len]
  unfold intV
  rw [List.getElem?_map, List.getElem?_reverse (by omega), hl, List.getElem?_drop, List.getElem?_eq_getElem (by rw [rg_len]; omega), rg_get]
  simp only [Option.map_some]
  congr 2
  omega
/-- Its savepoints ahead of push i. -/
def bS (x d i : Nat) : Nat → Int := fun k => if k = 0 then (if x < i then (x : Int) else -1) else if k = 1 then (if d < i then (d : Int) else -1) else -1
def bF (x d : Nat) : Nat → Int := fun k => if k = 0 then (x : Int) else if k = 1 then (d : Int) else -1
theorem Mine.congr {w0 w : World} {p : Nat} {L L' : List Int} {S S' : Nat → Int} (h : Mine w0 w p L S) (hL : L = L') (hS : ∀ i, i < 4 → S i = S' i) : Mine w0 w p L' S' := by
  obtain ⟨b, g, v, h1⟩ := h.ex
  subst hL
  exact ⟨⟨b, g, v, h1.congr hS⟩, h.be⟩
theorem msaveL {w0 w : World} {p : Nat} {L : List Int} {S : Nat → Int} (h : Mine w0 w p L S) {n : Nat} (hn : n < 4) {k : Int} (hk : k = (n : Int)) :
    Calls Try.prog 8 #[.pointer (some ⟨p, 0, none⟩), .int .i64 k] w fun e w' => e = .returned (.bool true) ∧ Mine w0 w' p L (upS S n (L.length : Int)) := by
  subst hk
  exact msave h hn
theorem four {P : Nat → Prop} (h0 : P 0) (h1 : P 1) (h2 : P 2) (h3 : P 3) : ∀ i, i < 4 → P i := fun i hi => by
  rcases (by omega : i = 0 ∨ i = 1 ∨ i = 2 ∨ i = 3) with rfl | rfl | rfl | rfl <;> assumption

set_option maxRecDepth 100000 in
set_option maxHeartbeats 4000000 in
theorem back_walk (w : World) (a b c : Nat) (ha : a < 256) (hb : b < 256) (hc : c < 256) (second : Bool) :
    Calls Try.prog 4 #[.int .u8 (a : Int), .int .u8 (b : Int), .int .u8 (c : Int), .bool second] w fun e w' => e = .returned (.bool true) ∧ Below w.heap.size w w' := by
  have ea := Nat.mod_lt a (by decide : 9 > 0)
  have eb := Nat.mod_lt b (by decide : 9 > 0)
  have ec := Nat.mod_lt c (by decide : 9 > 0)
  have ra : (a : Int) % 9 = ((a % 9 : Nat) : Int) := by simp
  have rb : (b : Int) % 9 = ((b % 9 : Nat) : Int) := by simp
  have rc : (c : Int) % 9 = ((c % 9 : Nat) : Int) := by simp
  generalize a % 9 = x at *
  generalize b % 9 = y at *
  generalize c % 9 = z at *
  obtain ⟨d, hd⟩ : ∃ d, x + y = d := ⟨_, rfl⟩
  obtain ⟨m, hm⟩ : ∃ m, d + z = m := ⟨_, rfl⟩
  have sd : (x : Int) + (y : Int) = (d : Int) := by omega
  have sm : (d : Int) + (z : Int) = (m : Int) := by omega
  have xd : (d : Int) < 30 := by omega
  have xm : (m : Int) < 30 := by omega
  have CB := begun_any w
  go_enter Try.func4, Try.ntmps4
  go_upto_region 3 with (first | (go_at_call 6; refine CB.mono ?_; rintro e w0 ⟨rfl, hb0⟩))
  have CN := mnew w w0 hb0
  go_upto_region 4 with (first | (go_at_call 7; refine CN.mono ?_; rintro e w1 ⟨p, rfl, h1⟩))
  go_upto_region 6 with fail
  have H1 := Lib.hid h1
  have HX : Hid (x < 9 ∧ y < 9 ∧ z < 9 ∧ x + y = d ∧ d + z = m) := ⟨ea, eb, ec, hd, hm⟩
  have HM : Hid (m < 30) := Lib.hid (show m < 30 by omega)
  clear CB CN hb0 h1 ra rb rc ea eb ec hd hm ha hb hc
  go_loopw [13] (fun iv wr => Hid (∃ i : Nat, i ≤ m ∧ iv = .int .i64 (i : Int) ∧ Mine w wr p (rg i) (bS x d i))) (fun iv _ => m - ivN iv)
  case atStart => exact ⟨0, Nat.zero_le _, rfl, H1.out.congr rfl (four (by simp [none4, bS]) (by simp [none4, bS]) rfl rfl)⟩
  case round =>
    obtain ⟨i, hi, rfl, h⟩ := hrel.out
    clear hrel H1
    have hi0 : 0 ≤ (i : Int) := by omega
    by_cases hlt : i < m
    · have hltI : (i : Int) < (m : Int) := by omega
      have HI := Lib.hid hlt
      have hi30 : (i : Int) < 30 := by have := HM.out; omega
      have HH := Lib.hid h
      clear h hi hlt
      have hend : ∀ wx S', Mine w wx p (rg i) S' → (∀ k, k < 4 → S' k = bS x d (i + 1) k) → Calls Try.prog 13 #[.pointer (some ⟨p, 0, none⟩), .int .i64 (i : Int)] wx fun e w' => e = .returned (.tuple #[]) ∧ Mine w w' p (rg (i + 1)) (bS x d (i + 1)) := fun wx S' h hS =>
        (mpush (h.congr rfl hS) (by rw [rg_len]; have := HI.out; have := HM.out; omega) (i : Int)).mono fun e w' ⟨he, h⟩ => ⟨he, h.congr (rg_succ i) fun _ _ => rfl⟩
      have HE := Lib.hid hend
      clear hend
      by_cases e1 : i = x
      · have b1 : ((i : Int) == (x : Int)) = true := by simp [e1]
        have E1 := Lib.hid e1
        have C0 := msaveL HH.out (n := 0) (by decide) (k := 0) rfl
        by_cases e2 : i = d
        · have b2 : ((i : Int) == (d : Int)) = true := by simp [e2]
          have E2 := Lib.hid e2
          have HQ : Hid (∀ k, k < 4 → (upS (upS (bS x d i) 0 ((rg i).length : Int)) 1 ((rg i).length : Int)) k = bS x d (i + 1) k) := by
            have := HX.out
            refine Lib.hid (four ?_ ?_ ?_ ?_) <;> simp [upS, bS, rg_len] <;> omega
          clear e1 e2
          go_wp2_with (first | (go_at_call 8; first | (with_reducible refine C0.mono ?_; rintro e w2 ⟨rfl, h2⟩; have C1 := msaveL h2 (n := 1) (by decide) (k := 1) rfl) | (with_reducible refine C1.mono ?_; rintro e w3 ⟨rfl, h3⟩)) | (go_at_call 13; refine (HE.out _ _ h3 HQ.out).mono ?_; rintro e w4 ⟨rfl, h4⟩))
          exact ⟨⟨i + 1, HI.out, rfl, h4⟩, by have := HI.out; simp only [ivN]; omega⟩
        · have b2 : ((i : Int) == (d : Int)) = false := by simp; omega
          have E2 := Lib.hid e2
          have HQ : Hid (∀ k, k < 4 → (upS (bS x d i) 0 ((rg i).length : Int)) k = bS x d (i + 1) k) := by
            have := HX.out
            refine Lib.hid (four ?_ ?_ ?_ ?_) <;> simp [upS, bS, rg_len] <;> omega
          clear e1 e2
          go_wp2_with (first | (go_at_call 8; with_reducible refine C0.mono ?_; rintro e w2 ⟨rfl, h2⟩) | (go_at_call 13; refine (HE.out _ _ h2 HQ.out).mono ?_; rintro e w4 ⟨rfl, h4⟩))
          exact ⟨⟨i + 1, HI.out, rfl, h4⟩, by have := HI.out; simp only [ivN]; omega⟩
      · have b1 : ((i : Int) == (x : Int)) = false := by simp; omega
        have E1 := Lib.hid e1
        by_cases e2 : i = d
        · have b2 : ((i : Int) == (d : Int)) = true := by simp [e2]
          have E2 := Lib.hid e2
          have C1 := msaveL HH.out (n := 1) (by decide) (k := 1) rfl
          have HQ : Hid (∀ k, k < 4 → (upS (bS x d i) 1 ((rg i).length : Int)) k = bS x d (i + 1) k) := by
            have := HX.out
            refine Lib.hid (four ?_ ?_ ?_ ?_) <;> simp [upS, bS, rg_len] <;> omega
          clear e1 e2
          go_wp2_with (first | (go_at_call 8; with_reducible refine C1.mono ?_; rintro e w2 ⟨rfl, h2⟩) | (go_at_call 13; refine (HE.out _ _ h2 HQ.out).mono ?_; rintro e w4 ⟨rfl, h4⟩))
          exact ⟨⟨i + 1, HI.out, rfl, h4⟩, by have := HI.out; simp only [ivN]; omega⟩
        · have b2 : ((i : Int) == (d : Int)) = false := by simp; omega
          have E2 := Lib.hid e2
          have HQ : Hid (∀ k, k < 4 → (bS x d i) k = bS x d (i + 1) k) := by
            have := HX.out
            refine Lib.hid (four ?_ ?_ ?_ ?_) <;> simp [bS] <;> omega
          clear e1 e2
          go_wp2_with (first | (go_at_call 13; refine (HE.out _ _ HH.out HQ.out).mono ?_; rintro e w4 ⟨rfl, h4⟩))
          exact ⟨⟨i + 1, HI.out, rfl, h4⟩, by have := HI.out; simp only [ivN]; omega⟩
    · have him : i = m := by omega
      subst him
      have HH := Lib.hid h
      clear h hi hlt
      go_upto_region 11 with fail
      go_cut [87] (fun uv wx => uv = .bool false ∧ Hid (Mine w wx p (rg i) (bF x d)))
      case first =>
        by_cases e1 : i = x
        · have b1 : ((i : Int) == (x : Int)) = true := by simp [e1]
          have b2 : ((z : Int) == 0) = true := by have := HX.out; simp; omega
          have C0 := msaveL HH.out (n := 0) (by decide) (k := 0) rfl
          have HQ : Hid (∀ k, k < 4 → (upS (upS (bS x d i) 0 ((rg i).length : Int)) 1 ((rg i).length : Int)) k = bF x d k) := by
            have := HX.out
            refine Lib.hid (four ?_ ?_ ?_ ?_) <;> simp [upS, bS, bF, rg_len] <;> omega
          clear e1
          go_wp2_with (first | (go_at_call 8; first | (with_reducible refine C0.mono ?_; rintro e w2 ⟨rfl, h2⟩; have C1 := msaveL h2 (n := 1) (by decide) (k := 1) rfl) | (with_reducible refine C1.mono ?_; rintro e w3 ⟨rfl, h3⟩)))
          go_meet
          exact ⟨rfl, h3.congr rfl HQ.out⟩
        · have b1 : ((i : Int) == (x : Int)) = false := by simp; omega
          by_cases e2 : z = 0
          · have b2 : ((z : Int) == 0) = true := by simp [e2]
            have C1 := msaveL HH.out (n := 1) (by decide) (k := 1) rfl
            have HQ : Hid (∀ k, k < 4 → (upS (bS x d i) 1 ((rg i).length : Int)) k = bF x d k) := by
              have := HX.out
              refine Lib.hid (four ?_ ?_ ?_ ?_) <;> simp [upS, bS, bF, rg_len] <;> omega
            clear e1 e2
            go_wp2_with (first | (go_at_call 8; with_reducible refine C1.mono ?_; rintro e w2 ⟨rfl, h2⟩))
            go_meet
            exact ⟨rfl, h2.congr rfl HQ.out⟩
          · have b2 : ((z : Int) == 0) = false := by simp; omega
            have HQ : Hid (∀ k, k < 4 → bS x d i k = bF x d k) := by
              have := HX.out
              refine Lib.hid (four ?_ ?_ ?_ ?_) <;> simp [bS, bF] <;> omega
            clear e1 e2
            go_wp2
            go_meet
            exact ⟨rfl, HH.out.congr rfl HQ.out⟩
      case rest =>
        obtain ⟨rfl, h5⟩ := hcut
        have H5 := h5
        clear h5 HH
        go_upto_if 89 with fail
        go_cut [14, 15] (fun nv tv wx => wx = wc ∧ ∃ n t : Nat, nv = .int .i64 (n : Int) ∧ tv = .int .i64 (t : Int) ∧ n = second.toNat ∧ t = if second then d else x)
        case first =>
          cases second with
          | false =>
            go_wp2
            go_meet
            exact ⟨rfl, 0, x, rfl, rfl, rfl, rfl⟩
          | true =>
            go_wp2
            go_meet
            exact ⟨rfl, 1, d, rfl, rfl, rfl, rfl⟩
        case rest =>
          obtain ⟨rfl, n, t, rfl, rfl, hn, ht⟩ := hcut
          have hx := HX.out
          have hn4 : n < 4 := by rw [hn]; cases second <;> decide
          have hti : t ≤ i := by rw [ht]; cases second <;> simp <;> omega
          have hS : bF x d n = (t : Int) := by rw [hn, ht]; cases second <;> simp [bF]
          have CK := mback H5.out (by rw [rg_len]; omega) hn4 hS (by rw [rg_len]; exact hti)
          obtain ⟨u, hu⟩ : ∃ u, i - t = u := ⟨_, rfl⟩
          have su : (i : Int) - (t : Int) = (u : Int) := by omega
          have xt : (t : Int) < 30 := by omega
          have xu : (u : Int) < 30 := by omega
          rw [rg_len, rg_take hti, hu] at CK
          have HN := Lib.hid hn
          have HT := Lib.hid ht
          have HTI := Lib.hid hti
          have HS := Lib.hid hS
          have HU := Lib.hid hu
          have HN4 := Lib.hid hn4
          clear hn ht hti hS hu hn4 H5 hx
          go_upto_region 17 with (first | (go_at_call 10; refine CK.mono ?_; rintro e w5 ⟨lv, rfl, ho, h6⟩))
          obtain ⟨A5, c5, rfl⟩ := own_sl ho
          have CL := mlen h6
          rw [rg_len] at CL
          have HO := Lib.hid ho
          have H6 := Lib.hid h6
          clear CK ho h6
          go_upto_region 20 with (first | (go_at_call 17; refine CL.mono ?_; rintro e w6 ⟨rfl, hw⟩; obtain rfl := hw.symm; clear hw))
          clear CL
          go_loopw [18] (fun jv wr2 => Hid (∃ j : Nat, j ≤ u ∧ jv = .int .i64 (j : Int) ∧ wr2.ownsRow wc.heap.size 3 1 (.slice A5 u c5) u (intV ((rg i).drop t).reverse) ∧ Mine w wr2 p (rg t) (cutS (bF x d) t))) (fun jv _ => u - ivN jv)
          case atStart => exact ⟨0, Nat.zero_le _, rfl, HO.out, H6.out⟩
          case round =>
            obtain ⟨j, hj, rfl, ho, h6⟩ := hrel.out
            clear hrel HO H6
            have hj0 : 0 ≤ (j : Int) := by omega
            by_cases hlt : j < u
            · obtain ⟨q, xv, rfl, hq1, hq2, hx, hc⟩ := own_at ho j hlt
              have hxe := rg_back (n := i) (t := t) (j := j) HTI.out (by have := HU.out; omega)
              rw [hxe] at hx
              obtain rfl : xv = .int .i64 ((i : Int) - 1 - (j : Int)) := (Option.some.inj hx).symm
              have hltI : (j : Int) < (u : Int) := by omega
              obtain ⟨r, hr⟩ : ∃ r : Int, (i : Int) - 1 - (j : Int) = r := ⟨_, rfl⟩
              rw [hr] at hc
              have HO := Lib.hid ho
              have H6 := Lib.hid h6
              have HJ := Lib.hid hlt
              clear hx hxe ho h6 hj hlt
              go_wp2
              exact ⟨⟨j + 1, HJ.out, rfl, HO.out, H6.out⟩, by have := HJ.out; simp only [ivN]; omega⟩
            · have hju : j = u := by omega
              have hx := HX.out
              have hS2 : cutS (bF x d) t n = (t : Int) := by unfold cutS; rw [HS.out, if_neg (by omega)]
              have CK := mback h6 (by rw [rg_len]; omega) HN4.out hS2 (by rw [rg_len]; omega)
              rw [rg_len, Nat.sub_self] at CK
              have hoth : ∀ w7, Mine w w7 p ((rg t).take t) (cutS (cutS (bF x d) t) t) → Calls Try.prog 10 #[.pointer (some ⟨p, 0, none⟩), .int .i64 (1 - (n : Int))] w7 fun e w' => ∃ A m c L S, e = .returned (.tuple #[.slice A m c, .bool (second || decide (y = 0))]) ∧ Mine w w' p L S := by
                intro w7 h7
                have h8 := HN.out
                have h9 := HT.out
                have hl7 : ((rg t).take t).length = t := by rw [rg_take (Nat.le_refl _), rg_len]
                cases second with
                | true =>
                  have e1 : t = d := h9
                  have e2 : n = 1 := h8
                  subst e1 e2
                  refine (mback h7 (n := 0) (t := x) (by omega) (by decide) (by simp [cutS, bF]; omega) (by omega)).mono fun e w' ⟨lv, he, ho, h⟩ => ?_
                  obtain ⟨A, c, rfl⟩ := own_sl ho
                  exact ⟨A, _, c, _, _, he, h⟩
                | false =>
                  have e1 : t = x := h9
                  have e2 : n = 0 := h8
                  subst e1 e2
                  by_cases hy : y = 0
                  · have e3 : d = t := by omega
                    subst e3
                    rw [show (false || decide (y = 0)) = true by simp [hy]]
                    refine (mback h7 (n := 1) (t := d) (by omega) (by decide) (by simp [cutS, bF]) (by omega)).mono fun e w' ⟨lv, he, ho, h⟩ => ?_
                    obtain ⟨A, c, rfl⟩ := own_sl ho
                    exact ⟨A, _, c, _, _, he, h⟩
                  · rw [show (false || decide (y = 0)) = false by simp [hy]]
                    refine (mback_no h7 (n := 1) ?_).mono fun e w' ⟨he, hw⟩ => ⟨_, _, _, _, _, he, hw ▸ h7⟩
                    simp only [svB, cutS, bF]
                    simp
                    omega
              have HOTH := Lib.hid hoth
              clear ho h6 hj hlt hS2 hoth hx
              subst hju
              go_upto_region 25 with (first | (go_at_call 10; refine CK.mono ?_; rintro e w7 ⟨l7, rfl, ho7, h7⟩))
              obtain ⟨A7, c7, rfl⟩ := own_sl ho7
              have CO := HOTH.out _ h7
              have hn0 : 0 ≤ (n : Int) := by omega
              have hn2 : (n : Int) < 4 := by have := HN4.out; omega
              clear CK ho7 h7 HOTH
              cases second with
              | true =>
                simp only [Bool.true_or] at CO
                go_upto_region 26 with (first | (go_at_call 10; refine CO.mono ?_; rintro e w8 ⟨A8, m8, c8, L8, S8, rfl, h8⟩))
                have C4 := save_no w8 ⟨p, 0, none⟩ 4 (Or.inr (by decide))
                have C5 := save_no w8 ⟨p, 0, none⟩ (-1) (Or.inl (by decide))
                have H8 := Lib.hid h8
                clear CO h8
                go_wp2_with (first | (go_at_call 8; first | (with_reducible refine C4.mono ?_; rintro e w9 ⟨rfl, hw⟩; obtain rfl := hw.symm; clear hw) | (with_reducible refine C5.mono ?_; rintro e w9 ⟨rfl, hw⟩; obtain rfl := hw.symm; clear hw)))
                go_ret
                exact ⟨rfl, H8.out.be⟩
              | false =>
                simp only [Bool.false_or] at CO
                by_cases hy : y = 0
                · have by0 : ((y : Int) == 0) = true := by simp [hy]
                  rw [decide_eq_true hy] at CO
                  clear hy
                  go_upto_region 26 with (first | (go_at_call 10; refine CO.mono ?_; rintro e w8 ⟨A8, m8, c8, L8, S8, rfl, h8⟩))
                  have C4 := save_no w8 ⟨p, 0, none⟩ 4 (Or.inr (by decide))
                  have C5 := save_no w8 ⟨p, 0, none⟩ (-1) (Or.inl (by decide))
                  have H8 := Lib.hid h8
                  clear CO h8
                  go_wp2_with (first | (go_at_call 8; first | (with_reducible refine C4.mono ?_; rintro e w9 ⟨rfl, hw⟩; obtain rfl := hw.symm; clear hw) | (with_reducible refine C5.mono ?_; rintro e w9 ⟨rfl, hw⟩; obtain rfl := hw.symm; clear hw)))
                  go_ret
                  exact ⟨rfl, H8.out.be⟩
                · have by0 : ((y : Int) == 0) = false := by simpa using hy
                  rw [decide_eq_false hy] at CO
                  clear hy
                  go_upto_region 26 with (first | (go_at_call 10; refine CO.mono ?_; rintro e w8 ⟨A8, m8, c8, L8, S8, rfl, h8⟩))
                  have C4 := save_no w8 ⟨p, 0, none⟩ 4 (Or.inr (by decide))
                  have C5 := save_no w8 ⟨p, 0, none⟩ (-1) (Or.inl (by decide))
                  have H8 := Lib.hid h8
                  clear CO h8
                  go_wp2_with (first | (go_at_call 8; first | (with_reducible refine C4.mono ?_; rintro e w9 ⟨rfl, hw⟩; obtain rfl := hw.symm; clear hw) | (with_reducible refine C5.mono ?_; rintro e w9 ⟨rfl, hw⟩; obtain rfl := hw.symm; clear hw)))
                  go_ret
                  exact ⟨rfl, H8.out.be⟩
end Go.Proofs.Ytacidmnhbhbmhaa
