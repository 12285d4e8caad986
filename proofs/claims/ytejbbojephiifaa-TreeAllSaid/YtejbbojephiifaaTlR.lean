/- TreeRows: the walk. -/
import Derived.Test.YtejbbojephiifaaTlN
import Derived.Deep.CutBlock
namespace Go.Proofs.Ytejbbojephiifaa
open Go.RowKit

/-- The next name. -/
def nextX (k i way : Nat) : Nat := if way % 3 = 1 then k - 1 - i else if way % 3 = 2 then i * 7 % 256 else i
theorem Fits.deep {h : Nat} {g : G h} {xs : List KV} (hf : Fits h g xs) : h = 0 ∨ 2 ^ (h + 1) ≤ xs.length := by
  obtain ⟨o1, o2, o3, rfl⟩ := hf
  rcases o2 with e | e
  · exact .inl e
  · exact .inr (kvs_ge o1 e)
theorem ShA.up {B : Nat} {w w' : World} {s : Value} {rows : List (List Nat)} (h : ShA B w s rows) (hb : Below w.heap.size w w') : ShA B w' s rows := by
  obtain ⟨vs, h1, h2, h3⟩ := h
  exact ⟨vs, own_up h1 hb, h2, fun i hi => by
    obtain ⟨v, hv, ho⟩ := h3 i hi
    exact ⟨v, hv, own_up ho hb⟩⟩
theorem ShA.form {B : Nat} {w : World} {s : Value} {rows : List (List Nat)} (h : ShA B w s rows) : ∃ A m, s = .slice A rows.length m := by
  obtain ⟨vs, h1, _⟩ := h
  exact own_shape h1

set_option maxRecDepth 100000 in
set_option maxHeartbeats 8000000 in
theorem rows_walk (w : World) (n way back : Nat) (hn : n < 256) (hw : way < 256) (hbk : back < 256) :
    Calls Try.prog 5 #[.int .u8 n, .int .u8 way, .int .u8 back] w fun e w' => e = .returned (.bool true) ∧ Below w.heap.size w w' := by
  go_enter Try.func5, Try.ntmps5
  go_wp2_with fail
  refine (begun_any w).mono ?_
  rintro e w1 ⟨rfl, b1⟩
  go_wp2_with fail
  refine tnew.mono ?_
  rintro e w2 ⟨p, rfl, t2, b2⟩
  have HB2 := Lib.hid (b1.trans (b2.mono b1.size))
  generalize hM : w1.heap.size = M at *
  have HM : Hid (w.heap.size ≤ M) := hM ▸ b1.size
  have HT2 := Lib.hid t2
  clear b1 b2 hM t2
  go_wp2_with fail
  go_loopw [9] (fun i wr => ∃ j : Nat, j ≤ n ∧ i = .int .i64 j ∧ Hid (∃ xs, xs.length ≤ j ∧ TT M wr p xs ∧ Below w.heap.size w wr)) (fun i _ => n - intN i)
  case atStart => exact ⟨0, Nat.zero_le _, rfl, [], Nat.le_refl _, HT2.out, HB2.out⟩
  case round =>
    obtain ⟨j, hj, rfl, HR⟩ := hrel
    clear HT2 HB2
    by_cases hlt : j < n
    · obtain ⟨xs, hx, tr, br⟩ := HR.out
      obtain ⟨x, hx0⟩ : ∃ x, nextX n j way = x := ⟨_, rfl⟩
      have hx9 : x < 256 := by
        rw [← hx0]; unfold nextX
        split
        · omega
        · split <;> omega
      have HX := Lib.hid hx0
      have HT := Lib.hid tr
      have HB := Lib.hid br
      clear hx0 tr br HR
      have hw3 : (way : Int) % 3 = ((way % 3 : Nat) : Int) := by omega
      go_upto_block 2 with fail
      go_cut [10] (fun u wx => u = .int .i64 x ∧ wr = wx)
      case first =>
        have HXX := HX.out
        unfold nextX at HXX
        by_cases h1 : way % 3 = 1
        · rw [if_pos h1] at HXX
          have e1 : (((way : Int) % 3) == 1) = true := beq_iff_eq.2 (by omega)
          have ex : (n : Int) - 1 - (j : Int) = (x : Int) := by omega
          clear HXX h1 hw3
          go_wp2
          go_meet
          exact ⟨rfl, rfl⟩
        · rw [if_neg h1] at HXX
          have e1 : (((way : Int) % 3) == 1) = false := beq_eq_false_iff_ne.2 (by omega)
          by_cases h2 : way % 3 = 2
          · rw [if_pos h2] at HXX
            have e2 : (((way : Int) % 3) == 2) = true := beq_iff_eq.2 (by omega)
            have ex : (j : Int) * 7 % 256 = (x : Int) := by omega
            clear HXX h1 h2 hw3
            go_wp2
            go_meet
            exact ⟨by rw [ex], rfl⟩
          · have e2 : (((way : Int) % 3) == 2) = false := beq_eq_false_iff_ne.2 (by omega)
            rw [if_neg h2] at HXX
            subst HXX
            clear h1 h2 hw3
            go_wp2
            go_meet
            exact ⟨rfl, rfl⟩
      case rest =>
        obtain ⟨rfl, rfl⟩ := hcut
        have hcv := conv_one wr x
        have hab := (Below.refl wr.heap.size wr).alloc (Nat.le_refl _) (.cells #[.int .u8 (x : Int)] 5)
        go_wp2_with fail
        refine (tput (HT.out.below hab) (by omega) ⟨ch x, 0, (x : Int)⟩).mono ?_
        rintro e w3 ⟨rfl, t3, b3⟩
        have B3 := HB.out.trans ((hab.mono (Nat.le_trans HM.out HT.out.1)).trans (b3.mono HM.out))
        have hx3 : (ins ⟨ch x, 0, (x : Int)⟩ xs).length ≤ j + 1 := by rw [ins_len]; split <;> omega
        generalize ins ⟨ch x, 0, (x : Int)⟩ xs = ys at *
        have HB3 := Lib.hid B3
        clear HT HB HX hcv hab b3 B3 hw3
        go_wp2_with fail
        refine (tshape t3 (by omega)).mono ?_
        rintro e w4 ⟨s, h', g', rfl, f4, t4, b4, a4⟩
        obtain ⟨A4, m4, rfl⟩ := a4.form
        have hdp := f4.deep
        have hsn := f4.snd (by omega)
        have hlv := lv_len h' [g']
        have HB4 := Lib.hid (HB3.out.trans (b4.mono (Nat.le_trans HM.out t3.1)))
        have hh9 : h' ≤ 300 := by
          rcases hdp with e | e
          · omega
          · have := Nat.lt_two_pow_self (n := h' + 1); omega
        have HA4 := Lib.hid (And.intro a4 hsn)
        generalize hrw : lv h' [g'] = rows at *
        have HRW := Lib.hid hrw
        rw [hlv]
        clear t3 b4 HB3 f4 a4 hsn hrw
        go_wp2_with fail
        refine (tlen t4).mono ?_
        rintro e w5 ⟨rfl, t5, b5⟩
        have HA5 : Hid (ShA w3.heap.size w5 (.slice A4 rows.length m4) rows) := HA4.out.1.up b5
        have HB5 := Lib.hid (HB4.out.trans (b5.mono (Nat.le_trans HM.out t4.1)))
        clear t4 b5 HB4
        go_wp2_with fail
        have hso := sound_any w5 HA5.out HA4.out.2 (by omega)
        rw [hlv] at hso
        refine hso.mono ?_
        rintro e w6 ⟨rfl, rfl⟩
        clear hso HA5 HA4
        have hpw : ∀ k, k ≤ h' → 2 ^ k ≤ 512 := fun k hk => by
          have h1 : 2 ^ k ≤ 2 ^ h' := Nat.pow_le_pow_right (by decide) hk
          rcases hdp with e | e
          · subst e; have : (2 : Nat) ^ 0 = 1 := rfl; omega
          · rw [Nat.pow_succ] at e; omega
        have HPW := Lib.hid hpw
        have HDP := Lib.hid hdp
        clear hpw hdp
        go_wp2_with fail
        go_loop [13, 14] (fun l i => ∃ k : Nat, k ≤ h' ∧ i = .int .i64 ((k : Int) + 1) ∧ l = .int .i64 ((2 ^ k : Nat) : Int)) (fun _ i => h' + 1 - intN i)
        case atStart => exact ⟨0, Nat.zero_le _, rfl, rfl⟩
        case round =>
          obtain ⟨k, hk, rfl, rfl⟩ := hrel
          have hp := HPW.out k hk
          have hsuc : 2 ^ (k + 1) = 2 ^ k * 2 := Nat.pow_succ ..
          obtain ⟨P, hP⟩ : ∃ P, 2 ^ k = P := ⟨_, rfl⟩
          rw [hP] at hp hsuc ⊢
          have HSU := Lib.hid hsuc
          have HP := Lib.hid hP
          clear hsuc hP
          by_cases hkl : k < h'
          · go_wp2_with fail
            go_round
            case rel => exact ⟨k + 1, by omega, by go_num, by rw [HSU.out]; go_num⟩
            case measure => simp [intN]; omega
          · obtain rfl : k = h' := by omega
            have HN : Hid (∃ xs, xs.length ≤ j + 1 ∧ TT M w6 p xs ∧ Below w.heap.size w w6) := ⟨ys, hx3, t5, HB5.out⟩
            by_cases hk0 : k = 0
            · subst hk0
              clear HSU HP HPW HDP t5
              go_wp2_with fail
              go_roundw
              case rel => exact ⟨j + 1, by omega, by go_num, HN.out⟩
              case measure => simp [intN]; omega
            · have hle : P ≤ ys.length := by
                rcases HDP.out with e | e
                · omega
                · rw [Nat.pow_succ, HP.out] at e; omega
              clear HSU HP HPW HDP HN
              go_wp2_with fail
              refine (tlen t5).mono ?_
              rintro e w7 ⟨rfl, t7, b7⟩
              have HN : Hid (∃ xs, xs.length ≤ j + 1 ∧ TT M w7 p xs ∧ Below w.heap.size w w7) := ⟨ys, hx3, t7, HB5.out.trans (b7.mono (Nat.le_trans HM.out t5.1))⟩
              clear t5 t7 b7
              go_wp2_with fail
              go_roundw
              case rel => exact ⟨j + 1, by omega, by go_num, HN.out⟩
              case measure => simp [intN]; omega
    · obtain ⟨xs, hx, tr, br⟩ := HR.out
      have hx9 : xs.length ≤ 300 := by omega
      have HS2 : Hid (TT M wr p xs ∧ Below w.heap.size w wr) := ⟨tr, br⟩
      clear HR tr br hx
      go_wp2_with fail
      go_loopg [15] xs.length (fun gk _ wr => Hid (∃ xs, xs.length = gk ∧ gk ≤ 300 ∧ TT M wr p xs ∧ Below w.heap.size w wr))
      case atStart => exact ⟨xs, rfl, hx9, HS2.out⟩
      case round =>
        obtain ⟨ys, hy, hg, t3, b3⟩ := hrel.out
        have HB3 := Lib.hid b3
        clear HS2 hrel hx9 b3
        go_wp2_with fail
        refine (tlen t3).mono ?_
        rintro e w4 ⟨rfl, t4, b4⟩
        have HB4 := Lib.hid (HB3.out.trans (b4.mono (Nat.le_trans HM.out t3.1)))
        rw [hy]
        clear t3 b4 HB3
        cases gk with
        | zero =>
          clear t4
          go_wp2_with fail
          go_ret
          exact ⟨rfl, HB4.out⟩
        | succ m =>
          go_wp2_with fail
          refine (tfrom t4 (by omega) ⟨#[]⟩ (-1)).mono ?_
          rintro e w5 ⟨sk, sv, rfl, t5, b5, o1, o2⟩
          rw [frm_nil] at o1 o2
          rw [hy] at o1 o2
          obtain ⟨q, c1, rfl, _, hq⟩ := o1.form (by omega)
          obtain ⟨A2, c2, rfl⟩ := own_shape o2
          have HB5 := Lib.hid (HB4.out.trans (b5.mono (Nat.le_trans HM.out t4.1)))
          have HKC : Hid (∀ i (h : i < ys.length), w5.cell? ⟨q, i, none⟩ = some (.string ys[i].k)) := fun i h => by
            have := o1.cellAt i (by omega)
            rw [this]
            simp [keyV, h]
          clear t4 b5 HB4 o1 o2
          go_wp2_with fail
          refine (tlen t5).mono ?_
          rintro e w6 ⟨rfl, t6, b6⟩
          have HB6 := Lib.hid (HB5.out.trans (b6.mono (Nat.le_trans HM.out t5.1)))
          rw [hy]
          obtain ⟨i, hi⟩ : ∃ i, (if back % 2 = 1 then m else 0) = i := ⟨_, rfl⟩
          have hil : i < ys.length := by rw [← hi]; split <;> omega
          have k0 := (b6.cell (p := ⟨q, 0, none⟩) hq).trans (HKC.out 0 (by omega))
          have km := (b6.cell (p := ⟨q, m, none⟩) hq).trans (HKC.out m (by omega))
          have HKI : Hid (has ys[i].k ys = true) := has_mem t6.rise (List.getElem_mem hil)
          have HDL : Hid ((del ys[i].k ys).length = m) := by
            have h1 := del_len ys[i].k ys
            rw [HKI.out] at h1
            show (del ys[i].k ys).length = m
            simp at h1
            omega
          have hbi : (back : Int) % 2 = ((back % 2 : Nat) : Int) := by omega
          generalize hk0 : (ys[0]'(by omega)).k = y0 at k0
          generalize hkm : (ys[m]'(by omega)).k = ym at km
          have HKI2 : Hid (ys[i].k = if back % 2 = 1 then ym else y0) := by
            show ys[i].k = _
            subst hi
            rw [← hk0, ← hkm]
            by_cases c : back % 2 = 1
            · simp [c]
            · simp [c]
          clear HKC b6 HB5 t5 hk0 hkm
          by_cases hb1 : back % 2 = 1
          · have e1 : (((back : Int) % 2) == 1) = true := beq_iff_eq.2 (by omega)
            have hki := HKI2.out
            rw [if_pos hb1] at hki
            have HK : Hid (has ym ys = true) := by show has ym ys = true; rw [← hki]; exact HKI.out
            have HD : Hid ((del ym ys).length = m) := by show (del ym ys).length = m; rw [← hki]; exact HDL.out
            clear hki HKI HDL HKI2 hi hil hb1 hbi
            go_wp2_with fail
            refine (tcut t6 (by omega) ym).mono ?_
            rintro e w7 ⟨rfl, t7, b7⟩
            have HB7 := Lib.hid (HB6.out.trans (b7.mono HM.out))
            rw [HK.out]
            have hd := HD.out
            generalize del ym ys = zs at *
            clear t6 b7 HB6 k0 km
            go_wp2_with fail
            refine (tshape t7 (by omega)).mono ?_
            rintro e w8 ⟨s, h', g', rfl, f8, t8, b8, a8⟩
            have HB8 := Lib.hid (HB7.out.trans (b8.mono (Nat.le_trans HM.out t7.1)))
            have hso := sound_any w8 a8 (f8.snd (by omega)) (by omega)
            rw [hd] at hso
            obtain ⟨A8, m8, rfl⟩ := a8.form
            have HN : Hid (∃ xs, xs.length = m ∧ m ≤ 300 ∧ TT M w8 p xs ∧ Below w.heap.size w w8) := ⟨zs, hd, by omega, t8, HB8.out⟩
            generalize lv h' [g'] = rows at *
            clear t7 b8 HB7 f8 a8 t8 HB8
            have HSO := Lib.hid hso
            clear hso
            go_wp2_with fail
            refine HSO.out.mono ?_
            rintro e w9 ⟨rfl, rfl⟩
            clear HSO
            go_wp2_with fail
            go_roundg m
            case rel => exact HN.out
            case measure => omega
          · have e1 : (((back : Int) % 2) == 1) = false := beq_eq_false_iff_ne.2 (by omega)
            have hki := HKI2.out
            rw [if_neg hb1] at hki
            have HK : Hid (has y0 ys = true) := by show has y0 ys = true; rw [← hki]; exact HKI.out
            have HD : Hid ((del y0 ys).length = m) := by show (del y0 ys).length = m; rw [← hki]; exact HDL.out
            clear hki HKI HDL HKI2 hi hil hb1 hbi
            go_wp2_with fail
            refine (tcut t6 (by omega) y0).mono ?_
            rintro e w7 ⟨rfl, t7, b7⟩
            have HB7 := Lib.hid (HB6.out.trans (b7.mono HM.out))
            rw [HK.out]
            have hd := HD.out
            generalize del y0 ys = zs at *
            clear t6 b7 HB6 k0 km
            go_wp2_with fail
            refine (tshape t7 (by omega)).mono ?_
            rintro e w8 ⟨s, h', g', rfl, f8, t8, b8, a8⟩
            have HB8 := Lib.hid (HB7.out.trans (b8.mono (Nat.le_trans HM.out t7.1)))
            have hso := sound_any w8 a8 (f8.snd (by omega)) (by omega)
            rw [hd] at hso
            obtain ⟨A8, m8, rfl⟩ := a8.form
            have HN : Hid (∃ xs, xs.length = m ∧ m ≤ 300 ∧ TT M w8 p xs ∧ Below w.heap.size w w8) := ⟨zs, hd, by omega, t8, HB8.out⟩
            generalize lv h' [g'] = rows at *
            clear t7 b8 HB7 f8 a8 t8 HB8
            have HSO := Lib.hid hso
            clear hso
            go_wp2_with fail
            refine HSO.out.mono ?_
            rintro e w9 ⟨rfl, rfl⟩
            clear HSO
            go_wp2_with fail
            go_roundg m
            case rel => exact HN.out
            case measure => omega
end Go.Proofs.Ytejbbojephiifaa
