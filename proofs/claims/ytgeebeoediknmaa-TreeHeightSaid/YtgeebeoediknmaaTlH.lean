/- TreeHeight: the walk. -/
import Derived.Test.YtgeebeoediknmaaTlR
import Derived.Deep.RegionHeld
namespace Go.Proofs.Ytgeebeoediknmaa
open Go.RowKit

theorem Fits.up {h : Nat} {g : G h} {xs : List KV} (hf : Fits h g xs) : xs.length ≤ 4 ^ (h + 1) := by
  obtain ⟨o1, o2, o3, rfl⟩ := hf
  exact kvs_le o1 o3
theorem pow_bnd {h n m : Nat} (hd : h = 0 ∨ 2 ^ (h + 1) ≤ n) (hn : n ≤ 256) (hm : m ≤ h) : 2 ^ m ≤ 256 ∧ 4 ^ (m + 1) ≤ 65536 := by
  have e4 : 4 ^ (m + 1) = 2 ^ (m + 1) * 2 ^ (m + 1) := by rw [← Nat.mul_pow]
  rcases hd with rfl | hd
  · obtain rfl : m = 0 := by omega
    decide
  · have h1 : 2 ^ (m + 1) ≤ 2 ^ (h + 1) := Nat.pow_le_pow_right (by decide) (by omega)
    have h2 : 2 ^ (m + 1) ≤ 256 := by omega
    have h3 : 2 ^ (m + 1) = 2 ^ m * 2 := Nat.pow_succ ..
    refine ⟨by omega, ?_⟩
    rw [e4]
    exact Nat.mul_le_mul h2 h2
theorem wrap8 (y : Int) : IntKind.u8.wrap y = y % 256 := by
  unfold IntKind.wrap
  simp [IntKind.signed, IntKind.bits]
theorem conv_hi_lo (wr : World) (x : Nat) : (convert 47 9 (.slice (some ⟨wr.heap.size, 0, none⟩) 2 2)).run Try.prog (wr.alloc (.cells #[.int .u8 ((x : Int) / 256), .int .u8 ((x : Int) % 256)] 5)).drew = .ok (.string (ch2 (x / 256) (x % 256))) (wr.alloc (.cells #[.int .u8 ((x : Int) / 256), .int .u8 ((x : Int) % 256)] 5)).drew := conv_two wr.drew (x / 256) (x % 256)

set_option maxRecDepth 100000 in
set_option maxHeartbeats 8000000 in
theorem height_walk (w : World) (v : Value) (l : List Int) (cut : Nat) (hl : SlK .u16 w v l) (hc : cut < 256) :
    Calls Try.prog 7 #[v, .int .u8 cut] w fun e w' => e = .returned (.bool true) ∧ Below w.heap.size w w' := by
  obtain ⟨pv, cap, rfl, _⟩ := id hl
  have HL := Lib.hid hl
  clear hl
  go_enter Try.func7, Try.ntmps7
  go_wp2_with fail
  refine (begun_any w).mono ?_
  rintro e w1 ⟨rfl, b1⟩
  by_cases hll : l.length ≤ 200
  · go_wp2_with fail
    refine tnew.mono ?_
    rintro e w2 ⟨p, rfl, t2, b2⟩
    have HB2 := Lib.hid (b1.trans (b2.mono b1.size))
    generalize hM : w1.heap.size = M at *
    have HM : Hid (w.heap.size ≤ M) := hM ▸ b1.size
    have HT2 := Lib.hid t2
    clear b1 b2 hM t2
    obtain ⟨n, hn⟩ : ∃ n, l.length = n := ⟨_, rfl⟩
    have HLN := Lib.hid hn
    have hn200 : n ≤ 200 := by omega
    rw [hn]
    clear hll hn
    go_wp2_with fail
    go_loopw [6] (fun i wr => ∃ j : Nat, j ≤ n ∧ i = .int .i64 j ∧ Hid (∃ xs, xs.length ≤ j ∧ TT M wr p xs ∧ Below w.heap.size w wr)) (fun i _ => n - intN i)
    case atStart => exact ⟨0, Nat.zero_le _, rfl, [], Nat.le_refl _, HT2.out, HB2.out⟩
    case round =>
      obtain ⟨j, hj, rfl, HR⟩ := hrel
      clear HT2 HB2
      by_cases hlt : j < n
      · obtain ⟨xs, hx, tr, br⟩ := HR.out
        obtain ⟨ab, ao, x0, rfl, hx16, hab, hcell⟩ := sl_at (i := j) HL.out br (by have := HLN.out; omega)
        obtain ⟨x, rfl, hx9⟩ := u16_nat hx16
        have HT := Lib.hid tr
        have HB := Lib.hid br
        clear tr br HR hx16
        have hcv := conv_hi_lo wr x
        have hal := ((Below.refl wr.heap.size wr).alloc (Nat.le_refl _) (.cells #[.int .u8 ((x : Int) / 256), .int .u8 ((x : Int) % 256)] 5)).drew
        have hx4 : (ins ⟨ch2 (x / 256) (x % 256), 0, 0⟩ xs).length ≤ j + 1 := by rw [ins_len]; split <;> omega
        have HPU := Lib.hid (tput (HT.out.below hal) (by omega) ⟨ch2 (x / 256) (x % 256), 0, 0⟩)
        have HBA := Lib.hid (HB.out.trans (hal.mono (Nat.le_trans HM.out HT.out.1)))
        have HCV := Lib.hid hcv
        generalize ins ⟨ch2 (x / 256) (x % 256), 0, 0⟩ xs = ys at *
        clear hal HT HB
        go_upto_region 9 with (fail)
        clear hcv
        have hcv := HCV.out
        have wr1 : IntKind.u8.wrap ((x : Int) / 256) = (x : Int) / 256 := by rw [wrap8]; omega
        have wr2 : IntKind.u8.wrap (x : Int) = (x : Int) % 256 := wrap8 _
        go_region_with (go_at_call 14; refine HPU.out.mono ?_; rintro e w3 ⟨rfl, t3, b3⟩; have H3 : Hid (∃ xs, xs.length ≤ j + 1 ∧ TT M w3 p xs ∧ Below w.heap.size w w3) := ⟨ys, hx4, t3, HBA.out.trans (b3.mono HM.out)⟩; clear t3 b3)
        all_goals
          clear HPU HBA HCV hcv wr1 wr2
          go_wp2_with fail
          go_roundw
          case rel => exact ⟨j + 1, by omega, by go_num, H3.out⟩
          case measure => simp [intN]; omega
      · obtain ⟨xs, hx, tr, br⟩ := HR.out
        have HS2 : Hid (∃ xs, xs.length ≤ n ∧ TT M wr p xs ∧ Below w.heap.size w wr) := ⟨xs, by omega, tr, br⟩
        clear HR tr br hx
        go_wp2_with fail
        go_loopw [7] (fun i wr => ∃ j : Nat, j ≤ n ∧ i = .int .i64 j ∧ Hid (∃ xs, xs.length ≤ n ∧ TT M wr p xs ∧ Below w.heap.size w wr)) (fun i _ => n - intN i)
        case atStart => exact ⟨0, Nat.zero_le _, rfl, HS2.out⟩
        case round =>
          obtain ⟨j, hj, rfl, HR⟩ := hrel
          clear HS2
          by_cases hlt : j < n
          · obtain ⟨ys, hyn, tz, bz⟩ := HR.out
            have HBz := Lib.hid bz
            clear HR
            by_cases c0 : cut = 0
            · have hc0 : ¬ ((0 : Int) < (cut : Int)) := by omega
              clear c0
              generalize hW0 : wr = W0 at *
              clear hW0 bz
              go_wp2_with fail
              refine (tshape tz (by omega)).mono ?_
              rintro e w4 ⟨s, h', g', rfl, f4, t4, b4, a4⟩
              have HB4 := Lib.hid (HBz.out.trans (b4.mono (Nat.le_trans HM.out tz.1)))
              have hdp := f4.deep
              have hup := f4.up
              have HA4 := Lib.hid (And.intro a4 (f4.snd (by omega)))
              have hlv := lv_len h' [g']
              obtain ⟨A4, m4, rfl⟩ := a4.form
              generalize lv h' [g'] = rows at *
              rw [hlv]
              have hsz4 := tz.1
              clear tz b4 HBz f4 a4
              have hpw : ∀ m, m ≤ h' → 2 ^ m ≤ 256 ∧ 4 ^ (m + 1) ≤ 65536 := fun m hm => pow_bnd hdp (by omega) hm
              have HPW := Lib.hid hpw
              have HDP := Lib.hid (And.intro hdp hup)
              have hh9 : h' ≤ 300 := by
                have := (hpw h' (Nat.le_refl _)).1
                have := Nat.lt_two_pow_self (n := h')
                omega
              clear hpw hdp hup
              go_wp2_with fail
              refine (tlen t4).mono ?_
              rintro e w5 ⟨rfl, t5, b5⟩
              have HA5 : Hid (ShA W0.heap.size w5 (.slice A4 rows.length m4) rows) := HA4.out.1.up b5
              have HB5 := Lib.hid (HB4.out.trans (b5.mono (Nat.le_trans HM.out t4.1)))
              clear t4 b5 HB4
              go_wp2_with fail
              go_loop [10, 11, 12] (fun mo le i => ∃ m : Nat, m ≤ h' ∧ i = .int .i64 ((m : Int) + 1) ∧ mo = .int .i64 ((4 ^ (m + 1) : Nat) : Int) ∧ le = .int .i64 ((if m = 0 then 0 else 2 ^ m : Nat) : Int)) (fun _ _ i => h' + 1 - intN i)
              case atStart => exact ⟨0, Nat.zero_le _, rfl, rfl, rfl⟩
              case round =>
                obtain ⟨m, hm, rfl, rfl, rfl⟩ := hrel
                obtain ⟨hp2, hp4⟩ := HPW.out m hm
                by_cases hml : m < h'
                · have hs4 : 4 ^ (m + 1 + 1) = 4 ^ (m + 1) * 4 := Nat.pow_succ ..
                  have hs2 : 2 ^ (m + 1) = 2 ^ m * 2 := Nat.pow_succ ..
                  obtain ⟨P4, hP4⟩ : ∃ P4, 4 ^ (m + 1) = P4 := ⟨_, rfl⟩
                  obtain ⟨P2, hP2⟩ : ∃ P2, 2 ^ m = P2 := ⟨_, rfl⟩
                  have hP1 : 1 ≤ P2 := by rw [← hP2]; exact Nat.one_le_two_pow
                  rw [hP4] at hp4 hs4 ⊢
                  rw [hP2] at hp2 hs2 ⊢
                  have HSU := Lib.hid (And.intro hs4 (And.intro hs2 hP2))
                  clear hs4 hs2 hP4 hP2
                  by_cases hm0 : m = 0
                  · subst hm0
                    have hP21 : P2 = 1 := HSU.out.2.2.symm
                    go_wp2_with fail
                    go_round
                    case rel => exact ⟨0 + 1, by omega, by go_num, by rw [HSU.out.1]; go_num, by rw [if_neg (by omega), HSU.out.2.1, hP21]; rfl⟩
                    case measure => simp [intN]; omega
                  · rw [if_neg hm0]
                    have hmx : max (P2 : Int) 1 = P2 := by omega
                    go_wp2_with fail
                    go_round
                    case rel => exact ⟨m + 1, by omega, by go_num, by rw [HSU.out.1]; go_num, by rw [if_neg (by omega), HSU.out.2.1]; go_num⟩
                    case measure => simp [intN]; omega
                · obtain rfl : m = h' := by omega
                  obtain ⟨hd, hu⟩ := HDP.out
                  obtain ⟨P4, hP4⟩ : ∃ P4, 4 ^ (m + 1) = P4 := ⟨_, rfl⟩
                  rw [hP4] at hp4 hu ⊢
                  have hso := sound_any w5 HA5.out HA4.out.2 (by omega)
                  rw [hlv] at hso
                  have HSO := Lib.hid hso
                  have HN : Hid (∃ xs, xs.length ≤ n ∧ TT M w5 p xs ∧ Below w.heap.size w w5) := ⟨ys, hyn, t5, HB5.out⟩
                  clear hso HA5 HA4 HB5 t5 HPW HDP hP4
                  by_cases hm0 : m = 0
                  · subst hm0
                    clear hd
                    go_wp2_with fail
                    refine HSO.out.mono ?_
                    rintro e w6 ⟨rfl, rfl⟩
                    clear HSO
                    go_wp2_with fail
                    go_roundw
                    case rel => exact ⟨j + 1, by omega, by go_num, HN.out⟩
                    case measure => simp [intN]; omega
                  · rw [if_neg hm0]
                    have hd2 : 2 ^ m * 2 ≤ ys.length := by
                      rcases hd with e | e
                      · omega
                      · rwa [Nat.pow_succ] at e
                    obtain ⟨P2, hP2⟩ : ∃ P2, 2 ^ m = P2 := ⟨_, rfl⟩
                    rw [hP2] at hp2 hd2 ⊢
                    clear hd hP2
                    go_wp2_with fail
                    refine HSO.out.mono ?_
                    rintro e w6 ⟨rfl, rfl⟩
                    clear HSO
                    go_wp2_with fail
                    go_roundw
                    case rel => exact ⟨j + 1, by omega, by go_num, HN.out⟩
                    case measure => simp [intN]; omega
            · have hc0 : (0 : Int) < (cut : Int) := by omega
              obtain ⟨r, hr⟩ : ∃ r, (((j : Int) % (1 + (cut : Int) % 5)) == 0) = r := ⟨_, rfl⟩
              have hdv : ¬ ((1 : Int) + (cut : Int) % 5 = 0) := by omega
              cases r
              · generalize hW0 : wr = W0 at *
                clear hW0 bz
                go_wp2_with fail
                refine (tshape tz (by omega)).mono ?_
                rintro e w4 ⟨s, h', g', rfl, f4, t4, b4, a4⟩
                have HB4 := Lib.hid (HBz.out.trans (b4.mono (Nat.le_trans HM.out tz.1)))
                have hdp := f4.deep
                have hup := f4.up
                have HA4 := Lib.hid (And.intro a4 (f4.snd (by omega)))
                have hlv := lv_len h' [g']
                obtain ⟨A4, m4, rfl⟩ := a4.form
                generalize lv h' [g'] = rows at *
                rw [hlv]
                have hsz4 := tz.1
                clear tz b4 HBz f4 a4
                have hpw : ∀ m, m ≤ h' → 2 ^ m ≤ 256 ∧ 4 ^ (m + 1) ≤ 65536 := fun m hm => pow_bnd hdp (by omega) hm
                have HPW := Lib.hid hpw
                have HDP := Lib.hid (And.intro hdp hup)
                have hh9 : h' ≤ 300 := by
                  have := (hpw h' (Nat.le_refl _)).1
                  have := Nat.lt_two_pow_self (n := h')
                  omega
                clear hpw hdp hup
                go_wp2_with fail
                refine (tlen t4).mono ?_
                rintro e w5 ⟨rfl, t5, b5⟩
                have HA5 : Hid (ShA W0.heap.size w5 (.slice A4 rows.length m4) rows) := HA4.out.1.up b5
                have HB5 := Lib.hid (HB4.out.trans (b5.mono (Nat.le_trans HM.out t4.1)))
                clear t4 b5 HB4
                go_wp2_with fail
                go_loop [10, 11, 12] (fun mo le i => ∃ m : Nat, m ≤ h' ∧ i = .int .i64 ((m : Int) + 1) ∧ mo = .int .i64 ((4 ^ (m + 1) : Nat) : Int) ∧ le = .int .i64 ((if m = 0 then 0 else 2 ^ m : Nat) : Int)) (fun _ _ i => h' + 1 - intN i)
                case atStart => exact ⟨0, Nat.zero_le _, rfl, rfl, rfl⟩
                case round =>
                  obtain ⟨m, hm, rfl, rfl, rfl⟩ := hrel
                  obtain ⟨hp2, hp4⟩ := HPW.out m hm
                  by_cases hml : m < h'
                  · have hs4 : 4 ^ (m + 1 + 1) = 4 ^ (m + 1) * 4 := Nat.pow_succ ..
                    have hs2 : 2 ^ (m + 1) = 2 ^ m * 2 := Nat.pow_succ ..
                    obtain ⟨P4, hP4⟩ : ∃ P4, 4 ^ (m + 1) = P4 := ⟨_, rfl⟩
                    obtain ⟨P2, hP2⟩ : ∃ P2, 2 ^ m = P2 := ⟨_, rfl⟩
                    have hP1 : 1 ≤ P2 := by rw [← hP2]; exact Nat.one_le_two_pow
                    rw [hP4] at hp4 hs4 ⊢
                    rw [hP2] at hp2 hs2 ⊢
                    have HSU := Lib.hid (And.intro hs4 (And.intro hs2 hP2))
                    clear hs4 hs2 hP4 hP2
                    by_cases hm0 : m = 0
                    · subst hm0
                      have hP21 : P2 = 1 := HSU.out.2.2.symm
                      go_wp2_with fail
                      go_round
                      case rel => exact ⟨0 + 1, by omega, by go_num, by rw [HSU.out.1]; go_num, by rw [if_neg (by omega), HSU.out.2.1, hP21]; rfl⟩
                      case measure => simp [intN]; omega
                    · rw [if_neg hm0]
                      have hmx : max (P2 : Int) 1 = P2 := by omega
                      go_wp2_with fail
                      go_round
                      case rel => exact ⟨m + 1, by omega, by go_num, by rw [HSU.out.1]; go_num, by rw [if_neg (by omega), HSU.out.2.1]; go_num⟩
                      case measure => simp [intN]; omega
                  · obtain rfl : m = h' := by omega
                    obtain ⟨hd, hu⟩ := HDP.out
                    obtain ⟨P4, hP4⟩ : ∃ P4, 4 ^ (m + 1) = P4 := ⟨_, rfl⟩
                    rw [hP4] at hp4 hu ⊢
                    have hso := sound_any w5 HA5.out HA4.out.2 (by omega)
                    rw [hlv] at hso
                    have HSO := Lib.hid hso
                    have HN : Hid (∃ xs, xs.length ≤ n ∧ TT M w5 p xs ∧ Below w.heap.size w w5) := ⟨ys, hyn, t5, HB5.out⟩
                    clear hso HA5 HA4 HB5 t5 HPW HDP hP4
                    by_cases hm0 : m = 0
                    · subst hm0
                      clear hd
                      go_wp2_with fail
                      refine HSO.out.mono ?_
                      rintro e w6 ⟨rfl, rfl⟩
                      clear HSO
                      go_wp2_with fail
                      go_roundw
                      case rel => exact ⟨j + 1, by omega, by go_num, HN.out⟩
                      case measure => simp [intN]; omega
                    · rw [if_neg hm0]
                      have hd2 : 2 ^ m * 2 ≤ ys.length := by
                        rcases hd with e | e
                        · omega
                        · rwa [Nat.pow_succ] at e
                      obtain ⟨P2, hP2⟩ : ∃ P2, 2 ^ m = P2 := ⟨_, rfl⟩
                      rw [hP2] at hp2 hd2 ⊢
                      clear hd hP2
                      go_wp2_with fail
                      refine HSO.out.mono ?_
                      rintro e w6 ⟨rfl, rfl⟩
                      clear HSO
                      go_wp2_with fail
                      go_roundw
                      case rel => exact ⟨j + 1, by omega, by go_num, HN.out⟩
                      case measure => simp [intN]; omega
              · have hb0 := bz
                obtain ⟨ab, ao, x0, rfl, hx16, hab, hcell⟩ := sl_at (i := j) HL.out bz (by have := HLN.out; omega)
                obtain ⟨x, rfl, hx9⟩ := u16_nat hx16
                have hcv := conv_hi_lo wr x
                have hal := ((Below.refl wr.heap.size wr).alloc (Nat.le_refl _) (.cells #[.int .u8 ((x : Int) / 256), .int .u8 ((x : Int) % 256)] 5)).drew
                have hx4 : (del (ch2 (x / 256) (x % 256)) ys).length ≤ n := Nat.le_trans del_sub.length_le hyn
                have HPU := Lib.hid (tcut (tz.below hal) (by omega) (ch2 (x / 256) (x % 256)))
                have HBA := Lib.hid (HBz.out.trans (hal.mono (Nat.le_trans HM.out tz.1)))
                have HCV := Lib.hid hcv
                generalize del (ch2 (x / 256) (x % 256)) ys = zs at *
                clear hal hb0 bz hx16 HBz tz hcv
                go_upto_region 14 with (fail)
                have hcv := HCV.out
                have wr1 : IntKind.u8.wrap ((x : Int) / 256) = (x : Int) / 256 := by rw [wrap8]; omega
                have wr2 : IntKind.u8.wrap (x : Int) = (x : Int) % 256 := wrap8 _
                go_region_with (go_at_call 12; refine HPU.out.mono ?_; rintro e w3 ⟨rfl, t3, b3⟩; have H3 : Hid (TT M w3 p zs ∧ Below w.heap.size w w3) := ⟨t3, HBA.out.trans (b3.mono HM.out)⟩; clear t3 b3)
                all_goals
                  clear HPU HBA HCV hcv wr1 wr2 hyn hcell
                  have hyn := hx4
                  have tz := H3.out.1
                  have HBz := Lib.hid H3.out.2
                  clear H3 hx4
                  generalize hys0 : ys = ys0 at *
                  clear hys0
                  generalize hys1 : zs = ys at *
                  clear hys1
                  generalize hW0 : w3 = W0 at *
                  clear hW0
                  go_wp2_with fail
                  refine (tshape tz (by omega)).mono ?_
                  rintro e w4 ⟨s, h', g', rfl, f4, t4, b4, a4⟩
                  have HB4 := Lib.hid (HBz.out.trans (b4.mono (Nat.le_trans HM.out tz.1)))
                  have hdp := f4.deep
                  have hup := f4.up
                  have HA4 := Lib.hid (And.intro a4 (f4.snd (by omega)))
                  have hlv := lv_len h' [g']
                  obtain ⟨A4, m4, rfl⟩ := a4.form
                  generalize lv h' [g'] = rows at *
                  rw [hlv]
                  have hsz4 := tz.1
                  clear tz b4 HBz f4 a4
                  have hpw : ∀ m, m ≤ h' → 2 ^ m ≤ 256 ∧ 4 ^ (m + 1) ≤ 65536 := fun m hm => pow_bnd hdp (by omega) hm
                  have HPW := Lib.hid hpw
                  have HDP := Lib.hid (And.intro hdp hup)
                  have hh9 : h' ≤ 300 := by
                    have := (hpw h' (Nat.le_refl _)).1
                    have := Nat.lt_two_pow_self (n := h')
                    omega
                  clear hpw hdp hup
                  go_wp2_with fail
                  refine (tlen t4).mono ?_
                  rintro e w5 ⟨rfl, t5, b5⟩
                  have HA5 : Hid (ShA W0.heap.size w5 (.slice A4 rows.length m4) rows) := HA4.out.1.up b5
                  have HB5 := Lib.hid (HB4.out.trans (b5.mono (Nat.le_trans HM.out t4.1)))
                  clear t4 b5 HB4
                  go_wp2_with fail
                  go_loop [10, 11, 12] (fun mo le i => ∃ m : Nat, m ≤ h' ∧ i = .int .i64 ((m : Int) + 1) ∧ mo = .int .i64 ((4 ^ (m + 1) : Nat) : Int) ∧ le = .int .i64 ((if m = 0 then 0 else 2 ^ m : Nat) : Int)) (fun _ _ i => h' + 1 - intN i)
                  case atStart => exact ⟨0, Nat.zero_le _, rfl, rfl, rfl⟩
                  case round =>
                    obtain ⟨m, hm, rfl, rfl, rfl⟩ := hrel
                    obtain ⟨hp2, hp4⟩ := HPW.out m hm
                    by_cases hml : m < h'
                    · have hs4 : 4 ^ (m + 1 + 1) = 4 ^ (m + 1) * 4 := Nat.pow_succ ..
                      have hs2 : 2 ^ (m + 1) = 2 ^ m * 2 := Nat.pow_succ ..
                      obtain ⟨P4, hP4⟩ : ∃ P4, 4 ^ (m + 1) = P4 := ⟨_, rfl⟩
                      obtain ⟨P2, hP2⟩ : ∃ P2, 2 ^ m = P2 := ⟨_, rfl⟩
                      have hP1 : 1 ≤ P2 := by rw [← hP2]; exact Nat.one_le_two_pow
                      rw [hP4] at hp4 hs4 ⊢
                      rw [hP2] at hp2 hs2 ⊢
                      have HSU := Lib.hid (And.intro hs4 (And.intro hs2 hP2))
                      clear hs4 hs2 hP4 hP2
                      by_cases hm0 : m = 0
                      · subst hm0
                        have hP21 : P2 = 1 := HSU.out.2.2.symm
                        go_wp2_with fail
                        go_round
                        case rel => exact ⟨0 + 1, by omega, by go_num, by rw [HSU.out.1]; go_num, by rw [if_neg (by omega), HSU.out.2.1, hP21]; rfl⟩
                        case measure => simp [intN]; omega
                      · rw [if_neg hm0]
                        have hmx : max (P2 : Int) 1 = P2 := by omega
                        go_wp2_with fail
                        go_round
                        case rel => exact ⟨m + 1, by omega, by go_num, by rw [HSU.out.1]; go_num, by rw [if_neg (by omega), HSU.out.2.1]; go_num⟩
                        case measure => simp [intN]; omega
                    · obtain rfl : m = h' := by omega
                      obtain ⟨hd, hu⟩ := HDP.out
                      obtain ⟨P4, hP4⟩ : ∃ P4, 4 ^ (m + 1) = P4 := ⟨_, rfl⟩
                      rw [hP4] at hp4 hu ⊢
                      have hso := sound_any w5 HA5.out HA4.out.2 (by omega)
                      rw [hlv] at hso
                      have HSO := Lib.hid hso
                      have HN : Hid (∃ xs, xs.length ≤ n ∧ TT M w5 p xs ∧ Below w.heap.size w w5) := ⟨ys, hyn, t5, HB5.out⟩
                      clear hso HA5 HA4 HB5 t5 HPW HDP hP4
                      by_cases hm0 : m = 0
                      · subst hm0
                        clear hd
                        go_wp2_with fail
                        refine HSO.out.mono ?_
                        rintro e w6 ⟨rfl, rfl⟩
                        clear HSO
                        go_wp2_with fail
                        go_roundw
                        case rel => exact ⟨j + 1, by omega, by go_num, HN.out⟩
                        case measure => simp [intN]; omega
                      · rw [if_neg hm0]
                        have hd2 : 2 ^ m * 2 ≤ ys.length := by
                          rcases hd with e | e
                          · omega
                          · rwa [Nat.pow_succ] at e
                        obtain ⟨P2, hP2⟩ : ∃ P2, 2 ^ m = P2 := ⟨_, rfl⟩
                        rw [hP2] at hp2 hd2 ⊢
                        clear hd hP2
                        go_wp2_with fail
                        refine HSO.out.mono ?_
                        rintro e w6 ⟨rfl, rfl⟩
                        clear HSO
                        go_wp2_with fail
                        go_roundw
                        case rel => exact ⟨j + 1, by omega, by go_num, HN.out⟩
                        case measure => simp [intN]; omega
          · go_wp2_with fail
            go_ret
            obtain ⟨_, _, _, br⟩ := HR.out
            exact ⟨rfl, br⟩
  · go_wp2_with fail
    go_ret
    exact ⟨rfl, b1⟩
end Go.Proofs.Ytgeebeoediknmaa
