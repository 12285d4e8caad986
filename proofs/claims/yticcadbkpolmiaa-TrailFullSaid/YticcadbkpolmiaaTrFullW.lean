/- TrailFull: its walk. -/
import Derived.Test.YticcadbkpolmiaaTrB
namespace Go.Proofs.Yticcadbkpolmiaa.trailFull
open Go.ChangeShapes Go.WideShapes Go.ChangeAt Go.RowKit Go.Maps

def Fin (w : World) (e : Ending) (w' : World) : Prop := e = .returned (.bool true) ∧ Below w.heap.size w w'
/-- So many entries' bodies, and their frames. -/
def BL : Nat → List (List Int)
  | 0 => []
  | j + 1 => BL j ++ [entL (eEnd ((j % 7 : Nat) : Int))]
def SI (j : Nat) : List Int := (BL j).flatMap frB
theorem mod7 (j : Nat) : 0 ≤ ((j % 7 : Nat) : Int) ∧ ((j % 7 : Nat) : Int) < 256 := by omega
theorem SI_succ (j : Nat) : SI (j + 1) = SI j ++ frL (eEnd ((j % 7 : Nat) : Int)) := by
  unfold SI
  rw [BL, List.flatMap_append, (frL_eEnd (mod7 j)).1]
  simp
theorem SI_len : ∀ j, (SI j).length = 25 * j
  | 0 => rfl
  | j + 1 => by rw [SI_succ, List.length_append, SI_len j, (frL_eEnd (mod7 j)).2.1]; omega
theorem BL_len : ∀ j, (BL j).length = j
  | 0 => rfl
  | j + 1 => by rw [BL, List.length_append, BL_len j]; rfl
theorem BL_ok : ∀ j, ∀ b ∈ BL j, b.length < 65536 ∧ tkB b = true
  | 0, b, hb => by cases hb
  | j + 1, b, hb => by
    rw [BL] at hb
    rcases List.mem_append.1 hb with hb | hb
    · exact BL_ok j b hb
    · rcases List.mem_singleton.1 hb with rfl
      exact ⟨by rw [eEnd_len]; decide, (frL_eEnd (mod7 j)).2.2⟩
theorem SI_scan (j : Nat) : (scan (SI j)).length = j := by unfold SI; rw [scan_frs _ (BL_ok j), BL_len]
theorem ent00_E : apE = apE := rfl
theorem app_zero (t : Tr) : apE t ent00 = 1 ∧ apN t ent00 = 0 ∧ apT t ent00 = t := by
  have e1 : apE t ent00 = 1 := if_pos (by decide)
  exact ⟨e1, by unfold apN; rw [e1]; rfl, by unfold apT; rw [e1]; rfl⟩

def FRel (w : World) (p bm pd bn bo : Nat) (K room : Nat) (d : Dk) (i : Nat) (wr : World) : Prop := LogAt wr p bm ⟨pd, 0, (K : Int), SI (min i room), ((min i room : Nat) : Int), 0⟩ bn bo 0 d ∧ Below w.heap.size w wr

set_option maxRecDepth 100000 in
set_option maxHeartbeats 2000000 in
theorem walk (w : World) (n : Int) (hn : 0 ≤ n ∧ n < 256) : Calls Try.prog 3 #[.int .u8 n] w (Fin w) := by
  obtain ⟨K, hK⟩ : ∃ K : Nat, n % 12 = (K : Int) := ⟨(n % 12).toNat, by omega⟩
  have hK11 : K ≤ 11 := by omega
  obtain ⟨R, hR⟩ : ∃ R : Nat, R = K * 63 / 25 := ⟨_, rfl⟩
  have HRK := Lib.hid hR
  have q0 : n.tmod 12 = (K : Int) := by rw [Int.tmod_eq_emod_of_nonneg hn.1]; exact hK
  have hR30 : R ≤ 30 := by omega
  have q1 : (K : Int) * 63 / 25 = (R : Int) := by omega
  have q2 : ((K : Int) * 63).tdiv 25 = (R : Int) := by rw [Int.tdiv_eq_ediv_of_nonneg (by omega)]; exact q1
  have HBG := Lib.hid (begun_any w)
  clear hR
  go_enter Try.func3, Try.ntmps3
  go_wp2_with fail
  refine HBG.out.mono ?_
  rintro r9 w1 ⟨rfl, hb1⟩
  have HB1 := Lib.hid hb1
  have HN := Lib.hid (new_any w1 K)
  clear hb1 HBG
  go_wp2_with fail
  refine HN.out.mono ?_
  rintro r9 w2 ⟨rfl, hd2, hb2⟩
  have hs1 := HB1.out.size
  obtain ⟨bn, hbn⟩ : ∃ b, b = w1.heap.size := ⟨_, rfl⟩
  have hcl : clampT (K : Int) = (K : Int) := by unfold clampT; rw [if_neg (by omega), if_neg (by omega)]
  rw [hcl] at hd2
  rw [← hbn] at hd2 ⊢
  have hthree : ∀ k, Three (bn + 1 + 1) bn (bn + 1) k → w.heap.size ≤ k := fun k hk => by rcases hk with h | h | h <;> omega
  have HTH := Lib.hid hthree
  have HO := Lib.hid (topen_any w2 (fresh_dk hd2) 0 K (Int.le_refl _) (by show 0 + (K : Int) ≤ (K : Int); omega) (T := zT) (fun i _ => fresh_has _ _))
  have HB2 := Lib.hid (HB1.out.trans (hb2.mono HB1.out.size))
  clear hd2 hb2 hthree hs1 hcl hbn HN HB1
  obtain ⟨pd, hpd⟩ : ∃ pd, pd = bn + 1 + 1 := ⟨_, rfl⟩
  rw [← hpd] at HO HTH ⊢
  clear hpd
  go_wp2_with fail
  refine HO.out.mono ?_
  rintro r9 w3 ⟨p, bm, A, c, d3, rfl, hp, hbm, hl3, -, hf3⟩
  rw [rd_zT, opT_nil] at hl3
  have htwo : ∀ k, Two p bm k → w.heap.size ≤ k := fun k hk => by have := HB2.out.size; rcases hk with h | h <;> omega
  have HTW := Lib.hid htwo
  have H0 : Hid (FRel w p bm pd bn (bn + 1) K R d3 0 w3) := Lib.hid ⟨by rw [Nat.zero_min]; exact hl3, bel_fr HB2.out hf3 HTH.out⟩
  have hR3 : (R : Int) ≤ 30 := by omega
  clear hp hbm hl3 hf3 htwo HO HB2
  go_wp2
  go_loopw [9] (fun i wr => ∃ j : Nat, j ≤ R + 3 ∧ i = .int .i64 j ∧ Hid (FRel w p bm pd bn (bn + 1) K R d3 j wr)) (fun i _ => R + 3 - ivT i)
  case atStart => exact ⟨0, Nat.zero_le _, rfl, H0⟩
  case round =>
    obtain ⟨j, hj, rfl, HR⟩ := hrel
    obtain ⟨hl, hb⟩ := HR.out
    clear H0 HR
    have hj33 : (j : Int) ≤ 33 := by omega
    by_cases hlt : j < R + 3
    · have hlti : (j : Int) < (R : Int) + 3 := by omega
      obtain ⟨r, hr⟩ : ∃ r : Nat, r = j % 7 := ⟨_, rfl⟩
      have hr7 : 0 ≤ (r : Int) ∧ (r : Int) < 256 := by omega
      have q3 : (j : Int) % 7 = (r : Int) := by omega
      have q4 : (j : Int).tmod 7 = (r : Int) := by rw [Int.tmod_eq_emod_of_nonneg (by omega)]; exact q3
      have HA := Lib.hid (append_any wr hl.tr (eEnd r) (nil_ents wr (eEnd r) rfl rfl rfl rfl rfl rfl) (eEnd_I hr7))
      have HL := Lib.hid hl
      have HB := Lib.hid hb
      have HRJ := Lib.hid hr
      clear hl hb hr
      go_upto_region 12 with (fail)
      go_wp2_with fail
      refine HA.out.mono ?_
      rintro r9 w4 ⟨he, ht4, hf4⟩
      have hb4 := bel_fr HB.out hf4 HTW.out
      by_cases hjR : j < R
      · obtain ⟨a1, a2, a3⟩ := app_end (t := ⟨pd, 0, (K : Int), SI (min j R), ((min j R : Nat) : Int), 0⟩) (x := (r : Int)) hr7 (by
          show ((((SI (min j R)).length + 25 : Nat)) : Int) ≤ 63 * (K : Int)
          rw [SI_len, Nat.min_eq_left (by omega)]
          have := HRK.out
          omega)
        rw [a1, a2] at he
        rw [a3] at ht4
        have hl4 := HL.out.app ht4 hf4 rfl rfl rfl
        have e5 : SI (min j R) ++ frL (eEnd (r : Int)) = SI (min (j + 1) R) := by rw [Nat.min_eq_left (by omega), Nat.min_eq_left (by omega), SI_succ, HRJ.out]
        have e6 : ((min j R : Nat) : Int) + 1 = ((min (j + 1) R : Nat) : Int) := by rw [Nat.min_eq_left (by omega), Nat.min_eq_left (by omega)]; omega
        have hF : FRel w p bm pd bn (bn + 1) K R d3 (j + 1) w4 := by
          refine ⟨?_, hb4⟩
          rw [← e5, ← e6]
          exact hl4
        have HF := Lib.hid hF
        have e7 : ((min j R : Nat) : Int) + 1 = (j : Int) + 1 := by rw [Nat.min_eq_left (by omega)]
        replace he : r9 = .returned (.tuple #[.int .i64 (((min j R : Nat) : Int) + 1), .int .i64 0]) := he
        rw [e7] at he
        subst he
        have hjRi : (j : Int) < (R : Int) := by omega
        have hjn : ¬ (R : Int) ≤ (j : Int) := by omega
        clear a1 a2 a3 ht4 hf4 hb4 hl4 e5 e6 e7 hF HA HL HB
        go_wp2
        go_roundw
        all_goals first
          | exact ⟨j + 1, by omega, by go_num, HF⟩
          | (simp [ivT]; omega)
      · obtain ⟨a1, a2, a3⟩ := app_full (t := ⟨pd, 0, (K : Int), SI (min j R), ((min j R : Nat) : Int), 0⟩) (x := (r : Int)) hr7 (by
          show 63 * (K : Int) < ((((SI (min j R)).length + 25 : Nat)) : Int)
          rw [SI_len, Nat.min_eq_right (by omega)]
          have := HRK.out
          omega)
        rw [a1, a2] at he
        rw [a3] at ht4
        have hl4 := HL.out.app ht4 hf4 rfl rfl rfl
        have hF : FRel w p bm pd bn (bn + 1) K R d3 (j + 1) w4 := by
          refine ⟨?_, hb4⟩
          rw [show min (j + 1) R = min j R by rw [Nat.min_eq_right (by omega), Nat.min_eq_right (by omega)]]
          exact hl4
        have HF := Lib.hid hF
        subst he
        have hjRi : ¬ (j : Int) < (R : Int) := by omega
        have hjn : (R : Int) ≤ (j : Int) := by omega
        clear a1 a2 a3 ht4 hf4 hb4 hl4 hF HA HL HB
        go_wp2
        go_roundw
        all_goals first
          | exact ⟨j + 1, by omega, by go_num, HF⟩
          | (simp [ivT]; omega)
    · obtain rfl : j = R + 3 := by omega
      rw [Nat.min_eq_right (by omega)] at hl
      have hjlt : ¬ (((R + 3 : Nat)) : Int) < (R : Int) + 3 := by omega
      have HF := Lib.hid (force_any wr hl)
      have HB := Lib.hid hb
      have HL := Lib.hid hl
      clear hl hb
      go_wp2_with fail
      refine HF.out.mono ?_
      rintro r9 w5 ⟨rfl, d5, hl5, hd5, hf5⟩
      have hT : ∀ i : Nat, i < K → d5.has ((0 : Int) + i) (tileL (SI R) i) := fun i hi => by
        have hR0 : (0 : Int) ≠ (R : Int) := by have := HRK.out; omega
        exact (hd5 hR0).own i (by show i < ((K : Int)).toNat; omega)
      have hO5 := topen_any w5 hl5.dk 0 K (Int.le_refl _) hl5.fit (T := tileL (SI R)) hT
      have hRd : rdL (tileL (SI R)) K 0 = SI R := by rw [rd_tile _ K 0 (by rw [SI_len]; have := HRK.out; omega)]; rfl
      rw [hRd] at hO5
      have HO5 := Lib.hid hO5
      have HL5 := Lib.hid hl5
      have HB5 := Lib.hid (bel_fr HB.out hf5 (fun k hk => by rcases hk with h | h; exact HTW.out k h; exact HTH.out k h))
      clear hd5 hT hO5 hRd hl5 hf5 HF HB HL
      go_wp2_with fail
      refine HO5.out.mono ?_
      rintro r9 w6 ⟨p6, bm6, A6, c6, d6, he, -, -, -, -, hf6⟩
      rw [SI_scan] at he
      subst he
      have ht6 := TrAt.away HL5.out hf6
      have HB6 := Lib.hid (bel_fr HB5.out hf6 HTH.out)
      have HA := Lib.hid (append_any w6 ht6 ent00 (nil_ents w6 ent00 rfl rfl rfl rfl rfl rfl) ⟨⟨by decide, by decide⟩, ⟨by decide, by decide⟩, ⟨by decide, by decide⟩, ⟨by decide, by decide⟩, ⟨by decide, by decide⟩, ⟨by decide, by decide⟩, ⟨by decide, by decide⟩, ⟨by decide, by decide⟩, ⟨by decide, by decide⟩, ⟨by decide, by decide⟩, (fun m hm => by cases hm), (fun m hm => by cases hm), (fun m hm => by cases hm), (fun m hm => by cases hm)⟩)
      clear hf6 ht6 HO5 HL5 HB5
      go_upto_region 17 with (fail)
      go_wp2_with fail
      refine HA.out.mono ?_
      rintro r9 w7 ⟨he, ht7, hf7⟩
      obtain ⟨a1, a2, a3⟩ := app_zero ⟨pd, 0, (K : Int), SI R, (R : Int), (R : Int)⟩
      replace he : r9 = .returned (.tuple #[.int .i64 (apN ⟨pd, 0, (K : Int), SI R, (R : Int), (R : Int)⟩ ent00), .int .i64 (apE ⟨pd, 0, (K : Int), SI R, (R : Int), (R : Int)⟩ ent00)]) := he
      replace ht7 : TrAt w7 p bm (apT ⟨pd, 0, (K : Int), SI R, (R : Int), (R : Int)⟩ ent00) := ht7
      rw [a1, a2] at he
      rw [a3] at ht7
      subst he
      have HB7 := Lib.hid (bel_fr HB6.out hf7 HTW.out)
      have hlen : (((SI R).length : Nat) : Int) = 25 * (R : Int) := by rw [SI_len]; omega
      have hl7 := left_any w7 ht7
      replace hl7 : Calls Try.prog 12 #[.pointer (some ⟨p, 0, none⟩)] w7 fun e w' => e = .returned (.int .i64 ((K : Int) * 63 - 25 * (R : Int))) ∧ Below w7.heap.size w7 w' := hl7.mono fun e w' ⟨h1, h2⟩ => ⟨by rw [h1]; show Ending.returned (.int .i64 ((K : Int) * 63 - ((SI R).length : Int))) = _; rw [hlen], h2⟩
      have HL7 := Lib.hid hl7
      clear ht7 hf7 a1 a2 a3 hlen hl7 HA HB6
      go_wp2_with (go_at_call 12; refine HL7.out.mono ?_; rintro r9 w8 ⟨rfl, hb8⟩)
      go_ret
      exact ⟨rfl, HB7.out.trans (hb8.mono HB7.out.size)⟩
end Go.Proofs.Yticcadbkpolmiaa.trailFull
