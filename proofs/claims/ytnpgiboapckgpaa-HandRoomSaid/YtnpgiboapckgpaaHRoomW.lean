/- HandRoom: the walk. -/
import Derived.Test.YtnpgiboapckgpaaHdL
import Derived.Test.YtnpgiboapckgpaaHdM
namespace Go.Proofs.Ytnpgiboapckgpaa
open Go.RowKit

def chV : ByteArray := ⟨#[118]⟩
/-- What a cache of room n is behind i puts of keys that rise. -/
structure Rm (n i : Nat) (s : St) : Prop where
  nn : s.n = n
  a : s.a < n
  u : ∀ j, j < n → (s.P j).u = decide (j < i)
  on : ∀ j, j < n → j < i → 0 ≤ (s.P j).k ∧ (s.P j).k < (i : Int) ∧ (s.P j).v = chV ∧ (s.P j).n = 0
  off : ∀ j, j < n → i ≤ j → s.P j = Pl.zero
theorem cntU_lt {P : Nat → Pl} {i : Nat} : ∀ n, (∀ j, j < n → (P j).u = decide (j < i)) → cntU P n = min i n
  | 0, _ => by simp [cntU]
  | n + 1, h => by
    unfold cntU
    rw [cntU_lt n fun j hj => h j (by omega), h n (by omega)]
    by_cases e : n < i
    · rw [if_pos (by simpa using e)]; omega
    · rw [if_neg (by simpa using e)]; omega
theorem room_step {n i : Nat} {s : St} (h : Rm n i s) : ∃ (s' : St) (out : Int) (was : ByteArray) (had : Bool), PutR s (i : Int) chV s' (tup4 out was had 0) ∧ Rm n (i + 1) s' ∧ ((i < n ∧ had = false) ∨ (n ≤ i ∧ had = true ∧ 0 ≤ out ∧ out < (i : Int) ∧ was = chV)) := by
  obtain ⟨n', P, a⟩ := s
  obtain rfl : n' = n := h.nn
  have hno : First n' (hit ⟨n', P, a⟩ (i : Int)) n' := hit_none fun j hj hu => by
    have hu2 := (h.u j hj).symm.trans hu
    have := (h.on j hj (by simpa using hu2)).2.1
    show (P j).k ≠ (i : Int)
    exact fun e => by have e2 : (P j).k < (i : Int) := this; omega
  by_cases hi : i < n'
  · have r := PutR.vac (s := ⟨n', P, a⟩) (k := (i : Int)) (v := chV) i hno (first_at (Nat.le_of_lt hi) (fun j hj => by
      show (!(P j).u) = false
      rw [show (P j).u = decide (j < i) from h.u j (Nat.lt_trans hj hi)]; simp [hj]) (fun _ => by
      show (!(P i).u) = true
      rw [show (P i).u = decide (i < i) from h.u i hi]; simp)) hi
    refine ⟨_, _, _, _, r, ⟨rfl, h.a, fun j hj => ?_, fun j hj hji => ?_, fun j hj hji => ?_⟩, .inl ⟨hi, by show (P i).u = false; rw [show P i = Pl.zero from h.off i hi (Nat.le_refl _)]; rfl⟩⟩
    · show (up P i _ j).u = _
      by_cases e : j = i
      · subst e; rw [up_same]; simp
      · rw [up_other _ e, show (P j).u = decide (j < i) from h.u j hj]; simp; omega
    · show 0 ≤ (up P i _ j).k ∧ _
      by_cases e : j = i
      · subst e; simp only [up_same]; exact ⟨by show (0 : Int) ≤ (j : Int); omega, by show (j : Int) < ((j + 1 : Nat) : Int); omega, trivial, trivial⟩
      · simp only [up_other _ e]
        have := h.on j hj (by omega)
        exact ⟨this.1, by have := this.2.1; show (P j).k < ((i + 1 : Nat) : Int); have h3 : (P j).k < (i : Int) := this; omega, this.2.2⟩
    · show up P i _ j = _
      rw [up_other _ (by omega)]
      exact h.off j hj (by omega)
  · have hall : ∀ j, j < n' → (P j).u = true := fun j hj => by rw [show (P j).u = decide (j < i) from h.u j hj]; simp; omega
    have h0 : ∀ j, j < n' → (P j).n = 0 := fun j hj => (h.on j hj (by omega)).2.2.2
    have hn0 : 0 < n' := Nat.lt_of_le_of_lt (Nat.zero_le _) h.a
    obtain ⟨f, P', a', j, ht⟩ := turn_ends (n := n') _ P a rfl h.a ⟨0, hn0, h0 0 hn0⟩
    have hs := turnF_sim f P a ht
    obtain ⟨hj, ha', _⟩ := turnF_lt f P a h.a ht
    have r := PutR.turn (s := ⟨n', P, a⟩) (k := (i : Int)) (v := chV) 0 j a' f P' hno (first_at (Nat.le_refl _) (fun j hj => by
      show (!(P j).u) = false
      rw [hall j hj]; rfl) (fun e => absurd e (Nat.lt_irrefl _))) (first_at (Nat.zero_le _) (fun j e => absurd e (Nat.not_lt_zero _)) (fun _ => by
      show decide ((P 0).n = 0) = true
      rw [h0 0 hn0]; rfl)) hn0 ht
    have hu : (P' j).u = true := (hs j).1.trans (hall j hj)
    have ho := h.on j hj (by omega)
    rw [hu] at r
    refine ⟨_, _, _, _, r, ⟨rfl, ha', fun x hx => ?_, fun x hx hxi => ?_, fun x hx hxi => by omega⟩, .inr ⟨by omega, rfl, by rw [(hs j).2.1]; exact ho.1, by rw [(hs j).2.1]; exact ho.2.1, by rw [(hs j).2.2.1]; exact ho.2.2.1⟩⟩
    · show (up P' j _ x).u = _
      by_cases e : x = j
      · subst e; rw [up_same]; simp; omega
      · rw [up_other _ e, (hs x).1, hall x hx]; simp; omega
    · show 0 ≤ (up P' j _ x).k ∧ _
      by_cases e : x = j
      · subst e; simp only [up_same]; exact ⟨by show (0 : Int) ≤ (i : Int); omega, by show (i : Int) < ((i + 1 : Nat) : Int); omega, trivial, trivial⟩
      · simp only [up_other _ e]
        rw [(hs x).2.1, (hs x).2.2.1, (hs x).2.2.2]
        have := h.on x hx (by omega)
        exact ⟨this.1, by have h3 : (P x).k < (i : Int) := this.2.1; show (P x).k < ((i + 1 : Nat) : Int); omega, this.2.2⟩

set_option maxRecDepth 100000 in
set_option maxHeartbeats 4000000 in
theorem room_walk (w : World) (r : Int) (y : Nat) (hy : y < 256) : Calls Try.prog 7 #[.int .i64 r, .int .u8 (y : Int)] w fun e w' => e = .returned (.bool true) ∧ Below w.heap.size w w' := by
  have hm : ((roomOf r : Nat) : Int) = min (max r 1) 64 := by unfold roomOf; omega
  have h1 : 1 ≤ roomOf r := by unfold roomOf; omega
  have h64 : roomOf r ≤ 64 := by unfold roomOf; omega
  generalize hr : roomOf r = n at *
  go_enter Try.func7, Try.ntmps7
  go_upto_region 3 with (first | (go_at_call 9; refine (begun_any _).mono ?_; rintro e w1 ⟨rfl, b1⟩))
  have B1 := Lib.hid b1
  have HRm := Lib.hid hr
  clear b1 hr
  go_cut [5] (fun u wx => u = .int .i64 (n : Int) ∧ w1 = wx)
  case first =>
    by_cases c1 : r < 1
    · obtain rfl : n = 1 := by omega
      have c1' : ¬ 1 ≤ r := by omega
      clear hm h1 h64 c1
      go_wp2
      go_meet
      exact ⟨rfl, rfl⟩
    · by_cases c2 : 64 < r
      · obtain rfl : n = 64 := by omega
        have c1' : 1 ≤ r := by omega
        clear hm h1 h64 c1
        go_wp2
        go_meet
        exact ⟨rfl, rfl⟩
      · obtain rfl : r = (n : Int) := by omega
        have c1' : (1 : Int) ≤ (n : Int) := by omega
        have c2' : (n : Int) ≤ 64 := by omega
        clear hm h1 h64 c1 c2
        go_wp2
        go_meet
        exact ⟨rfl, rfl⟩
  case rest =>
    obtain ⟨rfl, rfl⟩ := hcut
    clear hm
    go_upto_region 5 with (first | (go_at_call 10; refine (new_mine w w1 r B1.out B1.out.size).mono ?_; rintro e w2 ⟨p, g, rfl, m2⟩))
    rw [HRm.out] at m2
    have M2 := Lib.hid m2
    have HN := Lib.hid h1
    clear m2 B1 h1 h64 HRm
    go_wp2_with fail
    go_loopw [7] (fun v wr => ∃ (i : Nat) (s : St), i ≤ y ∧ v = .int .i64 (i : Int) ∧ Rm n i s ∧ Mine w.heap.size w wr p g s) (fun v _ => y - lvN v)
    case atStart => exact ⟨0, newS n, Nat.zero_le _, rfl, ⟨rfl, HN.out, fun j _ => by simp [newS, Pl.zero], fun j _ h => by omega, fun j _ _ => rfl⟩, M2.out⟩
    case round =>
      obtain ⟨i, s, hi, rfl, hrm, m⟩ := hrel
      clear M2
      by_cases hlt : i < y
      · obtain ⟨s', out, was, had, hr, hrm', hc⟩ := room_step hrm
        have HM := Lib.hid m
        have HR := Lib.hid hr
        have HRM := Lib.hid hrm'
        have HLen : Hid ((keysTo s'.P s'.n).length = min (i + 1) n) := by
          show (keysTo s'.P s'.n).length = _
          rw [hrm'.nn, keysTo_cnt, cntU_lt n hrm'.u]
        clear m hr hrm' hrm hi
        rcases hc with ⟨hin, rfl⟩ | ⟨hin, rfl, h0, hlo, rfl⟩
        · have e1 : min (i + 1) n = i + 1 := by omega
          have E1 := Lib.hid e1
          clear e1
          have hin' : (i : Int) < (n : Int) := by omega
          have hin2 : (i : Int) + 1 ≤ (n : Int) := by omega
          clear hin
          go_wp2_with (first | (go_at_call 12; refine (put_any _ HM.out.ha HR.out).mono ?_; rintro e w3 ⟨rfl, h3, f3⟩; unfold tup4) | (go_at_call 23; refine (len_any _ h3).mono ?_; rintro e w4 ⟨rfl, b4⟩; rw [HLen.out, E1.out]))
          exact ⟨⟨i + 1, s', hlt, by go_num, HRM.out, (HM.out.step h3 f3).on b4⟩, by simp [lvN]; omega⟩
        · have e1 : min (i + 1) n = n := by omega
          have E1 := Lib.hid e1
          clear e1
          have hin' : ¬ (i : Int) < (n : Int) := by omega
          have hin2 : (n : Int) < (i : Int) + 1 := by omega
          have h0' : ¬ out < 0 := by omega
          clear hin h0
          unfold chV at HR
          go_wp2_with (first | (go_at_call 12; refine (put_any _ HM.out.ha HR.out).mono ?_; rintro e w3 ⟨rfl, h3, f3⟩; unfold tup4) | (go_at_call 23; refine (len_any _ h3).mono ?_; rintro e w4 ⟨rfl, b4⟩; rw [HLen.out, E1.out]))
          exact ⟨⟨i + 1, s', hlt, by go_num, HRM.out, (HM.out.step h3 f3).on b4⟩, by simp [lvN]; omega⟩
      · obtain rfl : i = y := by omega
        have HM := Lib.hid m
        clear m hrm hi hlt
        go_wp2_with fail
        go_ret
        exact ⟨rfl, HM.out.be⟩
end Go.Proofs.Ytnpgiboapckgpaa
