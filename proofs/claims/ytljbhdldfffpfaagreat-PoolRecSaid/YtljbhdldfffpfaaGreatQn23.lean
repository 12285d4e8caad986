/- PoolNone, a part. -/
import Derived.Test.YtljbhdldfffpfaaGreatQn22
namespace Go.Proofs.YtljbhdldfffpfaaGreat.Lf
open Go.Proofs.YtljbhdldfffpfaaGreat
open Go.RowKit

def zerosB (l : List Int) : Bool := l.all (fun x => x == 0)
theorem zerosB_true {l : List Int} (h : ∀ j (hj : j < l.length), l[j] = 0) : zerosB l = true := by
  unfold zerosB
  rw [List.all_eq_true]
  intro x hx
  obtain ⟨j, hj, rfl⟩ := List.getElem_of_mem hx
  rw [h j hj]; rfl
theorem zerosB_false {l : List Int} {k : Nat} (hk : k < l.length) (h : l[k] ≠ 0) : zerosB l = false := by
  unfold zerosB
  rw [List.all_eq_false]
  exact ⟨l[k], List.getElem_mem hk, by simpa using h⟩
theorem zerosB_iff (l : List Int) : zerosB l = true ↔ ∀ x ∈ l, x = 0 := by
  unfold zerosB
  rw [List.all_eq_true]
  exact ⟨fun h x hx => by simpa using h x hx, fun h x hx => by simp [h x hx]⟩

set_option maxRecDepth 100000 in
set_option maxHeartbeats 400000 in
theorem zeros_any (w : World) (v : Value) (l : List Int) (h : Pt w v l) (hl : l.length ≤ 100000) : Calls Tryz.prog 128 #[v] w fun e w' => e = .returned (.bool (zerosB l)) ∧ w' = w := by
  obtain ⟨b, off, cap, rfl, h1, h2, h3⟩ := h
  have H3 := Lib.hid h3
  obtain ⟨n, hN⟩ : ∃ n, l.length = n := ⟨_, rfl⟩
  rw [hN] at h1 hl ⊢
  have HN := Lib.hid hN
  clear h3 hN
  go_enter Tryz.func128, Tryz.ntmps128
  go_wp2
  go_loopw [7] (fun i wr => ∃ k : Nat, k ≤ n ∧ (∀ j (hj : j < l.length), j < k → l[j] = 0) ∧ i = .int .i64 k ∧ w = wr) (fun i _ => n - (RowKit.intOf i).toNat)
  case atStart => exact ⟨0, by omega, fun j _ h => by omega, rfl, rfl⟩
  case round =>
    obtain ⟨k, hk, hz, rfl, rfl⟩ := hrel
    have HZ := Lib.hid hz
    clear hz
    by_cases hlt : k < n
    · have hkl : k < l.length := by have := HN.out; omega
      have c0 := H3.out k hkl
      by_cases h0 : l[k] = 0
      · have HZ2 : Hid (∀ j (hj : j < l.length), j < k + 1 → l[j] = 0) := fun j hj hlt => by
          by_cases e : j = k
          · subst e; exact h0
          · exact HZ.out j hj (by omega)
        rw [h0] at c0
        clear h0
        go_wp2
        go_roundw
        case rel => exact ⟨k + 1, by omega, HZ2.out, by go_num, trivial⟩
        case measure => simp [RowKit.intOf]; omega
      · have HF := Lib.hid (zerosB_false hkl h0)
        have hx : (l[k] != 0) = true := by simpa using h0
        go_wp2
        go_ret
        exact ⟨ret_bool HF.out.symm, rfl⟩
    · obtain rfl : k = n := by omega
      have HF := Lib.hid (zerosB_true (l := l) (fun j hj => HZ.out j hj (by have := HN.out; omega)))
      go_wp2
      go_ret
      exact ⟨ret_bool HF.out.symm, rfl⟩

/-- Is this a part, its length ahead, of room m? -/
def partB (c : Int) (t : List Int) (m : Nat) : Bool := decide (c ≤ m) && zerosB ((t.take m).drop c.toNat)
/-- Its text. -/
def partS (c : Int) (t : List Int) : ByteArray := bstr (t.take c.toNat)

theorem _root_.Go.Proofs.YtljbhdldfffpfaaGreat.Pt.cut {w : World} {b off cap n : Nat} {l : List Int} (h : Pt w (.slice (some ⟨b, off, none⟩) n cap) l) {k m : Nat} (hk : k ≤ n) {off' c' : Nat} (ho : k < n → off' = off + k) (hm : m = n - k) (hc : m ≤ c') : Pt w (.slice (some ⟨b, off', none⟩) m c') (l.drop k) := by
  obtain ⟨b', o', cap', e, h1, h2, h3⟩ := h
  have e1 : b' = b ∧ o' = off ∧ l.length = n ∧ cap' = cap := by
    injection e with e1 e2 e3
    injection e1 with e1
    injection e1 with e1 e4
    exact ⟨e1.symm, e4.symm, e2.symm, e3.symm⟩
  obtain ⟨rfl, rfl, rfl, rfl⟩ := e1
  have hl : (l.drop k).length = m := by rw [List.length_drop]; omega
  refine ⟨b', off', c', by rw [hl], by omega, h2, fun j hj => ?_⟩
  rw [List.length_drop] at hj
  rw [ho (by omega), List.getElem_drop, Nat.add_assoc]
  exact h3 (k + j) (by omega)
theorem _root_.Go.Proofs.YtljbhdldfffpfaaGreat.Pt.first {w : World} {b off cap n : Nat} {l : List Int} (h : Pt w (.slice (some ⟨b, off, none⟩) n cap) l) {k c' : Nat} (hk : k ≤ n) (hc : k ≤ c') : Pt w (.slice (some ⟨b, off, none⟩) k c') (l.take k) := by
  obtain ⟨b', o', cap', e, h1, h2, h3⟩ := h
  have e1 : b' = b ∧ o' = off ∧ l.length = n ∧ cap' = cap := by
    injection e with e1 e2 e3
    injection e1 with e1
    injection e1 with e1 e4
    exact ⟨e1.symm, e4.symm, e2.symm, e3.symm⟩
  obtain ⟨rfl, rfl, rfl, rfl⟩ := e1
  have hl : (l.take k).length = k := by rw [List.length_take]; omega
  refine ⟨b', o', c', by rw [hl], by omega, h2, fun j hj => ?_⟩
  rw [hl] at hj
  rw [List.getElem_take]
  exact h3 j (by omega)
theorem _root_.Go.Proofs.YtljbhdldfffpfaaGreat.Pt.lenEq {w : World} {A : Option Addr} {n cap : Nat} {l : List Int} (h : Pt w (.slice A n cap) l) : l.length = n ∧ n ≤ cap := by
  obtain ⟨b', o', cap', e, h1, h2, h3⟩ := h
  injection e with e1 e2 e3
  omega

def partR (c : Int) (t : List Int) (m : Nat) : ByteArray := if partB c t m = true then partS c t else ⟨#[]⟩
def Cut (w : World) (s : ByteArray) (ok : Bool) (t : List Int) (e : Ending) (w' : World) : Prop := ∃ r n', e = .returned (.tuple #[.string s, r, .bool ok]) ∧ Pt w' r t ∧ w' = w.drewN n'

set_option maxRecDepth 100000 in
set_option maxHeartbeats 1000000 in
theorem cut8_more (w : World) (b off cap : Nat) (n : Nat) (t : List Int) (T : Nat) (h : Pt w (.slice (some ⟨b, off, none⟩) (T + 1) cap) ((n : Int) :: t)) (hok : bytesOk ((n : Int) :: t)) (hl : 8 ≤ T) (hl2 : T ≤ 1000) (hcap : ¬ cap = 9) :
    Calls Tryz.prog 160 #[.slice (some ⟨b, off, none⟩) (T + 1) cap, .int .i64 8] w (Cut w (partR n t 8) (partB n t 8) (t.drop 8)) := by
  have hc := hok (n : Int) (by simp)
  have h1 := h.lenEq.2
  have x0 : w.cell? ⟨b, off, none⟩ = some (.int .u8 (n : Int)) := by
    obtain ⟨b', o', cap', e, _, _, h3⟩ := h
    injection e with e1 e2 e3
    injection e1 with e1
    injection e1 with e1 e4
    subst e1 e4
    exact h3 0 (by simp)
  have hp1 : Pt w (.slice (some ⟨b, off + 1, none⟩) 8 (cap - 1)) (t.take 8) := (h.cut (k := 1) (m := T) (off' := off + 1) (c' := cap - 1) (by omega) (fun _ => rfl) (by omega) (by omega)).first (by omega) (by omega)
  have hp2 : Pt w (.slice (some ⟨b, off + 9, none⟩) (T - 8) (cap - 9)) (t.drop 8) := h.cut (k := 9) (by omega) (fun _ => rfl) (by omega) (by omega)
  have i1 : (9 : Int) ≤ (cap : Int) := by omega
  have i2 : (9 : Int) ≤ ((T + 1 : Nat) : Int) := by omega
  have i3 : ¬ cap = 1 := by omega
  have hok2 : bytesOk (t.take n) := ok_take (ok_drop hok 1) n
  have HP1 := Lib.hid hp1
  have HP2 := Lib.hid hp2
  have HOK := Lib.hid hok2
  clear hp1 hp2 h hok hok2
  by_cases hn : n ≤ 8
  · have hz : Pt w (.slice (some ⟨b, off + 1 + n, none⟩) (8 - n) (cap - 1 - n)) ((t.take 8).drop n) := HP1.out.cut (k := n) (by omega) (fun h => by omega) (by omega) (by omega)
    have hs : Pt w (.slice (some ⟨b, off + 1, none⟩) n (cap - 1)) (t.take n) := by
      have := HP1.out.first (k := n) (c' := (cap - 1)) (by omega) (by omega)
      rwa [List.take_take, Nat.min_eq_left (by omega)] at this
    have hv := fun k => conv_drewN (hs.slK HOK.out) k
    have HZ := Lib.hid hz
    clear hz hs
    have j1 : (n : Int) ≤ 8 := by omega
    have j2 : ¬ (cap - 1) = n := by omega
    have j3 : ¬ n = (cap - 1) := by omega
    have j4 : (n : Int) ≤ (((cap - 1) : Nat) : Int) := by omega
    go_enter Tryz.func160, Tryz.ntmps160
    go_wp2
    go_quiet (fail)
    go_wp2_with fail
    refine (zeros_any _ _ _ (HZ.out.below (below_drewN w.heap.size _ _) (Nat.le_refl _)) (by simp; omega)).mono ?_
    rintro e w' ⟨rfl, rfl⟩
    by_cases hzz : zerosB ((t.take 8).drop n) = true
    · have hpb : partB ((n : Nat) : Int) t 8 = true := by simp [partB, hzz]; omega
      go_wp2
      go_ret3
      exact ⟨_, nq, by rw [partR, if_pos hpb, hpb, partS]; rfl, HP2.out.below (below_drewN w.heap.size _ _) (Nat.le_refl _), rfl⟩
    · have hzf : zerosB ((t.take 8).drop n) = false := by simpa using hzz
      have hpb : partB ((n : Nat) : Int) t 8 = false := by simp [partB, hzf]
      go_wp2
      go_ret3
      exact ⟨_, nq, by rw [partR, hpb]; rfl, HP2.out.below (below_drewN w.heap.size _ _) (Nat.le_refl _), rfl⟩
  · have hpb : partB (n : Int) t 8 = false := by simp [partB]; intro h; omega
    go_enter Tryz.func160, Tryz.ntmps160
    go_wp2
    go_quiet (fail)
    go_wp2
    go_ret3
    exact ⟨_, nq, by rw [partR, hpb]; rfl, HP2.out.below (below_drewN w.heap.size _ _) (Nat.le_refl _), rfl⟩

set_option maxRecDepth 100000 in
set_option maxHeartbeats 1000000 in
theorem cut8_full (w : World) (b off cap : Nat) (n : Nat) (t : List Int) (T : Nat) (h : Pt w (.slice (some ⟨b, off, none⟩) (T + 1) cap) ((n : Int) :: t)) (hok : bytesOk ((n : Int) :: t)) (hl : 8 ≤ T) (hl2 : T ≤ 1000) (hcap : cap = 9) :
    Calls Tryz.prog 160 #[.slice (some ⟨b, off, none⟩) (T + 1) cap, .int .i64 8] w (Cut w (partR n t 8) (partB n t 8) (t.drop 8)) := by
  have hc := hok (n : Int) (by simp)
  have h1 := h.lenEq.2
  have x0 : w.cell? ⟨b, off, none⟩ = some (.int .u8 (n : Int)) := by
    obtain ⟨b', o', cap', e, _, _, h3⟩ := h
    injection e with e1 e2 e3
    injection e1 with e1
    injection e1 with e1 e4
    subst e1 e4
    exact h3 0 (by simp)
  obtain rfl : cap = 9 := hcap
  obtain rfl : T = 8 := by omega
  have hp1 : Pt w (.slice (some ⟨b, off + 1, none⟩) 8 8) (t.take 8) := (h.cut (k := 1) (m := 8) (off' := off + 1) (c' := 8) (by omega) (fun _ => rfl) (by omega) (by omega)).first (by omega) (by omega)
  have hp2 : Pt w (.slice (some ⟨b, off, none⟩) 0 0) (t.drop 8) := h.cut (k := 9) (by omega) (fun h => by omega) (by omega) (by omega)
  have hok2 : bytesOk (t.take n) := ok_take (ok_drop hok 1) n
  have HP1 := Lib.hid hp1
  have HP2 := Lib.hid hp2
  have HOK := Lib.hid hok2
  clear hp1 hp2 h hok hok2
  by_cases hn : n ≤ 8
  · by_cases he : n = 8
    · subst he
      have hz : Pt w (.slice (some ⟨b, off + 1, none⟩) 0 0) [] := by
        have := HP1.out.cut (k := 8) (m := 0) (off' := off + 1) (c' := 0) (by omega) (fun h => by omega) (by omega) (by omega)
        rwa [List.drop_eq_nil_of_le (by simp; omega)] at this
      have hs : Pt w (.slice (some ⟨b, off + 1, none⟩) 8 8) (t.take 8) := HP1.out
      have hv := fun k => conv_drewN (hs.slK HOK.out) k
      have hpb : partB ((8 : Nat) : Int) t 8 = true := by
        unfold partB
        rw [show ((8 : Nat) : Int).toNat = 8 from rfl, List.drop_eq_nil_of_le (by simp; omega)]
        decide
      have hz0 : zerosB [] = true := rfl
      have HZ := Lib.hid hz
      have HB := Lib.hid hpb
      clear hz hs hpb
      go_enter Tryz.func160, Tryz.ntmps160
      go_wp2
      go_quiet (fail)
      go_wp2_with fail
      refine (zeros_any _ _ _ (HZ.out.below (below_drewN w.heap.size _ _) (Nat.le_refl _)) (by simp)).mono ?_
      rintro e w' ⟨rfl, rfl⟩
      go_wp2
      go_ret3
      exact ⟨_, nq, by rw [partR, if_pos HB.out, HB.out, partS]; rfl, HP2.out.below (below_drewN w.heap.size _ _) (Nat.le_refl _), rfl⟩
    · have hz : Pt w (.slice (some ⟨b, off + 1 + n, none⟩) (8 - n) (8 - n)) ((t.take 8).drop n) := HP1.out.cut (k := n) (by omega) (fun h => by omega) (by omega) (by omega)
      have hs : Pt w (.slice (some ⟨b, off + 1, none⟩) n 8) (t.take n) := by
        have := HP1.out.first (k := n) (c' := 8) (by omega) (by omega)
        rwa [List.take_take, Nat.min_eq_left (by omega)] at this
      have hv := fun k => conv_drewN (hs.slK HOK.out) k
      have HZ := Lib.hid hz
      clear hz hs
      have j1 : (n : Int) ≤ 8 := by omega
      have j2 : ¬ 8 = n := by omega
      have j3 : ¬ n = 8 := by omega
      have j4 : (n : Int) ≤ ((8 : Nat) : Int) := by omega
      go_enter Tryz.func160, Tryz.ntmps160
      go_wp2
      go_quiet (fail)
      go_wp2_with fail
      refine (zeros_any _ _ _ (HZ.out.below (below_drewN w.heap.size _ _) (Nat.le_refl _)) (by simp; omega)).mono ?_
      rintro e w' ⟨rfl, rfl⟩
      by_cases hzz : zerosB ((t.take 8).drop n) = true
      · have hpb : partB ((n : Nat) : Int) t 8 = true := by simp [partB, hzz]; omega
        go_wp2
        go_ret3
        exact ⟨_, nq, by rw [partR, if_pos hpb, hpb, partS]; rfl, HP2.out.below (below_drewN w.heap.size _ _) (Nat.le_refl _), rfl⟩
      · have hzf : zerosB ((t.take 8).drop n) = false := by simpa using hzz
        have hpb : partB ((n : Nat) : Int) t 8 = false := by simp [partB, hzf]
        go_wp2
        go_ret3
        exact ⟨_, nq, by rw [partR, hpb]; rfl, HP2.out.below (below_drewN w.heap.size _ _) (Nat.le_refl _), rfl⟩
  · have hpb : partB (n : Int) t 8 = false := by simp [partB]; intro h; omega
    go_enter Tryz.func160, Tryz.ntmps160
    go_wp2
    go_quiet (fail)
    go_wp2
    go_ret3
    exact ⟨_, nq, by rw [partR, hpb]; rfl, HP2.out.below (below_drewN w.heap.size _ _) (Nat.le_refl _), rfl⟩

set_option maxRecDepth 100000 in
set_option maxHeartbeats 1000000 in
theorem cut6_more (w : World) (b off cap : Nat) (n : Nat) (t : List Int) (T : Nat) (h : Pt w (.slice (some ⟨b, off, none⟩) (T + 1) cap) ((n : Int) :: t)) (hok : bytesOk ((n : Int) :: t)) (hl : 6 ≤ T) (hl2 : T ≤ 1000) (hcap : ¬ cap = 7) :
    Calls Tryz.prog 160 #[.slice (some ⟨b, off, none⟩) (T + 1) cap, .int .i64 6] w (Cut w (partR n t 6) (partB n t 6) (t.drop 6)) := by
  have hc := hok (n : Int) (by simp)
  have h1 := h.lenEq.2
  have x0 : w.cell? ⟨b, off, none⟩ = some (.int .u8 (n : Int)) := by
    obtain ⟨b', o', cap', e, _, _, h3⟩ := h
    injection e with e1 e2 e3
    injection e1 with e1
    injection e1 with e1 e4
    subst e1 e4
    exact h3 0 (by simp)
  have hp1 : Pt w (.slice (some ⟨b, off + 1, none⟩) 6 (cap - 1)) (t.take 6) := (h.cut (k := 1) (m := T) (off' := off + 1) (c' := cap - 1) (by omega) (fun _ => rfl) (by omega) (by omega)).first (by omega) (by omega)
  have hp2 : Pt w (.slice (some ⟨b, off + 7, none⟩) (T - 6) (cap - 7)) (t.drop 6) := h.cut (k := 7) (by omega) (fun _ => rfl) (by omega) (by omega)
  have i1 : (7 : Int) ≤ (cap : Int) := by omega
  have i2 : (7 : Int) ≤ ((T + 1 : Nat) : Int) := by omega
  have i3 : ¬ cap = 1 := by omega
  have hok2 : bytesOk (t.take n) := ok_take (ok_drop hok 1) n
  have HP1 := Lib.hid hp1
  have HP2 := Lib.hid hp2
  have HOK := Lib.hid hok2
  clear hp1 hp2 h hok hok2
  by_cases hn : n ≤ 6
  · have hz : Pt w (.slice (some ⟨b, off + 1 + n, none⟩) (6 - n) (cap - 1 - n)) ((t.take 6).drop n) := HP1.out.cut (k := n) (by omega) (fun h => by omega) (by omega) (by omega)
    have hs : Pt w (.slice (some ⟨b, off + 1, none⟩) n (cap - 1)) (t.take n) := by
      have := HP1.out.first (k := n) (c' := (cap - 1)) (by omega) (by omega)
      rwa [List.take_take, Nat.min_eq_left (by omega)] at this
    have hv := fun k => conv_drewN (hs.slK HOK.out) k
    have HZ := Lib.hid hz
    clear hz hs
    have j1 : (n : Int) ≤ 6 := by omega
    have j2 : ¬ (cap - 1) = n := by omega
    have j3 : ¬ n = (cap - 1) := by omega
    have j4 : (n : Int) ≤ (((cap - 1) : Nat) : Int) := by omega
    go_enter Tryz.func160, Tryz.ntmps160
    go_wp2
    go_quiet (fail)
    go_wp2_with fail
    refine (zeros_any _ _ _ (HZ.out.below (below_drewN w.heap.size _ _) (Nat.le_refl _)) (by simp; omega)).mono ?_
    rintro e w' ⟨rfl, rfl⟩
    by_cases hzz : zerosB ((t.take 6).drop n) = true
    · have hpb : partB ((n : Nat) : Int) t 6 = true := by simp [partB, hzz]; omega
      go_wp2
      go_ret3
      exact ⟨_, nq, by rw [partR, if_pos hpb, hpb, partS]; rfl, HP2.out.below (below_drewN w.heap.size _ _) (Nat.le_refl _), rfl⟩
    · have hzf : zerosB ((t.take 6).drop n) = false := by simpa using hzz
      have hpb : partB ((n : Nat) : Int) t 6 = false := by simp [partB, hzf]
      go_wp2
      go_ret3
      exact ⟨_, nq, by rw [partR, hpb]; rfl, HP2.out.below (below_drewN w.heap.size _ _) (Nat.le_refl _), rfl⟩
  · have hpb : partB (n : Int) t 6 = false := by simp [partB]; intro h; omega
    go_enter Tryz.func160, Tryz.ntmps160
    go_wp2
    go_quiet (fail)
    go_wp2
    go_ret3
    exact ⟨_, nq, by rw [partR, hpb]; rfl, HP2.out.below (below_drewN w.heap.size _ _) (Nat.le_refl _), rfl⟩

set_option maxRecDepth 100000 in
set_option maxHeartbeats 1000000 in
theorem cut6_full (w : World) (b off cap : Nat) (n : Nat) (t : List Int) (T : Nat) (h : Pt w (.slice (some ⟨b, off, none⟩) (T + 1) cap) ((n : Int) :: t)) (hok : bytesOk ((n : Int) :: t)) (hl : 6 ≤ T) (hl2 : T ≤ 1000) (hcap : cap = 7) :
    Calls Tryz.prog 160 #[.slice (some ⟨b, off, none⟩) (T + 1) cap, .int .i64 6] w (Cut w (partR n t 6) (partB n t 6) (t.drop 6)) := by
  have hc := hok (n : Int) (by simp)
  have h1 := h.lenEq.2
  have x0 : w.cell? ⟨b, off, none⟩ = some (.int .u8 (n : Int)) := by
    obtain ⟨b', o', cap', e, _, _, h3⟩ := h
    injection e with e1 e2 e3
    injection e1 with e1
    injection e1 with e1 e4
    subst e1 e4
    exact h3 0 (by simp)
  obtain rfl : cap = 7 := hcap
  obtain rfl : T = 6 := by omega
  have hp1 : Pt w (.slice (some ⟨b, off + 1, none⟩) 6 6) (t.take 6) := (h.cut (k := 1) (m := 6) (off' := off + 1) (c' := 6) (by omega) (fun _ => rfl) (by omega) (by omega)).first (by omega) (by omega)
  have hp2 : Pt w (.slice (some ⟨b, off, none⟩) 0 0) (t.drop 6) := h.cut (k := 7) (by omega) (fun h => by omega) (by omega) (by omega)
  have hok2 : bytesOk (t.take n) := ok_take (ok_drop hok 1) n
  have HP1 := Lib.hid hp1
  have HP2 := Lib.hid hp2
  have HOK := Lib.hid hok2
  clear hp1 hp2 h hok hok2
  by_cases hn : n ≤ 6
  · by_cases he : n = 6
    · subst he
      have hz : Pt w (.slice (some ⟨b, off + 1, none⟩) 0 0) [] := by
        have := HP1.out.cut (k := 6) (m := 0) (off' := off + 1) (c' := 0) (by omega) (fun h => by omega) (by omega) (by omega)
        rwa [List.drop_eq_nil_of_le (by simp; omega)] at this
      have hs : Pt w (.slice (some ⟨b, off + 1, none⟩) 6 6) (t.take 6) := HP1.out
      have hv := fun k => conv_drewN (hs.slK HOK.out) k
      have hpb : partB ((6 : Nat) : Int) t 6 = true := by
        unfold partB
        rw [show ((6 : Nat) : Int).toNat = 6 from rfl, List.drop_eq_nil_of_le (by simp; omega)]
        decide
      have hz0 : zerosB [] = true := rfl
      have HZ := Lib.hid hz
      have HB := Lib.hid hpb
      clear hz hs hpb
      go_enter Tryz.func160, Tryz.ntmps160
      go_wp2
      go_quiet (fail)
      go_wp2_with fail
      refine (zeros_any _ _ _ (HZ.out.below (below_drewN w.heap.size _ _) (Nat.le_refl _)) (by simp)).mono ?_
      rintro e w' ⟨rfl, rfl⟩
      go_wp2
      go_ret3
      exact ⟨_, nq, by rw [partR, if_pos HB.out, HB.out, partS]; rfl, HP2.out.below (below_drewN w.heap.size _ _) (Nat.le_refl _), rfl⟩
    · have hz : Pt w (.slice (some ⟨b, off + 1 + n, none⟩) (6 - n) (6 - n)) ((t.take 6).drop n) := HP1.out.cut (k := n) (by omega) (fun h => by omega) (by omega) (by omega)
      have hs : Pt w (.slice (some ⟨b, off + 1, none⟩) n 6) (t.take n) := by
        have := HP1.out.first (k := n) (c' := 6) (by omega) (by omega)
        rwa [List.take_take, Nat.min_eq_left (by omega)] at this
      have hv := fun k => conv_drewN (hs.slK HOK.out) k
      have HZ := Lib.hid hz
      clear hz hs
      have j1 : (n : Int) ≤ 6 := by omega
      have j2 : ¬ 6 = n := by omega
      have j3 : ¬ n = 6 := by omega
      have j4 : (n : Int) ≤ ((6 : Nat) : Int) := by omega
      go_enter Tryz.func160, Tryz.ntmps160
      go_wp2
      go_quiet (fail)
      go_wp2_with fail
      refine (zeros_any _ _ _ (HZ.out.below (below_drewN w.heap.size _ _) (Nat.le_refl _)) (by simp; omega)).mono ?_
      rintro e w' ⟨rfl, rfl⟩
      by_cases hzz : zerosB ((t.take 6).drop n) = true
      · have hpb : partB ((n : Nat) : Int) t 6 = true := by simp [partB, hzz]; omega
        go_wp2
        go_ret3
        exact ⟨_, nq, by rw [partR, if_pos hpb, hpb, partS]; rfl, HP2.out.below (below_drewN w.heap.size _ _) (Nat.le_refl _), rfl⟩
      · have hzf : zerosB ((t.take 6).drop n) = false := by simpa using hzz
        have hpb : partB ((n : Nat) : Int) t 6 = false := by simp [partB, hzf]
        go_wp2
        go_ret3
        exact ⟨_, nq, by rw [partR, hpb]; rfl, HP2.out.below (below_drewN w.heap.size _ _) (Nat.le_refl _), rfl⟩
  · have hpb : partB (n : Int) t 6 = false := by simp [partB]; intro h; omega
    go_enter Tryz.func160, Tryz.ntmps160
    go_wp2
    go_quiet (fail)
    go_wp2
    go_ret3
    exact ⟨_, nq, by rw [partR, hpb]; rfl, HP2.out.below (below_drewN w.heap.size _ _) (Nat.le_refl _), rfl⟩

theorem cut_any (w : World) (v : Value) (c : Int) (t : List Int) (m : Nat) (hm : m = 8 ∨ m = 6) (h : Pt w v (c :: t)) (hok : bytesOk (c :: t)) (hl : m ≤ t.length) (hl2 : t.length ≤ 1000) :
    Calls Tryz.prog 160 #[v, .int .i64 m] w (Cut w (partR c t m) (partB c t m) (t.drop m)) := by
  have hc := hok c (by simp)
  obtain ⟨n, rfl⟩ := Int.eq_ofNat_of_zero_le hc.1
  obtain ⟨b, off, cap, rfl, h1, h2, h3⟩ := id h
  rw [List.length_cons] at h ⊢
  rcases hm with rfl | rfl
  · by_cases hcap : cap = 9
    · exact cut8_full w b off cap n t _ h hok hl hl2 hcap
    · exact cut8_more w b off cap n t _ h hok hl hl2 hcap
  · by_cases hcap : cap = 7
    · exact cut6_full w b off cap n t _ h hok hl hl2 hcap
    · exact cut6_more w b off cap n t _ h hok hl hl2 hcap
end Go.Proofs.YtljbhdldfffpfaaGreat.Lf
namespace Go.Proofs.YtljbhdldfffpfaaGreat.Lf
open Go.Proofs.YtljbhdldfffpfaaGreat
open Go.RowKit

end Go.Proofs.YtljbhdldfffpfaaGreat.Lf
