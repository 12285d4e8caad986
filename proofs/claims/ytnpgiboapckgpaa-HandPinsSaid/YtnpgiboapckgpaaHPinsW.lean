/- HandPins: the walk. -/
import Derived.Test.YtnpgiboapckgpaaHdV
namespace Go.Proofs.Ytnpgiboapckgpaa
open Go.RowKit

def chX : ByteArray := ⟨#[120]⟩
def chY : ByteArray := ⟨#[121]⟩
def cA (A : Nat → Bool) : Nat → Nat
  | 0 => 0
  | n + 1 => cA A n + if A n = true then 1 else 0
theorem cA_le (A : Nat → Bool) : ∀ n, cA A n ≤ n
  | 0 => Nat.le_refl _
  | n + 1 => by unfold cA; have := cA_le A n; split <;> omega
theorem cA_all {A : Nat → Bool} : ∀ n, (∀ j, j < n → A j = true) → cA A n = n
  | 0, _ => rfl
  | n + 1, h => by unfold cA; rw [cA_all n fun j hj => h j (by omega), if_pos (h n (by omega))]
theorem cA_some {A : Nat → Bool} {t : Nat} (h : A t = false) : ∀ n, t < n → cA A n < n
  | 0, e => by omega
  | n + 1, e => by
    unfold cA
    by_cases e2 : t = n
    · subst e2; rw [if_neg (by rw [h]; decide)]; have := cA_le A t; omega
    · have := cA_some h n (by omega); split <;> omega
theorem cA_none : ∀ n, cA (fun _ => false) n = 0
  | 0 => rfl
  | n + 1 => by unfold cA; rw [cA_none n]; rfl
def setA (A : Nat → Bool) (t : Nat) : Nat → Bool := fun j => if j = t then true else A j
theorem cA_same {A : Nat → Bool} {t : Nat} : ∀ n, n ≤ t → cA (setA A t) n = cA A n
  | 0, _ => rfl
  | n + 1, h => by
    unfold cA
    rw [cA_same n (by omega), show setA A t n = A n from if_neg (by omega)]
theorem cA_set {A : Nat → Bool} {t : Nat} : ∀ n, t < n → cA (setA A t) n = cA A n + if A t = true then 0 else 1
  | 0, h => by omega
  | n + 1, h => by
    unfold cA
    by_cases e : t = n
    · subst e
      rw [cA_same t (Nat.le_refl _), show setA A t t = true from if_pos rfl, if_pos rfl]
      cases A t <;> simp
    · rw [cA_set n (by omega), show setA A t n = A n from if_neg (by omega)]
      omega

/-- All there, each under its own key, with that many pins. -/
def pinP (n : Nat) (c : Nat → Nat) : Nat → Pl := fun j => if j < n then ⟨true, (j : Int), chX, true, c j⟩ else Pl.zero
theorem pinP_lt {n : Nat} {c : Nat → Nat} {j : Nat} (h : j < n) : pinP n c j = ⟨true, (j : Int), chX, true, c j⟩ := if_pos h
theorem pin_fill (n : Nat) : fillP chX n = pinP n fun _ => 0 := rfl
theorem pin_step {n t : Nat} {c : Nat → Nat} (ht : t < n) (hc : c t < 1000000) : PinR ⟨n, pinP n c, 0⟩ (t : Int) ⟨n, pinP n fun j => if j = t then c t + 1 else c j, 0⟩ true := by
  have r := PinR.hit (s := ⟨n, pinP n c, 0⟩) t (hit_own ht fun j h => by rw [pinP_lt h]; exact ⟨rfl, rfl⟩) ht (by show (pinP n c t).n < 1000000; rw [pinP_lt ht]; exact hc)
  have e : up (pinP n c) t { pinP n c t with n := (pinP n c t).n + 1 } = pinP n fun j => if j = t then c t + 1 else c j := by
    funext j
    by_cases e : j = t
    · subst e; rw [up_same, pinP_lt ht, pinP_lt ht, if_pos rfl]
    · rw [up_other _ e]
      unfold pinP
      simp only [if_neg e]
  rw [e] at r
  exact r
structure Pn (n : Nat) (A : Nat → Bool) (s : St) : Prop where
  nn : s.n = n
  a : s.a < n
  u : ∀ j, j < n → (s.P j).u = true
  on : ∀ j, j < n → A j = true → (s.P j).k = (j : Int) ∧ 0 < (s.P j).n
  off : ∀ j, j < n → A j = false → ((s.P j).k = (j : Int) ∨ 100 ≤ (s.P j).k) ∧ (s.P j).n = 0
theorem Pn.sim {n a : Nat} {A : Nat → Bool} {P P' : Nat → Pl} {a' : Nat} (h : Pn n A ⟨n, P, a⟩) (hs : Sim P P') (ha : a' < n) : Pn n A ⟨n, P', a'⟩ :=
  ⟨rfl, ha, fun j hj => (hs j).1.trans (h.u j hj), fun j hj e => by rw [(hs j).2.1, (hs j).2.2.2]; exact h.on j hj e, fun j hj e => by rw [(hs j).2.1, (hs j).2.2.2]; exact h.off j hj e⟩
theorem pn_pin {n : Nat} {c : Nat → Nat} {A : Nat → Bool} (hn : 0 < n) (h : ∀ j, j < n → A j = decide (0 < c j)) : Pn n A ⟨n, pinP n c, 0⟩ :=
  ⟨rfl, hn, fun j hj => by show (pinP n c j).u = true; rw [pinP_lt hj], fun j hj e => by
    show (pinP n c j).k = _ ∧ 0 < (pinP n c j).n
    rw [pinP_lt hj]; exact ⟨rfl, by rw [h j hj] at e; simpa using e⟩, fun j hj e => by
    show ((pinP n c j).k = _ ∨ _) ∧ (pinP n c j).n = 0
    rw [pinP_lt hj]; exact ⟨.inl rfl, by rw [h j hj] at e; simp at e; exact e⟩⟩
theorem hit_sim {n a a' : Nat} {P P' : Nat → Pl} (hs : Sim P P') (k : Int) (i : Nat) : hit ⟨n, P', a'⟩ k i = hit ⟨n, P, a⟩ k i := by
  show ((P' i).u && decide ((P' i).k = k)) = ((P i).u && decide ((P i).k = k))
  rw [(hs i).1, (hs i).2.1]

/-- Get, then Put, of a key from 100 on. -/
theorem pn_step {n : Nat} {A : Nat → Bool} {s : St} (h : Pn n A s) {k : Int} (hk : 100 ≤ k) : ∃ (s1 s2 : St) (x : ByteArray) (b : Bool) (out : Int) (was : ByteArray) (had : Bool) (e : Int),
    GetR s k s1 (.returned (.tuple #[.string x, .bool b])) ∧ PutR s1 k chY s2 (tup4 out was had e) ∧ Pn n A s2 ∧
    ((b = true ∧ had = false ∧ e = 0) ∨ (b = false ∧ had = false ∧ e = 5 ∧ cA A n = n) ∨ (b = false ∧ had = true ∧ e = 0 ∧ cA A n < n ∧ ((∃ j : Nat, out = (j : Int) ∧ j < n ∧ A j = false) ∨ 100 ≤ out))) := by
  obtain ⟨s1, x, b, hg, hn, ha, hs, ht, hf⟩ := get_total s k
  obtain ⟨n', P, a⟩ := s
  obtain rfl : n' = n := h.nn
  obtain ⟨n1, P1, a1⟩ := s1
  obtain rfl : n1 = n' := hn
  obtain rfl : a1 = a := ha
  have h1 : Pn n1 A ⟨n1, P1, a1⟩ := h.sim hs h.a
  rcases put_total ⟨n1, P1, a1⟩ k chY h1.a h1.u with ⟨i, hi, hfi, hr⟩ | ⟨hno, hp, hr⟩ | ⟨j, a', P', hno, hj, ha', h0, hs2, hr⟩
  · refine ⟨_, _, x, b, _, _, _, _, hg, hr, ?_, .inl ⟨?_, rfl, rfl⟩⟩
    · refine ⟨rfl, h1.a, fun j hj => ?_, fun j hj e => ?_, fun j hj e => ?_⟩
      all_goals
        dsimp only
        by_cases ej : j = i
        · subst ej; rw [up_same]; first | exact h1.u j hj | exact h1.on j hj e | exact h1.off j hj e
        · rw [up_other _ ej]; first | exact h1.u j hj | exact h1.on j hj e | exact h1.off j hj e
    · cases b with
      | true => rfl
      | false =>
        have e1 := hfi.yes hi
        rw [hit_sim hs k i, hf rfl i hi] at e1
        cases e1
  · refine ⟨_, _, x, b, _, _, _, _, hg, hr, h1, .inr (.inl ⟨?_, rfl, rfl, cA_all _ fun j hj => ?_⟩)⟩
    · cases b with
      | false => rfl
      | true =>
        obtain ⟨i, hi, e1, _⟩ := ht rfl
        have e2 := hno i hi
        rw [hit_sim hs k i, e1] at e2
        cases e2
    · cases hA : A j with
      | true => rfl
      | false => have := (h1.off j hj hA).2; have h3 := hp j hj; omega
  · have hA : A j = false := by
      cases hA : A j with
      | false => rfl
      | true => have := (h1.on j hj hA).2; have h3 : (P1 j).n = 0 := h0; omega
    refine ⟨_, _, x, b, _, _, _, _, hg, hr, ?_, .inr (.inr ⟨?_, rfl, rfl, cA_some hA n1 hj, ?_⟩)⟩
    · have h2 : Pn n1 A ⟨n1, P', a'⟩ := h1.sim hs2 ha'
      refine ⟨rfl, ha', fun i hi => ?_, fun i hi e => ?_, fun i hi e => ?_⟩
      all_goals
        dsimp only
        by_cases ej : i = j
        · subst ej
          simp only [up_same]
          first | done | exact ⟨.inr hk, trivial⟩ | (rw [hA] at e; cases e; done)
        · rw [up_other _ ej]; first | exact h2.u i hi | exact h2.on i hi e | exact h2.off i hi e
    · cases b with
      | false => rfl
      | true =>
        obtain ⟨i, hi, e1, _⟩ := ht rfl
        have e2 := hno i hi
        rw [hit_sim hs k i, e1] at e2
        cases e2
    · rcases (h1.off j hj hA).1 with e | e
      · exact .inl ⟨j, e, hj, hA⟩
      · exact .inr e
/-- Get of a key that is pinned, or not. -/
theorem pn_get {n i : Nat} {A : Nat → Bool} {s : St} (h : Pn n A s) (hi : i < n) : ∃ (s1 : St) (x : ByteArray) (b : Bool), GetR s (i : Int) s1 (.returned (.tuple #[.string x, .bool b])) ∧ Pn n A s1 ∧ (A i = true → b = true) := by
  obtain ⟨s1, x, b, hg, hn, ha, hs, ht, hf⟩ := get_total s (i : Int)
  obtain ⟨n', P, a⟩ := s
  obtain rfl : n' = n := h.nn
  obtain ⟨n1, P1, a1⟩ := s1
  obtain rfl : n1 = n' := hn
  obtain rfl : a1 = a := ha
  refine ⟨_, x, b, hg, h.sim hs h.a, fun e => ?_⟩
  cases b with
  | true => rfl
  | false =>
    have e2 := hf rfl i hi
    have e3 : hit ⟨n1, P, a1⟩ (i : Int) i = true := by
      show ((P i).u && decide ((P i).k = (i : Int))) = true
      rw [show (P i).u = true from h.u i hi, show (P i).k = (i : Int) from (h.on i hi e).1]; simp
    rw [e3] at e2; cases e2
theorem pn_len {n : Nat} {A : Nat → Bool} {s : St} (h : Pn n A s) : (keysTo s.P s.n).length = n := by
  rw [h.nn]; exact (keysTo_all s.P n h.u).1

def bA (A : Nat → Bool) : Array Value := arrV 8 fun i => .bool (A i)
theorem bA_zero : (#[.bool false, .bool false, .bool false, .bool false, .bool false, .bool false, .bool false, .bool false] : Array Value) = bA fun _ => false := rfl
theorem bA_set (A : Nat → Bool) (t : Nat) : (arrV 8 fun i => if i = t then Value.bool true else .bool (A i)) = bA (setA A t) := by
  unfold bA setA
  congr 1
  funext i
  split <;> rfl

set_option maxRecDepth 100000 in
set_option maxHeartbeats 8000000 in
theorem pins_walk (w : World) (x : Nat) (hx : x < 256) (v1 v2 : Value) (l1 l2 : List Int) (h1 : SlK .u8 w v1 l1) (h2 : SlK .u8 w v2 l2) : Calls Try.prog 4 #[.int .u8 (x : Int), v1, v2] w fun e w' => e = .returned (.bool true) ∧ Below w.heap.size w w' := by
  obtain ⟨pv1, cp1, rfl, q1⟩ := h1
  obtain ⟨pv2, cp2, rfl, q2⟩ := h2
  have S1 : Hid (SlK .u8 w (.slice pv1 l1.length cp1) l1) := ⟨_, _, rfl, q1⟩
  have S2 : Hid (SlK .u8 w (.slice pv2 l2.length cp2) l2) := ⟨_, _, rfl, q2⟩
  clear q1 q2
  go_enter Try.func4, Try.ntmps4
  go_upto_region 3 with (first | (go_at_call 9; refine (begun_any _).mono ?_; rintro e w1 ⟨rfl, b1⟩))
  have B1 := Lib.hid b1
  clear b1
  by_cases hl1 : 10 < l1.length
  · have hl' : (10 : Int) < (l1.length : Int) := by omega
    clear hl1
    go_wp2_with fail
    go_ret
    exact ⟨rfl, B1.out⟩
  by_cases hl2 : 40 < l2.length
  · have hl' : (40 : Int) < (l2.length : Int) := by omega
    have hl'' : ¬ (10 : Int) < (l1.length : Int) := by omega
    clear hl1 hl2
    go_wp2_with fail
    go_ret
    exact ⟨rfl, B1.out⟩
  have hl' : ¬ (40 : Int) < (l2.length : Int) := by omega
  have hl'' : ¬ (10 : Int) < (l1.length : Int) := by omega
  have L1 : Hid (l1.length ≤ 10) := Nat.le_of_not_lt hl1
  have L2 : Hid (l2.length ≤ 40) := Nat.le_of_not_lt hl2
  clear hl1 hl2
  go_upto_region 6 with (fail)
  have hn : (1 : Int) + (x : Int) % 8 = ((1 + x % 8 : Nat) : Int) := by omega
  rw [hn]
  have hn1 : 1 ≤ 1 + x % 8 := by omega
  have hn8 : 1 + x % 8 ≤ 8 := by omega
  generalize 1 + x % 8 = n at *
  have N1 := Lib.hid hn1
  have N8 := Lib.hid hn8
  clear hn hl' hl'' hx
  go_upto_region 7 with (first | (go_at_call 10; refine (new_mine w w1 (n : Int) B1.out B1.out.size).mono ?_; rintro e w2 ⟨p, g, rfl, m2⟩))
  rw [room_of n N1.out (by omega), new_fill chX n] at m2
  have M2 := Lib.hid m2
  clear m2 B1
  go_wp2_with fail
  go_loopw [9] (fun v wr => ∃ i : Nat, i ≤ n ∧ v = .int .i64 (i : Int) ∧ Mine w.heap.size w wr p g ⟨n, fillP chX i, 0⟩) (fun v _ => n - lvN v)
  case atStart => exact ⟨0, Nat.zero_le _, rfl, M2.out⟩
  case round =>
    obtain ⟨i, hi, rfl, m⟩ := hrel
    have HM := Lib.hid m
    clear m M2
    by_cases hlt : i < n
    · have HR := Lib.hid (fill_put chX hlt)
      clear hi
      go_wp2_with (first | (go_at_call 12; refine (put_any _ HM.out.ha HR.out).mono ?_; rintro e w3 ⟨rfl, h3, f3⟩; unfold tup4))
      have M3 := Lib.hid (HM.out.step h3 f3)
      clear h3 f3
      go_roundw
      case rel => exact ⟨i + 1, hlt, by go_num, M3.out⟩
      case measure => simp [lvN]; omega
    · obtain rfl : n = i := by omega
      clear hi hlt
      rw [pin_fill n] at HM
      go_upto_region 12 with (fail)
      have hq := heap_alloc_new wr (.cells (bA fun _ => false) 42)
      have M4 := Lib.hid (HM.out.on ((Below.refl _ _).alloc (Nat.le_refl _) (.cells (bA fun _ => false) 42)))
      have HNE : Hid (p ≠ wr.heap.size ∧ g ≠ wr.heap.size ∧ w.heap.size ≤ wr.heap.size) := ⟨Nat.ne_of_lt HM.out.ha.lp, Nat.ne_of_lt HM.out.ha.lg, HM.out.size⟩
      have HQ := Lib.hid hq
      clear hq HM
      rw [bA_zero]
      generalize wr.alloc (.cells (bA fun _ => false) 42) = w5 at *
      generalize wr.heap.size = q at *
      clear wr
      go_wp2_with fail
      have M5 := M4
      have HQ5 := HQ
      clear M4 HQ
      go_loopw [11, 12] (fun av v wr => ∃ (i : Nat) (c : Nat → Nat) (A : Nat → Bool), i ≤ l1.length ∧ v = .int .i64 (i : Int) ∧ av = .int .i64 ((cA A n : Nat) : Int) ∧ Hid (∀ j, j < n → A j = decide (0 < c j)) ∧ Hid (∀ j, c j ≤ i) ∧ wr.heap[q]? = some (.cells (bA A) 42 (0, 0)) ∧ Mine w.heap.size w wr p g ⟨n, pinP n c, 0⟩) (fun _ v _ => l1.length - lvN v)
      case atStart => exact ⟨0, fun _ => 0, fun _ => false, Nat.zero_le _, rfl, by rw [cA_none]; rfl, fun _ _ => rfl, fun _ => Nat.zero_le _, HQ5.out, M5.out⟩
      case round =>
        obtain ⟨i, c, A, hi, rfl, rfl, HAc, HCi, hq, m⟩ := hrel
        have HM := Lib.hid m
        have HQ := Lib.hid hq
        clear m hq M5 HQ5
        have hl1 := L1.out
        by_cases hlt : i < l1.length
        · obtain ⟨ab, ao, y, rfl, hy, c0⟩ := sl_at S1.out HM.out.be hlt
          go_upto_region 17 with (fail)
          have hm : (y : Int) % (n : Int) = ((y % n : Nat) : Int) := by simp
          have ht : y % n < n := Nat.mod_lt _ (by have := N1.out; omega)
          rw [hm]
          generalize y % n = t at *
          have HT := Lib.hid ht
          have HT8 : Hid (t < 8) := Nat.lt_of_lt_of_le ht N8.out
          have HR := Lib.hid (pin_step (c := c) ht (by have := HCi.out t; omega))
          clear hm ht c0 hy hi
          go_upto_region 19 with (first | (go_at_call 16; refine (pin_any _ HM.out.ha HR.out).mono ?_; rintro e w6 ⟨rfl, h6, f6⟩))
          have M6 := Lib.hid (HM.out.step h6 f6)
          have HQ6 := Lib.hid (block_fr HQ.out f6 HNE.out.1 HNE.out.2.1)
          clear h6 f6 HM HQ HR
          have c1 := (cell_of HQ6.out t).1.trans (arrV_at _ HT8.out)
          have f1 := (cell_of HQ6.out t).2
          have ht8 : (t : Int) < 8 := by have := HT8.out; omega
          have M7 := Lib.hid (M6.out.set HNE.out.1 HNE.out.2.1 HNE.out.2.2 t (.bool true))
          have hq7 := block_set HQ6.out HT8.out (.bool true)
          rw [bA_set] at hq7
          have HQ7 := Lib.hid hq7
          have hcs := cA_set (A := A) n HT.out
          have hcn := cA_le A n
          have hn8 := N8.out
          have HA1 : Hid (∀ j, j < n → setA A t j = decide (0 < (fun j => if j = t then c t + 1 else c j) j)) := fun j hj => by
            unfold setA
            by_cases e : j = t
            · simp [e]
            · simp only [if_neg e]; exact HAc.out j hj
          have HC1 : Hid (∀ j, (fun j => if j = t then c t + 1 else c j) j ≤ i + 1) := fun j => by
            by_cases e : j = t
            · simp only [if_pos e]; have := HCi.out t; omega
            · simp only [if_neg e]; have := HCi.out j; omega
          clear hq7
          cases hA : A t with
          | true =>
            rw [hA] at c1 hcs
            have HCS : Hid (cA (setA A t) n = cA A n) := hcs
            clear hcs hA
            go_wp2_with fail
            exact ⟨⟨i + 1, _, setA A t, hlt, by go_num, by rw [HCS.out], HA1, HC1, HQ7.out, M7.out⟩, by simp [lvN]; omega⟩
          | false =>
            rw [hA] at c1 hcs
            have HCS : Hid (cA (setA A t) n = cA A n + 1) := hcs
            clear hcs hA
            go_wp2_with fail
            exact ⟨⟨i + 1, _, setA A t, hlt, by go_num, by rw [HCS.out]; rfl, HA1, HC1, HQ7.out, M7.out⟩, by simp [lvN]; omega⟩
        · obtain rfl : i = l1.length := by omega
          have hpn := pn_pin (c := c) (A := A) N1.out HAc.out
          clear hi hlt hl1 HAc HCi S1 L1
          have HM0 := HM
          have HQ0 := HQ
          have HPN := Lib.hid hpn
          clear HM HQ hpn
          generalize (⟨n, pinP n c, 0⟩ : St) = s0 at *
          have hca := cA_le A n
          generalize hcv : cA A n = ca at *
          have HCA := Lib.hid hcv
          clear hcv
          go_wp2_with fail
          go_loopw [14] (fun v wr => ∃ (i : Nat) (s : St), i ≤ l2.length ∧ v = .int .i64 (i : Int) ∧ Pn n A s ∧ wr.heap[q]? = some (.cells (bA A) 42 (0, 0)) ∧ Mine w.heap.size w wr p g s) (fun v _ => l2.length - lvN v)
          case atStart => exact ⟨0, s0, Nat.zero_le _, rfl, HPN.out, HQ0.out, HM0.out⟩
          case round =>
            obtain ⟨i, s, hi, rfl, hpn, hq, m⟩ := hrel
            have HM := Lib.hid m
            have HQ := Lib.hid hq
            have HP := Lib.hid hpn
            have hl2 := L2.out
            clear m hq hpn HM0 HQ0 HPN
            by_cases hlt : i < l2.length
            · obtain ⟨ab, ao, y, rfl, hy, c0⟩ := sl_at S2.out HM.out.be hlt
              go_upto_region 26 with (fail)
              have hm : (100 : Int) + (y : Int) % 20 = ((100 + y % 20 : Nat) : Int) := by omega
              rw [hm]
              have ht : 100 ≤ 100 + y % 20 := by omega
              generalize 100 + y % 20 = t at *
              obtain ⟨s1, s2, xx, b, out, was, had, e, hg, hp, hpn, hc⟩ := pn_step HP.out (k := (t : Int)) (by omega)
              have HG := Lib.hid hg
              have HPu := Lib.hid hp
              have HPN2 := Lib.hid hpn
              have HLen := Lib.hid (pn_len hpn)
              clear hm ht c0 hy hg hp hpn HP hi
              go_upto_region 28 with (first | (go_at_call 14; refine (get_any _ HM.out.ha HG.out).mono ?_; rintro e6 w6 ⟨rfl, h6, f6⟩) | (go_at_call 12; refine (put_any _ h6 HPu.out).mono ?_; rintro e7 w7 ⟨rfl, h7, f7⟩; unfold tup4))
              have M7 := Lib.hid ((HM.out.step h6 f6).step h7 f7)
              have HQ7 := Lib.hid (block_fr (block_fr HQ.out f6 HNE.out.1 HNE.out.2.1) f7 HNE.out.1 HNE.out.2.1)
              clear h6 f6 h7 f7 HM HQ HG HPu
              rcases hc with ⟨rfl, rfl, rfl⟩ | ⟨rfl, rfl, rfl, hcn⟩ | ⟨rfl, rfl, rfl, hcn, ho⟩
              · go_wp2_with (first | (go_at_call 23; refine (len_any _ M7.out.ha).mono ?_; rintro e8 w8 ⟨rfl, b8⟩; rw [HLen.out]))
                exact ⟨⟨i + 1, s2, hlt, by go_num, HPN2.out, (Below.block b8 q (Array.getElem?_eq_some_iff.1 HQ7.out).1).trans HQ7.out, M7.out.on b8⟩, by simp [lvN]; omega⟩
              · obtain rfl : ca = n := HCA.out.symm.trans hcn
                clear hcn
                go_wp2_with (first | (go_at_call 23; refine (len_any _ M7.out.ha).mono ?_; rintro e8 w8 ⟨rfl, b8⟩; rw [HLen.out]))
                exact ⟨⟨i + 1, s2, hlt, by go_num, HPN2.out, (Below.block b8 q (Array.getElem?_eq_some_iff.1 HQ7.out).1).trans HQ7.out, M7.out.on b8⟩, by simp [lvN]; omega⟩
              · have hb : ((ca : Int) == (n : Int)) = false := by
                  have := HCA.out
                  simp; omega
                clear hcn
                rcases ho with ⟨j, rfl, hj, hAj⟩ | ho
                · have c1 := (cell_of HQ7.out j).1.trans (arrV_at _ (Nat.lt_of_lt_of_le hj N8.out))
                  rw [hAj] at c1
                  have hj8 : (j : Int) < 8 := by have := N8.out; omega
                  clear hj hAj
                  go_wp2_with (first | (go_at_call 23; refine (len_any _ M7.out.ha).mono ?_; rintro e8 w8 ⟨rfl, b8⟩; rw [HLen.out]))
                  exact ⟨⟨i + 1, s2, hlt, by go_num, HPN2.out, (Below.block b8 q (Array.getElem?_eq_some_iff.1 HQ7.out).1).trans HQ7.out, M7.out.on b8⟩, by simp [lvN]; omega⟩
                · have hj8 : ¬ out < 8 := by omega
                  clear ho
                  go_wp2_with (first | (go_at_call 23; refine (len_any _ M7.out.ha).mono ?_; rintro e8 w8 ⟨rfl, b8⟩; rw [HLen.out]))
                  exact ⟨⟨i + 1, s2, hlt, by go_num, HPN2.out, (Below.block b8 q (Array.getElem?_eq_some_iff.1 HQ7.out).1).trans HQ7.out, M7.out.on b8⟩, by simp [lvN]; omega⟩
            · obtain rfl : i = l2.length := by omega
              clear hi hlt hl2 S2 L2
              have HM0 := HM
              have HQ0 := HQ
              have HP0 := HP
              clear HM HQ HP
              go_wp2_with fail
              go_loopw [22] (fun v wr => ∃ (i : Nat) (s : St), i ≤ n ∧ v = .int .i64 (i : Int) ∧ Pn n A s ∧ wr.heap[q]? = some (.cells (bA A) 42 (0, 0)) ∧ Mine w.heap.size w wr p g s) (fun v _ => n - lvN v)
              case atStart => exact ⟨0, s, Nat.zero_le _, rfl, HP0.out, HQ0.out, HM0.out⟩
              case round =>
                obtain ⟨i, s4, hi, rfl, hpn, hq, m⟩ := hrel
                have HM := Lib.hid m
                have HQ := Lib.hid hq
                have HP := Lib.hid hpn
                have hn8 := N8.out
                clear m hq hpn HM0 HQ0 HP0
                by_cases hlt : i < n
                · obtain ⟨s5, xx, b, hg, hp, hb⟩ := pn_get HP.out hlt
                  have HG := Lib.hid hg
                  have HP5 := Lib.hid hp
                  clear hg hp hi
                  go_upto_region 36 with (first | (go_at_call 14; refine (get_any _ HM.out.ha HG.out).mono ?_; rintro e6 w6 ⟨rfl, h6, f6⟩))
                  have M6 := Lib.hid (HM.out.step h6 f6)
                  have HQ6 := Lib.hid (block_fr HQ.out f6 HNE.out.1 HNE.out.2.1)
                  clear h6 f6 HM HQ HG
                  have c1 := (cell_of HQ6.out i).1.trans (arrV_at _ (Nat.lt_of_lt_of_le hlt N8.out))
                  have hj8 : (i : Int) < 8 := by have := N8.out; omega
                  cases hA : A i with
                  | true =>
                    obtain rfl := hb hA
                    rw [hA] at c1
                    clear hA hb
                    go_wp2_with fail
                    exact ⟨⟨i + 1, s5, hlt, by go_num, HP5.out, HQ6.out, M6.out⟩, by simp [lvN]; omega⟩
                  | false =>
                    rw [hA] at c1
                    clear hA hb
                    go_wp2_with fail
                    exact ⟨⟨i + 1, s5, hlt, by go_num, HP5.out, HQ6.out, M6.out⟩, by simp [lvN]; omega⟩
                · obtain rfl : i = n := by omega
                  clear hi hlt
                  go_wp2_with fail
                  go_ret
                  exact ⟨rfl, HM.out.be⟩
end Go.Proofs.Ytnpgiboapckgpaa
