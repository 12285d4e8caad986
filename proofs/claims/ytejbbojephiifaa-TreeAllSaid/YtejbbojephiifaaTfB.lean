/- The reference's tree: where a key stands in it; find. -/
import Derived.Test.YtejbbojephiifaaTlK
namespace Go.Proofs.Ytejbbojephiifaa
open Go.RowKit

/-- The number of keys that are less. -/
def pos (k : ByteArray) : List KV → Nat
  | [] => 0
  | y :: r => if bL y.k k then pos k r + 1 else 0
theorem pos_le (k : ByteArray) : ∀ xs : List KV, pos k xs ≤ xs.length
  | [] => Nat.le_refl _
  | y :: r => by
    have := pos_le k r
    unfold pos
    split
    · simp; omega
    · omega
theorem pos_of {k : ByteArray} : ∀ {xs : List KV} {j : Nat}, j ≤ xs.length → (∀ m (h : m < xs.length), m < j → bL xs[m].k k = true) → (∀ h : j < xs.length, bL xs[j].k k = false) → pos k xs = j
  | [], j, h, _, _ => by simp at h; subst h; rfl
  | y :: r, 0, _, _, h2 => by
    have := h2 (by simp)
    unfold pos
    rw [if_neg (by simpa using this)]
  | y :: r, j + 1, h, h1, h2 => by
    have h0 := h1 0 (by simp) (by omega)
    unfold pos
    rw [if_pos (by simpa using h0)]
    rw [pos_of (xs := r) (j := j) (by simpa using h) (fun m hm hj => by have := h1 (m + 1) (by simp; omega) (by omega); simpa using this) (fun hj => by have := h2 (by simp; omega); simpa using this)]
theorem has_pos (k : ByteArray) : ∀ xs : List KV, has k xs = decide (∃ h : pos k xs < xs.length, xs[pos k xs].k = k)
  | [] => by simp [has, pos]
  | y :: r => by
    unfold has
    cases h : bL y.k k with
    | true =>
      have e : pos k (y :: r) = pos k r + 1 := by rw [pos, if_pos h]
      rw [if_pos rfl, has_pos k r]
      congr 1
      simp only [e, List.length_cons, List.getElem_cons_succ, Nat.add_lt_add_iff_right]
    | false =>
      have e : pos k (y :: r) = 0 := by rw [pos, if_neg (by rw [h]; simp)]
      rw [if_neg (by simp)]
      simp only [e, List.length_cons, List.getElem_cons_zero]
      cases h2 : bL k y.k with
      | true => have := (bL_ne h2).symm; simp [this]
      | false => simp [bL_tri h h2]
theorem ins_pos (x : KV) : ∀ xs : List KV, ins x xs = xs.take (pos x.k xs) ++ x :: xs.drop (if has x.k xs then pos x.k xs + 1 else pos x.k xs)
  | [] => by simp [ins, pos, has]
  | y :: r => by
    unfold ins has pos
    cases h : bL y.k x.k with
    | true =>
      simp only [if_true]
      rw [ins_pos x r]
      cases has x.k r <;> simp
    | false =>
      cases h2 : bL x.k y.k <;> simp
theorem del_pos (k : ByteArray) : ∀ xs : List KV, del k xs = if has k xs then xs.take (pos k xs) ++ xs.drop (pos k xs + 1) else xs
  | [] => by simp [del, has]
  | y :: r => by
    unfold del has pos
    cases h : bL y.k k with
    | true =>
      simp only [if_true]
      rw [del_pos k r]
      cases has k r <;> simp
    | false =>
      cases h2 : bL k y.k <;> simp
theorem fnd_pos (k : ByteArray) : ∀ xs : List KV, fnd k xs = if has k xs then xs[pos k xs]? else none
  | [] => by simp [fnd, has]
  | y :: r => by
    unfold fnd has pos
    cases h : bL y.k k with
    | true =>
      simp only [if_true]
      rw [fnd_pos k r]
      cases has k r <;> simp
    | false =>
      cases h2 : bL k y.k <;> simp
theorem frm_pos (k : ByteArray) : ∀ xs : List KV, frm k xs = xs.drop (pos k xs)
  | [] => by simp [frm]
  | y :: r => by
    unfold frm pos
    cases h : bL y.k k with
    | true => simp only [if_true]; rw [frm_pos k r]; simp
    | false => simp

/-- The reference's tree in memory: its keys, its places. -/
structure RTr (w : World) (B r : Nat) (xs : List KV) : Prop where
  hB : B ≤ r
  ex : ∃ sk sv, w.heap[r]? = some (.cells #[sk, sv] 30 (0, 0)) ∧ w.ownsRow B 9 1 sk xs.length (xs.map keyV) ∧ w.ownsRow B 35 2 sv xs.length (xs.flatMap ridV)
theorem RTr.lt {w : World} {B r : Nat} {xs : List KV} (h : RTr w B r xs) : r < w.heap.size := by
  obtain ⟨_, _, h1, _⟩ := h.ex
  exact (Array.getElem?_eq_some_iff.1 h1).1
theorem RTr.below {w w' : World} {B r : Nat} {xs : List KV} (h : RTr w B r xs) (hb : Below w.heap.size w w') : RTr w' B r xs := by
  obtain ⟨sk, sv, h1, h2, h3⟩ := h.ex
  exact ⟨h.hB, sk, sv, (hb.block r h.lt).trans h1, own_up h2 hb, own_up h3 hb⟩
theorem map_flat (xs : List KV) : xs.map keyV = xs.flatMap fun x => [keyV x] := by
  induction xs with
  | nil => rfl
  | cons x r ih => simp [ih]
theorem keys_at {w : World} {B : Nat} {sk : Value} {xs : List KV} (h : w.ownsRow B 9 1 sk xs.length (xs.map keyV)) {i : Nat} (hi : i < xs.length) : ∃ q c, sk = .slice (some ⟨q, 0, none⟩) xs.length c ∧ w.cell? ⟨q, i, none⟩ = some (.string xs[i].k) := by
  rcases id h.2 with ⟨rfl, h2⟩ | ⟨q, cap, cur, rfl, _⟩
  · omega
  · refine ⟨q, cap, rfl, ?_⟩
    rw [map_flat] at h
    have := (own_cell (f := fun x => [keyV x]) (k := 1) (fun _ => rfl) h hi (j := 0) (by omega)).1
    rw [Nat.mul_one, Nat.add_zero] at this
    exact this
theorem own_sl {w : World} {B k n : Nat} {e : TypeId} {v : Value} {xs : List Value} (h : w.ownsRow B e k v n xs) : ∃ p c, v = .slice p n c := by
  rcases h.2 with ⟨rfl, h2⟩ | ⟨q, cap, cur, rfl, _⟩
  · exact ⟨none, 0, by rw [h2]⟩
  · exact ⟨_, _, rfl⟩

set_option maxRecDepth 100000 in
set_option maxHeartbeats 4000000 in
theorem rfind_any (w : World) {B r : Nat} {xs : List KV} (h : RTr w B r xs) (hx : xs.length ≤ 100000) (k : ByteArray) :
    Calls Try.prog 27 #[.pointer (some ⟨r, 0, none⟩), .string k] w fun e w' => e = .returned (.tuple #[.int .i64 (pos k xs : Int), .bool (has k xs)]) ∧ Below w.heap.size w w' := by
  obtain ⟨sk, sv, hr, hk, hv⟩ := h.ex
  obtain ⟨pv, cap, rfl⟩ := own_sl hk
  have HK := Lib.hid hk
  have c0 := (cell_of hr 0).1
  have HN := Lib.hid (has_pos k xs)
  obtain ⟨n, hn⟩ : ∃ n, xs.length = n := ⟨_, rfl⟩
  have HNN := Lib.hid hn
  rw [hn] at c0 hx
  clear hk hv h hr hn
  go_enter Try.func27, Try.ntmps27
  go_wp2_with fail
  go_loopw [6] (fun i wr => ∃ j : Nat, j ≤ n ∧ i = .int .i64 j ∧ wr = w ∧ Hid (∀ m (h : m < xs.length), m < j → bL xs[m].k k = true)) (fun i _ => n - intN i)
  case atStart => exact ⟨0, Nat.zero_le _, rfl, rfl, fun m _ h => by omega⟩
  case round =>
    obtain ⟨j, hj, rfl, rfl, HR⟩ := hrel
    by_cases hlt : j < n
    · obtain ⟨q, c, hsk, hc⟩ := keys_at HK.out (i := j) (by rw [HNN.out]; exact hlt)
      obtain ⟨rfl, rfl⟩ : pv = some ⟨q, 0, none⟩ ∧ cap = c := by
        injection hsk with h1 h2 h3
        exact ⟨h1, h3⟩
      obtain ⟨x, hxe⟩ : ∃ x, (xs[j]'(by rw [HNN.out]; exact hlt)).k = x := ⟨_, rfl⟩
      rw [hxe] at hc
      have HX := Lib.hid hxe
      have hltI : (j : Int) < (n : Int) := by omega
      have e0 : Op.bytesLess x.toList k.toList = bL x k := rfl
      clear hsk hxe
      cases hb : bL x k with
      | true =>
        rw [hb] at e0
        have HB := Lib.hid hb
        clear hb
        go_wp2_with fail
        go_roundw
        case rel =>
          refine ⟨j + 1, by omega, by go_num, trivial, fun m hm h => ?_⟩
          rcases Nat.lt_or_ge m j with h2 | h2
          · exact HR.out m hm h2
          · obtain rfl : m = j := by omega
            rw [HX.out]
            exact HB.out
        case measure => simp [intN]; omega
      | false =>
        rw [hb] at e0
        have HP := Lib.hid (pos_of (k := k) (xs := xs) (j := j) (by rw [HNN.out]; omega) HR.out (fun _ => by rw [HX.out]; exact hb))
        clear hb
        go_upto_region 4 with (fail)
        clear e0
        go_quiet (fail)
        go_wp2_with fail
        go_ret2
        have hp := HP.out
        subst hp
        have hq : (x.toList == k.toList) = has k xs := by
          rw [HN.out]
          have hi : (∃ h : pos k xs < xs.length, (xs[pos k xs]'h).k = k) ↔ x = k := ⟨fun ⟨_, e⟩ => HX.out.symm.trans e, fun e => ⟨by rw [HNN.out]; exact hlt, HX.out.trans e⟩⟩
          rw [decide_eq_decide.2 hi]
          by_cases e : x = k
          · subst e; simp
          · rw [decide_eq_false e, beq_eq_false_iff_ne]
            exact fun e2 => e (toList_inj e2)
        refine ⟨?_, ?_⟩
        · show Ending.returned (.tuple #[.int .i64 (pos k xs : Int), .bool (x.toList == k.toList)]) = _
          rw [hq]
        · first | exact Below.refl _ _ | exact (Below.refl _ _).drew | exact ⟨rfl, rfl, rfl, Nat.le_refl _, fun _ _ => rfl⟩
    · obtain rfl : j = n := by omega
      have hnlt : ¬ (j : Int) < (j : Int) := by omega
      go_upto_region 4 with (fail)
      go_quiet (fail)
      go_wp2_with fail
      go_ret2
      have hp := pos_of (k := k) (xs := xs) (j := j) (by rw [HNN.out]; omega) HR.out (fun h => by rw [HNN.out] at h; omega)
      subst hp
      refine ⟨?_, ?_⟩
      · have hh : has k xs = false := by rw [HN.out]; exact decide_eq_false (fun ⟨h, _⟩ => by rw [HNN.out] at h; omega)
        rw [hh]
        rfl
      · first | exact Below.refl _ _ | exact (Below.refl _ _).drew | exact ⟨rfl, rfl, rfl, Nat.le_refl _, fun _ _ => rfl⟩
end Go.Proofs.Ytejbbojephiifaa
