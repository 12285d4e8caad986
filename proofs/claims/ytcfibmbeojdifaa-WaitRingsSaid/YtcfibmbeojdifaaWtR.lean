/- WaitRings' walk: in a ring all come round, in a row nobody; and who goes breaks it. -/
import Derived.Test.YtcfibmbeojdifaaWtL
namespace Go.Proofs.Ytcfibmbeojdifaa
open Go.RowKit Go.Maps Go.WideMaps

/-- The edges of a ring (or a row) of k, the first i of them. -/
def rgE (k : Nat) (ring : Bool) (i : Nat) : List (Int × Int) := ((List.range i).filter fun a : Nat => decide (a + 1 < k) || ring).map fun a : Nat => ((a : Int), (((a + 1) % k : Nat) : Int))
theorem mem_rgE {k : Nat} {ring : Bool} {i : Nat} {x y : Int} : (x, y) ∈ rgE k ring i ↔ ∃ a : Nat, a < i ∧ (a + 1 < k ∨ ring = true) ∧ x = (a : Int) ∧ y = (((a + 1) % k : Nat) : Int) := by
  simp only [rgE, List.mem_map, List.mem_filter, List.mem_range, Bool.or_eq_true, decide_eq_true_eq, Prod.mk.injEq]
  constructor
  · rintro ⟨a, ⟨h1, h2⟩, rfl, rfl⟩; exact ⟨a, h1, h2, rfl, rfl⟩
  · rintro ⟨a, h1, h2, rfl, rfl⟩; exact ⟨a, ⟨h1, h2⟩, rfl, rfl⟩
theorem rgE_length (k : Nat) (ring : Bool) (i : Nat) : (rgE k ring i).length ≤ i := by
  have := List.length_filter_le (fun a => decide (a + 1 < k) || ring) (List.range i)
  simpa [rgE] using this
theorem mod_cases {a k : Nat} (ha : a < k) : (a + 1) % k = if a + 1 < k then a + 1 else 0 := by
  by_cases h : a + 1 < k
  · rw [if_pos h, Nat.mod_eq_of_lt h]
  · rw [if_neg h, show a + 1 = k by omega, Nat.mod_self]
theorem rgE_set {k : Nat} {ring : Bool} {i : Nat} (hk : 2 ≤ k) (hi : i < k) (hr : i + 1 < k ∨ ring = true) (x y : Int) : (x, y) ∈ setE (rgE k ring i) (i : Int) [(((i + 1) % k : Nat) : Int)] ↔ (x, y) ∈ rgE k ring (i + 1) := by
  rw [mem_setE, mem_rgE, mem_rgE, List.mem_singleton]
  constructor
  · rintro (⟨⟨a, h1, h2, e1, e2⟩, _⟩ | ⟨rfl, rfl, _⟩)
    · exact ⟨a, by omega, h2, e1, e2⟩
    · exact ⟨i, by omega, hr, rfl, rfl⟩
  · rintro ⟨a, h1, h2, rfl, rfl⟩
    by_cases e : a = i
    · subst e
      refine Or.inr ⟨rfl, rfl, ?_⟩
      have := mod_cases hi
      split at this <;> omega
    · exact Or.inl ⟨⟨a, by omega, h2, rfl, rfl⟩, by omega⟩
theorem rgE_skip {k : Nat} {ring : Bool} {i : Nat} (hr : ¬ (i + 1 < k ∨ ring = true)) (x y : Int) : (x, y) ∈ rgE k ring i ↔ (x, y) ∈ rgE k ring (i + 1) := by
  rw [mem_rgE, mem_rgE]
  constructor
  · rintro ⟨a, h1, h2, e1, e2⟩; exact ⟨a, by omega, h2, e1, e2⟩
  · rintro ⟨a, h1, h2, e1, e2⟩
    by_cases e : a = i
    · subst e; exact absurd h2 hr
    · exact ⟨a, by omega, h2, e1, e2⟩
theorem ring_round {k a : Nat} (hk : 2 ≤ k) (ha : a < k) : Way (rgE k true k) (a : Int) (a : Int) := by
  have h : ∀ m : Nat, Way (rgE k true k) (a : Int) (((a + m + 1) % k : Nat) : Int) := by
    intro m
    induction m with
    | zero => exact .one (mem_rgE.2 ⟨a, ha, Or.inr rfl, rfl, rfl⟩)
    | succ m ih => exact .more ih (mem_rgE.2 ⟨(a + m + 1) % k, Nat.mod_lt _ (by omega), Or.inr rfl, rfl, by rw [Nat.mod_add_mod]; rfl⟩)
  have h1 := h (k - 1)
  rw [show a + (k - 1) + 1 = a + k by omega, Nat.add_mod_right, Nat.mod_eq_of_lt ha] at h1
  exact h1
theorem row_up {k : Nat} {x y : Int} (h : Way (rgE k false k) x y) : x < y := by
  have e : ∀ x y, (x, y) ∈ rgE k false k → x < y := fun x y hm => by
    obtain ⟨a, h1, h2, rfl, rfl⟩ := mem_rgE.1 hm
    have h3 : a + 1 < k := by simpa using h2
    rw [Nat.mod_eq_of_lt h3]
    omega
  induction h with
  | one hm => exact e _ _ hm
  | more _ hm ih => have := e _ _ hm; omega
def rk (k q : Nat) (x : Int) : Int := if x > (q : Int) then x - q - 1 else x + k - q - 1
theorem gone_up {k q : Nat} {ring : Bool} (hq : q < k) {x y : Int} (h : Way (goneE (rgE k ring k) (q : Int)) x y) : rk k q x < rk k q y := by
  have e : ∀ x y, (x, y) ∈ goneE (rgE k ring k) (q : Int) → rk k q x < rk k q y := fun x y hm => by
    obtain ⟨hm, h1, h2⟩ := mem_goneE.1 hm
    obtain ⟨a, ha, _, rfl, rfl⟩ := mem_rgE.1 hm
    have := mod_cases ha
    unfold rk
    split at this <;> split <;> split <;> omega
  induction h with
  | one hm => exact e _ _ hm
  | more _ hm ih => have := e _ _ hm; omega
theorem rings_cy {k a : Nat} (ring : Bool) (hk : 2 ≤ k) (ha : a < k) : cyB (rgE k ring k) (a : Int) = ring := by
  cases ring with
  | true => exact cyB_yes (ring_round hk ha)
  | false => exact cyB_no fun h => by have := row_up h; omega
theorem gone_cy {k q : Nat} (ring : Bool) (hq : q < k) (x : Int) : cyB (goneE (rgE k ring k) (q : Int)) x = false := cyB_no fun h => by have := gone_up hq h; omega

set_option maxRecDepth 100000 in
set_option maxHeartbeats 1000000 in
theorem rings_walk (w : World) (n q : Nat) (hn : n < 256) (hq : q < 256) (ring : Bool) : Calls Try.prog 4 #[.int .u8 (n : Int), .int .u8 (q : Int), .bool ring] w fun e w' => e = .returned (.bool true) ∧ Below w.heap.size w w' := by
  have en := Nat.mod_lt n (by decide : 8 > 0)
  have rn : (n : Int) % 8 = ((n % 8 : Nat) : Int) := by simp
  generalize n % 8 = m at *
  obtain ⟨k, hk, sk⟩ : ∃ k : Nat, (2 ≤ k ∧ k < 10) ∧ (2 : Int) + (m : Int) = (k : Int) := ⟨2 + m, by omega, by omega⟩
  have CB := begun_any w
  go_enter Try.func4, Try.ntmps4
  go_upto_region 3 with (first | (go_at_call 7; refine CB.mono ?_; rintro e w0 ⟨rfl, hb0⟩))
  go_upto_region 4 with fail
  have CN := new_gr w0
  go_upto_region 5 with (first | (go_at_call 8; refine CN.mono ?_; rintro e w1 ⟨rfl, h1, hb1⟩))
  have HB1 : Hid (Below w.heap.size w w1) := hb0.trans (hb1.mono hb0.size)
  have HBB : Hid (w.heap.size ≤ w0.heap.size) := hb0.size
  have H1 := Lib.hid h1
  have HN := Lib.hid hn
  clear CB CN hb0 hb1 h1 en rn sk
  generalize w0.heap.size + 1 = p at *
  generalize w0.heap.size = B at *
  have HK := Lib.hid hk
  have hk9 : (k : Int) < 10 := by omega
  have hk2 : (2 : Int) ≤ (k : Int) := by omega
  have HQ := Lib.hid hq
  clear hk hn hq
  have R0 : Hid (∃ (i m : Nat) (ob : Lit → Option Nat), i ≤ k ∧ Value.int .i64 0 = .int .i64 (i : Int) ∧ m ≤ 2 * i ∧ GrAt w1 B p B m (rgE k ring i) ob ∧ Below w.heap.size w w1) := ⟨0, 0, _, Nat.zero_le _, rfl, Nat.le_refl _, H1.out, HB1.out⟩
  clear H1 HB1
  go_upto_region 6 with fail
  go_loopw [9] (fun iv wr => Hid (∃ (i m : Nat) (ob : Lit → Option Nat), i ≤ k ∧ iv = .int .i64 (i : Int) ∧ m ≤ 2 * i ∧ GrAt wr B p B m (rgE k ring i) ob ∧ Below w.heap.size w wr)) (fun iv _ => k - ivN iv)
  case atStart => exact R0
  case round =>
    obtain ⟨i, m', ob, hi, rfl, hm, h, hb⟩ := hrel.out
    clear hrel R0
    by_cases hlt : i < k
    · have hltI : (i : Int) < (k : Int) := by omega
      have hi0 : (0 : Int) ≤ (i : Int) := by omega
      have HI : Hid (i < k ∧ m' ≤ 2 * i) := ⟨hlt, hm⟩
      have H := Lib.hid h
      have HB := Lib.hid hb
      clear h hb hi hm hlt
      by_cases hr : i + 1 < k ∨ ring = true
      · have a1 : Below wr.heap.size wr (wr.alloc (.cells #[.int .i64 (((i + 1) % k : Nat) : Int)] 3)) := (Below.refl _ _).alloc (Nat.le_refl _) _
        have CS := set_any _ (H.out.on_ a1) (by have := HI.out; have := HK.out; omega) (x := (i : Int)) (wf_small (by omega) (by omega)) (on := [(((i + 1) % k : Nat) : Int)]) (by simp) (fun y hy => by simp only [List.mem_singleton] at hy; subst hy; exact wf_small (by omega) (by have := Nat.mod_lt (i + 1) (show 0 < k by omega); omega)) (rdI_lit1 wr (((i + 1) % k : Nat) : Int))
        have em : ((i : Int) + 1).tmod (k : Int) = (((i + 1) % k : Nat) : Int) := by rw [Int.tmod_eq_emod_of_nonneg (by omega)]; simp
        have em2 : ((i : Int) + 1) % (k : Int) = (((i + 1) % k : Nat) : Int) := by simp
        have HR := Lib.hid hr
        have HA := Lib.hid (HB.out.trans (a1.mono HB.out.size))
        clear a1 hr
        by_cases h1 : (i : Int) + 1 < (k : Int)
        · generalize hz : (((i + 1) % k : Nat) : Int) = z at *
          go_wp2_with (first | (go_at_call 13; refine CS.mono ?_; rintro e w2 ⟨rfl, ob2, h2, hb2, _⟩))
          exact ⟨⟨i + 1, m' + [z].length + 1, ob2, HI.out.1, rfl, by have := HI.out.2; simp only [List.length_singleton]; omega, h2.eqv fun x y => by rw [← hz]; exact rgE_set HK.out.1 HI.out.1 HR.out x y, HA.out.trans (hb2.mono HBB.out)⟩, by have := HI.out.1; simp only [ivN]; omega⟩
        · obtain rfl : ring = true := by rcases HR.out with h | h; omega; exact h
          generalize hz : (((i + 1) % k : Nat) : Int) = z at *
          go_wp2_with (first | (go_at_call 13; refine CS.mono ?_; rintro e w2 ⟨rfl, ob2, h2, hb2, _⟩))
          exact ⟨⟨i + 1, m' + [z].length + 1, ob2, HI.out.1, rfl, by have := HI.out.2; simp only [List.length_singleton]; omega, h2.eqv fun x y => by rw [← hz]; exact rgE_set HK.out.1 HI.out.1 (Or.inr rfl) x y, HA.out.trans (hb2.mono HBB.out)⟩, by have := HI.out.1; simp only [ivN]; omega⟩
      · have h1 : ¬ (i : Int) + 1 < (k : Int) := fun h => hr (Or.inl (by omega))
        obtain rfl : ring = false := by
          cases ring with
          | false => rfl
          | true => exact absurd (Or.inr rfl) hr
        have HR := Lib.hid hr
        clear hr
        go_wp2
        exact ⟨⟨i + 1, m', ob, HI.out.1, rfl, by have := HI.out.2; omega, H.out.eqv fun x y => rgE_skip HR.out x y, HB.out⟩, by have := HI.out.1; simp only [ivN]; omega⟩
    · obtain rfl : i = k := by omega
      have HM : Hid (m' ≤ 20) := Lib.hid (show m' ≤ 20 by have := HK.out; omega)
      have H := Lib.hid h
      have HB := Lib.hid hb
      have HL : Hid ((rgE i ring i).length < 100000) := Nat.lt_of_le_of_lt (rgE_length _ _ _) (by have := HK.out; omega)
      clear h hb hi hm hlt
      have R1 : Hid (∃ (j : Nat), j ≤ i ∧ Value.int .i64 0 = .int .i64 (j : Int) ∧ (∃ ob, GrAt wr B p B m' (rgE i ring i) ob) ∧ Below w.heap.size w wr) := ⟨0, Nat.zero_le _, rfl, ⟨ob, H.out⟩, HB.out⟩
      clear H HB
      go_upto_region 11 with fail
      go_loopw [10] (fun jv wr2 => Hid (∃ (j : Nat), j ≤ i ∧ jv = .int .i64 (j : Int) ∧ (∃ ob, GrAt wr2 B p B m' (rgE i ring i) ob) ∧ Below w.heap.size w wr2)) (fun jv _ => i - ivN jv)
      case atStart => exact R1
      case round =>
        obtain ⟨j, hj, rfl, ⟨ob2, h⟩, hb⟩ := hrel.out
        clear hrel R1
        by_cases hlt : j < i
        · have hltI : (j : Int) < (i : Int) := by omega
          have hj0 : (0 : Int) ≤ (j : Int) := by omega
          have CC := cycle_any _ h HL.out (who := (j : Int)) (wf_small (by omega) (by omega))
          rw [rings_cy ring HK.out.1 hlt] at CC
          have H := Lib.hid h
          have HB := Lib.hid hb
          have HJ := Lib.hid hlt
          clear h hb hj hlt
          go_wp2_with (first | (go_at_call 17; refine CC.mono ?_; rintro e w2 ⟨rfl, hb2⟩))
          exact ⟨⟨j + 1, HJ.out, rfl, ⟨ob2, H.out.on_ hb2⟩, HB.out.trans (hb2.mono HB.out.size)⟩, by have := HJ.out; simp only [ivN]; omega⟩
        · obtain rfl : j = i := by omega
          have rq : (q : Int) % (j : Int) = ((q % j : Nat) : Int) := by simp
          have rq2 : (q : Int).tmod (j : Int) = ((q % j : Nat) : Int) := by rw [Int.tmod_eq_emod_of_nonneg (by omega)]; simp
          have hqj : q % j < j := Nat.mod_lt _ (by have := HK.out; omega)
          have hq256 : (q : Int) < 256 := by have := HQ.out; omega
          generalize q % j = q' at *
          have CG := gone_any _ h (who := (q' : Int)) (wf_small (by omega) (by omega))
          have H := Lib.hid h
          have HB := Lib.hid hb
          have HQ' := Lib.hid hqj
          clear h hb hj hlt hqj
          go_upto_region 16 with (first | (go_at_call 11; refine CG.mono ?_; rintro e w3 ⟨rfl, ob3, h3, hb3, _⟩))
          have R2 : Hid (∃ (i : Nat), i ≤ j ∧ Value.int .i64 0 = .int .i64 (i : Int) ∧ (∃ ob, GrAt w3 B p B m' (goneE (rgE j ring j) (q' : Int)) ob) ∧ Below w.heap.size w w3) := ⟨0, Nat.zero_le _, rfl, ⟨ob3, h3⟩, HB.out.trans (hb3.mono HBB.out)⟩
          clear H HB CG h3 hb3
          go_upto_region 17 with fail
          go_loopw [11] (fun jv wr2 => Hid (∃ (i : Nat), i ≤ j ∧ jv = .int .i64 (i : Int) ∧ (∃ ob, GrAt wr2 B p B m' (goneE (rgE j ring j) (q' : Int)) ob) ∧ Below w.heap.size w wr2)) (fun jv _ => j - ivN jv)
          case atStart => exact R2
          case round =>
            obtain ⟨i, hi, rfl, ⟨ob2, h⟩, hb⟩ := hrel.out
            clear hrel R2
            by_cases hlt : i < j
            · have hltI : (i : Int) < (j : Int) := by omega
              have hj0 : (0 : Int) ≤ (i : Int) := by omega
              have CC := cycle_any _ h (Nat.lt_of_le_of_lt (goneE_length _ _) HL.out) (who := (i : Int)) (wf_small (by omega) (by omega))
              rw [gone_cy ring HQ'.out] at CC
              have H := Lib.hid h
              have HB := Lib.hid hb
              have HJ := Lib.hid hlt
              clear h hb hi hlt
              go_wp2_with (first | (go_at_call 17; refine CC.mono ?_; rintro e w2 ⟨rfl, hb2⟩))
              exact ⟨⟨i + 1, HJ.out, rfl, ⟨ob2, H.out.on_ hb2⟩, HB.out.trans (hb2.mono HB.out.size)⟩, by have := HJ.out; simp only [ivN]; omega⟩
            · obtain rfl : i = j := by omega
              have HB := Lib.hid hb
              clear h hb hi hlt
              go_wp2
              go_ret
              exact ⟨rfl, HB.out⟩
end Go.Proofs.Ytcfibmbeojdifaa
