/- The iterator over the cells of some pages. -/
import Derived.RangeFuncNested
import Derived.RangeFuncBound
import Derived.RangeFuncLeaves
import Derived.Shelf.Abstract
import Derived.Shelf.RegionOpen
import Derived.OwnWalkIn
import Derived.TacticsInMore
import Derived.LoopNIn
import Derived.LoopIn
import Derived.Test.YtffflafafpdjdaaGpD
namespace Go.Proofs.Ytffflafafpdjdaa
open Go.RowKit Go.Shelf
attribute [local go_sem] Oper.semAt_some

/-! ### the cells of some pages, in order -/
def row (p k : Nat) : List (Nat × Nat) := (List.range k).map fun c => (p, c)
def rows (a n k : Nat) : List (Nat × Nat) := (List.range n).flatMap fun i => row (a + i) k
/-- The cells of i whole pages, and j of the next one. -/
def Lp (a k i j : Nat) : List (Nat × Nat) := rows a i k ++ row (a + i) j
theorem rows_succ (a n k : Nat) : rows a (n + 1) k = rows a n k ++ row (a + n) k := by simp [rows, List.range_succ]
theorem Lp_zero (a k i : Nat) : Lp a k i 0 = rows a i k := by simp [Lp, row]
theorem Lp_end (a k i : Nat) : Lp a k i k = Lp a k (i + 1) 0 := by rw [Lp_zero, rows_succ]; rfl
theorem Lp_succ (a k i j : Nat) : Lp a k i (j + 1) = Lp a k i j ++ [(a + i, j)] := by simp [Lp, row, List.range_succ]
theorem rows_pre (a k : Nat) {m n : Nat} (h : m ≤ n) : rows a m k <+: rows a n k := by
  induction n with
  | zero => cases Nat.le_zero.1 h; exact List.prefix_refl _
  | succ n ih =>
    by_cases e : m = n + 1
    · subst e; exact List.prefix_refl _
    · rw [rows_succ]; exact (ih (by omega)).trans (List.prefix_append _ _)
theorem row_pre (p : Nat) {j k : Nat} (h : j ≤ k) : row p j <+: row p k := by
  induction k with
  | zero => cases Nat.le_zero.1 h; exact List.prefix_refl _
  | succ k ih =>
    by_cases e : j = k + 1
    · subst e; exact List.prefix_refl _
    · have : row p (k + 1) = row p k ++ [(p, k)] := by simp [row, List.range_succ]
      rw [this]; exact (ih (by omega)).trans (List.prefix_append _ _)
theorem Lp_pre (a : Nat) {k i j n : Nat} (hi : i < n) (hj : j ≤ k) : Lp a k i j <+: rows a n k := by
  refine List.IsPrefix.trans ?_ (rows_pre a k (m := i + 1) hi)
  rw [rows_succ]
  exact (List.prefix_append_right_inj _).2 (row_pre _ hj)
theorem row_len (p k : Nat) : (row p k).length = k := by simp [row]
theorem rows_len (a n k : Nat) : (rows a n k).length = n * k := by
  induction n with
  | zero => simp [rows]
  | succ n ih => rw [rows_succ, List.length_append, ih, row_len, Nat.succ_mul]
theorem Lp_len (a k i j : Nat) : (Lp a k i j).length = i * k + j := by rw [Lp, List.length_append, rows_len, row_len]
theorem mem_rows {a n k : Nat} {x : Nat × Nat} (h : x ∈ rows a n k) : a ≤ x.1 ∧ x.1 < a + n ∧ x.2 < k := by
  simp only [rows, row, List.mem_flatMap, List.mem_range, List.mem_map] at h
  obtain ⟨i, hi, c, hc, rfl⟩ := h
  exact ⟨by simp, by simp; omega, hc⟩

/-- From which page on, how many pages, how many cells of each. -/
def pA (from' : Int) : Nat := (max from' 0).toNat
def pM (N : Nat) (from' to' : Int) : Nat := (min to' (N : Int) - max from' 0).toNat
def pK (cells : Int) : Nat := (min cells 4).toNat
def All (N : Nat) (from' to' cells : Int) : List (Nat × Nat) := rows (pA from') (pM N from' to') (pK cells)
def encR (x : Nat × Nat) : Array Value := #[.agg #[.int .i64 ((x.1 % 32 : Nat) : Int), .int .i64 ((x.2 % 4 : Nat) : Int)]]

/-- The map's block and the closure's four boxes lie as they lay. -/
def Kq (g b : Nat) (W W' : World) : Prop := ∀ k, k = g ∨ (b ≤ k ∧ k < b + 4) → W'.heap[k]? = W.heap[k]?
theorem Kq.refl (g b : Nat) (W : World) : Kq g b W W := fun _ _ => rfl
theorem Kq.trans {g b : Nat} {W W' W'' : World} (h : Kq g b W W') (k : Kq g b W' W'') : Kq g b W W'' := fun i hi => (k i hi).trans (h i hi)
theorem Kq.drewN {g b : Nat} {W W' : World} (h : Kq g b W W') (m : Nat) : Kq g b W (W'.drewN m) := h
theorem Kq.of_below {g b : Nat} {W W' : World} {B : Nat} (h : Below B W W') (hg : g < B) (hb : b + 4 ≤ B) : Kq g b W W' := fun k hk => h.block k (by omega)
/-- What the closure holds. -/
structure Box4 (W : World) (b g N : Nat) (from' to' cells : Int) : Prop where
  m : W.cell? ⟨b, 0, none⟩ = some (.pointer (some ⟨g, 0, none⟩))
  f : W.cell? ⟨b + 1, 0, none⟩ = some (.int .i64 from')
  t : W.cell? ⟨b + 2, 0, none⟩ = some (.int .i64 to')
  c : W.cell? ⟨b + 3, 0, none⟩ = some (.int .i64 cells)
  n : W.cell? ⟨g, 0, none⟩ = some (.int .i64 (N : Int))
theorem Box4.below {W W' : World} {b g N : Nat} {from' to' cells : Int} (h : Box4 W b g N from' to' cells) (hb : Kq g b W W') : Box4 W' b g N from' to' cells :=
  ⟨(World.cell?_of_block (a := ⟨b, 0, none⟩) (hb b (by omega))).trans h.m, (World.cell?_of_block (a := ⟨b + 1, 0, none⟩) (hb (b + 1) (by omega))).trans h.f, (World.cell?_of_block (a := ⟨b + 2, 0, none⟩) (hb (b + 2) (by omega))).trans h.t, (World.cell?_of_block (a := ⟨b + 3, 0, none⟩) (hb (b + 3) (by omega))).trans h.c, (World.cell?_of_block (a := ⟨g, 0, none⟩) (hb g (by omega))).trans h.n⟩

set_option maxRecDepth 100000 in
set_option maxHeartbeats 1000000 in
theorem all1_in (n : Nat) (hn : 1 ≤ n) (l b g N : Nat) (from' to' cells : Int) (hN : N ≤ 32) (J Jx : List (Nat × Nat) → World → Prop) (hJd : ∀ s W m, J s W → J s (World.drewN W m))
    (hY : ∀ pre x W, J pre W → pre.length < 200 → YieldAt Fence.wide (n - 1) Try.prog l (encR x) W fun e W' =>
      (e = .returned (.bool true) ∧ J (pre ++ [x]) W' ∧ Kq g b W W') ∨ (e = .returned (.bool false) ∧ Jx (pre ++ [x]) W'))
    (W : World) (hB : Box4 W b g N from' to' cells) (h0 : J [] W) :
    CallsIn Fence.wide n Try.prog 28 #[.func (.yield l) #[] #[], .pointer (some ⟨b, 0, none⟩), .pointer (some ⟨b + 1, 0, none⟩), .pointer (some ⟨b + 2, 0, none⟩), .pointer (some ⟨b + 3, 0, none⟩)] W fun e W' => (∃ v, e = .returned v) ∧
      ((∃ ys, ys = All N from' to' cells ∧ J ys W') ∨ (∃ pre, pre <+: All N from' to' cells ∧ Jx pre W')) := by
  refine callsIn_of_wp Try.func28 rfl trivial ?_ rfl
  simp only [Try.ntmps28, List.size_toArray, List.length_cons, List.length_nil, Nat.reduceAdd, Nat.reduceSub, Array.replicate_succ, Array.replicate_zero, List.push_toArray, List.append_toArray, List.nil_append, List.cons_append]
  have k0 := hB.m
  have k1 := hB.f
  have HB := Lib.hid hB
  have HY := Lib.hid hY
  have HJ := Lib.hid hJd
  clear hB hY hJd
  obtain ⟨A, hA⟩ : ∃ A, A = pA from' := ⟨_, rfl⟩
  obtain ⟨M, hM⟩ : ∃ M, M = pM N from' to' := ⟨_, rfl⟩
  obtain ⟨K, hK⟩ : ∃ K, K = pK cells := ⟨_, rfl⟩
  have HA : Hid (All N from' to' cells = rows A M K ∧ max from' 0 = (A : Int) ∧ (A + M ≤ N ∨ M = 0) ∧ (M : Int) = max 0 (min to' (N : Int) - (A : Int)) ∧ (K : Int) = max 0 (min cells 4)) := by
    refine ⟨by rw [hA, hM, hK]; rfl, ?_, ?_, ?_, ?_⟩ <;> simp only [hA, hM, hK, pA, pM, pK] <;> omega
  clear hA hM hK
  gi_wp2
  all_goals
    gi_loopw [6] (fun p wr => Hid (∃ i : Nat, i ≤ M ∧ p = .int .i64 ((A : Int) + (i : Int)) ∧ Kq g b W wr ∧ J (Lp A K i 0) wr)) (fun p _ => A + M - (RowKit.intOf p).toNat)
    case atStart =>
      have := HA.out.2.1
      exact ⟨0, Nat.zero_le _, by congr 1; omega, Kq.refl _ _ _, h0⟩
    case round =>
      obtain ⟨i, hi, rfl, hb, hj⟩ := hrel.out
      have HB2 := HB.out.below hb
      have hm := HB2.m
      have ht := HB2.t
      have hc := HB2.c
      have hnn := HB2.n
      have HJ2 := Lib.hid hj
      have HBB := Lib.hid hb
      clear hrel HB2 hb hj
      have hA0 : (0 : Int) ≤ (A : Int) + (i : Int) := by omega
      by_cases hlt : (A : Int) + (i : Int) < min to' (N : Int)
      · have hiM : i < M := by have := HA.out; omega
        have hA32 : A + i < 32 := by have := HA.out; omega
        have HIM := Lib.hid hiM
        have h32 : (A : Int) + (i : Int) < 32 := by omega
        clear hiM hi
        by_cases hc4 : cells ≤ 4
        · by_cases htn : to' ≤ (N : Int)
          · have h1 : (A : Int) + (i : Int) < to' := by omega
            gi_wp2
            gi_quiet (fail)
            have HJ3 := Lib.hid (HJ.out _ _ nq HJ2.out)
            have HB3 := Lib.hid (HBB.out.drewN nq)
            have hc3 := (HB.out.below HB3.out).c
            generalize wr.drewN nq = w5 at *
            clear hm ht hc hnn HJ2 HBB
            gi_wp2
            gi_loopw [24] (fun q w6 => Hid (∃ j : Nat, j ≤ K ∧ q = .int .i64 (j : Int) ∧ Kq g b W w6 ∧ J (Lp A K i j) w6)) (fun q _ => K - (RowKit.intOf q).toNat)
            case atStart => exact ⟨0, Nat.zero_le _, rfl, HB3.out, HJ3.out⟩
            case round =>
              obtain ⟨j, hj, rfl, hb6, hj6⟩ := hrel.out
              clear hrel
              have HK := HA.out.2.2.2.2
              by_cases hjl : (j : Int) < cells
              · have hjK : j < K := by omega
                have hj4 : j < 4 := by omega
                have hl : (Lp A K i j).length < 200 := by
                  rw [Lp_len]
                  have h1 : i * K ≤ 32 * 4 := Nat.mul_le_mul (by omega) (by omega)
                  omega
                have he : encR (A + i, j) = #[.agg #[.int .i64 ((A : Int) + (i : Int)), .int .i64 (j : Int)]] := by
                  unfold encR
                  rw [show (A + i, j).1 % 32 = A + i from Nat.mod_eq_of_lt (by show A + i < 32; omega), show (A + i, j).2 % 4 = j from Nat.mod_eq_of_lt hj4, Int.natCast_add]
                obtain ⟨fn, tmps, assign, body, hy, hR⟩ := HY.out (Lp A K i j) (A + i, j) wr hj6 hl
                rw [he] at hy
                have HR := Lib.hid hR
                have HB6 := Lib.hid hb6
                have HJK := Lib.hid hjK
                clear he hl hR hb6 hj6 HK hj hjK
                gi_wp2
                refine HR.out.mono ?_
                rintro e W3 (⟨rfl, hJ7, hk7⟩ | ⟨rfl, hJx7⟩)
                · have HJ7 := Lib.hid hJ7
                  have HB7 := Lib.hid (HB6.out.trans hk7)
                  clear hJ7 hk7
                  gi_wp2
                  go_roundw
                  case rel => exact ⟨j + 1, HJK.out, by simp, HB7.out, by rw [Lp_succ]; exact HJ7.out⟩
                  case measure => have := HJK.out; simp [RowKit.intOf]; omega
                · have HJ7 := Lib.hid hJx7
                  clear hJx7
                  gi_wp2
                  refine bodyPost_ret (results_none rfl _ _ _) rfl ?_
                  refine ⟨⟨_, rfl⟩, .inr ⟨_, ?_, HJ7.out⟩⟩
                  rw [HA.out.1, ← Lp_succ]
                  exact Lp_pre A HIM.out HJK.out
              · have hjK : j = K := by omega
                have HJ7 : Hid (J (Lp A K (i + 1) 0) wr) := by
                  show J (Lp A K (i + 1) 0) wr
                  rw [← Lp_end]; rw [hjK] at hj6; exact hj6
                have HB6 := Lib.hid hb6
                clear hb6 hj6 HK hj hjK
                gi_wp2
                go_roundw
                case rel => exact ⟨i + 1, HIM.out, (by first | (congr 1; done) | (congr 1; omega)), HB6.out, HJ7.out⟩
                case measure => have := HIM.out; simp only [RowKit.intOf]; omega
          · have h1 : (A : Int) + (i : Int) < (N : Int) := by omega
            gi_wp2
            gi_quiet (fail)
            have HJ3 := Lib.hid (HJ.out _ _ nq HJ2.out)
            have HB3 := Lib.hid (HBB.out.drewN nq)
            have hc3 := (HB.out.below HB3.out).c
            generalize wr.drewN nq = w5 at *
            clear hm ht hc hnn HJ2 HBB
            gi_wp2
            gi_loopw [24] (fun q w6 => Hid (∃ j : Nat, j ≤ K ∧ q = .int .i64 (j : Int) ∧ Kq g b W w6 ∧ J (Lp A K i j) w6)) (fun q _ => K - (RowKit.intOf q).toNat)
            case atStart => exact ⟨0, Nat.zero_le _, rfl, HB3.out, HJ3.out⟩
            case round =>
              obtain ⟨j, hj, rfl, hb6, hj6⟩ := hrel.out
              clear hrel
              have HK := HA.out.2.2.2.2
              by_cases hjl : (j : Int) < cells
              · have hjK : j < K := by omega
                have hj4 : j < 4 := by omega
                have hl : (Lp A K i j).length < 200 := by
                  rw [Lp_len]
                  have h1 : i * K ≤ 32 * 4 := Nat.mul_le_mul (by omega) (by omega)
                  omega
                have he : encR (A + i, j) = #[.agg #[.int .i64 ((A : Int) + (i : Int)), .int .i64 (j : Int)]] := by
                  unfold encR
                  rw [show (A + i, j).1 % 32 = A + i from Nat.mod_eq_of_lt (by show A + i < 32; omega), show (A + i, j).2 % 4 = j from Nat.mod_eq_of_lt hj4, Int.natCast_add]
                obtain ⟨fn, tmps, assign, body, hy, hR⟩ := HY.out (Lp A K i j) (A + i, j) wr hj6 hl
                rw [he] at hy
                have HR := Lib.hid hR
                have HB6 := Lib.hid hb6
                have HJK := Lib.hid hjK
                clear he hl hR hb6 hj6 HK hj hjK
                gi_wp2
                refine HR.out.mono ?_
                rintro e W3 (⟨rfl, hJ7, hk7⟩ | ⟨rfl, hJx7⟩)
                · have HJ7 := Lib.hid hJ7
                  have HB7 := Lib.hid (HB6.out.trans hk7)
                  clear hJ7 hk7
                  gi_wp2
                  go_roundw
                  case rel => exact ⟨j + 1, HJK.out, by simp, HB7.out, by rw [Lp_succ]; exact HJ7.out⟩
                  case measure => have := HJK.out; simp [RowKit.intOf]; omega
                · have HJ7 := Lib.hid hJx7
                  clear hJx7
                  gi_wp2
                  refine bodyPost_ret (results_none rfl _ _ _) rfl ?_
                  refine ⟨⟨_, rfl⟩, .inr ⟨_, ?_, HJ7.out⟩⟩
                  rw [HA.out.1, ← Lp_succ]
                  exact Lp_pre A HIM.out HJK.out
              · have hjK : j = K := by omega
                have HJ7 : Hid (J (Lp A K (i + 1) 0) wr) := by
                  show J (Lp A K (i + 1) 0) wr
                  rw [← Lp_end]; rw [hjK] at hj6; exact hj6
                have HB6 := Lib.hid hb6
                clear hb6 hj6 HK hj hjK
                gi_wp2
                go_roundw
                case rel => exact ⟨i + 1, HIM.out, (by first | (congr 1; done) | (congr 1; omega)), HB6.out, HJ7.out⟩
                case measure => have := HIM.out; simp only [RowKit.intOf]; omega
        · by_cases htn : to' ≤ (N : Int)
          · have h1 : (A : Int) + (i : Int) < to' := by omega
            gi_wp2
            gi_quiet (fail)
            have HJ3 := Lib.hid (HJ.out _ _ nq HJ2.out)
            have HB3 := Lib.hid (HBB.out.drewN nq)
            have hc3 := (HB.out.below HB3.out).c
            generalize wr.drewN nq = w5 at *
            clear hm ht hc hnn HJ2 HBB
            gi_wp2
            gi_loopw [24] (fun q w6 => Hid (∃ j : Nat, j ≤ K ∧ q = .int .i64 (j : Int) ∧ Kq g b W w6 ∧ J (Lp A K i j) w6)) (fun q _ => K - (RowKit.intOf q).toNat)
            case atStart => exact ⟨0, Nat.zero_le _, rfl, HB3.out, HJ3.out⟩
            case round =>
              obtain ⟨j, hj, rfl, hb6, hj6⟩ := hrel.out
              clear hrel
              have HK := HA.out.2.2.2.2
              by_cases hjl : (j : Int) < 4
              · have hjK : j < K := by omega
                have hj4 : j < 4 := by omega
                have hl : (Lp A K i j).length < 200 := by
                  rw [Lp_len]
                  have h1 : i * K ≤ 32 * 4 := Nat.mul_le_mul (by omega) (by omega)
                  omega
                have he : encR (A + i, j) = #[.agg #[.int .i64 ((A : Int) + (i : Int)), .int .i64 (j : Int)]] := by
                  unfold encR
                  rw [show (A + i, j).1 % 32 = A + i from Nat.mod_eq_of_lt (by show A + i < 32; omega), show (A + i, j).2 % 4 = j from Nat.mod_eq_of_lt hj4, Int.natCast_add]
                obtain ⟨fn, tmps, assign, body, hy, hR⟩ := HY.out (Lp A K i j) (A + i, j) wr hj6 hl
                rw [he] at hy
                have HR := Lib.hid hR
                have HB6 := Lib.hid hb6
                have HJK := Lib.hid hjK
                clear he hl hR hb6 hj6 HK hj hjK
                gi_wp2
                refine HR.out.mono ?_
                rintro e W3 (⟨rfl, hJ7, hk7⟩ | ⟨rfl, hJx7⟩)
                · have HJ7 := Lib.hid hJ7
                  have HB7 := Lib.hid (HB6.out.trans hk7)
                  clear hJ7 hk7
                  gi_wp2
                  go_roundw
                  case rel => exact ⟨j + 1, HJK.out, by simp, HB7.out, by rw [Lp_succ]; exact HJ7.out⟩
                  case measure => have := HJK.out; simp [RowKit.intOf]; omega
                · have HJ7 := Lib.hid hJx7
                  clear hJx7
                  gi_wp2
                  refine bodyPost_ret (results_none rfl _ _ _) rfl ?_
                  refine ⟨⟨_, rfl⟩, .inr ⟨_, ?_, HJ7.out⟩⟩
                  rw [HA.out.1, ← Lp_succ]
                  exact Lp_pre A HIM.out HJK.out
              · have hjK : j = K := by omega
                have HJ7 : Hid (J (Lp A K (i + 1) 0) wr) := by
                  show J (Lp A K (i + 1) 0) wr
                  rw [← Lp_end]; rw [hjK] at hj6; exact hj6
                have HB6 := Lib.hid hb6
                clear hb6 hj6 HK hj hjK
                gi_wp2
                go_roundw
                case rel => exact ⟨i + 1, HIM.out, (by first | (congr 1; done) | (congr 1; omega)), HB6.out, HJ7.out⟩
                case measure => have := HIM.out; simp only [RowKit.intOf]; omega
          · have h1 : (A : Int) + (i : Int) < (N : Int) := by omega
            gi_wp2
            gi_quiet (fail)
            have HJ3 := Lib.hid (HJ.out _ _ nq HJ2.out)
            have HB3 := Lib.hid (HBB.out.drewN nq)
            have hc3 := (HB.out.below HB3.out).c
            generalize wr.drewN nq = w5 at *
            clear hm ht hc hnn HJ2 HBB
            gi_wp2
            gi_loopw [24] (fun q w6 => Hid (∃ j : Nat, j ≤ K ∧ q = .int .i64 (j : Int) ∧ Kq g b W w6 ∧ J (Lp A K i j) w6)) (fun q _ => K - (RowKit.intOf q).toNat)
            case atStart => exact ⟨0, Nat.zero_le _, rfl, HB3.out, HJ3.out⟩
            case round =>
              obtain ⟨j, hj, rfl, hb6, hj6⟩ := hrel.out
              clear hrel
              have HK := HA.out.2.2.2.2
              by_cases hjl : (j : Int) < 4
              · have hjK : j < K := by omega
                have hj4 : j < 4 := by omega
                have hl : (Lp A K i j).length < 200 := by
                  rw [Lp_len]
                  have h1 : i * K ≤ 32 * 4 := Nat.mul_le_mul (by omega) (by omega)
                  omega
                have he : encR (A + i, j) = #[.agg #[.int .i64 ((A : Int) + (i : Int)), .int .i64 (j : Int)]] := by
                  unfold encR
                  rw [show (A + i, j).1 % 32 = A + i from Nat.mod_eq_of_lt (by show A + i < 32; omega), show (A + i, j).2 % 4 = j from Nat.mod_eq_of_lt hj4, Int.natCast_add]
                obtain ⟨fn, tmps, assign, body, hy, hR⟩ := HY.out (Lp A K i j) (A + i, j) wr hj6 hl
                rw [he] at hy
                have HR := Lib.hid hR
                have HB6 := Lib.hid hb6
                have HJK := Lib.hid hjK
                clear he hl hR hb6 hj6 HK hj hjK
                gi_wp2
                refine HR.out.mono ?_
                rintro e W3 (⟨rfl, hJ7, hk7⟩ | ⟨rfl, hJx7⟩)
                · have HJ7 := Lib.hid hJ7
                  have HB7 := Lib.hid (HB6.out.trans hk7)
                  clear hJ7 hk7
                  gi_wp2
                  go_roundw
                  case rel => exact ⟨j + 1, HJK.out, by simp, HB7.out, by rw [Lp_succ]; exact HJ7.out⟩
                  case measure => have := HJK.out; simp [RowKit.intOf]; omega
                · have HJ7 := Lib.hid hJx7
                  clear hJx7
                  gi_wp2
                  refine bodyPost_ret (results_none rfl _ _ _) rfl ?_
                  refine ⟨⟨_, rfl⟩, .inr ⟨_, ?_, HJ7.out⟩⟩
                  rw [HA.out.1, ← Lp_succ]
                  exact Lp_pre A HIM.out HJK.out
              · have hjK : j = K := by omega
                have HJ7 : Hid (J (Lp A K (i + 1) 0) wr) := by
                  show J (Lp A K (i + 1) 0) wr
                  rw [← Lp_end]; rw [hjK] at hj6; exact hj6
                have HB6 := Lib.hid hb6
                clear hb6 hj6 HK hj hjK
                gi_wp2
                go_roundw
                case rel => exact ⟨i + 1, HIM.out, (by first | (congr 1; done) | (congr 1; omega)), HB6.out, HJ7.out⟩
                case measure => have := HIM.out; simp only [RowKit.intOf]; omega
      · have hiM : i = M := by have := HA.out; omega
        subst hiM
        have HE := Lib.hid (HA.out.1.trans (Lp_zero A K i).symm)
        by_cases htn : to' ≤ (N : Int)
        · have h1 : ¬ (A : Int) + (i : Int) < to' := by omega
          clear hi
          gi_wp2
          gi_quiet (fail)
          gi_wp2
          go_end0
          exact ⟨⟨_, rfl⟩, .inl ⟨_, HE.out.symm, HJ.out _ _ nq HJ2.out⟩⟩
        · have h1 : ¬ (A : Int) + (i : Int) < (N : Int) := by omega
          clear hi
          gi_wp2
          gi_quiet (fail)
          gi_wp2
          go_end0
          exact ⟨⟨_, rfl⟩, .inl ⟨_, HE.out.symm, HJ.out _ _ nq HJ2.out⟩⟩
end Go.Proofs.Ytffflafafpdjdaa
