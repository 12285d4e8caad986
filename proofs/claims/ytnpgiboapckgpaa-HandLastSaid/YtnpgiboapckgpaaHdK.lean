/- hand: Keys, Len, New. -/
import Derived.Test.YtnpgiboapckgpaaHdO
import Derived.OwnWalk
namespace Go.Proofs.Ytnpgiboapckgpaa
open Go.RowKit

theorem infoI64 : (Try.prog.info? 3).map (fun i => (i.zero, i.size, i.bytes)) = some (some (.int .i64 0), 1, 8) := by kernel_rfl
theorem info_parts {o : Option TypeInfo} {z : Value} {s b : Nat} (h : o.map (fun i => (i.zero, i.size, i.bytes)) = some (some z, s, b)) : ∃ i, o = some i ∧ i.zero = some z ∧ i.size = s ∧ i.bytes = b := by
  cases o with
  | none => cases h
  | some i =>
    simp only [Option.map_some, Option.some.injEq, Prod.mk.injEq] at h
    exact ⟨i, rfl, h.1, h.2.1, h.2.2⟩
def intV (l : List Int) : List Value := l.map (Value.int .i64)

theorem owns_slice {w : World} {b t n : Nat} {v : Value} {xs : List Value} (h : w.ownsRow b t 1 v n xs) : ∃ p c, v = .slice p n c := by
  obtain ⟨_, ⟨rfl, rfl⟩ | ⟨g, cap, cur, rfl, _⟩⟩ := h
  · exact ⟨_, _, rfl⟩
  · exact ⟨_, _, rfl⟩
/-- The keys of the first i places. -/
def keysTo (P : Nat → Pl) : Nat → List Int
  | 0 => []
  | i + 1 => if (P i).u = true then keysTo P i ++ [(P i).k] else keysTo P i
theorem keysTo_len (P : Nat → Pl) : ∀ i, (keysTo P i).length ≤ i
  | 0 => Nat.le_refl _
  | i + 1 => by
    have := keysTo_len P i
    unfold keysTo
    split
    · simp; omega
    · omega
theorem heapSize_alloc (w : World) (o : Obj) : (w.alloc o).heap.size = w.heap.size + 1 := by simp
theorem news_one (w : World) (k : Int) : ∀ (j : Nat) (u : Value), [Value.int .i64 k][j]? = some u → (w.alloc (.cells #[.int .i64 k] 3)).cell? ((⟨w.heap.size, 0, none⟩ : Addr).add j) = some u := by
  intro j u hu
  cases j with
  | zero =>
    simp only [List.getElem?_cons_zero, Option.some.injEq] at hu
    subst hu
    rw [add_off]
    exact (cell_of (heap_alloc_new w (.cells #[.int .i64 k] 3)) 0).1
  | succ j => simp at hu
def lvN : Value → Nat
  | .int _ n => n.toNat
  | _ => 0

set_option maxRecDepth 100000 in
set_option maxHeartbeats 2000000 in
theorem keys_any (w : World) {p g : Nat} {s : St} (hh : HA w p g s) : Calls Try.prog 21 #[.pointer (some ⟨p, 0, none⟩)] w fun e w' => ∃ v, e = .returned v ∧ w'.ownsRow w.heap.size 3 1 v (keysTo s.P s.n).length (intV (keysTo s.P s.n)) ∧ Below w.heap.size w w' := by
  obtain ⟨ii, hi, hz0, hz1, hz2⟩ := info_parts infoI64
  have HH := Lib.hid hh
  have hN := hh.ln
  clear hh
  go_enter Try.func21, Try.ntmps21
  go_wp2_with (first | (go_at_call 29; refine (all_any _ HH.out).mono ?_; rintro e w' ⟨rfl, m0, hw⟩; obtain rfl := hw.symm; clear hw))
  go_loopw [3, 9] (fun sv iv wr => ∃ i : Nat, i ≤ s.n ∧ iv = .int .i64 (i : Int) ∧ wr.ownsRow w.heap.size 3 1 sv (keysTo s.P i).length (intV (keysTo s.P i)) ∧ Below w.heap.size w wr) (fun sv iv _ => s.n - lvN iv)
  case atStart => exact ⟨0, Nat.zero_le _, rfl, World.ownsRow_nil _ _ _ _, below_dn (Below.refl _ _) m0⟩
  case round =>
    obtain ⟨i, hi', rfl, ho, hb⟩ := hrel
    by_cases hlt : i < s.n
    · have HB := Lib.hid hb
      have h1 := HH.out.on hb
      have hz := hb.size
      have ho2 := ho.alloc (.cells (s.P i).c 56)
      clear ho
      generalize hold : s.P i = old at *
      have HOLD := Lib.hid hold
      have HC : Hid (∀ jj x, old.c[jj]? = some x → wr.cell? ⟨g, i * 5 + jj, none⟩ = some x) := fun jj x h => (h1.cell (i := i) hlt (j := jj) (Nat.lt_of_not_ge fun hj => by rw [Array.getElem?_eq_none (by rw [old.c_size]; exact hj)] at h; cases h)).trans ((congrArg (fun y : Pl => y.c[jj]?) hold).trans h)
      have HI2 := Lib.hid (info_place old)
      have HON := Lib.hid (place_one old)
      have HAL := Lib.hid (heap_alloc_new wr (.cells #[.bool false, .int .i64 0, .string ⟨#[]⟩, .bool false, .int .i64 0] 56))
      have HSZ := Lib.hid (show (#[.bool false, .int .i64 0, .string ⟨#[]⟩, .bool false, .int .i64 0] : Array Value).size = old.c.size from rfl)
      have HSET := Lib.hid (setRow_alloc wr #[.bool false, .int .i64 0, .string ⟨#[]⟩, .bool false, .int .i64 0] old.c 56)
      clear hold hb h1
      go_upto_region 5 with (first | (with_reducible refine wpList_load_at rfl 56 (.tmp 11) rfl g (i * 5) rfl old.c _ HC.out run_place rfl HI2.out ?_) | (with_reducible refine wpList_store_row rfl 56 (.tmp 5) (.tmp 12) rfl wr.heap.size old.c rfl rfl 56 _ HAL.out HI2.out HSZ.out HON.out ?_))
      rw [HSET.out]
      simp only [Act.put]
      have hb2 := HB.out.alloc hz (.cells old.c 56)
      have hv := heap_alloc_new wr (.cells old.c 56)
      generalize wr.alloc (.cells old.c 56) = w2 at hb2 hv ho2 ⊢
      generalize wr.heap.size = q at *
      clear HSET HSZ HAL HON HI2 HC HB
      have c0 := (cell_of hv 0).1
      have c1 := (cell_of hv 1).1
      rw [show old.c[0]? = some (.bool old.u) from rfl] at c0
      rw [show old.c[1]? = some (.int .i64 old.k) from rfl] at c1
      have HO := Lib.hid ho2
      have HB := Lib.hid hb2
      have hz2' := hb2.size
      clear hv ho2 hb2
      cases hu : old.u with
      | false =>
        rw [hu] at c0
        have E1 : Hid (keysTo s.P (i + 1) = keysTo s.P i) := by
          show (if (s.P i).u = true then _ else _) = _
          rw [HOLD.out, hu]; rfl
        clear hu HOLD c1
        go_wp2
        exact ⟨⟨i + 1, by omega, by go_num, by rw [E1.out]; exact HO.out, HB.out⟩, by simp [lvN]; omega⟩
      | true =>
        rw [hu] at c0
        have E1 : Hid (keysTo s.P (i + 1) = keysTo s.P i ++ [old.k]) := by
          show (if (s.P i).u = true then _ else _) = _
          rw [HOLD.out, hu]; rfl
        have hL := keysTo_len s.P i
        clear hu HOLD
        go_wp2_with (at_builtin; refine wpList_append_own _ rfl _ _ 38 rfl w.heap.size 3 ii (.int .i64 0) 1 8 Try.underlying38 hi hz0 hz1 hz2 rfl (by decide) _ _ _ rfl (HO.out.alloc _) ⟨w2.heap.size, 0, none⟩ 1 1 [.int .i64 old.k] rfl ?c2 ?c3 ?c4 ?c5 ?c6 ?c7 ?_)
        · rfl
        · exact news_one w2 old.k
        · intro u hu; obtain rfl := List.mem_singleton.1 hu; rfl
        · unfold maxLen; omega
        · omega
        · simp only [heapSize_alloc]; omega
        intro v' w3 hown hgrow _
        have hb3 : Below w.heap.size w w3 := (HB.out.alloc hz2' _).grown hgrow (by simp; omega) (fun k hk => (HO.out.lt k hk).1)
        have e2 : intV (keysTo s.P i) ++ [Value.int .i64 old.k] = intV (keysTo s.P (i + 1)) := by rw [E1.out]; simp [intV]
        have e3 : (keysTo s.P i).length + 1 = (keysTo s.P (i + 1)).length := by rw [E1.out]; simp
        rw [e2, e3] at hown
        have HW := Lib.hid hown
        clear e2 e3 hown hgrow
        go_wp2
        go_roundw
        case rel => exact ⟨i + 1, by omega, by go_num, HW.out, hb3⟩
        case measure => simp [lvN]; omega
    · obtain rfl : i = s.n := by omega
      have HO := Lib.hid ho
      have HB := Lib.hid hb
      clear ho hb
      go_wp2
      go_ret
      exact ⟨_, rfl, HO.out, HB.out⟩

theorem len_any (w : World) {p g : Nat} {s : St} (hh : HA w p g s) : Calls Try.prog 23 #[.pointer (some ⟨p, 0, none⟩)] w fun e w' => e = .returned (.int .i64 ((keysTo s.P s.n).length : Int)) ∧ Below w.heap.size w w' := by
  have HH := Lib.hid hh
  clear hh
  go_enter Try.func23, Try.ntmps23
  go_wp2_with (first | (go_at_call 21; refine (keys_any _ HH.out).mono ?_; rintro e w' ⟨v, rfl, ho, hb⟩; obtain ⟨ptr, cap, rfl⟩ := owns_slice ho; clear ho))
  go_ret
  exact ⟨rfl, hb⟩

/-- How many places there are. -/
def roomOf (n : Int) : Nat := (min (max n 1) 64).toNat
def newS (n : Nat) : St := ⟨n, fun _ => Pl.zero, 0⟩

theorem made_places (n : Nat) : madeCells (Value.agg #[.bool false, .int .i64 0, .string ⟨#[]⟩, .bool false, .int .i64 0]).cells (n * 5) = rowP n fun _ => Pl.zero := by
  show _ = rowV n 5 fun _ => Pl.zero.c
  refine rowV_ext (n := n) (k := 5) (V := fun _ => Pl.zero.c) (fun _ => rfl) (by decide) (by rw [size_madeCells]) fun i j hi hj => ?_
  have h : i * 5 + j < n * 5 := by omega
  have e : (i * 5 + j) % 5 = j := by omega
  unfold madeCells
  rw [Array.getElem?_map, Array.getElem?_range, if_pos h]
  show some ((Value.agg #[.bool false, .int .i64 0, .string ⟨#[]⟩, .bool false, .int .i64 0]).cells[(i * 5 + j) % 5]!) = _
  rw [e]
  match j, hj with
  | 0, _ => rfl
  | 1, _ => rfl
  | 2, _ => rfl
  | 3, _ => rfl
  | 4, _ => rfl
/-- The cells of a cache without keys, and m places. -/
def newC (m : Int) : Array Value := madeCells (Value.agg #[.bool false, .int .i64 0, .string ⟨#[]⟩, .bool false, .int .i64 0]).cells (64 * 5) ++ #[.int .i64 m, .int .i64 0]
theorem newC_row (m : Nat) : newC (m : Int) = rowH (newS m) := by
  have e : clip m (fun _ => Pl.zero) = fun _ => Pl.zero := by funext j; unfold clip; split <;> rfl
  unfold newC rowH newS
  rw [e, made_places]
  rfl

def zeC : Array Value := newC 0
theorem zeC_size : zeC.size = 322 := by
  unfold zeC newC
  rw [Array.size_append, size_madeCells]
  rfl
theorem zeC_set (m : Int) : zeC.setIfInBounds 320 (.int .i64 m) = newC m := by
  apply Array.ext_getElem?
  intro x
  unfold zeC newC
  rw [Array.getElem?_setIfInBounds, Array.size_append, size_madeCells, Array.getElem?_append, Array.getElem?_append, size_madeCells]
  by_cases e : 320 = x
  · subst e; rfl
  · rw [if_neg e]
    by_cases e2 : x < 64 * 5
    · rw [if_pos e2, if_pos e2]
    · rw [if_neg e2, if_neg e2]
      obtain ⟨y, rfl⟩ : ∃ y, x = 321 + y := ⟨x - 321, by omega⟩
      rw [show 321 + y - 64 * 5 = y + 1 by omega]
      rfl
set_option maxRecDepth 100000 in
theorem zero_hand (w : World) : (zeroValue 65).run Try.prog w = .ok (.agg zeC) w := by kernel_rfl
theorem box_new (m : Int) (w : World) : (Instr.box 65 (.agg (newC m))).run Try.prog w = .ok (.pointer (some ⟨w.heap.size, 0, none⟩)) (w.alloc (.cells (newC m) 65)) := by
  rfl
set_option maxRecDepth 100000 in
set_option maxHeartbeats 2000000 in
theorem make_at (w : World) (n m : Int) (hm : m = min (max n 1) 64) : Calls Try.prog 24 #[.int .i64 n] w fun e w' => e = .returned (.pointer (some ⟨w.heap.size, 0, none⟩)) ∧ w' = w.alloc (.cells (newC m) 65) := by
  have hz := zero_hand
  have hzs := zeC_size
  have hzt := zeC_set
  have hbox := box_new m
  by_cases c1 : n < 1
  · obtain rfl : m = 1 := by omega
    have c1' : ¬ 1 ≤ n := by omega
    clear hm
    go_enter Try.func24, Try.ntmps24
    go_wp2
    go_ret
    exact ⟨rfl, rfl⟩
  · by_cases c2 : 64 < n
    · obtain rfl : m = 64 := by omega
      have c1' : 1 ≤ n := by omega
      clear hm
      go_enter Try.func24, Try.ntmps24
      go_wp2
      go_ret
      exact ⟨rfl, rfl⟩
    · obtain rfl : m = n := by omega
      have c1' : 1 ≤ m := by omega
      clear hm
      go_enter Try.func24, Try.ntmps24
      go_wp2
      go_ret
      exact ⟨rfl, rfl⟩

theorem new_any (w : World) (n : Int) : Calls Try.prog 10 #[.int .i64 n] w fun e w' => e = .returned (.pointer (some ⟨w.heap.size, 0, none⟩)) ∧ HA w' w.heap.size w.heap.size (newS (roomOf n)) ∧ Below w.heap.size w w' := by
  have hm : ((roomOf n : Nat) : Int) = min (max n 1) 64 := by unfold roomOf; omega
  have h1 : 1 ≤ roomOf n := by unfold roomOf; omega
  have h2 : roomOf n ≤ 64 := by unfold roomOf; omega
  have C := make_at w n (roomOf n : Int) hm
  rw [newC_row] at C
  clear hm
  go_enter Try.func10, Try.ntmps10
  go_wp2_with (first | (go_at_call 24; refine C.mono ?_; rintro e w' ⟨rfl, hw⟩; obtain rfl := hw.symm; clear hw))
  go_ret
  exact ⟨rfl, ⟨heap_alloc_new w _, rfl, h1, h2⟩, (Below.refl _ _).alloc (Nat.le_refl _) _⟩
end Go.Proofs.Ytnpgiboapckgpaa
