/- HandRound: the walk. -/
import Derived.Test.YtnpgiboapckgpaaHdL
import Derived.Test.YtnpgiboapckgpaaHdM
import Derived.Test.YtnpgiboapckgpaaRow
namespace Go.Proofs.Ytnpgiboapckgpaa
open Go.RowKit

def chX : ByteArray := ⟨#[120]⟩
def chY : ByteArray := ⟨#[121]⟩
/-- Behind five puts into four places: 4 for 0, and which bits are set since. -/
def RP (b1 b2 b3 : Bool) : Nat → Pl
  | 0 => ⟨true, 4, chX, true, 0⟩
  | 1 => ⟨true, 1, chX, b1, 0⟩
  | 2 => ⟨true, 2, chX, b2, 0⟩
  | 3 => ⟨true, 3, chX, b3, 0⟩
  | _ => Pl.zero
theorem lt4 {j : Nat} (h : j < 4) : j = 0 ∨ j = 1 ∨ j = 2 ∨ j = 3 := by omega
theorem rp_fifth : PutR ⟨4, fillP chX 4, 0⟩ 4 chX ⟨4, RP false false false, 1⟩ (tup4 0 chX true 0) := by
  have r := PutR.turn (s := ⟨4, fillP chX 4, 0⟩) (k := 4) (v := chX) 0 0 1 5 (up (up (up (up (fillP chX 4) 0 { fillP chX 4 0 with b := false }) 1 { fillP chX 4 1 with b := false }) 2 { fillP chX 4 2 with b := false }) 3 { fillP chX 4 3 with b := false })
    (hit_none fun j hj _ => by
      have hj' : j < 4 := hj
      show (fillP chX 4 j).k ≠ 4
      rw [fillP_lt _ hj']; show (j : Int) ≠ 4; omega)
    (first_at (Nat.le_refl _) (fun j hj => by
      have hj' : j < 4 := hj
      show (!(fillP chX 4 j).u) = false
      rw [fillP_lt _ hj']; rfl) (fun e => absurd e (Nat.lt_irrefl _)))
    (first_at (Nat.zero_le _) (fun j e => absurd e (Nat.not_lt_zero _)) (fun _ => rfl)) (by decide) (by simp [turnF, up, fillP])
  have e : up (up (up (up (up (fillP chX 4) 0 { fillP chX 4 0 with b := false }) 1 { fillP chX 4 1 with b := false }) 2 { fillP chX 4 2 with b := false }) 3 { fillP chX 4 3 with b := false }) 0 ⟨true, 4, chX, true, 0⟩ = RP false false false := by
    funext j
    match j with
    | 0 => rfl
    | 1 => rfl
    | 2 => rfl
    | 3 => rfl
    | j + 4 =>
      show up (up (up (up (up (fillP chX 4) 0 _) 1 _) 2 _) 3 _) 0 _ (j + 4) = Pl.zero
      rw [up_other _ (by omega), up_other _ (by omega), up_other _ (by omega), up_other _ (by omega), up_other _ (by omega), fillP_ge _ (by omega)]
  rw [e] at r
  exact r
theorem rp_get (b1 b2 b3 : Bool) (a k : Nat) (hk : 1 ≤ k) (hk3 : k ≤ 3) : ∃ v0, GetR ⟨4, RP b1 b2 b3, a⟩ (k : Int) ⟨4, RP (b1 || decide (k = 1)) (b2 || decide (k = 2)) (b3 || decide (k = 3)), a⟩ (.returned v0) := by
  have hf : First 4 (hit ⟨4, RP b1 b2 b3, a⟩ (k : Int)) k := first_at (by omega) (fun j hj => by
    obtain rfl | rfl | rfl | rfl := lt4 (show j < 4 by omega)
    · show (true && decide ((4 : Int) = (k : Int))) = false; simp; omega
    · show (true && decide ((1 : Int) = (k : Int))) = false; simp; omega
    · show (true && decide ((2 : Int) = (k : Int))) = false; simp; omega
    · omega) (fun _ => by
    obtain rfl | rfl | rfl : k = 1 ∨ k = 2 ∨ k = 3 := by omega
    · rfl
    · rfl
    · rfl)
  have r := GetR.hit (s := ⟨4, RP b1 b2 b3, a⟩) k hf (by show k < 4; omega)
  have e : up (RP b1 b2 b3) k { RP b1 b2 b3 k with b := true } = RP (b1 || decide (k = 1)) (b2 || decide (k = 2)) (b3 || decide (k = 3)) := by
    funext j
    obtain rfl | rfl | rfl : k = 1 ∨ k = 2 ∨ k = 3 := by omega
    all_goals
      match j with
      | 0 => rfl
      | 1 => simp [up, RP]
      | 2 => simp [up, RP]
      | 3 => simp [up, RP]
      | j + 4 => rw [up_other _ (by omega)]; rfl
  rw [e] at r
  exact ⟨_, r⟩
/-- Which key goes out. -/
def outK (b1 b2 b3 : Bool) : Int := if b1 then if b2 then if b3 then 1 else 3 else 2 else 1
theorem rp_out (b1 b2 b3 : Bool) : ∃ s', PutR ⟨4, RP b1 b2 b3, 1⟩ 9 chY s' (tup4 (outK b1 b2 b3) chX true 0) := by
  have h1 : First 4 (hit ⟨4, RP b1 b2 b3, 1⟩ 9) 4 := hit_none fun j hj _ => by
    obtain rfl | rfl | rfl | rfl := lt4 hj <;> (intro e; cases e)
  have h2 : First 4 (vac ⟨4, RP b1 b2 b3, 1⟩) 4 := first_at (Nat.le_refl _) (fun j hj => by
    obtain rfl | rfl | rfl | rfl := lt4 hj <;> rfl) (fun e => absurd e (Nat.lt_irrefl _))
  have h3 : First 4 (loose ⟨4, RP b1 b2 b3, 1⟩) 0 := first_at (Nat.zero_le _) (fun j e => absurd e (Nat.not_lt_zero _)) (fun _ => rfl)
  have key : ∃ f P a j, turnF 4 f (RP b1 b2 b3) 1 = some (P, a, j) ∧ (P j).k = outK b1 b2 b3 ∧ (P j).v = chX ∧ (P j).u = true := by
    cases b1 <;> cases b2 <;> cases b3
    all_goals first
      | exact ⟨1, _, _, _, rfl, rfl, rfl, rfl⟩
      | exact ⟨2, _, _, _, rfl, rfl, rfl, rfl⟩
      | exact ⟨3, _, _, _, rfl, rfl, rfl, rfl⟩
      | exact ⟨5, _, _, _, rfl, rfl, rfl, rfl⟩
  obtain ⟨f, P, a, j, ht, hk, hv, hu⟩ := key
  have r := PutR.turn (s := ⟨4, RP b1 b2 b3, 1⟩) (k := 9) (v := chY) 0 j a f P h1 h2 h3 (show 0 < 4 by decide) ht
  rw [hk, hv, hu] at r
  exact ⟨_, r⟩

/-- The cache behind i of the five puts. -/
def SR (i : Nat) : St := if i < 5 then ⟨4, fillP chX i, 0⟩ else ⟨4, RP false false false, 1⟩
theorem sr_step {i : Nat} (h : i < 5) : ∃ out was had, PutR (SR i) (i : Int) chX (SR (i + 1)) (tup4 out was had 0) := by
  by_cases h4 : i < 4
  · have r := fill_put chX h4
    unfold SR
    rw [if_pos h, if_pos (by omega)]
    exact ⟨_, _, _, r⟩
  · obtain rfl : i = 4 := by omega
    exact ⟨_, _, _, rp_fifth⟩
theorem u8_nat {y : Int} (h : (Lit.int .u8 y).wf = true) : ∃ x : Nat, y = (x : Int) ∧ x < 256 := by
  simp only [Lit.wf, Bool.and_eq_true, decide_eq_true_eq] at h
  have hmin : IntKind.u8.min = 0 := rfl
  have hmax : IntKind.u8.max = 255 := rfl
  exact ⟨y.toNat, by omega, by omega⟩
theorem rp_block {w w' : World} {q p g n : Nat} {o : Obj} (h : w.heap[q]? = some o) (hf : Fr w.heap.size (Two p g) w w') (hp : p < q) (hg : g < q) (_ : n = n) : w'.heap[q]? = some o :=
  (hf.block q (Array.getElem?_eq_some_iff.1 h).1 (by rintro (e | e) <;> omega)).trans h

set_option maxRecDepth 100000 in
set_option maxHeartbeats 4000000 in
theorem round_walk (w : World) (v : Value) (l : List Int) (hv : SlK .u8 w v l) : Calls Try.prog 5 #[v] w fun e w' => e = .returned (.bool true) ∧ Below w.heap.size w w' := by
  obtain ⟨pv, cap, rfl, hcap, hwf, hnil, hcell⟩ := hv
  have HWF := Lib.hid hwf
  have HC := Lib.hid hcell
  have HNIL := Lib.hid hnil
  clear hwf hcell hnil hcap
  go_enter Try.func5, Try.ntmps5
  go_upto_region 3 with (first | (go_at_call 9; refine (begun_any _).mono ?_; rintro e w1 ⟨rfl, b1⟩))
  have B1 := Lib.hid b1
  clear b1
  by_cases hl : 6 < l.length
  · have hl' : (6 : Int) < (l.length : Int) := by omega
    clear hl
    go_wp2_with fail
    go_ret
    exact ⟨rfl, B1.out⟩
  have hl' : ¬ (6 : Int) < (l.length : Int) := by omega
  go_upto_region 6 with (first | (go_at_call 10; refine (new_mine w w1 4 B1.out B1.out.size).mono ?_; rintro e w2 ⟨p, g, rfl, m2⟩))
  have M2 := Lib.hid (show Mine w.heap.size w w2 p g ⟨4, fillP chX 0, 0⟩ from m2)
  clear m2 B1 hl'
  go_wp2_with fail
  go_loopw [4] (fun v wr => ∃ i : Nat, i ≤ 5 ∧ v = .int .i64 (i : Int) ∧ Mine w.heap.size w wr p g (SR i)) (fun v _ => 5 - lvN v)
  case atStart => exact ⟨0, Nat.zero_le _, rfl, M2.out⟩
  case round =>
    obtain ⟨i, hi, rfl, m⟩ := hrel
    have HM := Lib.hid m
    clear m M2
    by_cases hlt : i < 5
    · obtain ⟨out, was, had, hr⟩ := sr_step hlt
      have HR := Lib.hid hr
      clear hr hi
      go_wp2_with (first | (go_at_call 12; refine (put_any _ HM.out.ha HR.out).mono ?_; rintro e w3 ⟨rfl, h3, f3⟩; unfold tup4))
      have M3 := Lib.hid (HM.out.step h3 f3)
      clear h3 f3
      go_roundw
      case rel => exact ⟨i + 1, hlt, by go_num, M3.out⟩
      case measure => simp [lvN]; omega
    · obtain rfl : i = 5 := by omega
      clear hi hlt
      go_upto_region 11 with (fail)
      rw [show ((5 : Nat) : Int) = 5 from rfl]
      have M3 := Lib.hid (show Mine w.heap.size w wr p g ⟨4, RP false false false, 1⟩ from HM.out)
      have hq := heap_alloc_new wr (.cells #[.bool false, .bool false, .bool false, .bool false] 44)
      have HP : Hid (p < wr.heap.size ∧ g < wr.heap.size) := ⟨M3.out.ha.lp, M3.out.ha.lg⟩
      have HQB : Hid (w.heap.size ≤ wr.heap.size) := M3.out.size
      have M4 := Lib.hid (M3.out.on ((Below.refl _ _).alloc (Nat.le_refl _) (.cells #[.bool false, .bool false, .bool false, .bool false] 44)))
      have HQ := Lib.hid hq
      clear hq M3 HM
      generalize wr.alloc (.cells #[.bool false, .bool false, .bool false, .bool false] 44) = w5 at *
      generalize wr.heap.size = q at *
      clear wr
      go_wp2_with fail
      go_loopw [6] (fun v wr => ∃ (i : Nat) (b1 b2 b3 : Bool), i ≤ l.length ∧ v = .int .i64 (i : Int) ∧ wr.heap[q]? = some (.cells #[.bool false, .bool b1, .bool b2, .bool b3] 44 (0, 0)) ∧ Mine w.heap.size w wr p g ⟨4, RP b1 b2 b3, 1⟩) (fun v _ => l.length - lvN v)
      case atStart => exact ⟨0, false, false, false, Nat.zero_le _, rfl, HQ.out, M4.out⟩
      case round =>
        obtain ⟨i, b1, b2, b3, hi, rfl, hq, m⟩ := hrel
        have HM := Lib.hid m
        clear m M4 HQ
        have HQ := Lib.hid hq
        clear hq
        by_cases hlt : i < l.length
        · obtain ⟨a, rfl⟩ : ∃ a, pv = some a := by
            cases pv with
            | none => exact absurd ((HNIL.out rfl).1 ▸ hlt) (Nat.not_lt_zero _)
            | some a => exact ⟨a, rfl⟩
          obtain ⟨h1, h2, h3⟩ := HC.out a rfl
          obtain ⟨ab, ao, asp⟩ := a
          obtain rfl : asp = none := h1
          have c0 := (HM.out.be.cell (p := ⟨ab, ao + i, none⟩) h2).trans (h3 i hlt)
          have hw := HWF.out _ (List.getElem_mem hlt)
          obtain ⟨x, hx, hx8⟩ := u8_nat hw
          rw [hx] at c0
          clear hw hx h2 h3 hi
          go_upto_region 15 with (fail)
          have hk1 : (1 : Int) + (x : Int) % 3 = ((1 + x % 3 : Nat) : Int) := by omega
          have k1 : 1 ≤ 1 + x % 3 := by omega
          have k3 : 1 + x % 3 ≤ 3 := by omega
          rw [hk1]
          have hfz := (cell_of HQ.out 0).2
          have hk : ∃ k : Nat, 1 + x % 3 = k ∧ (k = 1 ∨ k = 2 ∨ k = 3) := ⟨_, rfl, by omega⟩
          obtain ⟨k, hke, hk⟩ := hk
          rw [hke]
          obtain ⟨e0, hr⟩ := rp_get b1 b2 b3 1 k (by omega) (by omega)
          clear hk1 k1 k3 c0 hke hfz
          rcases hk with rfl | rfl | rfl
          · have HR : Hid (GetR ⟨4, RP b1 b2 b3, 1⟩ ((1 : Nat) : Int) ⟨4, RP true b2 b3, 1⟩ (.returned e0)) := by
              cases b1 <;> cases b2 <;> cases b3 <;> exact hr
            clear hr
            have c1 := (cell_of HQ.out 1).1
            have f1 := (cell_of HQ.out 1).2
            have HQ2 : Hid ((wr.setCell ⟨q, 1, none⟩ (.bool true)).heap[q]? = some (.cells #[.bool false, .bool true, .bool b2, .bool b3] 44 (0, 0))) := by
              show (wr.setCell ⟨q, 1, none⟩ (.bool true)).heap[q]? = _
              rw [setCell_eq_setRow wr q 1 _ _ (0, 0) _ HQ.out, setRow_heap wr q _ _ _ _ HQ.out]
              rfl
            have HM2 := Lib.hid (show Mine w.heap.size w (wr.setCell ⟨q, 1, none⟩ (.bool true)) p g ⟨4, RP b1 b2 b3, 1⟩ from ⟨HM.out.ha.same (Below.heap_setCell _ _ _ _ (Nat.ne_of_lt HP.out.1)) (Below.heap_setCell _ _ _ _ (Nat.ne_of_lt HP.out.2)), HM.out.be.setCell (p := ⟨q, 1, none⟩) HQB.out _, HM.out.bp, HM.out.bg⟩)
            clear HM HQ
            go_wp2_with (first | (go_at_call 14; refine (get_any _ HM2.out.ha HR.out).mono ?_; rintro e w6 ⟨rfl, h6, f6⟩; have HQ3 := Lib.hid (rp_block HQ2.out f6 HP.out.1 HP.out.2 (Eq.refl 0)); have HM3 := Lib.hid (HM2.out.step h6 f6); clear h6 f6))
            go_roundw
            case rel => exact ⟨i + 1, true, b2, b3, hlt, by go_num, HQ3.out, HM3.out⟩
            case measure => simp [lvN]; omega
          · have HR : Hid (GetR ⟨4, RP b1 b2 b3, 1⟩ ((2 : Nat) : Int) ⟨4, RP b1 true b3, 1⟩ (.returned e0)) := by
              cases b1 <;> cases b2 <;> cases b3 <;> exact hr
            clear hr
            have c1 := (cell_of HQ.out 2).1
            have f1 := (cell_of HQ.out 2).2
            have HQ2 : Hid ((wr.setCell ⟨q, 2, none⟩ (.bool true)).heap[q]? = some (.cells #[.bool false, .bool b1, .bool true, .bool b3] 44 (0, 0))) := by
              show (wr.setCell ⟨q, 2, none⟩ (.bool true)).heap[q]? = _
              rw [setCell_eq_setRow wr q 2 _ _ (0, 0) _ HQ.out, setRow_heap wr q _ _ _ _ HQ.out]
              rfl
            have HM2 := Lib.hid (show Mine w.heap.size w (wr.setCell ⟨q, 2, none⟩ (.bool true)) p g ⟨4, RP b1 b2 b3, 1⟩ from ⟨HM.out.ha.same (Below.heap_setCell _ _ _ _ (Nat.ne_of_lt HP.out.1)) (Below.heap_setCell _ _ _ _ (Nat.ne_of_lt HP.out.2)), HM.out.be.setCell (p := ⟨q, 2, none⟩) HQB.out _, HM.out.bp, HM.out.bg⟩)
            clear HM HQ
            go_wp2_with (first | (go_at_call 14; refine (get_any _ HM2.out.ha HR.out).mono ?_; rintro e w6 ⟨rfl, h6, f6⟩; have HQ3 := Lib.hid (rp_block HQ2.out f6 HP.out.1 HP.out.2 (Eq.refl 0)); have HM3 := Lib.hid (HM2.out.step h6 f6); clear h6 f6))
            go_roundw
            case rel => exact ⟨i + 1, b1, true, b3, hlt, by go_num, HQ3.out, HM3.out⟩
            case measure => simp [lvN]; omega
          · have HR : Hid (GetR ⟨4, RP b1 b2 b3, 1⟩ ((3 : Nat) : Int) ⟨4, RP b1 b2 true, 1⟩ (.returned e0)) := by
              cases b1 <;> cases b2 <;> cases b3 <;> exact hr
            clear hr
            have c1 := (cell_of HQ.out 3).1
            have f1 := (cell_of HQ.out 3).2
            have HQ2 : Hid ((wr.setCell ⟨q, 3, none⟩ (.bool true)).heap[q]? = some (.cells #[.bool false, .bool b1, .bool b2, .bool true] 44 (0, 0))) := by
              show (wr.setCell ⟨q, 3, none⟩ (.bool true)).heap[q]? = _
              rw [setCell_eq_setRow wr q 3 _ _ (0, 0) _ HQ.out, setRow_heap wr q _ _ _ _ HQ.out]
              rfl
            have HM2 := Lib.hid (show Mine w.heap.size w (wr.setCell ⟨q, 3, none⟩ (.bool true)) p g ⟨4, RP b1 b2 b3, 1⟩ from ⟨HM.out.ha.same (Below.heap_setCell _ _ _ _ (Nat.ne_of_lt HP.out.1)) (Below.heap_setCell _ _ _ _ (Nat.ne_of_lt HP.out.2)), HM.out.be.setCell (p := ⟨q, 3, none⟩) HQB.out _, HM.out.bp, HM.out.bg⟩)
            clear HM HQ
            go_wp2_with (first | (go_at_call 14; refine (get_any _ HM2.out.ha HR.out).mono ?_; rintro e w6 ⟨rfl, h6, f6⟩; have HQ3 := Lib.hid (rp_block HQ2.out f6 HP.out.1 HP.out.2 (Eq.refl 0)); have HM3 := Lib.hid (HM2.out.step h6 f6); clear h6 f6))
            go_roundw
            case rel => exact ⟨i + 1, b1, b2, true, hlt, by go_num, HQ3.out, HM3.out⟩
            case measure => simp [lvN]; omega
        · obtain rfl : i = l.length := by omega
          clear hi hlt hl
          go_upto_region 18 with (fail)
          have c1 := (cell_of HQ.out 1).1
          have c2 := (cell_of HQ.out 2).1
          have c3 := (cell_of HQ.out 3).1
          obtain ⟨s', hr⟩ := rp_out b1 b2 b3
          have HR := Lib.hid hr
          have HM2 := HM
          clear hr HM HC HNIL HWF
          simp only [List.getElem?_toArray, List.getElem?_cons_succ, List.getElem?_cons_zero] at c1 c2 c3
          cases b1 <;> cases b2 <;> cases b3
          all_goals
            go_wp2_with fail
            refine wp_loop_rounds 4 ?_
            repeat' (rw [rounds_succ]; go_wp2_with (first | (go_at_call 12; refine (put_any _ HM2.out.ha HR.out).mono ?_; rintro e w6 ⟨rfl, h6, f6⟩; unfold tup4 outK)))
            go_ret
            exact ⟨rfl, (HM2.out.step h6 f6).be⟩
end Go.Proofs.Ytnpgiboapckgpaa
