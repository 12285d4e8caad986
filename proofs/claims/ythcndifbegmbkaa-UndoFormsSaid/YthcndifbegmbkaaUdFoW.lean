/- UndoForms' walk. -/
import Derived.Test.YthcndifbegmbkaaUdL
import Derived.Test.YthcndifbegmbkaaLoadAt
namespace Go.Proofs.Ythcndifbegmbkaa.Ud
open Go.RowKit

theorem held_at {P : Program} {a : Act} {o : Oper} {W : World} (ty : TypeId) (x : Operand) (ho : o.op = .load ty x) (g off : Nat) (hx : a.eval x = .pointer (some ⟨g, off, none⟩)) (cs : Array Value) (d : TypeDesc)
    (hc : ∀ j v, cs[j]? = some v → W.cell? ⟨g, off + j, none⟩ = some v) (hu : P.underlying ty = some d) (hd : (match d with | .struct _ | .array _ _ => true | _ => false) = true) (hi : (P.info? ty).map (·.size) = some cs.size) :
    (execOp a.eval o).run P W = .ok (.value (.agg cs)) W := by
  unfold execOp
  simp only [ho, hx, Instr.loadAt, Instr.sureAddr, Sem.run_bind, Sem.run_pure, Result.andThen_ok, run_loadVar_at W g off ty cs d hc hu hd hi]
def fP : Nat → Int × Int × Int
  | 0 => (1, 4, 5)
  | 1 => (2, 4, 5)
  | 2 => (3, 4, 5)
  | 3 => (4, 4, 0)
  | 4 => (5, 4, 0)
  | 5 => (6, 4, 0)
  | 6 => (7, 4, 0)
  | 7 => (8, 4, 0)
  | 8 => (9, 4, 0)
  | 9 => (10, 4, 0)
  | _ => (0, 0, 0)
def fE (k : Nat) : Ent := ⟨(fP k).1, 0, 0, 0, (fP k).2.1, (fP k).2.2, 0, 0, 0, 0, [], [], [], [], [], []⟩
def wn : Nat → Int
  | 0 => 9
  | 1 => 5
  | 2 => 4
  | 3 => 4
  | 4 => 0
  | 5 => 0
  | 6 => 0
  | 7 => 0
  | 8 => 0
  | 9 => 0
  | _ => 0
def fC : Array Value := #[.int .i64 1, .int .i64 0, .int .i64 0, .int .i64 0, .int .i64 4, .int .i64 5, .int .i64 0, .int .i64 0, .int .i64 0, .int .i64 0, .slice none 0 0, .slice none 0 0, .slice none 0 0, .slice none 0 0, .slice none 0 0, .slice none 0 0, .int .i64 2, .int .i64 0, .int .i64 0, .int .i64 0, .int .i64 4, .int .i64 5, .int .i64 0, .int .i64 0, .int .i64 0, .int .i64 0, .slice none 0 0, .slice none 0 0, .slice none 0 0, .slice none 0 0, .slice none 0 0, .slice none 0 0, .int .i64 3, .int .i64 0, .int .i64 0, .int .i64 0, .int .i64 4, .int .i64 5, .int .i64 0, .int .i64 0, .int .i64 0, .int .i64 0, .slice none 0 0, .slice none 0 0, .slice none 0 0, .slice none 0 0, .slice none 0 0, .slice none 0 0, .int .i64 4, .int .i64 0, .int .i64 0, .int .i64 0, .int .i64 4, .int .i64 0, .int .i64 0, .int .i64 0, .int .i64 0, .int .i64 0, .slice none 0 0, .slice none 0 0, .slice none 0 0, .slice none 0 0, .slice none 0 0, .slice none 0 0, .int .i64 5, .int .i64 0, .int .i64 0, .int .i64 0, .int .i64 4, .int .i64 0, .int .i64 0, .int .i64 0, .int .i64 0, .int .i64 0, .slice none 0 0, .slice none 0 0, .slice none 0 0, .slice none 0 0, .slice none 0 0, .slice none 0 0, .int .i64 6, .int .i64 0, .int .i64 0, .int .i64 0, .int .i64 4, .int .i64 0, .int .i64 0, .int .i64 0, .int .i64 0, .int .i64 0, .slice none 0 0, .slice none 0 0, .slice none 0 0, .slice none 0 0, .slice none 0 0, .slice none 0 0, .int .i64 7, .int .i64 0, .int .i64 0, .int .i64 0, .int .i64 4, .int .i64 0, .int .i64 0, .int .i64 0, .int .i64 0, .int .i64 0, .slice none 0 0, .slice none 0 0, .slice none 0 0, .slice none 0 0, .slice none 0 0, .slice none 0 0, .int .i64 8, .int .i64 0, .int .i64 0, .int .i64 0, .int .i64 4, .int .i64 0, .int .i64 0, .int .i64 0, .int .i64 0, .int .i64 0, .slice none 0 0, .slice none 0 0, .slice none 0 0, .slice none 0 0, .slice none 0 0, .slice none 0 0, .int .i64 9, .int .i64 0, .int .i64 0, .int .i64 0, .int .i64 4, .int .i64 0, .int .i64 0, .int .i64 0, .int .i64 0, .int .i64 0, .slice none 0 0, .slice none 0 0, .slice none 0 0, .slice none 0 0, .slice none 0 0, .slice none 0 0, .int .i64 10, .int .i64 0, .int .i64 0, .int .i64 0, .int .i64 4, .int .i64 0, .int .i64 0, .int .i64 0, .int .i64 0, .int .i64 0, .slice none 0 0, .slice none 0 0, .slice none 0 0, .slice none 0 0, .slice none 0 0, .slice none 0 0, .int .i64 0, .int .i64 0, .int .i64 0, .int .i64 0, .int .i64 0, .int .i64 0, .int .i64 0, .int .i64 0, .int .i64 0, .int .i64 0, .slice none 0 0, .slice none 0 0, .slice none 0 0, .slice none 0 0, .slice none 0 0, .slice none 0 0]
def wC : Array Value := #[.int .i64 9, .int .i64 5, .int .i64 4, .int .i64 4, .int .i64 0, .int .i64 0, .int .i64 0, .int .i64 0, .int .i64 0, .int .i64 0, .int .i64 0]
theorem fE_no {k : Nat} (h : ¬ k = 0) : ¬ (fE k).kind = 1 := by
  match k with
  | 0 => exact absurd rfl h
  | 1 => decide
  | 2 => decide
  | 3 => decide
  | 4 => decide
  | 5 => decide
  | 6 => decide
  | 7 => decide
  | 8 => decide
  | 9 => decide
  | n + 10 => show ¬ (0 : Int) = 1; omega
theorem nx_wn {k : Nat} (h : k < 11) : nxE (fE k) 9 = wn k := by
  match k, h with
  | 0, _ => rfl
  | 1, _ => rfl
  | 2, _ => rfl
  | 3, _ => rfl
  | 4, _ => rfl
  | 5, _ => rfl
  | 6, _ => rfl
  | 7, _ => rfl
  | 8, _ => rfl
  | 9, _ => rfl
  | 10, _ => rfl
theorem f_row {k : Nat} (h : k < 11) : (fC.toList.drop (k * 16)).take 16 = (entC (fE k) (.slice none 0 0) (.slice none 0 0) (.slice none 0 0) (.slice none 0 0) (.slice none 0 0) (.slice none 0 0)).toList := by
  match k, h with
  | 0, _ => rfl
  | 1, _ => rfl
  | 2, _ => rfl
  | 3, _ => rfl
  | 4, _ => rfl
  | 5, _ => rfl
  | 6, _ => rfl
  | 7, _ => rfl
  | 8, _ => rfl
  | 9, _ => rfl
  | 10, _ => rfl
theorem w_row {k : Nat} (h : k < 11) : wC[k]? = some (.int .i64 (wn k)) := by
  match k, h with
  | 0, _ => rfl
  | 1, _ => rfl
  | 2, _ => rfl
  | 3, _ => rfl
  | 4, _ => rfl
  | 5, _ => rfl
  | 6, _ => rfl
  | 7, _ => rfl
  | 8, _ => rfl
  | 9, _ => rfl
  | 10, _ => rfl
/-- Both lists in memory. -/
structure FoS (g g2 : Nat) (W : World) : Prop where
  f : W.heap[g]? = some (.cells fC 30 (0, 0))
  w : W.heap[g2]? = some (.cells wC 3 (0, 0))
theorem FoS.on {g g2 : Nat} {W W' : World} (t : FoS g g2 W) (hb : Below W.heap.size W W') : FoS g g2 W' :=
  ⟨(hb.block _ (Array.getElem?_eq_some_iff.1 t.f).1).trans t.f, (hb.block _ (Array.getElem?_eq_some_iff.1 t.w).1).trans t.w⟩
theorem FoS.want {g g2 : Nat} {W : World} (t : FoS g g2 W) {k : Nat} (h : k < 11) : W.cell? ⟨g2, k, none⟩ = some (.int .i64 (wn k)) := ((cell_of t.w k).1).trans (w_row h)
theorem FoS.row {g g2 : Nat} {W : World} (t : FoS g g2 W) {k : Nat} (h : k < 11) (j : Nat) (v : Value) (hv : (entC (fE k) (.slice none 0 0) (.slice none 0 0) (.slice none 0 0) (.slice none 0 0) (.slice none 0 0) (.slice none 0 0))[j]? = some v) : W.cell? ⟨g, k * 16 + j, none⟩ = some v := by
  have hj : j < 16 := (Array.getElem?_eq_some_iff.1 hv).1
  rw [(cell_of t.f (k * 16 + j)).1, ← hv, ← Array.getElem?_toList, ← Array.getElem?_toList, ← f_row h, List.getElem?_take, if_pos hj, List.getElem?_drop]

set_option maxRecDepth 100000 in
set_option maxHeartbeats 4000000 in
theorem undoForms_any (w : World) : Calls Try.prog 5 #[] w fun r w' => r = .returned (.bool true) ∧ Below w.heap.size w w' := by
  go_enter Try.func5, Try.ntmps5
  go_wp2_with fail
  refine (begun17 w).mono ?_
  rintro r w1 ⟨rfl, hb1⟩
  have HB1 := Lib.hid hb1
  clear hb1
  go_upto_region 5 with fail
  show Code.wp _ _ _ _ ((w1.alloc (.cells fC 30)).alloc (.cells wC 3))
  have HS : Hid (FoS w1.heap.size (w1.heap.size + 1) ((w1.alloc (.cells fC 30)).alloc (.cells wC 3))) := ⟨(Below.heap_alloc _ _ _ (by simp)).trans (heap_alloc_new w1 _), heap_alloc2_new w1 _ _⟩
  have HB : Hid (Below w.heap.size w ((w1.alloc (.cells fC 30)).alloc (.cells wC 3))) := HB1.out.trans ((((Below.refl _ _).alloc (Nat.le_refl _) _).alloc (by simp) _).mono HB1.out.size)
  clear HB1
  generalize (w1.alloc (.cells fC 30)).alloc (.cells wC 3) = w2 at *
  generalize w1.heap.size + 1 = g2 at *
  generalize w1.heap.size = g at *
  have HZA : ∀ k, Hid ((Try.prog.info? 30).map (·.size) = some (entC (fE k) (.slice none 0 0) (.slice none 0 0) (.slice none 0 0) (.slice none 0 0) (.slice none 0 0) (.slice none 0 0)).size) := fun _ => infoEnt
  go_wp2
  go_loopw [3] (fun i wr => ∃ k : Nat, k ≤ 11 ∧ i = .int .i64 (k : Int) ∧ Hid (FoS g g2 wr ∧ Below w.heap.size w wr)) (fun i _ => 11 - (RowKit.intOf i).toNat)
  case atStart => exact ⟨0, by omega, rfl, ⟨HS.out, HB.out⟩⟩
  case round =>
    obtain ⟨k, hk, rfl, HR⟩ := hrel
    have HSr := Lib.hid HR.out.1
    have HBr := Lib.hid HR.out.2
    have HZI := HZA k
    clear HZA HR HS HB
    by_cases hlt : k < 11
    · have i1 : (0 : Int) ≤ (k : Int) := by omega
      have i2 : (k : Int) < 11 := by omega
      have hwr : IntKind.i64.wrap ((k : Int) + 1) = (k : Int) + 1 := IntWalk.i64_in _ (by omega)
      by_cases hk0 : k = 0
      · have HP := Lib.hid (back_yes wr (fE k) (.slice none 0 0) (.slice none 0 0) (.slice none 0 0) (.slice none 0 0) (.slice none 0 0) (.slice none 0 0) 1 (by rw [hk0]; rfl) (by rw [hk0]; exact (slK_nil wr).sw) (by rw [hk0]; decide))
        have HK0 := Lib.hid hk0
        clear hk0
        go_wp2_with ((refine wpList_load_at ?_ 30 (.tmp 30) rfl g (k * 16) rfl (entC (fE k) (.slice none 0 0) (.slice none 0 0) (.slice none 0 0) (.slice none 0 0) (.slice none 0 0) (.slice none 0 0)) _ (FoS.row HSr.out hlt) Try.underlying30 rfl HZI.out ?_); · rfl)
        refine HP.out.mono ?_
        rintro r w2 ⟨A, q, hr, hown, hok, hb2⟩
        have hold : (fE k).old.length = 0 := by rw [HK0.out]; rfl
        rw [hold] at hr hown
        clear hown hok hold
        subst hr
        have HB2 := Lib.hid (HBr.out.trans (hb2.mono HBr.out.size))
        have HS2 := Lib.hid (HSr.out.on hb2)
        have HBo := Lib.hid (heap_alloc_new w2 (.cells #[.int .i64 0, .int .i64 0, .int .i64 0, .int .i64 0, .int .i64 0, .int .i64 0, .int .i64 0, .int .i64 0, .int .i64 0, .int .i64 0, .slice none 0 0, .slice none 0 0, .slice none 0 0, .slice none 0 0, .slice none 0 0, .slice none 0 0] 30))
        have HYI : Hid ((Try.prog.info? 30).map (·.size) = some (entC (bkE (fE k) 1) (.slice none 0 0) (.slice A 0 q) (.slice none 0 0) (.slice none 0 0) (.slice none 0 0) (.slice none 0 0)).size) := infoEnt
        have HZA := Lib.hid (entC_all (bkE (fE k) 1) none A none none none none 0 0 0 q 0 0 0 0 0 0 0 0)
        have HZN := Lib.hid (show (#[.int .i64 0, .int .i64 0, .int .i64 0, .int .i64 0, .int .i64 0, .int .i64 0, .int .i64 0, .int .i64 0, .int .i64 0, .int .i64 0, .slice none 0 0, .slice none 0 0, .slice none 0 0, .slice none 0 0, .slice none 0 0, .slice none 0 0] : Array Value).size = (entC (bkE (fE k) 1) (.slice none 0 0) (.slice A 0 q) (.slice none 0 0) (.slice none 0 0) (.slice none 0 0) (.slice none 0 0)).size from rfl)
        have HSA := Lib.hid (setRow_alloc w2 #[.int .i64 0, .int .i64 0, .int .i64 0, .int .i64 0, .int .i64 0, .int .i64 0, .int .i64 0, .int .i64 0, .int .i64 0, .int .i64 0, .slice none 0 0, .slice none 0 0, .slice none 0 0, .slice none 0 0, .slice none 0 0, .slice none 0 0] (entC (bkE (fE k) 1) (.slice none 0 0) (.slice A 0 q) (.slice none 0 0) (.slice none 0 0) (.slice none 0 0) (.slice none 0 0)) 30)
        have HAL : Hid (Below w2.heap.size w2 (w2.alloc (.cells (entC (bkE (fE k) 1) (.slice none 0 0) (.slice A 0 q) (.slice none 0 0) (.slice none 0 0) (.slice none 0 0) (.slice none 0 0)) 30))) := (Below.refl _ _).alloc (Nat.le_refl _) _
        have HB3 := Lib.hid (HB2.out.trans (HAL.out.mono HB2.out.size))
        have HS3 := Lib.hid (HS2.out.on HAL.out)
        clear hb2 HP HSr HBr HB2 HS2 HAL
        go_upto_region 9 with (with_reducible refine wpList_store_row rfl 30 (.tmp 4) (.tmp 33) rfl w2.heap.size _ rfl rfl 30 _ HBo.out HYI.out HZN.out HZA.out ?_)
        rw [HSA.out]
        clear HBo HYI HZN HZA HSA
        generalize w2.alloc (.cells (entC (bkE (fE k) 1) (.slice none 0 0) (.slice A 0 q) (.slice none 0 0) (.slice none 0 0) (.slice none 0 0) (.slice none 0 0)) 30) = w3 at *
        refine wp_region_F (fun (_ : Unit) W => FoS g g2 W) (fun _ j => Nat.beq j 99) (by kernel_rfl) ?_
        have HSD : Hid (FoS g g2 w3.drew) := HS3.out.on (Below.refl _ _).drew
        have HBD : Hid (Below w.heap.size w w3.drew) := HB3.out.drew
        have HN : Hid (Calls Try.prog 11 #[.agg (entC (fE k) (.slice none 0 0) (.slice none 0 0) (.slice none 0 0) (.slice none 0 0) (.slice none 0 0) (.slice none 0 0)), .int .i64 9] w3.drew fun r w' => r = .returned (.int .i64 (wn k)) ∧ Below w3.drew.heap.size w3.drew w') := by
          have h := next_any w3.drew (fE k) (.slice none 0 0) (.slice none 0 0) (.slice none 0 0) (.slice none 0 0) (.slice none 0 0) (.slice none 0 0) 9
          rw [nx_wn hlt] at h
          exact h
        clear HS3 HB3
        generalize w3.drew = X at *
        refine wpAnyF_take0 (i := 0) (oi := ⟨_, _, _, _, _, _⟩) (v := ?_) rfl (by kernel_rfl) (by kernel_rfl) (by kernel_rfl) (fun _ _ _ h => h) (Or.inl ⟨by rfl, ?_⟩) ?_
        rotate_left
        · intro W _
          go_simp
          try with_reducible rfl
        rotate_left
        try simp only [Act.put, List.setIfInBounds_toArray, List.set_cons_zero, List.set_cons_succ]
        refine wpAnyF_take0 (i := 1) (oi := ⟨_, _, _, _, _, _⟩) (v := ?_) rfl (by kernel_rfl) (by kernel_rfl) (by kernel_rfl) (fun _ _ _ h => h) (Or.inl ⟨by rfl, ?_⟩) ?_
        rotate_left
        · intro W _
          go_simp
          try with_reducible rfl
        rotate_left
        try simp only [Act.put, List.setIfInBounds_toArray, List.set_cons_zero, List.set_cons_succ]
        refine wpAnyF_take0 (i := 2) (oi := ⟨_, _, _, _, _, _⟩) (v := .pointer (some ⟨g, k * 16, none⟩)) rfl (by kernel_rfl) (by kernel_rfl) (by kernel_rfl) (fun _ _ _ h => h) (Or.inl ⟨by rfl, fun W _ => ?_⟩) ?_
        · go_simp
        try simp only [Act.put, List.setIfInBounds_toArray, List.set_cons_zero, List.set_cons_succ]
        refine wpAnyF_take () (i := 3) (oi := ⟨_, _, _, _, _, _⟩) (v := .agg (entC (fE k) (.slice none 0 0) (.slice none 0 0) (.slice none 0 0) (.slice none 0 0) (.slice none 0 0) (.slice none 0 0))) rfl (by kernel_rfl) (by kernel_rfl) (by kernel_rfl) (by kernel_rfl) (fun _ _ _ h => h) HSD.out (Or.inl ⟨by rfl, fun W hSW => ?_⟩) ?_
        · exact held_at 30 (.tmp 37) rfl g (k * 16) rfl (entC (fE k) (.slice none 0 0) (.slice none 0 0) (.slice none 0 0) (.slice none 0 0) (.slice none 0 0) (.slice none 0 0)) _ (FoS.row hSW hlt) Try.underlying30 rfl HZI.out
        try simp only [Act.put, List.setIfInBounds_toArray, List.set_cons_zero, List.set_cons_succ]
        refine wpAnyF_take0 (i := 5) (oi := ⟨_, _, _, _, _, _⟩) (v := ?_) rfl (by kernel_rfl) (by kernel_rfl) (by kernel_rfl) (fun _ _ _ h => h) (Or.inl ⟨by rfl, ?_⟩) ?_
        rotate_left
        · intro W _
          go_simp
          try with_reducible rfl
        rotate_left
        try simp only [Act.put, List.setIfInBounds_toArray, List.set_cons_zero, List.set_cons_succ]
        refine wpAnyF_take0 (i := 6) (oi := ⟨_, _, _, _, _, _⟩) (v := ?_) rfl (by kernel_rfl) (by kernel_rfl) (by kernel_rfl) (fun _ _ _ h => h) (Or.inl ⟨by rfl, ?_⟩) ?_
        rotate_left
        · intro W _
          go_simp
          try with_reducible rfl
        rotate_left
        try simp only [Act.put, List.setIfInBounds_toArray, List.set_cons_zero, List.set_cons_succ]
        refine wpAnyF_take0 (i := 7) (oi := ⟨_, _, _, _, _, _⟩) (v := .pointer (some ⟨g2, k, none⟩)) rfl (by kernel_rfl) (by kernel_rfl) (by kernel_rfl) (fun _ _ _ h => h) (Or.inl ⟨by rfl, fun W _ => ?_⟩) ?_
        · go_simp
        try simp only [Act.put, List.setIfInBounds_toArray, List.set_cons_zero, List.set_cons_succ]
        refine wpAnyF_take () (i := 8) (oi := ⟨_, _, _, _, _, _⟩) (v := .int .i64 (wn k)) rfl (by kernel_rfl) (by kernel_rfl) (by kernel_rfl) (by kernel_rfl) (fun _ _ _ h => h) HSD.out (Or.inl ⟨by rfl, fun W hSW => ?_⟩) ?_
        · have z := FoS.want hSW hlt
          go_simp
        try simp only [Act.put, List.setIfInBounds_toArray, List.set_cons_zero, List.set_cons_succ]
        refine wpAnyF_ready (rs := [4]) (by kernel_rfl) (by simp) ?_
        refine AllReadyF.cons (o := ⟨_, _, _, _, _, _⟩) rfl (fun K hK => ?_) AllReadyF.nil
        rw [if_pos (by rfl)]
        go_simp
        go_at_call 11
        refine HN.out.mono ?_
        rintro r Y ⟨rfl, hb⟩
        have HS5 := Lib.hid (HSD.out.on hb)
        have HB5 := Lib.hid (HBD.out.trans (hb.mono HBD.out.size))
        clear hb HN HSD HBD
        go_wp2_with fail
        refine hK.out _ _ (fun _ _ _ => HS5.out) ?_
        clear hK K
        try simp only [Act.put, List.setIfInBounds_toArray, List.set_cons_zero, List.set_cons_succ]
        refine wpAnyF_take0 (i := 9) (oi := ⟨_, _, _, _, _, _⟩) (v := .bool false) rfl (by kernel_rfl) (by kernel_rfl) (by kernel_rfl) (fun _ _ _ h => h) (Or.inl ⟨by rfl, fun W _ => ?_⟩) ?_
        · go_simp
        try simp only [Act.put, List.setIfInBounds_toArray, List.set_cons_zero, List.set_cons_succ]
        refine wpAnyF_take0 (i := 10) (oi := ⟨_, _, _, _, _, _⟩) (v := ?_) rfl (by kernel_rfl) (by kernel_rfl) (by kernel_rfl) (fun _ _ _ h => h) (Or.inl ⟨by rfl, ?_⟩) ?_
        rotate_left
        · intro W _
          go_simp
          try with_reducible rfl
        rotate_left
        try simp only [Act.put, List.setIfInBounds_toArray, List.set_cons_zero, List.set_cons_succ]
        refine wpAnyF_take0 (i := 11) (oi := ⟨_, _, _, _, _, _⟩) (v := ?_) rfl (by kernel_rfl) (by kernel_rfl) (by kernel_rfl) (fun _ _ _ h => h) (Or.inl ⟨by rfl, ?_⟩) ?_
        rotate_left
        · intro W _
          go_simp
          try with_reducible rfl
        rotate_left
        try simp only [Act.put, List.setIfInBounds_toArray, List.set_cons_zero, List.set_cons_succ]
        refine wpAnyF_take0 (i := 12) (oi := ⟨_, _, _, _, _, _⟩) (v := ?_) rfl (by kernel_rfl) (by kernel_rfl) (by kernel_rfl) (fun _ _ _ h => h) (Or.inl ⟨by rfl, ?_⟩) ?_
        rotate_left
        · intro W _
          go_simp
          try with_reducible rfl
        rotate_left
        try simp only [Act.put, List.setIfInBounds_toArray, List.set_cons_zero, List.set_cons_succ]
        refine wpAnyF_take0 (i := 13) (oi := ⟨_, _, _, _, _, _⟩) (v := .bool true) rfl (by kernel_rfl) (by kernel_rfl) (by kernel_rfl) (fun _ _ _ h => h) (Or.inl ⟨by rfl, fun W _ => ?_⟩) ?_
        · have hk := HK0.out
          subst hk
          go_simp
        try simp only [Act.put, List.setIfInBounds_toArray, List.set_cons_zero, List.set_cons_succ]
        refine wpAnyF_take0 (i := 14) (oi := ⟨_, _, _, _, _, _⟩) (v := .bool false) rfl (by kernel_rfl) (by kernel_rfl) (by kernel_rfl) (fun _ _ _ h => h) (Or.inl ⟨by rfl, fun W _ => ?_⟩) ?_
        · go_simp
        try simp only [Act.put, List.setIfInBounds_toArray, List.set_cons_zero, List.set_cons_succ]
        refine wpAnyF_take0 (i := 15) (oi := ⟨_, _, _, _, _, _⟩) (v := .bool false) rfl (by kernel_rfl) (by kernel_rfl) (by kernel_rfl) (fun _ _ _ h => h) (Or.inl ⟨by rfl, fun W _ => ?_⟩) ?_
        · go_simp
        try simp only [Act.put, List.setIfInBounds_toArray, List.set_cons_zero, List.set_cons_succ]
        refine wpAnyF_done (by kernel_rfl) ?_ _
        go_wp2
        go_roundw
        case rel => exact ⟨k + 1, by omega, by go_num, ⟨HS5.out, HB5.out⟩⟩
        case measure => simp [RowKit.intOf]; omega
      · have HP := Lib.hid (back_no wr (fE k) (.slice none 0 0) (.slice none 0 0) (.slice none 0 0) (.slice none 0 0) (.slice none 0 0) (.slice none 0 0) 1 (fE_no hk0))
        have HK0 := Lib.hid hk0
        clear hk0
        go_wp2_with ((refine wpList_load_at ?_ 30 (.tmp 30) rfl g (k * 16) rfl (entC (fE k) (.slice none 0 0) (.slice none 0 0) (.slice none 0 0) (.slice none 0 0) (.slice none 0 0) (.slice none 0 0)) _ (FoS.row HSr.out hlt) Try.underlying30 rfl HZI.out ?_); · rfl)
        refine HP.out.mono ?_
        rintro r w2 ⟨hr, hb2⟩
        have hr' : r = .returned (.tuple #[.agg (entC ent00 (.slice none 0 0) (.slice none 0 0) (.slice none 0 0) (.slice none 0 0) (.slice none 0 0) (.slice none 0 0)), .bool false]) := hr
        clear hr
        subst hr'
        have HB2 := Lib.hid (HBr.out.trans (hb2.mono HBr.out.size))
        have HS2 := Lib.hid (HSr.out.on hb2)
        have HBo := Lib.hid (heap_alloc_new w2 (.cells #[.int .i64 0, .int .i64 0, .int .i64 0, .int .i64 0, .int .i64 0, .int .i64 0, .int .i64 0, .int .i64 0, .int .i64 0, .int .i64 0, .slice none 0 0, .slice none 0 0, .slice none 0 0, .slice none 0 0, .slice none 0 0, .slice none 0 0] 30))
        have HYI : Hid ((Try.prog.info? 30).map (·.size) = some (entC ent00 (.slice none 0 0) (.slice none 0 0) (.slice none 0 0) (.slice none 0 0) (.slice none 0 0) (.slice none 0 0)).size) := infoEnt
        have HZA := Lib.hid (entC_all ent00 none none none none none none 0 0 0 0 0 0 0 0 0 0 0 0)
        have HZN := Lib.hid (show (#[.int .i64 0, .int .i64 0, .int .i64 0, .int .i64 0, .int .i64 0, .int .i64 0, .int .i64 0, .int .i64 0, .int .i64 0, .int .i64 0, .slice none 0 0, .slice none 0 0, .slice none 0 0, .slice none 0 0, .slice none 0 0, .slice none 0 0] : Array Value).size = (entC ent00 (.slice none 0 0) (.slice none 0 0) (.slice none 0 0) (.slice none 0 0) (.slice none 0 0) (.slice none 0 0)).size from rfl)
        have HSA := Lib.hid (setRow_alloc w2 #[.int .i64 0, .int .i64 0, .int .i64 0, .int .i64 0, .int .i64 0, .int .i64 0, .int .i64 0, .int .i64 0, .int .i64 0, .int .i64 0, .slice none 0 0, .slice none 0 0, .slice none 0 0, .slice none 0 0, .slice none 0 0, .slice none 0 0] (entC ent00 (.slice none 0 0) (.slice none 0 0) (.slice none 0 0) (.slice none 0 0) (.slice none 0 0) (.slice none 0 0)) 30)
        have HAL : Hid (Below w2.heap.size w2 (w2.alloc (.cells (entC ent00 (.slice none 0 0) (.slice none 0 0) (.slice none 0 0) (.slice none 0 0) (.slice none 0 0) (.slice none 0 0)) 30))) := (Below.refl _ _).alloc (Nat.le_refl _) _
        have HB3 := Lib.hid (HB2.out.trans (HAL.out.mono HB2.out.size))
        have HS3 := Lib.hid (HS2.out.on HAL.out)
        clear hb2 HP HSr HBr HB2 HS2 HAL
        go_upto_region 9 with (with_reducible refine wpList_store_row rfl 30 (.tmp 4) (.tmp 33) rfl w2.heap.size _ rfl rfl 30 _ HBo.out HYI.out HZN.out HZA.out ?_)
        rw [HSA.out]
        clear HBo HYI HZN HZA HSA
        generalize w2.alloc (.cells (entC ent00 (.slice none 0 0) (.slice none 0 0) (.slice none 0 0) (.slice none 0 0) (.slice none 0 0) (.slice none 0 0)) 30) = w3 at *
        refine wp_region_F (fun (_ : Unit) W => FoS g g2 W) (fun _ j => Nat.beq j 99) (by kernel_rfl) ?_
        have HSD : Hid (FoS g g2 w3.drew) := HS3.out.on (Below.refl _ _).drew
        have HBD : Hid (Below w.heap.size w w3.drew) := HB3.out.drew
        have HN : Hid (Calls Try.prog 11 #[.agg (entC (fE k) (.slice none 0 0) (.slice none 0 0) (.slice none 0 0) (.slice none 0 0) (.slice none 0 0) (.slice none 0 0)), .int .i64 9] w3.drew fun r w' => r = .returned (.int .i64 (wn k)) ∧ Below w3.drew.heap.size w3.drew w') := by
          have h := next_any w3.drew (fE k) (.slice none 0 0) (.slice none 0 0) (.slice none 0 0) (.slice none 0 0) (.slice none 0 0) (.slice none 0 0) 9
          rw [nx_wn hlt] at h
          exact h
        clear HS3 HB3
        generalize w3.drew = X at *
        refine wpAnyF_take0 (i := 0) (oi := ⟨_, _, _, _, _, _⟩) (v := ?_) rfl (by kernel_rfl) (by kernel_rfl) (by kernel_rfl) (fun _ _ _ h => h) (Or.inl ⟨by rfl, ?_⟩) ?_
        rotate_left
        · intro W _
          go_simp
          try with_reducible rfl
        rotate_left
        try simp only [Act.put, List.setIfInBounds_toArray, List.set_cons_zero, List.set_cons_succ]
        refine wpAnyF_take0 (i := 1) (oi := ⟨_, _, _, _, _, _⟩) (v := ?_) rfl (by kernel_rfl) (by kernel_rfl) (by kernel_rfl) (fun _ _ _ h => h) (Or.inl ⟨by rfl, ?_⟩) ?_
        rotate_left
        · intro W _
          go_simp
          try with_reducible rfl
        rotate_left
        try simp only [Act.put, List.setIfInBounds_toArray, List.set_cons_zero, List.set_cons_succ]
        refine wpAnyF_take0 (i := 2) (oi := ⟨_, _, _, _, _, _⟩) (v := .pointer (some ⟨g, k * 16, none⟩)) rfl (by kernel_rfl) (by kernel_rfl) (by kernel_rfl) (fun _ _ _ h => h) (Or.inl ⟨by rfl, fun W _ => ?_⟩) ?_
        · go_simp
        try simp only [Act.put, List.setIfInBounds_toArray, List.set_cons_zero, List.set_cons_succ]
        refine wpAnyF_take () (i := 3) (oi := ⟨_, _, _, _, _, _⟩) (v := .agg (entC (fE k) (.slice none 0 0) (.slice none 0 0) (.slice none 0 0) (.slice none 0 0) (.slice none 0 0) (.slice none 0 0))) rfl (by kernel_rfl) (by kernel_rfl) (by kernel_rfl) (by kernel_rfl) (fun _ _ _ h => h) HSD.out (Or.inl ⟨by rfl, fun W hSW => ?_⟩) ?_
        · exact held_at 30 (.tmp 37) rfl g (k * 16) rfl (entC (fE k) (.slice none 0 0) (.slice none 0 0) (.slice none 0 0) (.slice none 0 0) (.slice none 0 0) (.slice none 0 0)) _ (FoS.row hSW hlt) Try.underlying30 rfl HZI.out
        try simp only [Act.put, List.setIfInBounds_toArray, List.set_cons_zero, List.set_cons_succ]
        refine wpAnyF_take0 (i := 5) (oi := ⟨_, _, _, _, _, _⟩) (v := ?_) rfl (by kernel_rfl) (by kernel_rfl) (by kernel_rfl) (fun _ _ _ h => h) (Or.inl ⟨by rfl, ?_⟩) ?_
        rotate_left
        · intro W _
          go_simp
          try with_reducible rfl
        rotate_left
        try simp only [Act.put, List.setIfInBounds_toArray, List.set_cons_zero, List.set_cons_succ]
        refine wpAnyF_take0 (i := 6) (oi := ⟨_, _, _, _, _, _⟩) (v := ?_) rfl (by kernel_rfl) (by kernel_rfl) (by kernel_rfl) (fun _ _ _ h => h) (Or.inl ⟨by rfl, ?_⟩) ?_
        rotate_left
        · intro W _
          go_simp
          try with_reducible rfl
        rotate_left
        try simp only [Act.put, List.setIfInBounds_toArray, List.set_cons_zero, List.set_cons_succ]
        refine wpAnyF_take0 (i := 7) (oi := ⟨_, _, _, _, _, _⟩) (v := .pointer (some ⟨g2, k, none⟩)) rfl (by kernel_rfl) (by kernel_rfl) (by kernel_rfl) (fun _ _ _ h => h) (Or.inl ⟨by rfl, fun W _ => ?_⟩) ?_
        · go_simp
        try simp only [Act.put, List.setIfInBounds_toArray, List.set_cons_zero, List.set_cons_succ]
        refine wpAnyF_take () (i := 8) (oi := ⟨_, _, _, _, _, _⟩) (v := .int .i64 (wn k)) rfl (by kernel_rfl) (by kernel_rfl) (by kernel_rfl) (by kernel_rfl) (fun _ _ _ h => h) HSD.out (Or.inl ⟨by rfl, fun W hSW => ?_⟩) ?_
        · have z := FoS.want hSW hlt
          go_simp
        try simp only [Act.put, List.setIfInBounds_toArray, List.set_cons_zero, List.set_cons_succ]
        refine wpAnyF_ready (rs := [4]) (by kernel_rfl) (by simp) ?_
        refine AllReadyF.cons (o := ⟨_, _, _, _, _, _⟩) rfl (fun K hK => ?_) AllReadyF.nil
        rw [if_pos (by rfl)]
        go_simp
        go_at_call 11
        refine HN.out.mono ?_
        rintro r Y ⟨rfl, hb⟩
        have HS5 := Lib.hid (HSD.out.on hb)
        have HB5 := Lib.hid (HBD.out.trans (hb.mono HBD.out.size))
        clear hb HN HSD HBD
        go_wp2_with fail
        refine hK.out _ _ (fun _ _ _ => HS5.out) ?_
        clear hK K
        try simp only [Act.put, List.setIfInBounds_toArray, List.set_cons_zero, List.set_cons_succ]
        refine wpAnyF_take0 (i := 9) (oi := ⟨_, _, _, _, _, _⟩) (v := .bool false) rfl (by kernel_rfl) (by kernel_rfl) (by kernel_rfl) (fun _ _ _ h => h) (Or.inl ⟨by rfl, fun W _ => ?_⟩) ?_
        · go_simp
        try simp only [Act.put, List.setIfInBounds_toArray, List.set_cons_zero, List.set_cons_succ]
        refine wpAnyF_take0 (i := 10) (oi := ⟨_, _, _, _, _, _⟩) (v := ?_) rfl (by kernel_rfl) (by kernel_rfl) (by kernel_rfl) (fun _ _ _ h => h) (Or.inl ⟨by rfl, ?_⟩) ?_
        rotate_left
        · intro W _
          go_simp
          try with_reducible rfl
        rotate_left
        try simp only [Act.put, List.setIfInBounds_toArray, List.set_cons_zero, List.set_cons_succ]
        refine wpAnyF_take0 (i := 11) (oi := ⟨_, _, _, _, _, _⟩) (v := ?_) rfl (by kernel_rfl) (by kernel_rfl) (by kernel_rfl) (fun _ _ _ h => h) (Or.inl ⟨by rfl, ?_⟩) ?_
        rotate_left
        · intro W _
          go_simp
          try with_reducible rfl
        rotate_left
        try simp only [Act.put, List.setIfInBounds_toArray, List.set_cons_zero, List.set_cons_succ]
        refine wpAnyF_take0 (i := 12) (oi := ⟨_, _, _, _, _, _⟩) (v := ?_) rfl (by kernel_rfl) (by kernel_rfl) (by kernel_rfl) (fun _ _ _ h => h) (Or.inl ⟨by rfl, ?_⟩) ?_
        rotate_left
        · intro W _
          go_simp
          try with_reducible rfl
        rotate_left
        try simp only [Act.put, List.setIfInBounds_toArray, List.set_cons_zero, List.set_cons_succ]
        refine wpAnyF_take0 (i := 13) (oi := ⟨_, _, _, _, _, _⟩) (v := .bool false) rfl (by kernel_rfl) (by kernel_rfl) (by kernel_rfl) (fun _ _ _ h => h) (Or.inl ⟨by rfl, fun W _ => ?_⟩) ?_
        · have hk : ((k : Int) == 0) = false := by have := HK0.out; simp; omega
          go_simp
        try simp only [Act.put, List.setIfInBounds_toArray, List.set_cons_zero, List.set_cons_succ]
        refine wpAnyF_take0 (i := 14) (oi := ⟨_, _, _, _, _, _⟩) (v := .bool false) rfl (by kernel_rfl) (by kernel_rfl) (by kernel_rfl) (fun _ _ _ h => h) (Or.inl ⟨by rfl, fun W _ => ?_⟩) ?_
        · go_simp
        try simp only [Act.put, List.setIfInBounds_toArray, List.set_cons_zero, List.set_cons_succ]
        refine wpAnyF_take0 (i := 15) (oi := ⟨_, _, _, _, _, _⟩) (v := .bool false) rfl (by kernel_rfl) (by kernel_rfl) (by kernel_rfl) (fun _ _ _ h => h) (Or.inl ⟨by rfl, fun W _ => ?_⟩) ?_
        · go_simp
        try simp only [Act.put, List.setIfInBounds_toArray, List.set_cons_zero, List.set_cons_succ]
        refine wpAnyF_done (by kernel_rfl) ?_ _
        go_wp2
        go_roundw
        case rel => exact ⟨k + 1, by omega, by go_num, ⟨HS5.out, HB5.out⟩⟩
        case measure => simp [RowKit.intOf]; omega
    · have i2 : ¬ (k : Int) < 11 := by omega
      clear hlt
      go_wp2
      go_ret
      exact ⟨rfl, HBr.out⟩
end Go.Proofs.Ythcndifbegmbkaa.Ud
