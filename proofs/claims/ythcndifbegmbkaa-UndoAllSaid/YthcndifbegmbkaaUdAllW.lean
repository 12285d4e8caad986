/- UndoAll's walk. -/
import Derived.Test.YthcndifbegmbkaaUdL
import Derived.Test.YthcndifbegmbkaaEntRe
import Derived.Test.YthcndifbegmbkaaEntLn
namespace Go.Proofs.Ythcndifbegmbkaa.Ud
open Go.RowKit

/-- Three variables of entries. -/
structure T3 (g h k : Nat) (C D E : Array Value) (W : World) : Prop where
  a : W.heap[g]? = some (.cells C 30 (0, 0))
  b : W.heap[h]? = some (.cells D 30 (0, 0))
  c : W.heap[k]? = some (.cells E 30 (0, 0))
theorem T3.on {g h k : Nat} {C D E : Array Value} {W W' : World} (t : T3 g h k C D E W) (hb : Below W.heap.size W W') : T3 g h k C D E W' :=
  ⟨(hb.block _ (Array.getElem?_eq_some_iff.1 t.a).1).trans t.a, (hb.block _ (Array.getElem?_eq_some_iff.1 t.b).1).trans t.b, (hb.block _ (Array.getElem?_eq_some_iff.1 t.c).1).trans t.c⟩
theorem bk_S {w : World} {e : Ent} {p : Int} {A : Option Addr} {q : Nat} (h : SlK .u8 w (.slice A e.old.length q) e.old) : EntS w (.slice none 0 0) (.slice A e.old.length q) (.slice none 0 0) (.slice none 0 0) (.slice none 0 0) (.slice none 0 0) (bkE e p) :=
  ⟨(slK_nil w).sw, h.sw, (nil_S w ent00 rfl rfl rfl rfl rfl rfl).moves, (nil_S w ent00 rfl rfl rfl rfl rfl rfl).lives, (nil_S w ent00 rfl rfl rfl rfl rfl rfl).dirty, (nil_S w ent00 rfl rfl rfl rfl rfl rfl).opens⟩
theorem bk_len (e : Ent) (p : Int) : EntLen (bkE e p) := ⟨by show 0 ≤ _; omega, by show 0 ≤ _; omega, by show 0 ≤ _; omega, by show 0 ≤ _; omega, fun o h => by cases h⟩
theorem e00_len : EntLen ent00 := ⟨by decide, by decide, by decide, by decide, fun o h => by cases h⟩
set_option maxRecDepth 100000 in
set_option maxHeartbeats 4000000 in
theorem undoAll_any (w : World) (e : Ent) {s1 s2 s3 s4 s5 s6 : Value} (p lsn : Int) (hs : EntS w s1 s2 s3 s4 s5 s6 e) : Calls Try.prog 3 #[.agg (entC e s1 s2 s3 s4 s5 s6), .int .i64 p, .int .i64 lsn] w fun r w' => r = .returned (.bool true) ∧ Below w.heap.size w w' := by
  obtain ⟨A1, c1, A2, c2, A3, c3, A4, c4, A5, c5, A6, c6, rfl, rfl, rfl, rfl, rfl, rfl⟩ := hs.form
  have HE := Lib.hid hs
  have HZI0 : Hid ((Try.prog.info? 30).map (·.size) = some (entC e (.slice A1 e.old.length c1) (.slice A2 e.new.length c2) (.slice A3 e.moves.length c3) (.slice A4 e.lives.length c4) (.slice A5 e.dirty.length c5) (.slice A6 e.opens.length c6)).size) := infoEnt
  clear hs
  obtain ⟨W, hW⟩ : ∃ W, W = w.alloc (.cells (entC e (.slice A1 e.old.length c1) (.slice A2 e.new.length c2) (.slice A3 e.moves.length c3) (.slice A4 e.lives.length c4) (.slice A5 e.dirty.length c5) (.slice A6 e.opens.length c6)) 30) := ⟨_, rfl⟩
  have HB0 : Hid (Below w.heap.size w W) := by rw [hW]; exact (Below.refl _ _).alloc (Nat.le_refl _) _
  have hX : W.heap[w.heap.size]? = some (.cells (entC e (.slice A1 e.old.length c1) (.slice A2 e.new.length c2) (.slice A3 e.moves.length c3) (.slice A4 e.lives.length c4) (.slice A5 e.dirty.length c5) (.slice A6 e.opens.length c6)) 30 (0, 0)) := by rw [hW]; exact heap_alloc_new w _
  have HX := Lib.hid hX
  clear hX
  go_enter Try.func3, Try.ntmps3
  go_upto_region 1 with (fail)
  show Code.wp _ _ _ _ (w.alloc (.cells (entC e (.slice A1 e.old.length c1) (.slice A2 e.new.length c2) (.slice A3 e.moves.length c3) (.slice A4 e.lives.length c4) (.slice A5 e.dirty.length c5) (.slice A6 e.opens.length c6)) 30))
  rw [← hW]
  clear hW
  go_wp2_with fail
  refine (begun17 W).mono ?_
  rintro r w1 ⟨rfl, hb1⟩
  have HWX : Hid (w.heap.size ≤ w.heap.size) := Nat.le_refl _
  have HB1 := Lib.hid (HB0.out.trans (hb1.mono HB0.out.size))
  have HX1 := Lib.hid ((hb1.block _ (Array.getElem?_eq_some_iff.1 HX.out).1).trans HX.out)
  clear hb1 HB0 HX
  have k8 : w1.cell? ⟨w.heap.size, 10, none⟩ = some (.slice A1 e.old.length c1) := (cell_of HX1.out 10).1
  have k9 : w1.cell? ⟨w.heap.size, 11, none⟩ = some (.slice A2 e.new.length c2) := (cell_of HX1.out 11).1
  have k10 : w1.cell? ⟨w.heap.size, 12, none⟩ = some (.slice A3 e.moves.length c3) := (cell_of HX1.out 12).1
  by_cases g1 : 40 < e.old.length
  · have g2 : (40 : Int) < (e.old.length : Int) := by omega
    clear g1
    go_wp2
    go_ret
    exact ⟨rfl, HB1.out⟩
  have g2 : ¬ (40 : Int) < (e.old.length : Int) := by omega
  by_cases g3 : 40 < e.new.length
  · have g4 : (40 : Int) < (e.new.length : Int) := by omega
    clear g1 g3
    go_wp2
    go_ret
    exact ⟨rfl, HB1.out⟩
  have g4 : ¬ (40 : Int) < (e.new.length : Int) := by omega
  by_cases g5 : 20 < e.moves.length
  · have g6 : (20 : Int) < (e.moves.length : Int) := by omega
    clear g1 g3 g5
    go_wp2
    go_ret
    exact ⟨rfl, HB1.out⟩
  have g6 : ¬ (20 : Int) < (e.moves.length : Int) := by omega
  go_upto_region 5 with fail
  clear g2 g3 g4 g5 g6 k8 k9 k10
  obtain ⟨s1, hs1⟩ : ∃ s, s = Value.slice A1 e.old.length c1 := ⟨_, rfl⟩
  obtain ⟨s2, hs2⟩ : ∃ s, s = Value.slice A2 e.new.length c2 := ⟨_, rfl⟩
  obtain ⟨s3, hs3⟩ : ∃ s, s = Value.slice A3 e.moves.length c3 := ⟨_, rfl⟩
  obtain ⟨s4, hs4⟩ : ∃ s, s = Value.slice A4 e.lives.length c4 := ⟨_, rfl⟩
  obtain ⟨s5, hs5⟩ : ∃ s, s = Value.slice A5 e.dirty.length c5 := ⟨_, rfl⟩
  obtain ⟨s6, hs6⟩ : ∃ s, s = Value.slice A6 e.opens.length c6 := ⟨_, rfl⟩
  rw [← hs1, ← hs2, ← hs3, ← hs4, ← hs5, ← hs6] at HX1 HE HZI0 ⊢
  clear hs1 hs2 hs3 hs4 hs5 hs6 A1 c1 A2 c2 A3 c3 A4 c4 A5 c5 A6 c6
  have hle : w.heap.size ≤ w.heap.size := Nat.le_refl _
  by_cases hk : e.kind = 1
  · have HP := Lib.hid (back_yes w1 e s1 s2 s3 s4 s5 s6 p hk (HE.out.old.below HB1.out hle) (by omega))
    have HK := Lib.hid hk
    clear hk hle
    go_wp2_with (with_reducible refine wpList_load_row rfl 30 (.tmp 3) rfl w.heap.size rfl 30 _ (0, 0) _ HX1.out Try.underlying30 rfl HZI0.out ?_)
    refine HP.out.mono ?_
    rintro r w2 ⟨A, q, rfl, hown, hok, hb2⟩
    have HB2 := Lib.hid (HB1.out.trans (hb2.mono HB1.out.size))
    have HX2 := Lib.hid ((hb2.block _ (Array.getElem?_eq_some_iff.1 HX1.out).1).trans HX1.out)
    have HBo3 := Lib.hid (heap_alloc_new w2 (.cells #[.int .i64 0, .int .i64 0, .int .i64 0, .int .i64 0, .int .i64 0, .int .i64 0, .int .i64 0, .int .i64 0, .int .i64 0, .int .i64 0, .slice none 0 0, .slice none 0 0, .slice none 0 0, .slice none 0 0, .slice none 0 0, .slice none 0 0] 30))
    have HZI3 : Hid ((Try.prog.info? 30).map (·.size) = some (entC (bkE e p) (.slice none 0 0) (.slice A e.old.length q) (.slice none 0 0) (.slice none 0 0) (.slice none 0 0) (.slice none 0 0)).size) := infoEnt
    have HZA3 := Lib.hid (entC_all (bkE e p) none A none none none none 0 0 e.old.length q 0 0 0 0 0 0 0 0)
    have HZN3 := Lib.hid (show (#[.int .i64 0, .int .i64 0, .int .i64 0, .int .i64 0, .int .i64 0, .int .i64 0, .int .i64 0, .int .i64 0, .int .i64 0, .int .i64 0, .slice none 0 0, .slice none 0 0, .slice none 0 0, .slice none 0 0, .slice none 0 0, .slice none 0 0] : Array Value).size = (entC (bkE e p) (.slice none 0 0) (.slice A e.old.length q) (.slice none 0 0) (.slice none 0 0) (.slice none 0 0) (.slice none 0 0)).size from rfl)
    have HSA3 := Lib.hid (setRow_alloc w2 #[.int .i64 0, .int .i64 0, .int .i64 0, .int .i64 0, .int .i64 0, .int .i64 0, .int .i64 0, .int .i64 0, .int .i64 0, .int .i64 0, .slice none 0 0, .slice none 0 0, .slice none 0 0, .slice none 0 0, .slice none 0 0, .slice none 0 0] (entC (bkE e p) (.slice none 0 0) (.slice A e.old.length q) (.slice none 0 0) (.slice none 0 0) (.slice none 0 0) (.slice none 0 0)) 30)
    have HAL3 : Hid (Below w2.heap.size w2 (w2.alloc (.cells (entC (bkE e p) (.slice none 0 0) (.slice A e.old.length q) (.slice none 0 0) (.slice none 0 0) (.slice none 0 0) (.slice none 0 0)) 30))) := (Below.refl _ _).alloc (Nat.le_refl _) _
    have HBE3 := Lib.hid (heap_alloc_new w2 (.cells (entC (bkE e p) (.slice none 0 0) (.slice A e.old.length q) (.slice none 0 0) (.slice none 0 0) (.slice none 0 0) (.slice none 0 0)) 30))
    have HSL3 := Lib.hid ((own_slK hown hok).below HAL3.out (Nat.le_refl _))
    clear hown hok
    clear hb2 HP
    go_upto_region 6 with (with_reducible refine wpList_store_row rfl 30 (.tmp 7) (.tmp 33) rfl w2.heap.size _ rfl rfl 30 _ HBo3.out HZI3.out HZN3.out HZA3.out ?_)
    rw [HSA3.out]
    have HB3 := Lib.hid (HB2.out.trans (HAL3.out.mono HB2.out.size))
    have HX3 := Lib.hid ((HAL3.out.block _ (Array.getElem?_eq_some_iff.1 HX2.out).1).trans HX2.out)
    clear HBo3 HZA3 HZN3 HSA3 HAL3 HB2 HX2
    generalize w2.alloc (.cells (entC (bkE e p) (.slice none 0 0) (.slice A e.old.length q) (.slice none 0 0) (.slice none 0 0) (.slice none 0 0) (.slice none 0 0)) 30) = w3 at *
    have HP := Lib.hid (rback_yes w3 e s1 s2 s3 s4 s5 s6 p HK.out (HE.out.old.below HB3.out (by have := HWX.out; omega)) (by omega))
    go_wp2_with (with_reducible refine wpList_load_row rfl 30 (.tmp 3) rfl w.heap.size rfl 30 _ (0, 0) _ HX3.out Try.underlying30 rfl HZI0.out ?_)
    refine HP.out.mono ?_
    rintro r w4 ⟨A', q', rfl, hown, hok, hb4⟩
    have HB4 := Lib.hid (HB3.out.trans (hb4.mono HB3.out.size))
    have HX4 := Lib.hid ((hb4.block _ (Array.getElem?_eq_some_iff.1 HX3.out).1).trans HX3.out)
    have HY4 := Lib.hid ((hb4.block _ (Array.getElem?_eq_some_iff.1 HBE3.out).1).trans HBE3.out)
    have HSL4 := Lib.hid (HSL3.out.below hb4 (Nat.le_refl _))
    have HBo5 := Lib.hid (heap_alloc_new w4 (.cells #[.int .i64 0, .int .i64 0, .int .i64 0, .int .i64 0, .int .i64 0, .int .i64 0, .int .i64 0, .int .i64 0, .int .i64 0, .int .i64 0, .slice none 0 0, .slice none 0 0, .slice none 0 0, .slice none 0 0, .slice none 0 0, .slice none 0 0] 30))
    have HZI5 : Hid ((Try.prog.info? 30).map (·.size) = some (entC (bkE e p) (.slice none 0 0) (.slice A' e.old.length q') (.slice none 0 0) (.slice none 0 0) (.slice none 0 0) (.slice none 0 0)).size) := infoEnt
    have HZA5 := Lib.hid (entC_all (bkE e p) none A' none none none none 0 0 e.old.length q' 0 0 0 0 0 0 0 0)
    have HZN5 := Lib.hid (show (#[.int .i64 0, .int .i64 0, .int .i64 0, .int .i64 0, .int .i64 0, .int .i64 0, .int .i64 0, .int .i64 0, .int .i64 0, .int .i64 0, .slice none 0 0, .slice none 0 0, .slice none 0 0, .slice none 0 0, .slice none 0 0, .slice none 0 0] : Array Value).size = (entC (bkE e p) (.slice none 0 0) (.slice A' e.old.length q') (.slice none 0 0) (.slice none 0 0) (.slice none 0 0) (.slice none 0 0)).size from rfl)
    have HSA5 := Lib.hid (setRow_alloc w4 #[.int .i64 0, .int .i64 0, .int .i64 0, .int .i64 0, .int .i64 0, .int .i64 0, .int .i64 0, .int .i64 0, .int .i64 0, .int .i64 0, .slice none 0 0, .slice none 0 0, .slice none 0 0, .slice none 0 0, .slice none 0 0, .slice none 0 0] (entC (bkE e p) (.slice none 0 0) (.slice A' e.old.length q') (.slice none 0 0) (.slice none 0 0) (.slice none 0 0) (.slice none 0 0)) 30)
    have HAL5 : Hid (Below w4.heap.size w4 (w4.alloc (.cells (entC (bkE e p) (.slice none 0 0) (.slice A' e.old.length q') (.slice none 0 0) (.slice none 0 0) (.slice none 0 0) (.slice none 0 0)) 30))) := (Below.refl _ _).alloc (Nat.le_refl _) _
    have HBE5 := Lib.hid (heap_alloc_new w4 (.cells (entC (bkE e p) (.slice none 0 0) (.slice A' e.old.length q') (.slice none 0 0) (.slice none 0 0) (.slice none 0 0) (.slice none 0 0)) 30))
    have HSM5 := Lib.hid ((own_slK hown hok).below HAL5.out (Nat.le_refl _))
    have HSL5 := Lib.hid (HSL4.out.below HAL5.out (Nat.le_refl _))
    clear hown hok HSL3 HSL4
    clear hb4 HP HX3 HBE3
    go_upto_region 7 with (with_reducible refine wpList_store_row rfl 30 (.tmp 9) (.tmp 39) rfl w4.heap.size _ rfl rfl 30 _ HBo5.out HZI5.out HZN5.out HZA5.out ?_)
    rw [HSA5.out]
    have HB5 := Lib.hid (HB4.out.trans (HAL5.out.mono HB4.out.size))
    have HX5 := Lib.hid ((HAL5.out.block _ (Array.getElem?_eq_some_iff.1 HX4.out).1).trans HX4.out)
    have HY5 := Lib.hid ((HAL5.out.block _ (Array.getElem?_eq_some_iff.1 HY4.out).1).trans HY4.out)
    clear HBo5 HZA5 HZN5 HSA5 HAL5 HB4 HX4 HY4
    generalize w4.alloc (.cells (entC (bkE e p) (.slice none 0 0) (.slice A' e.old.length q') (.slice none 0 0) (.slice none 0 0) (.slice none 0 0) (.slice none 0 0)) 30) = w5 at *
    refine wp_region_F (fun (_ : Unit) W => T3 w.heap.size w2.heap.size w4.heap.size (entC e s1 s2 s3 s4 s5 s6) (entC (bkE e p) (.slice none 0 0) (.slice A e.old.length q) (.slice none 0 0) (.slice none 0 0) (.slice none 0 0) (.slice none 0 0)) (entC (bkE e p) (.slice none 0 0) (.slice A' e.old.length q') (.slice none 0 0) (.slice none 0 0) (.slice none 0 0) (.slice none 0 0)) W) (fun _ j => Nat.beq j 99) (by kernel_rfl) ?_
    have HT : Hid (T3 w.heap.size w2.heap.size w4.heap.size (entC e s1 s2 s3 s4 s5 s6) (entC (bkE e p) (.slice none 0 0) (.slice A e.old.length q) (.slice none 0 0) (.slice none 0 0) (.slice none 0 0) (.slice none 0 0)) (entC (bkE e p) (.slice none 0 0) (.slice A' e.old.length q') (.slice none 0 0) (.slice none 0 0) (.slice none 0 0) (.slice none 0 0)) w5.drew) := ⟨HX5.out, HY5.out, HBE5.out⟩
    have HBD : Hid (Below w.heap.size w w5.drew) := HB5.out.drew
    have HM : Hid (Calls Try.prog 10 #[.agg (entC (bkE e p) (.slice none 0 0) (.slice A e.old.length q) (.slice none 0 0) (.slice none 0 0) (.slice none 0 0) (.slice none 0 0)), .agg (entC (bkE e p) (.slice none 0 0) (.slice A' e.old.length q') (.slice none 0 0) (.slice none 0 0) (.slice none 0 0) (.slice none 0 0))] w5.drew fun r w' => r = .returned (.bool true) ∧ Below w5.drew.heap.size w5.drew w') := by
      have h := rsame_any w5.drew (bkE e p) (bkE e p) (bk_S (HSL5.out.below (Below.refl _ _).drew (Nat.le_refl _))) (bk_S (HSM5.out.below (Below.refl _ _).drew (Nat.le_refl _))) (bk_len e p)
      rw [(sameE_iff (bkE e p) (bkE e p)).2 rfl] at h
      exact h
    clear HSL5 HSM5
    clear HX5 HY5 HBE5 HB5
    generalize w5.drew = X at *
    refine wpAnyF_take0 (i := 0) (oi := ⟨_, _, _, _, _, _⟩) (v := ?_) rfl (by kernel_rfl) (by kernel_rfl) (by kernel_rfl) (fun _ _ _ h => h) (Or.inl ⟨by rfl, ?_⟩) ?_
    rotate_left
    · intro W _
      go_simp
      try with_reducible rfl
    rotate_left
    try simp only [Act.put, List.setIfInBounds_toArray, List.set_cons_zero, List.set_cons_succ]
    refine wpAnyF_take0 (i := 1) (oi := ⟨_, _, _, _, _, _⟩) (v := ?_) rfl (by kernel_rfl) (by kernel_rfl) (by kernel_rfl) (fun _ _ _ h => h) (Or.inl ⟨by rfl, ?_⟩) ?_
    rotate_left
    · intro W _
      go_simp
      try with_reducible rfl
    rotate_left
    try simp only [Act.put, List.setIfInBounds_toArray, List.set_cons_zero, List.set_cons_succ]
    refine wpAnyF_take0 (i := 2) (oi := ⟨_, _, _, _, _, _⟩) (v := .bool true) rfl (by kernel_rfl) (by kernel_rfl) (by kernel_rfl) (fun _ _ _ h => h) (Or.inl ⟨by rfl, fun W _ => ?_⟩) ?_
    · go_simp
    try simp only [Act.put, List.setIfInBounds_toArray, List.set_cons_zero, List.set_cons_succ]
    refine wpAnyF_take0 (i := 3) (oi := ⟨_, _, _, _, _, _⟩) (v := ?_) rfl (by kernel_rfl) (by kernel_rfl) (by kernel_rfl) (fun _ _ _ h => h) (Or.inl ⟨by rfl, ?_⟩) ?_
    rotate_left
    · intro W _
      go_simp
      try with_reducible rfl
    rotate_left
    try simp only [Act.put, List.setIfInBounds_toArray, List.set_cons_zero, List.set_cons_succ]
    refine wpAnyF_take () (i := 4) (oi := ⟨_, _, _, _, _, _⟩) (v := .agg (entC (bkE e p) (.slice none 0 0) (.slice A e.old.length q) (.slice none 0 0) (.slice none 0 0) (.slice none 0 0) (.slice none 0 0))) rfl (by kernel_rfl) (by kernel_rfl) (by kernel_rfl) (by kernel_rfl) (fun _ _ _ h => h) HT.out (Or.inl ⟨by rfl, fun W hSW => ?_⟩) ?_
    · exact held_row 30 (.tmp 7) rfl w2.heap.size rfl 30 _ (0, 0) _ (T3.b hSW) Try.underlying30 rfl HZI3.out
    try simp only [Act.put, List.setIfInBounds_toArray, List.set_cons_zero, List.set_cons_succ]
    refine wpAnyF_take () (i := 5) (oi := ⟨_, _, _, _, _, _⟩) (v := .agg (entC (bkE e p) (.slice none 0 0) (.slice A' e.old.length q') (.slice none 0 0) (.slice none 0 0) (.slice none 0 0) (.slice none 0 0))) rfl (by kernel_rfl) (by kernel_rfl) (by kernel_rfl) (by kernel_rfl) (fun _ _ _ h => h) HT.out (Or.inl ⟨by rfl, fun W hSW => ?_⟩) ?_
    · exact held_row 30 (.tmp 9) rfl w4.heap.size rfl 30 _ (0, 0) _ (T3.c hSW) Try.underlying30 rfl HZI5.out
    try simp only [Act.put, List.setIfInBounds_toArray, List.set_cons_zero, List.set_cons_succ]
    refine wpAnyF_ready (rs := [6]) (by kernel_rfl) (by simp) ?_
    refine AllReadyF.cons (o := ⟨_, _, _, _, _, _⟩) rfl (fun K hK => ?_) AllReadyF.nil
    rw [if_pos (by rfl)]
    go_simp
    go_at_call 10
    refine HM.out.mono ?_
    rintro r X1 ⟨rfl, hb⟩
    have HT1 := Lib.hid (T3.on HT.out hb)
    have HBD1 := Lib.hid (HBD.out.trans (hb.mono HBD.out.size))
    clear hb HM
    go_wp2_with fail
    refine hK.out _ _ (fun _ _ _ => HT1.out) ?_
    clear hK K
    try simp only [Act.put, List.setIfInBounds_toArray, List.set_cons_zero, List.set_cons_succ]
    refine wpAnyF_take0 (i := 7) (oi := ⟨_, _, _, _, _, _⟩) (v := .bool true) rfl (by kernel_rfl) (by kernel_rfl) (by kernel_rfl) (fun _ _ _ h => h) (Or.inl ⟨by rfl, fun W _ => ?_⟩) ?_
    · go_simp
    try simp only [Act.put, List.setIfInBounds_toArray, List.set_cons_zero, List.set_cons_succ]
    refine wpAnyF_take0 (i := 8) (oi := ⟨_, _, _, _, _, _⟩) (v := ?_) rfl (by kernel_rfl) (by kernel_rfl) (by kernel_rfl) (fun _ _ _ h => h) (Or.inl ⟨by rfl, ?_⟩) ?_
    rotate_left
    · intro W _
      go_simp
      try with_reducible rfl
    rotate_left
    try simp only [Act.put, List.setIfInBounds_toArray, List.set_cons_zero, List.set_cons_succ]
    refine wpAnyF_take () (i := 9) (oi := ⟨_, _, _, _, _, _⟩) (v := .agg (entC e s1 s2 s3 s4 s5 s6)) rfl (by kernel_rfl) (by kernel_rfl) (by kernel_rfl) (by kernel_rfl) (fun _ _ _ h => h) HT1.out (Or.inl ⟨by rfl, fun W hSW => ?_⟩) ?_
    · exact held_row 30 (.tmp 3) rfl w.heap.size rfl 30 _ (0, 0) _ (T3.a hSW) Try.underlying30 rfl HZI0.out
    try simp only [Act.put, List.setIfInBounds_toArray, List.set_cons_zero, List.set_cons_succ]
    refine wpAnyF_take0 (i := 10) (oi := ⟨_, _, _, _, _, _⟩) (v := ?_) rfl (by kernel_rfl) (by kernel_rfl) (by kernel_rfl) (fun _ _ _ h => h) (Or.inl ⟨by rfl, ?_⟩) ?_
    rotate_left
    · intro W _
      go_simp
      try with_reducible rfl
    rotate_left
    try simp only [Act.put, List.setIfInBounds_toArray, List.set_cons_zero, List.set_cons_succ]
    refine wpAnyF_take () (i := 12) (oi := ⟨_, _, _, _, _, _⟩) (v := .agg (entC e s1 s2 s3 s4 s5 s6)) rfl (by kernel_rfl) (by kernel_rfl) (by kernel_rfl) (by kernel_rfl) (fun _ _ _ h => h) HT1.out (Or.inl ⟨by rfl, fun W hSW => ?_⟩) ?_
    · exact held_row 30 (.tmp 3) rfl w.heap.size rfl 30 _ (0, 0) _ (T3.a hSW) Try.underlying30 rfl HZI0.out
    try simp only [Act.put, List.setIfInBounds_toArray, List.set_cons_zero, List.set_cons_succ]
    refine wpAnyF_take0 (i := 13) (oi := ⟨_, _, _, _, _, _⟩) (v := ?_) rfl (by kernel_rfl) (by kernel_rfl) (by kernel_rfl) (fun _ _ _ h => h) (Or.inl ⟨by rfl, ?_⟩) ?_
    rotate_left
    · intro W _
      go_simp
      try with_reducible rfl
    rotate_left
    try simp only [Act.put, List.setIfInBounds_toArray, List.set_cons_zero, List.set_cons_succ]
    have HN := Lib.hid (next_any X1 e s1 s2 s3 s4 s5 s6 lsn)
    refine wpAnyF_ready (rs := [11]) (by kernel_rfl) (by simp) ?_
    refine AllReadyF.cons (o := ⟨_, _, _, _, _, _⟩) rfl (fun K hK => ?_) AllReadyF.nil
    rw [if_pos (by rfl)]
    go_simp
    go_at_call 11
    refine HN.out.mono ?_
    rintro r X2 ⟨rfl, hb⟩
    have HT2 := Lib.hid (T3.on HT1.out hb)
    have HBD2 := Lib.hid (HBD1.out.trans (hb.mono HBD1.out.size))
    clear hb HN
    go_wp2_with fail
    refine hK.out _ _ (fun _ _ _ => HT2.out) ?_
    clear hK K
    try simp only [Act.put, List.setIfInBounds_toArray, List.set_cons_zero, List.set_cons_succ]
    have HN := Lib.hid (rnext_any X2 e s1 s2 s3 s4 s5 s6 lsn)
    refine wpAnyF_ready (rs := [14]) (by kernel_rfl) (by simp) ?_
    refine AllReadyF.cons (o := ⟨_, _, _, _, _, _⟩) rfl (fun K hK => ?_) AllReadyF.nil
    rw [if_pos (by rfl)]
    go_simp
    go_at_call 12
    refine HN.out.mono ?_
    rintro r X3 ⟨rfl, hb⟩
    have HT3 := Lib.hid (T3.on HT2.out hb)
    have HBD3 := Lib.hid (HBD2.out.trans (hb.mono HBD2.out.size))
    clear hb HN
    go_wp2_with fail
    refine hK.out _ _ (fun _ _ _ => HT3.out) ?_
    clear hK K
    try simp only [Act.put, List.setIfInBounds_toArray, List.set_cons_zero, List.set_cons_succ]
    refine wpAnyF_take0 (i := 15) (oi := ⟨_, _, _, _, _, _⟩) (v := .bool true) rfl (by kernel_rfl) (by kernel_rfl) (by kernel_rfl) (fun _ _ _ h => h) (Or.inl ⟨by rfl, fun W _ => ?_⟩) ?_
    · go_simp
    try simp only [Act.put, List.setIfInBounds_toArray, List.set_cons_zero, List.set_cons_succ]
    refine wpAnyF_take0 (i := 16) (oi := ⟨_, _, _, _, _, _⟩) (v := .bool true) rfl (by kernel_rfl) (by kernel_rfl) (by kernel_rfl) (fun _ _ _ h => h) (Or.inl ⟨by rfl, fun W _ => ?_⟩) ?_
    · go_simp
    try simp only [Act.put, List.setIfInBounds_toArray, List.set_cons_zero, List.set_cons_succ]
    refine wpAnyF_take0 (i := 17) (oi := ⟨_, _, _, _, _, _⟩) (v := .bool true) rfl (by kernel_rfl) (by kernel_rfl) (by kernel_rfl) (fun _ _ _ h => h) (Or.inl ⟨by rfl, fun W _ => ?_⟩) ?_
    · go_simp
    try simp only [Act.put, List.setIfInBounds_toArray, List.set_cons_zero, List.set_cons_succ]
    refine wpAnyF_done (by kernel_rfl) ?_ _
    go_wp2
    go_ret
    exact ⟨rfl, HBD3.out⟩
  · have HP := Lib.hid (back_no w1 e s1 s2 s3 s4 s5 s6 p hk)
    have HK := Lib.hid hk
    clear hk hle
    go_wp2_with (with_reducible refine wpList_load_row rfl 30 (.tmp 3) rfl w.heap.size rfl 30 _ (0, 0) _ HX1.out Try.underlying30 rfl HZI0.out ?_)
    refine HP.out.mono ?_
    rintro r w2 ⟨hr, hb2⟩
    have hr' : r = .returned (.tuple #[.agg (entC ent00 (.slice none 0 0) (.slice none 0 0) (.slice none 0 0) (.slice none 0 0) (.slice none 0 0) (.slice none 0 0)), .bool false]) := hr
    clear hr
    subst hr'
    have HB2 := Lib.hid (HB1.out.trans (hb2.mono HB1.out.size))
    have HX2 := Lib.hid ((hb2.block _ (Array.getElem?_eq_some_iff.1 HX1.out).1).trans HX1.out)
    have HBo3 := Lib.hid (heap_alloc_new w2 (.cells #[.int .i64 0, .int .i64 0, .int .i64 0, .int .i64 0, .int .i64 0, .int .i64 0, .int .i64 0, .int .i64 0, .int .i64 0, .int .i64 0, .slice none 0 0, .slice none 0 0, .slice none 0 0, .slice none 0 0, .slice none 0 0, .slice none 0 0] 30))
    have HZI3 : Hid ((Try.prog.info? 30).map (·.size) = some (entC ent00 (.slice none 0 0) (.slice none 0 0) (.slice none 0 0) (.slice none 0 0) (.slice none 0 0) (.slice none 0 0)).size) := infoEnt
    have HZA3 := Lib.hid (entC_all ent00 none none none none none none 0 0 0 0 0 0 0 0 0 0 0 0)
    have HZN3 := Lib.hid (show (#[.int .i64 0, .int .i64 0, .int .i64 0, .int .i64 0, .int .i64 0, .int .i64 0, .int .i64 0, .int .i64 0, .int .i64 0, .int .i64 0, .slice none 0 0, .slice none 0 0, .slice none 0 0, .slice none 0 0, .slice none 0 0, .slice none 0 0] : Array Value).size = (entC ent00 (.slice none 0 0) (.slice none 0 0) (.slice none 0 0) (.slice none 0 0) (.slice none 0 0) (.slice none 0 0)).size from rfl)
    have HSA3 := Lib.hid (setRow_alloc w2 #[.int .i64 0, .int .i64 0, .int .i64 0, .int .i64 0, .int .i64 0, .int .i64 0, .int .i64 0, .int .i64 0, .int .i64 0, .int .i64 0, .slice none 0 0, .slice none 0 0, .slice none 0 0, .slice none 0 0, .slice none 0 0, .slice none 0 0] (entC ent00 (.slice none 0 0) (.slice none 0 0) (.slice none 0 0) (.slice none 0 0) (.slice none 0 0) (.slice none 0 0)) 30)
    have HAL3 : Hid (Below w2.heap.size w2 (w2.alloc (.cells (entC ent00 (.slice none 0 0) (.slice none 0 0) (.slice none 0 0) (.slice none 0 0) (.slice none 0 0) (.slice none 0 0)) 30))) := (Below.refl _ _).alloc (Nat.le_refl _) _
    have HBE3 := Lib.hid (heap_alloc_new w2 (.cells (entC ent00 (.slice none 0 0) (.slice none 0 0) (.slice none 0 0) (.slice none 0 0) (.slice none 0 0) (.slice none 0 0)) 30))
    clear hb2 HP
    go_upto_region 6 with (with_reducible refine wpList_store_row rfl 30 (.tmp 7) (.tmp 33) rfl w2.heap.size _ rfl rfl 30 _ HBo3.out HZI3.out HZN3.out HZA3.out ?_)
    rw [HSA3.out]
    have HB3 := Lib.hid (HB2.out.trans (HAL3.out.mono HB2.out.size))
    have HX3 := Lib.hid ((HAL3.out.block _ (Array.getElem?_eq_some_iff.1 HX2.out).1).trans HX2.out)
    clear HBo3 HZA3 HZN3 HSA3 HAL3 HB2 HX2
    generalize w2.alloc (.cells (entC ent00 (.slice none 0 0) (.slice none 0 0) (.slice none 0 0) (.slice none 0 0) (.slice none 0 0) (.slice none 0 0)) 30) = w3 at *
    have HP := Lib.hid (rback_no w3 e s1 s2 s3 s4 s5 s6 p HK.out)
    go_wp2_with (with_reducible refine wpList_load_row rfl 30 (.tmp 3) rfl w.heap.size rfl 30 _ (0, 0) _ HX3.out Try.underlying30 rfl HZI0.out ?_)
    refine HP.out.mono ?_
    rintro r w4 ⟨hr, hb4⟩
    have hr' : r = .returned (.tuple #[.agg (entC ent00 (.slice none 0 0) (.slice none 0 0) (.slice none 0 0) (.slice none 0 0) (.slice none 0 0) (.slice none 0 0)), .bool false]) := hr
    clear hr
    subst hr'
    have HB4 := Lib.hid (HB3.out.trans (hb4.mono HB3.out.size))
    have HX4 := Lib.hid ((hb4.block _ (Array.getElem?_eq_some_iff.1 HX3.out).1).trans HX3.out)
    have HY4 := Lib.hid ((hb4.block _ (Array.getElem?_eq_some_iff.1 HBE3.out).1).trans HBE3.out)
    have HBo5 := Lib.hid (heap_alloc_new w4 (.cells #[.int .i64 0, .int .i64 0, .int .i64 0, .int .i64 0, .int .i64 0, .int .i64 0, .int .i64 0, .int .i64 0, .int .i64 0, .int .i64 0, .slice none 0 0, .slice none 0 0, .slice none 0 0, .slice none 0 0, .slice none 0 0, .slice none 0 0] 30))
    have HZI5 : Hid ((Try.prog.info? 30).map (·.size) = some (entC ent00 (.slice none 0 0) (.slice none 0 0) (.slice none 0 0) (.slice none 0 0) (.slice none 0 0) (.slice none 0 0)).size) := infoEnt
    have HZA5 := Lib.hid (entC_all ent00 none none none none none none 0 0 0 0 0 0 0 0 0 0 0 0)
    have HZN5 := Lib.hid (show (#[.int .i64 0, .int .i64 0, .int .i64 0, .int .i64 0, .int .i64 0, .int .i64 0, .int .i64 0, .int .i64 0, .int .i64 0, .int .i64 0, .slice none 0 0, .slice none 0 0, .slice none 0 0, .slice none 0 0, .slice none 0 0, .slice none 0 0] : Array Value).size = (entC ent00 (.slice none 0 0) (.slice none 0 0) (.slice none 0 0) (.slice none 0 0) (.slice none 0 0) (.slice none 0 0)).size from rfl)
    have HSA5 := Lib.hid (setRow_alloc w4 #[.int .i64 0, .int .i64 0, .int .i64 0, .int .i64 0, .int .i64 0, .int .i64 0, .int .i64 0, .int .i64 0, .int .i64 0, .int .i64 0, .slice none 0 0, .slice none 0 0, .slice none 0 0, .slice none 0 0, .slice none 0 0, .slice none 0 0] (entC ent00 (.slice none 0 0) (.slice none 0 0) (.slice none 0 0) (.slice none 0 0) (.slice none 0 0) (.slice none 0 0)) 30)
    have HAL5 : Hid (Below w4.heap.size w4 (w4.alloc (.cells (entC ent00 (.slice none 0 0) (.slice none 0 0) (.slice none 0 0) (.slice none 0 0) (.slice none 0 0) (.slice none 0 0)) 30))) := (Below.refl _ _).alloc (Nat.le_refl _) _
    have HBE5 := Lib.hid (heap_alloc_new w4 (.cells (entC ent00 (.slice none 0 0) (.slice none 0 0) (.slice none 0 0) (.slice none 0 0) (.slice none 0 0) (.slice none 0 0)) 30))
    clear hb4 HP HX3 HBE3
    go_upto_region 7 with (with_reducible refine wpList_store_row rfl 30 (.tmp 9) (.tmp 39) rfl w4.heap.size _ rfl rfl 30 _ HBo5.out HZI5.out HZN5.out HZA5.out ?_)
    rw [HSA5.out]
    have HB5 := Lib.hid (HB4.out.trans (HAL5.out.mono HB4.out.size))
    have HX5 := Lib.hid ((HAL5.out.block _ (Array.getElem?_eq_some_iff.1 HX4.out).1).trans HX4.out)
    have HY5 := Lib.hid ((HAL5.out.block _ (Array.getElem?_eq_some_iff.1 HY4.out).1).trans HY4.out)
    clear HBo5 HZA5 HZN5 HSA5 HAL5 HB4 HX4 HY4
    generalize w4.alloc (.cells (entC ent00 (.slice none 0 0) (.slice none 0 0) (.slice none 0 0) (.slice none 0 0) (.slice none 0 0) (.slice none 0 0)) 30) = w5 at *
    refine wp_region_F (fun (_ : Unit) W => T3 w.heap.size w2.heap.size w4.heap.size (entC e s1 s2 s3 s4 s5 s6) (entC ent00 (.slice none 0 0) (.slice none 0 0) (.slice none 0 0) (.slice none 0 0) (.slice none 0 0) (.slice none 0 0)) (entC ent00 (.slice none 0 0) (.slice none 0 0) (.slice none 0 0) (.slice none 0 0) (.slice none 0 0) (.slice none 0 0)) W) (fun _ j => Nat.beq j 99) (by kernel_rfl) ?_
    have HT : Hid (T3 w.heap.size w2.heap.size w4.heap.size (entC e s1 s2 s3 s4 s5 s6) (entC ent00 (.slice none 0 0) (.slice none 0 0) (.slice none 0 0) (.slice none 0 0) (.slice none 0 0) (.slice none 0 0)) (entC ent00 (.slice none 0 0) (.slice none 0 0) (.slice none 0 0) (.slice none 0 0) (.slice none 0 0) (.slice none 0 0)) w5.drew) := ⟨HX5.out, HY5.out, HBE5.out⟩
    have HBD : Hid (Below w.heap.size w w5.drew) := HB5.out.drew
    have HM : Hid (Calls Try.prog 10 #[.agg (entC ent00 (.slice none 0 0) (.slice none 0 0) (.slice none 0 0) (.slice none 0 0) (.slice none 0 0) (.slice none 0 0)), .agg (entC ent00 (.slice none 0 0) (.slice none 0 0) (.slice none 0 0) (.slice none 0 0) (.slice none 0 0) (.slice none 0 0))] w5.drew fun r w' => r = .returned (.bool true) ∧ Below w5.drew.heap.size w5.drew w') := by
      have h := rsame_any w5.drew ent00 ent00 (nil_S w5.drew ent00 rfl rfl rfl rfl rfl rfl) (nil_S w5.drew ent00 rfl rfl rfl rfl rfl rfl) e00_len
      rw [(sameE_iff ent00 ent00).2 rfl] at h
      exact h
    clear HX5 HY5 HBE5 HB5
    generalize w5.drew = X at *
    refine wpAnyF_take0 (i := 0) (oi := ⟨_, _, _, _, _, _⟩) (v := ?_) rfl (by kernel_rfl) (by kernel_rfl) (by kernel_rfl) (fun _ _ _ h => h) (Or.inl ⟨by rfl, ?_⟩) ?_
    rotate_left
    · intro W _
      go_simp
      try with_reducible rfl
    rotate_left
    try simp only [Act.put, List.setIfInBounds_toArray, List.set_cons_zero, List.set_cons_succ]
    refine wpAnyF_take0 (i := 1) (oi := ⟨_, _, _, _, _, _⟩) (v := ?_) rfl (by kernel_rfl) (by kernel_rfl) (by kernel_rfl) (fun _ _ _ h => h) (Or.inl ⟨by rfl, ?_⟩) ?_
    rotate_left
    · intro W _
      go_simp
      try with_reducible rfl
    rotate_left
    try simp only [Act.put, List.setIfInBounds_toArray, List.set_cons_zero, List.set_cons_succ]
    refine wpAnyF_take0 (i := 2) (oi := ⟨_, _, _, _, _, _⟩) (v := .bool true) rfl (by kernel_rfl) (by kernel_rfl) (by kernel_rfl) (fun _ _ _ h => h) (Or.inl ⟨by rfl, fun W _ => ?_⟩) ?_
    · go_simp
    try simp only [Act.put, List.setIfInBounds_toArray, List.set_cons_zero, List.set_cons_succ]
    refine wpAnyF_take0 (i := 3) (oi := ⟨_, _, _, _, _, _⟩) (v := ?_) rfl (by kernel_rfl) (by kernel_rfl) (by kernel_rfl) (fun _ _ _ h => h) (Or.inl ⟨by rfl, ?_⟩) ?_
    rotate_left
    · intro W _
      go_simp
      try with_reducible rfl
    rotate_left
    try simp only [Act.put, List.setIfInBounds_toArray, List.set_cons_zero, List.set_cons_succ]
    refine wpAnyF_take () (i := 4) (oi := ⟨_, _, _, _, _, _⟩) (v := .agg (entC ent00 (.slice none 0 0) (.slice none 0 0) (.slice none 0 0) (.slice none 0 0) (.slice none 0 0) (.slice none 0 0))) rfl (by kernel_rfl) (by kernel_rfl) (by kernel_rfl) (by kernel_rfl) (fun _ _ _ h => h) HT.out (Or.inl ⟨by rfl, fun W hSW => ?_⟩) ?_
    · exact held_row 30 (.tmp 7) rfl w2.heap.size rfl 30 _ (0, 0) _ (T3.b hSW) Try.underlying30 rfl HZI3.out
    try simp only [Act.put, List.setIfInBounds_toArray, List.set_cons_zero, List.set_cons_succ]
    refine wpAnyF_take () (i := 5) (oi := ⟨_, _, _, _, _, _⟩) (v := .agg (entC ent00 (.slice none 0 0) (.slice none 0 0) (.slice none 0 0) (.slice none 0 0) (.slice none 0 0) (.slice none 0 0))) rfl (by kernel_rfl) (by kernel_rfl) (by kernel_rfl) (by kernel_rfl) (fun _ _ _ h => h) HT.out (Or.inl ⟨by rfl, fun W hSW => ?_⟩) ?_
    · exact held_row 30 (.tmp 9) rfl w4.heap.size rfl 30 _ (0, 0) _ (T3.c hSW) Try.underlying30 rfl HZI5.out
    try simp only [Act.put, List.setIfInBounds_toArray, List.set_cons_zero, List.set_cons_succ]
    refine wpAnyF_ready (rs := [6]) (by kernel_rfl) (by simp) ?_
    refine AllReadyF.cons (o := ⟨_, _, _, _, _, _⟩) rfl (fun K hK => ?_) AllReadyF.nil
    rw [if_pos (by rfl)]
    go_simp
    go_at_call 10
    refine HM.out.mono ?_
    rintro r X1 ⟨rfl, hb⟩
    have HT1 := Lib.hid (T3.on HT.out hb)
    have HBD1 := Lib.hid (HBD.out.trans (hb.mono HBD.out.size))
    clear hb HM
    go_wp2_with fail
    refine hK.out _ _ (fun _ _ _ => HT1.out) ?_
    clear hK K
    try simp only [Act.put, List.setIfInBounds_toArray, List.set_cons_zero, List.set_cons_succ]
    refine wpAnyF_take0 (i := 7) (oi := ⟨_, _, _, _, _, _⟩) (v := .bool true) rfl (by kernel_rfl) (by kernel_rfl) (by kernel_rfl) (fun _ _ _ h => h) (Or.inl ⟨by rfl, fun W _ => ?_⟩) ?_
    · go_simp
    try simp only [Act.put, List.setIfInBounds_toArray, List.set_cons_zero, List.set_cons_succ]
    refine wpAnyF_take0 (i := 8) (oi := ⟨_, _, _, _, _, _⟩) (v := ?_) rfl (by kernel_rfl) (by kernel_rfl) (by kernel_rfl) (fun _ _ _ h => h) (Or.inl ⟨by rfl, ?_⟩) ?_
    rotate_left
    · intro W _
      go_simp
      try with_reducible rfl
    rotate_left
    try simp only [Act.put, List.setIfInBounds_toArray, List.set_cons_zero, List.set_cons_succ]
    refine wpAnyF_take () (i := 9) (oi := ⟨_, _, _, _, _, _⟩) (v := .agg (entC e s1 s2 s3 s4 s5 s6)) rfl (by kernel_rfl) (by kernel_rfl) (by kernel_rfl) (by kernel_rfl) (fun _ _ _ h => h) HT1.out (Or.inl ⟨by rfl, fun W hSW => ?_⟩) ?_
    · exact held_row 30 (.tmp 3) rfl w.heap.size rfl 30 _ (0, 0) _ (T3.a hSW) Try.underlying30 rfl HZI0.out
    try simp only [Act.put, List.setIfInBounds_toArray, List.set_cons_zero, List.set_cons_succ]
    refine wpAnyF_take0 (i := 10) (oi := ⟨_, _, _, _, _, _⟩) (v := ?_) rfl (by kernel_rfl) (by kernel_rfl) (by kernel_rfl) (fun _ _ _ h => h) (Or.inl ⟨by rfl, ?_⟩) ?_
    rotate_left
    · intro W _
      go_simp
      try with_reducible rfl
    rotate_left
    try simp only [Act.put, List.setIfInBounds_toArray, List.set_cons_zero, List.set_cons_succ]
    refine wpAnyF_take () (i := 12) (oi := ⟨_, _, _, _, _, _⟩) (v := .agg (entC e s1 s2 s3 s4 s5 s6)) rfl (by kernel_rfl) (by kernel_rfl) (by kernel_rfl) (by kernel_rfl) (fun _ _ _ h => h) HT1.out (Or.inl ⟨by rfl, fun W hSW => ?_⟩) ?_
    · exact held_row 30 (.tmp 3) rfl w.heap.size rfl 30 _ (0, 0) _ (T3.a hSW) Try.underlying30 rfl HZI0.out
    try simp only [Act.put, List.setIfInBounds_toArray, List.set_cons_zero, List.set_cons_succ]
    refine wpAnyF_take0 (i := 13) (oi := ⟨_, _, _, _, _, _⟩) (v := ?_) rfl (by kernel_rfl) (by kernel_rfl) (by kernel_rfl) (fun _ _ _ h => h) (Or.inl ⟨by rfl, ?_⟩) ?_
    rotate_left
    · intro W _
      go_simp
      try with_reducible rfl
    rotate_left
    try simp only [Act.put, List.setIfInBounds_toArray, List.set_cons_zero, List.set_cons_succ]
    have HN := Lib.hid (next_any X1 e s1 s2 s3 s4 s5 s6 lsn)
    refine wpAnyF_ready (rs := [11]) (by kernel_rfl) (by simp) ?_
    refine AllReadyF.cons (o := ⟨_, _, _, _, _, _⟩) rfl (fun K hK => ?_) AllReadyF.nil
    rw [if_pos (by rfl)]
    go_simp
    go_at_call 11
    refine HN.out.mono ?_
    rintro r X2 ⟨rfl, hb⟩
    have HT2 := Lib.hid (T3.on HT1.out hb)
    have HBD2 := Lib.hid (HBD1.out.trans (hb.mono HBD1.out.size))
    clear hb HN
    go_wp2_with fail
    refine hK.out _ _ (fun _ _ _ => HT2.out) ?_
    clear hK K
    try simp only [Act.put, List.setIfInBounds_toArray, List.set_cons_zero, List.set_cons_succ]
    have HN := Lib.hid (rnext_any X2 e s1 s2 s3 s4 s5 s6 lsn)
    refine wpAnyF_ready (rs := [14]) (by kernel_rfl) (by simp) ?_
    refine AllReadyF.cons (o := ⟨_, _, _, _, _, _⟩) rfl (fun K hK => ?_) AllReadyF.nil
    rw [if_pos (by rfl)]
    go_simp
    go_at_call 12
    refine HN.out.mono ?_
    rintro r X3 ⟨rfl, hb⟩
    have HT3 := Lib.hid (T3.on HT2.out hb)
    have HBD3 := Lib.hid (HBD2.out.trans (hb.mono HBD2.out.size))
    clear hb HN
    go_wp2_with fail
    refine hK.out _ _ (fun _ _ _ => HT3.out) ?_
    clear hK K
    try simp only [Act.put, List.setIfInBounds_toArray, List.set_cons_zero, List.set_cons_succ]
    refine wpAnyF_take0 (i := 15) (oi := ⟨_, _, _, _, _, _⟩) (v := .bool true) rfl (by kernel_rfl) (by kernel_rfl) (by kernel_rfl) (fun _ _ _ h => h) (Or.inl ⟨by rfl, fun W _ => ?_⟩) ?_
    · go_simp
    try simp only [Act.put, List.setIfInBounds_toArray, List.set_cons_zero, List.set_cons_succ]
    refine wpAnyF_take0 (i := 16) (oi := ⟨_, _, _, _, _, _⟩) (v := .bool true) rfl (by kernel_rfl) (by kernel_rfl) (by kernel_rfl) (fun _ _ _ h => h) (Or.inl ⟨by rfl, fun W _ => ?_⟩) ?_
    · go_simp
    try simp only [Act.put, List.setIfInBounds_toArray, List.set_cons_zero, List.set_cons_succ]
    refine wpAnyF_take0 (i := 17) (oi := ⟨_, _, _, _, _, _⟩) (v := .bool true) rfl (by kernel_rfl) (by kernel_rfl) (by kernel_rfl) (fun _ _ _ h => h) (Or.inl ⟨by rfl, fun W _ => ?_⟩) ?_
    · go_simp
    try simp only [Act.put, List.setIfInBounds_toArray, List.set_cons_zero, List.set_cons_succ]
    refine wpAnyF_done (by kernel_rfl) ?_ _
    go_wp2
    go_ret
    exact ⟨rfl, HBD3.out⟩
end Go.Proofs.Ythcndifbegmbkaa.Ud
