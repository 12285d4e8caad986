/- The reader: places, moves, lives, dirty pages, cells. -/
import Derived.Test.YtemmhligohebfaaEntR
import Derived.Laws.Tables
namespace Go.Proofs.Ytemmhligohebfaa
open Go.RowKit

/-- The reader, and the variable of the one who calls. -/
structure Hr (w0 ws : World) (p q : Nat) (cs : Array Value) (t : TypeId) (w : World) (sv : Value) (l : List Int) : Prop where
  rs : RS w0 w p sv l
  rd : Rd p ws w
  bx : w.heap[q]? = some (.cells cs t (0, 0))
  qs : ws.heap.size ≤ q
  pq : p < q

theorem Hr.init {w0 w : World} {p : Nat} {sv : Value} {l : List Int} (h : RS w0 w p sv l) (cs : Array Value) (t : TypeId) : Hr w0 w p w.heap.size cs t (w.alloc (.cells cs t)) sv l :=
  ⟨h.on ((Below.refl _ _).alloc (Nat.le_refl _) _), Rd.of_below ((Below.refl _ _).alloc (Nat.le_refl _) _), heap_alloc_new w _, Nat.le_refl _, h.lt⟩
section
variable {w0 ws w w' : World} {p q : Nat} {cs cs' : Array Value} {t : TypeId} {sv sv' : Value} {l l' : List Int}
theorem Hr.lt (H : Hr w0 ws p q cs t w sv l) : q < w.heap.size := (Array.getElem?_eq_some_iff.1 H.bx).1
theorem Hr.step (H : Hr w0 ws p q cs t w sv l) (h : RS w0 w' p sv' l') (g : Rd p w w') : Hr w0 ws p q cs t w' sv' l' :=
  ⟨h, H.rd.trans g, (g.block q H.lt (Nat.ne_of_gt H.pq)).trans H.bx, H.qs, H.pq⟩
theorem Hr.put (H : Hr w0 ws p q cs t w sv l) (i : Nat) (v : Value) (h : cs.setIfInBounds i v = cs') : Hr w0 ws p q cs' t (w.setCell ⟨q, i, none⟩ v) sv l := by
  have hp := H.pq
  have hs := H.qs
  refine ⟨⟨(setCell_far _ _ _ _ (by omega)).trans H.rs.bx, H.rs.sl, H.rs.bel.trans ⟨rfl, rfl, rfl, by simp, fun k hk => setCell_far _ _ _ _ (by omega)⟩, H.rs.le⟩, ⟨H.rd.os, H.rd.tape, H.rd.output, by simpa using H.rd.size, fun k hk hne => ?_⟩, ?_, hs, hp⟩
  · exact (setCell_far _ _ _ _ (by omega)).trans (H.rd.block k hk hne)
  · rw [heap_setCell_same w q i _ _ _ H.bx, h]
theorem Hr.c (H : Hr w0 ws p q cs t w sv l) (i : Nat) : w.cell? ⟨q, i, none⟩ = cs[i]? := (cell_of H.bx i).1
theorem Hr.f (H : Hr w0 ws p q cs t w sv l) (i : Nat) : w.frozen? ⟨q, i, none⟩ = false := (cell_of H.bx i).2
theorem Hr.post (H : Hr w0 ws p q cs t w sv l) {r : Value} : RPost w0 ws p r l (.returned r) w := ⟨rfl, sv, H.rs, H.rd⟩
end
def plV (l : List Int) : Array Value := #[.int .i64 (numR l 1), .int .i64 (numR (dr l 1) 1)]
theorem infoRid : (Try.prog.info? 33).map (·.size) = some 2 := by kernel_rfl
theorem infoMove : (Try.prog.info? 104).map (·.size) = some 4 := by kernel_rfl
theorem infoLive : (Try.prog.info? 106).map (·.size) = some 4 := by kernel_rfl
theorem infoDirty : (Try.prog.info? 108).map (·.size) = some 2 := by kernel_rfl
theorem infoOpen : (Try.prog.info? 110).map (·.size) = some 3 := by kernel_rfl

set_option maxRecDepth 100000 in
set_option maxHeartbeats 400000 in
theorem rplace_any {w0 w : World} {p : Nat} {sv : Value} {l : List Int} (h : RS w0 w p sv l) :
    Calls Try.prog 77 #[.pointer (some ⟨p, 0, none⟩)] w (RPost w0 w p (.agg (plV l)) (dr l 2)) := by
  have HH := Lib.hid (Hr.init h #[.int .i64 0, .int .i64 0] 33)
  clear h
  go_enter Try.func77, Try.ntmps77
  go_wp2_with fail
  refine (rnum_any HH.out.rs 1 (by omega)).mono ?_
  rintro e w1 ⟨rfl, s1, h1, g1⟩
  have H1 := HH.out.step h1 g1
  have c0 : w1.cell? ⟨w.heap.size, 0, none⟩ = some (.int .i64 0) := H1.c 0
  have f0 := H1.f 0
  have HH1 := Lib.hid (H1.put (cs' := #[.int .i64 (numR l 1), .int .i64 0]) 0 (.int .i64 (numR l 1)) rfl)
  clear h1 g1 H1
  go_wp2_with fail
  refine (rnum_any HH1.out.rs 1 (by omega)).mono ?_
  rintro e w2 ⟨rfl, s2, h2, g2⟩
  have H2 := HH1.out.step h2 g2
  have c1 : w2.cell? ⟨w.heap.size, 1, none⟩ = some (.int .i64 0) := H2.c 1
  have f1 := H2.f 1
  have H3 := H2.put (cs' := #[.int .i64 (numR l 1), .int .i64 (numR (dr l 1) 1)]) 1 (.int .i64 (numR (dr l 1) 1)) rfl
  have HB := Lib.hid H3.bx
  have HA := Lib.hid (show (#[.int .i64 (numR l 1), .int .i64 (numR (dr l 1) 1)] : Array Value).all (·.oneCell') = true from by simp [Value.oneCell'])
  have HE := Lib.hid (setRow_self _ _ _ _ _ H3.bx)
  have HF := Lib.hid (show (Try.prog.info? 33).map (·.size) = some (#[.int .i64 (numR l 1), .int .i64 (numR (dr l 1) 1)] : Array Value).size from infoRid)
  have HH3 := Lib.hid H3
  clear h2 g2 H2 H3 c0 f0
  go_upto_region 3 with (fail)
  generalize w2.setCell ⟨w.heap.size, 1, none⟩ (.int .i64 (numR (dr l 1) 1)) = w3 at *
  go_wp2_with (first
    | (with_reducible refine wpList_load_row rfl 33 (.tmp 2) rfl w.heap.size rfl 33 _ (0, 0) _ HB.out Try.underlying33 rfl HF.out ?_)
    | (with_reducible refine wpList_store_row rfl 33 (.tmp 2) (.tmp 9) rfl w.heap.size _ rfl rfl 33 _ HB.out HF.out rfl HA.out ?_))
  rw [HE.out]
  refine bodyPost_ret (v := .agg (plV l)) ?_ rfl ?_
  · exact results_cell_row Try.results77 _ _ _ _ _ _ _ rfl HB.out Try.underlying33 rfl HF.out
  · have := HH3.out.post (r := .agg (plV l))
    rw [dr_dr] at this
    exact this

set_option maxRecDepth 100000 in
set_option maxHeartbeats 1000000 in
theorem rmove_any {w0 w : World} {p : Nat} {sv : Value} {l : List Int} (h : RS w0 w p sv l) :
    Calls Try.prog 80 #[.pointer (some ⟨p, 0, none⟩)] w (RPost w0 w p (.agg (mvV (mvR l).1).toArray) (mvR l).2) := by
  have HH0 := Lib.hid (Hr.init h #[.int .i64 0, .int .i64 0, .int .i64 0, .int .i64 0] 104)
  clear h
  go_enter Try.func80, Try.ntmps80
  go_wp2_with fail
  refine (rplace_any HH0.out.rs).mono ?_
  rintro e w1 ⟨he, s1, h1, g1⟩
  rw [show plV l = #[.int .i64 (numR l 1), .int .i64 (numR (dr l 1) 1)] from rfl] at he
  subst he
  have H1 := HH0.out.step h1 g1
  have c0 : w1.cell? ⟨w.heap.size, 0, none⟩ = some (.int .i64 0) := H1.c 0
  have f0 := H1.f 0
  have c1 : w1.cell? ⟨w.heap.size, 1, none⟩ = some (.int .i64 0) := H1.c 1
  have f1 := H1.f 1
  have HH1 := Lib.hid ((H1.put (cs' := #[.int .i64 (numR l 1), .int .i64 0, .int .i64 0, .int .i64 0]) 0 (.int .i64 (numR l 1)) rfl).put (cs' := #[.int .i64 (numR l 1), .int .i64 (numR (dr l 1) 1), .int .i64 0, .int .i64 0]) 1 (.int .i64 (numR (dr l 1) 1)) rfl)
  clear h1 g1 H1
  go_wp2_with fail
  refine (rplace_any HH1.out.rs).mono ?_
  rintro e w2 ⟨he, s1, h1, g1⟩
  rw [show plV (dr l 2) = #[.int .i64 (numR (dr l 2) 1), .int .i64 (numR (dr l 3) 1)] from by unfold plV; rw [dr_dr]] at he
  subst he
  rw [dr_dr] at h1
  have H1 := HH1.out.step h1 g1
  have c2 : w2.cell? ⟨w.heap.size, 2, none⟩ = some (.int .i64 0) := H1.c 2
  have f2 := H1.f 2
  have c3 : w2.cell? ⟨w.heap.size, 3, none⟩ = some (.int .i64 0) := H1.c 3
  have f3 := H1.f 3
  have HH2 := Lib.hid ((H1.put (cs' := #[.int .i64 (numR l 1), .int .i64 (numR (dr l 1) 1), .int .i64 (numR (dr l 2) 1), .int .i64 0]) 2 (.int .i64 (numR (dr l 2) 1)) rfl).put (cs' := #[.int .i64 (numR l 1), .int .i64 (numR (dr l 1) 1), .int .i64 (numR (dr l 2) 1), .int .i64 (numR (dr l 3) 1)]) 3 (.int .i64 (numR (dr l 3) 1)) rfl)
  clear h1 g1 H1 c0 f0 c1 f1
  have HB := Lib.hid HH2.out.bx
  have HE := Lib.hid (setRow_self _ _ _ _ _ HH2.out.bx)
  have HF := Lib.hid (show (Try.prog.info? 104).map (·.size) = some (#[.int .i64 (numR l 1), .int .i64 (numR (dr l 1) 1), .int .i64 (numR (dr l 2) 1), .int .i64 (numR (dr l 3) 1)] : Array Value).size from infoMove)
  have HA := Lib.hid (show (#[.int .i64 (numR l 1), .int .i64 (numR (dr l 1) 1), .int .i64 (numR (dr l 2) 1), .int .i64 (numR (dr l 3) 1)] : Array Value).all (·.oneCell') = true from by simp [Value.oneCell'])
  go_upto_region 3 with (fail)
  generalize ((w2.setCell ⟨w.heap.size, 2, none⟩ (.int .i64 (numR (dr l 2) 1))).setCell ⟨w.heap.size, 3, none⟩ (.int .i64 (numR (dr l 3) 1))) = wz at *
  clear c2 f2 c3 f3
  go_wp2_with (first
    | (with_reducible refine wpList_load_row rfl 104 (.tmp 2) rfl w.heap.size rfl 104 _ (0, 0) _ HB.out Try.underlying104 rfl HF.out ?_)
    | (with_reducible refine wpList_store_row rfl 104 (.tmp 2) (.tmp 9) rfl w.heap.size _ rfl rfl 104 _ HB.out HF.out rfl HA.out ?_))
  rw [HE.out]
  refine bodyPost_ret (v := .agg #[.int .i64 (numR l 1), .int .i64 (numR (dr l 1) 1), .int .i64 (numR (dr l 2) 1), .int .i64 (numR (dr l 3) 1)]) ?_ rfl ?_
  · exact results_cell_row Try.results80 _ _ _ _ _ _ _ rfl HB.out Try.underlying104 rfl HF.out
  · exact HH2.out.post

set_option maxRecDepth 100000 in
set_option maxHeartbeats 1000000 in
theorem rlive_any {w0 w : World} {p : Nat} {sv : Value} {l : List Int} (h : RS w0 w p sv l) :
    Calls Try.prog 82 #[.pointer (some ⟨p, 0, none⟩)] w (RPost w0 w p (.agg (lvV (lvR l).1).toArray) (lvR l).2) := by
  have HH0 := Lib.hid (Hr.init h #[.int .i64 0, .int .i64 0, .int .i64 0, .bool false] 106)
  clear h
  go_enter Try.func82, Try.ntmps82
  go_wp2_with fail
  refine (rnum_any HH0.out.rs 1 (by omega)).mono ?_
  rintro e w1 ⟨rfl, s1, h1, g1⟩
  have H1 := HH0.out.step h1 g1
  have c0 : w1.cell? ⟨w.heap.size, 0, none⟩ = some (.int .i64 0) := H1.c 0
  have f0 := H1.f 0
  have HH1 := Lib.hid (H1.put (cs' := #[.int .i64 (numR l 1), .int .i64 0, .int .i64 0, .bool false]) 0 (.int .i64 (numR l 1)) rfl)
  clear h1 g1 H1
  go_wp2_with fail
  refine (rnum_any HH1.out.rs 3 (by omega)).mono ?_
  rintro e w2 ⟨rfl, s1, h1, g1⟩
  rw [dr_dr] at h1
  have H1 := HH1.out.step h1 g1
  have c1 : w2.cell? ⟨w.heap.size, 1, none⟩ = some (.int .i64 0) := H1.c 1
  have f1 := H1.f 1
  have HH2 := Lib.hid (H1.put (cs' := #[.int .i64 (numR l 1), .int .i64 (numR (dr l 1) 3), .int .i64 0, .bool false]) 1 (.int .i64 (numR (dr l 1) 3)) rfl)
  clear h1 g1 H1 c0 f0
  go_wp2_with fail
  refine (rnum_any HH2.out.rs 3 (by omega)).mono ?_
  rintro e w3 ⟨rfl, s1, h1, g1⟩
  rw [dr_dr] at h1
  have H1 := HH2.out.step h1 g1
  have c2 : w3.cell? ⟨w.heap.size, 2, none⟩ = some (.int .i64 0) := H1.c 2
  have f2 := H1.f 2
  have HH3 := Lib.hid (H1.put (cs' := #[.int .i64 (numR l 1), .int .i64 (numR (dr l 1) 3), .int .i64 (numR (dr l 4) 3), .bool false]) 2 (.int .i64 (numR (dr l 4) 3)) rfl)
  clear h1 g1 H1 c1 f1
  go_wp2_with fail
  refine (rnum_any HH3.out.rs 1 (by omega)).mono ?_
  rintro e w4 ⟨rfl, s1, h1, g1⟩
  rw [dr_dr] at h1
  have H1 := HH3.out.step h1 g1
  have c3 : w4.cell? ⟨w.heap.size, 3, none⟩ = some (.bool false) := H1.c 3
  have f3 := H1.f 3
  have HH4 := Lib.hid (H1.put (cs' := #[.int .i64 (numR l 1), .int .i64 (numR (dr l 1) 3), .int .i64 (numR (dr l 4) 3), .bool (numR (dr l 7) 1 == 1)]) 3 (.bool (numR (dr l 7) 1 == 1)) rfl)
  clear h1 g1 H1 c2 f2
  have HB := Lib.hid HH4.out.bx
  have HE := Lib.hid (setRow_self _ _ _ _ _ HH4.out.bx)
  have HF := Lib.hid (show (Try.prog.info? 106).map (·.size) = some (#[.int .i64 (numR l 1), .int .i64 (numR (dr l 1) 3), .int .i64 (numR (dr l 4) 3), .bool (numR (dr l 7) 1 == 1)] : Array Value).size from infoLive)
  have HA := Lib.hid (show (#[.int .i64 (numR l 1), .int .i64 (numR (dr l 1) 3), .int .i64 (numR (dr l 4) 3), .bool (numR (dr l 7) 1 == 1)] : Array Value).all (·.oneCell') = true from by simp [Value.oneCell'])
  go_upto_region 5 with (fail)
  generalize (w4.setCell ⟨w.heap.size, 3, none⟩ (.bool (numR (dr l 7) 1 == 1))) = wz at *
  clear c3 f3
  go_wp2_with (first
    | (with_reducible refine wpList_load_row rfl 106 (.tmp 2) rfl w.heap.size rfl 106 _ (0, 0) _ HB.out Try.underlying106 rfl HF.out ?_)
    | (with_reducible refine wpList_store_row rfl 106 (.tmp 2) (.tmp 16) rfl w.heap.size _ rfl rfl 106 _ HB.out HF.out rfl HA.out ?_))
  rw [HE.out]
  refine bodyPost_ret (v := .agg #[.int .i64 (numR l 1), .int .i64 (numR (dr l 1) 3), .int .i64 (numR (dr l 4) 3), .bool (numR (dr l 7) 1 == 1)]) ?_ rfl ?_
  · exact results_cell_row Try.results82 _ _ _ _ _ _ _ rfl HB.out Try.underlying106 rfl HF.out
  · exact HH4.out.post

set_option maxRecDepth 100000 in
set_option maxHeartbeats 1000000 in
theorem rdirty_any {w0 w : World} {p : Nat} {sv : Value} {l : List Int} (h : RS w0 w p sv l) :
    Calls Try.prog 84 #[.pointer (some ⟨p, 0, none⟩)] w (RPost w0 w p (.agg (dtV (dtR l).1).toArray) (dtR l).2) := by
  have HH0 := Lib.hid (Hr.init h #[.int .i64 0, .int .i64 0] 108)
  clear h
  go_enter Try.func84, Try.ntmps84
  go_wp2_with fail
  refine (rnum_any HH0.out.rs 1 (by omega)).mono ?_
  rintro e w1 ⟨rfl, s1, h1, g1⟩
  have H1 := HH0.out.step h1 g1
  have c0 : w1.cell? ⟨w.heap.size, 0, none⟩ = some (.int .i64 0) := H1.c 0
  have f0 := H1.f 0
  have HH1 := Lib.hid (H1.put (cs' := #[.int .i64 (numR l 1), .int .i64 0]) 0 (.int .i64 (numR l 1)) rfl)
  clear h1 g1 H1
  go_wp2_with fail
  refine (rnum_any HH1.out.rs 3 (by omega)).mono ?_
  rintro e w2 ⟨rfl, s1, h1, g1⟩
  rw [dr_dr] at h1
  have H1 := HH1.out.step h1 g1
  have c1 : w2.cell? ⟨w.heap.size, 1, none⟩ = some (.int .i64 0) := H1.c 1
  have f1 := H1.f 1
  have HH2 := Lib.hid (H1.put (cs' := #[.int .i64 (numR l 1), .int .i64 (numR (dr l 1) 3)]) 1 (.int .i64 (numR (dr l 1) 3)) rfl)
  clear h1 g1 H1 c0 f0
  have HB := Lib.hid HH2.out.bx
  have HE := Lib.hid (setRow_self _ _ _ _ _ HH2.out.bx)
  have HF := Lib.hid (show (Try.prog.info? 108).map (·.size) = some (#[.int .i64 (numR l 1), .int .i64 (numR (dr l 1) 3)] : Array Value).size from infoDirty)
  have HA := Lib.hid (show (#[.int .i64 (numR l 1), .int .i64 (numR (dr l 1) 3)] : Array Value).all (·.oneCell') = true from by simp [Value.oneCell'])
  go_upto_region 3 with (fail)
  generalize (w2.setCell ⟨w.heap.size, 1, none⟩ (.int .i64 (numR (dr l 1) 3))) = wz at *
  clear c1 f1
  go_wp2_with (first
    | (with_reducible refine wpList_load_row rfl 108 (.tmp 2) rfl w.heap.size rfl 108 _ (0, 0) _ HB.out Try.underlying108 rfl HF.out ?_)
    | (with_reducible refine wpList_store_row rfl 108 (.tmp 2) (.tmp 9) rfl w.heap.size _ rfl rfl 108 _ HB.out HF.out rfl HA.out ?_))
  rw [HE.out]
  refine bodyPost_ret (v := .agg #[.int .i64 (numR l 1), .int .i64 (numR (dr l 1) 3)]) ?_ rfl ?_
  · exact results_cell_row Try.results84 _ _ _ _ _ _ _ rfl HB.out Try.underlying108 rfl HF.out
  · exact HH2.out.post

end Go.Proofs.Ytemmhligohebfaa
