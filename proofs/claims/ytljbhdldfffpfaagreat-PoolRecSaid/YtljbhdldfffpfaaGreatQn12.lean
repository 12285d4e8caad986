/- PoolNone, a part. -/
import Derived.Test.YtljbhdldfffpfaaGreatQn11
import Derived.Laws.Tables
import Derived.Deep.RegionWith
namespace Go.Proofs.YtljbhdldfffpfaaGreat
open Go.RowKit

/-- The reader, and the variable of the one who calls. -/
structure Hr (w0 ws : World) (p q : Nat) (cs : Array Value) (t : TypeId) (w : World) (sv : Value) (l : List Int) : Prop where
  rs : RS w0 w p sv l
  rd : Rd p ws w
  bx : w.heap[q]? = some (.cells cs t (0, 0))
  qs : ws.heap.size ≤ q
  pq : p < q

theorem Hr.init {w0 w : World} {p : Nat} {sv : Value} {l : List Int} (h : RS w0 w p sv l) (cs : Array Value) (t : TypeId) : Hr w0 w p w.heap.size cs t (w.alloc (.cells cs t)) sv l :=
  ⟨h.on ((Below.refl _ _).alloc (Nat.le_refl _) _), Rd.of_below ((Below.refl _ _).alloc (Nat.le_refl _) _), heap_alloc_new w _, Nat.le_refl _, h.lt⟩
section
variable {w0 ws w w' : World} {p q : Nat} {cs cs' : Array Value} {t : TypeId} {sv sv' : Value} {l l' : List Int}
theorem Hr.lt (H : Hr w0 ws p q cs t w sv l) : q < w.heap.size := (Array.getElem?_eq_some_iff.1 H.bx).1
theorem Hr.step (H : Hr w0 ws p q cs t w sv l) (h : RS w0 w' p sv' l') (g : Rd p w w') : Hr w0 ws p q cs t w' sv' l' :=
  ⟨h, H.rd.trans g, (g.block q H.lt (Nat.ne_of_gt H.pq)).trans H.bx, H.qs, H.pq⟩
theorem Hr.put (H : Hr w0 ws p q cs t w sv l) (i : Nat) (v : Value) (h : cs.setIfInBounds i v = cs') : Hr w0 ws p q cs' t (w.setCell ⟨q, i, none⟩ v) sv l := by
  have hp := H.pq
  have hs := H.qs
  refine ⟨⟨(setCell_far _ _ _ _ (by omega)).trans H.rs.bx, H.rs.sl, H.rs.bel.trans ⟨rfl, rfl, rfl, by simp, fun k hk => setCell_far _ _ _ _ (by omega)⟩, H.rs.le⟩, ⟨H.rd.os, H.rd.tape, H.rd.output, by simpa using H.rd.size, fun k hk hne => ?_⟩, ?_, hs, hp⟩
  · exact (setCell_far _ _ _ _ (by omega)).trans (H.rd.block k hk hne)
  · rw [heap_setCell_same w q i _ _ _ H.bx, h]
theorem Hr.c (H : Hr w0 ws p q cs t w sv l) (i : Nat) : w.cell? ⟨q, i, none⟩ = cs[i]? := (cell_of H.bx i).1
theorem Hr.f (H : Hr w0 ws p q cs t w sv l) (i : Nat) : w.frozen? ⟨q, i, none⟩ = false := (cell_of H.bx i).2
theorem Hr.post (H : Hr w0 ws p q cs t w sv l) {r : Value} : RPost w0 ws p r l (.returned r) w := ⟨rfl, sv, H.rs, H.rd⟩
end
def plV (l : List Int) : Array Value := #[.int .i64 (numR l 1), .int .i64 (numR (dr l 1) 1)]
theorem infoRid : (Tryz.prog.info? 49).map (·.size) = some 2 := by kernel_rfl
theorem infoMove : (Tryz.prog.info? 196).map (·.size) = some 4 := by kernel_rfl
theorem infoLive : (Tryz.prog.info? 201).map (·.size) = some 4 := by kernel_rfl
theorem infoDirty : (Tryz.prog.info? 74).map (·.size) = some 2 := by kernel_rfl
theorem infoOpen : (Tryz.prog.info? 209).map (·.size) = some 3 := by kernel_rfl

set_option maxRecDepth 100000 in
set_option maxHeartbeats 400000 in
theorem rplace_any {w0 w : World} {p : Nat} {sv : Value} {l : List Int} (h : RS w0 w p sv l) :
    Calls Tryz.prog 150 #[.pointer (some ⟨p, 0, none⟩)] w (RPost w0 w p (.agg (plV l)) (dr l 2)) := by
  have HH := Lib.hid (Hr.init h #[.int .i64 0, .int .i64 0] 49)
  clear h
  go_enter Tryz.func150, Tryz.ntmps150
  go_wp2_with fail
  refine (rnum_any HH.out.rs 1 (by omega)).mono ?_
  rintro e w1 ⟨rfl, s1, h1, g1⟩
  have H1 := HH.out.step h1 g1
  have c0 : w1.cell? ⟨w.heap.size, 0, none⟩ = some (.int .i64 0) := H1.c 0
  have f0 := H1.f 0
  have HH1 := Lib.hid (H1.put (cs' := #[.int .i64 (numR l 1), .int .i64 0]) 0 (.int .i64 (numR l 1)) rfl)
  clear h1 g1 H1
  go_wp2_with fail
  refine (rnum_any HH1.out.rs 1 (by omega)).mono ?_
  rintro e w2 ⟨rfl, s2, h2, g2⟩
  have H2 := HH1.out.step h2 g2
  have c1 : w2.cell? ⟨w.heap.size, 1, none⟩ = some (.int .i64 0) := H2.c 1
  have f1 := H2.f 1
  have H3 := H2.put (cs' := #[.int .i64 (numR l 1), .int .i64 (numR (dr l 1) 1)]) 1 (.int .i64 (numR (dr l 1) 1)) rfl
  have HB := Lib.hid H3.bx
  have HA := Lib.hid (show (#[.int .i64 (numR l 1), .int .i64 (numR (dr l 1) 1)] : Array Value).all (·.oneCell') = true from by simp [Value.oneCell'])
  have HE := Lib.hid (setRow_self _ _ _ _ _ H3.bx)
  have HF := Lib.hid (show (Tryz.prog.info? 49).map (·.size) = some (#[.int .i64 (numR l 1), .int .i64 (numR (dr l 1) 1)] : Array Value).size from infoRid)
  have HH3 := Lib.hid H3
  clear h2 g2 H2 H3 c0 f0
  go_upto_region 3 with (fail)
  generalize w2.setCell ⟨w.heap.size, 1, none⟩ (.int .i64 (numR (dr l 1) 1)) = w3 at *
  go_wp2_with (first
    | (with_reducible refine wpList_load_row rfl 49 (.tmp 2) rfl w.heap.size rfl 49 _ (0, 0) _ HB.out Tryz.underlying49 rfl HF.out ?_)
    | (with_reducible refine wpList_store_row rfl 49 (.tmp 2) (.tmp 9) rfl w.heap.size _ rfl rfl 49 _ HB.out HF.out rfl HA.out ?_))
  rw [HE.out]
  refine bodyPost_ret (v := .agg (plV l)) ?_ rfl ?_
  · exact results_cell_row Tryz.results150 _ _ _ _ _ _ _ rfl HB.out Tryz.underlying49 rfl HF.out
  · have := HH3.out.post (r := .agg (plV l))
    rw [dr_dr] at this
    exact this

set_option maxRecDepth 100000 in
set_option maxHeartbeats 1000000 in
theorem rmove_any {w0 w : World} {p : Nat} {sv : Value} {l : List Int} (h : RS w0 w p sv l) :
    Calls Tryz.prog 153 #[.pointer (some ⟨p, 0, none⟩)] w (RPost w0 w p (.agg (mvV (mvR l).1).toArray) (mvR l).2) := by
  have HH0 := Lib.hid (Hr.init h #[.int .i64 0, .int .i64 0, .int .i64 0, .int .i64 0] 196)
  clear h
  go_enter Tryz.func153, Tryz.ntmps153
  go_wp2_with fail
  refine (rplace_any HH0.out.rs).mono ?_
  rintro e w1 ⟨he, s1, h1, g1⟩
  rw [show plV l = #[.int .i64 (numR l 1), .int .i64 (numR (dr l 1) 1)] from rfl] at he
  subst he
  have H1 := HH0.out.step h1 g1
  have c0 : w1.cell? ⟨w.heap.size, 0, none⟩ = some (.int .i64 0) := H1.c 0
  have f0 := H1.f 0
  have c1 : w1.cell? ⟨w.heap.size, 1, none⟩ = some (.int .i64 0) := H1.c 1
  have f1 := H1.f 1
  have HH1 := Lib.hid ((H1.put (cs' := #[.int .i64 (numR l 1), .int .i64 0, .int .i64 0, .int .i64 0]) 0 (.int .i64 (numR l 1)) rfl).put (cs' := #[.int .i64 (numR l 1), .int .i64 (numR (dr l 1) 1), .int .i64 0, .int .i64 0]) 1 (.int .i64 (numR (dr l 1) 1)) rfl)
  clear h1 g1 H1
  go_wp2_with fail
  refine (rplace_any HH1.out.rs).mono ?_
  rintro e w2 ⟨he, s1, h1, g1⟩
  rw [show plV (dr l 2) = #[.int .i64 (numR (dr l 2) 1), .int .i64 (numR (dr l 3) 1)] from by unfold plV; rw [dr_dr]] at he
  subst he
  rw [dr_dr] at h1
  have H1 := HH1.out.step h1 g1
  have c2 : w2.cell? ⟨w.heap.size, 2, none⟩ = some (.int .i64 0) := H1.c 2
  have f2 := H1.f 2
  have c3 : w2.cell? ⟨w.heap.size, 3, none⟩ = some (.int .i64 0) := H1.c 3
  have f3 := H1.f 3
  have HH2 := Lib.hid ((H1.put (cs' := #[.int .i64 (numR l 1), .int .i64 (numR (dr l 1) 1), .int .i64 (numR (dr l 2) 1), .int .i64 0]) 2 (.int .i64 (numR (dr l 2) 1)) rfl).put (cs' := #[.int .i64 (numR l 1), .int .i64 (numR (dr l 1) 1), .int .i64 (numR (dr l 2) 1), .int .i64 (numR (dr l 3) 1)]) 3 (.int .i64 (numR (dr l 3) 1)) rfl)
  clear h1 g1 H1 c0 f0 c1 f1
  have HB := Lib.hid HH2.out.bx
  have HE := Lib.hid (setRow_self _ _ _ _ _ HH2.out.bx)
  have HF := Lib.hid (show (Tryz.prog.info? 196).map (·.size) = some (#[.int .i64 (numR l 1), .int .i64 (numR (dr l 1) 1), .int .i64 (numR (dr l 2) 1), .int .i64 (numR (dr l 3) 1)] : Array Value).size from infoMove)
  have HA := Lib.hid (show (#[.int .i64 (numR l 1), .int .i64 (numR (dr l 1) 1), .int .i64 (numR (dr l 2) 1), .int .i64 (numR (dr l 3) 1)] : Array Value).all (·.oneCell') = true from by simp [Value.oneCell'])
  go_upto_region 3 with (fail)
  generalize ((w2.setCell ⟨w.heap.size, 2, none⟩ (.int .i64 (numR (dr l 2) 1))).setCell ⟨w.heap.size, 3, none⟩ (.int .i64 (numR (dr l 3) 1))) = wz at *
  clear c2 f2 c3 f3
  go_wp2_with (first
    | (with_reducible refine wpList_load_row rfl 196 (.tmp 2) rfl w.heap.size rfl 196 _ (0, 0) _ HB.out Tryz.underlying196 rfl HF.out ?_)
    | (with_reducible refine wpList_store_row rfl 196 (.tmp 2) (.tmp 9) rfl w.heap.size _ rfl rfl 196 _ HB.out HF.out rfl HA.out ?_))
  rw [HE.out]
  refine bodyPost_ret (v := .agg #[.int .i64 (numR l 1), .int .i64 (numR (dr l 1) 1), .int .i64 (numR (dr l 2) 1), .int .i64 (numR (dr l 3) 1)]) ?_ rfl ?_
  · exact results_cell_row Tryz.results153 _ _ _ _ _ _ _ rfl HB.out Tryz.underlying196 rfl HF.out
  · exact HH2.out.post

set_option maxRecDepth 100000 in
set_option maxHeartbeats 1000000 in
theorem rlive_any {w0 w : World} {p : Nat} {sv : Value} {l : List Int} (h : RS w0 w p sv l) :
    Calls Tryz.prog 155 #[.pointer (some ⟨p, 0, none⟩)] w (RPost w0 w p (.agg (lvV (lvR l).1).toArray) (lvR l).2) := by
  have HH0 := Lib.hid (Hr.init h #[.int .i64 0, .int .i64 0, .int .i64 0, .bool false] 201)
  clear h
  go_enter Tryz.func155, Tryz.ntmps155
  go_wp2_with fail
  refine (rnum_any HH0.out.rs 1 (by omega)).mono ?_
  rintro e w1 ⟨rfl, s1, h1, g1⟩
  have H1 := HH0.out.step h1 g1
  have c0 : w1.cell? ⟨w.heap.size, 0, none⟩ = some (.int .i64 0) := H1.c 0
  have f0 := H1.f 0
  have HH1 := Lib.hid (H1.put (cs' := #[.int .i64 (numR l 1), .int .i64 0, .int .i64 0, .bool false]) 0 (.int .i64 (numR l 1)) rfl)
  clear h1 g1 H1
  go_wp2_with fail
  refine (rnum_any HH1.out.rs 3 (by omega)).mono ?_
  rintro e w2 ⟨rfl, s1, h1, g1⟩
  rw [dr_dr] at h1
  have H1 := HH1.out.step h1 g1
  have c1 : w2.cell? ⟨w.heap.size, 1, none⟩ = some (.int .i64 0) := H1.c 1
  have f1 := H1.f 1
  have HH2 := Lib.hid (H1.put (cs' := #[.int .i64 (numR l 1), .int .i64 (numR (dr l 1) 3), .int .i64 0, .bool false]) 1 (.int .i64 (numR (dr l 1) 3)) rfl)
  clear h1 g1 H1 c0 f0
  go_wp2_with fail
  refine (rnum_any HH2.out.rs 3 (by omega)).mono ?_
  rintro e w3 ⟨rfl, s1, h1, g1⟩
  rw [dr_dr] at h1
  have H1 := HH2.out.step h1 g1
  have c2 : w3.cell? ⟨w.heap.size, 2, none⟩ = some (.int .i64 0) := H1.c 2
  have f2 := H1.f 2
  have HH3 := Lib.hid (H1.put (cs' := #[.int .i64 (numR l 1), .int .i64 (numR (dr l 1) 3), .int .i64 (numR (dr l 4) 3), .bool false]) 2 (.int .i64 (numR (dr l 4) 3)) rfl)
  clear h1 g1 H1 c1 f1
  go_wp2_with fail
  refine (rnum_any HH3.out.rs 1 (by omega)).mono ?_
  rintro e w4 ⟨rfl, s1, h1, g1⟩
  rw [dr_dr] at h1
  have H1 := HH3.out.step h1 g1
  have c3 : w4.cell? ⟨w.heap.size, 3, none⟩ = some (.bool false) := H1.c 3
  have f3 := H1.f 3
  have HH4 := Lib.hid (H1.put (cs' := #[.int .i64 (numR l 1), .int .i64 (numR (dr l 1) 3), .int .i64 (numR (dr l 4) 3), .bool (numR (dr l 7) 1 == 1)]) 3 (.bool (numR (dr l 7) 1 == 1)) rfl)
  clear h1 g1 H1 c2 f2
  have HB := Lib.hid HH4.out.bx
  have HE := Lib.hid (setRow_self _ _ _ _ _ HH4.out.bx)
  have HF := Lib.hid (show (Tryz.prog.info? 201).map (·.size) = some (#[.int .i64 (numR l 1), .int .i64 (numR (dr l 1) 3), .int .i64 (numR (dr l 4) 3), .bool (numR (dr l 7) 1 == 1)] : Array Value).size from infoLive)
  have HA := Lib.hid (show (#[.int .i64 (numR l 1), .int .i64 (numR (dr l 1) 3), .int .i64 (numR (dr l 4) 3), .bool (numR (dr l 7) 1 == 1)] : Array Value).all (·.oneCell') = true from by simp [Value.oneCell'])
  go_upto_region 5 with (fail)
  generalize (w4.setCell ⟨w.heap.size, 3, none⟩ (.bool (numR (dr l 7) 1 == 1))) = wz at *
  clear c3 f3
  go_wp2_with (first
    | (with_reducible refine wpList_load_row rfl 201 (.tmp 2) rfl w.heap.size rfl 201 _ (0, 0) _ HB.out Tryz.underlying201 rfl HF.out ?_)
    | (with_reducible refine wpList_store_row rfl 201 (.tmp 2) (.tmp 16) rfl w.heap.size _ rfl rfl 201 _ HB.out HF.out rfl HA.out ?_))
  rw [HE.out]
  refine bodyPost_ret (v := .agg #[.int .i64 (numR l 1), .int .i64 (numR (dr l 1) 3), .int .i64 (numR (dr l 4) 3), .bool (numR (dr l 7) 1 == 1)]) ?_ rfl ?_
  · exact results_cell_row Tryz.results155 _ _ _ _ _ _ _ rfl HB.out Tryz.underlying201 rfl HF.out
  · exact HH4.out.post

set_option maxRecDepth 100000 in
set_option maxHeartbeats 1000000 in
theorem rdirty_any {w0 w : World} {p : Nat} {sv : Value} {l : List Int} (h : RS w0 w p sv l) :
    Calls Tryz.prog 157 #[.pointer (some ⟨p, 0, none⟩)] w (RPost w0 w p (.agg (dtV (dtR l).1).toArray) (dtR l).2) := by
  have HH0 := Lib.hid (Hr.init h #[.int .i64 0, .int .i64 0] 74)
  clear h
  go_enter Tryz.func157, Tryz.ntmps157
  go_wp2_with fail
  refine (rnum_any HH0.out.rs 1 (by omega)).mono ?_
  rintro e w1 ⟨rfl, s1, h1, g1⟩
  have H1 := HH0.out.step h1 g1
  have c0 : w1.cell? ⟨w.heap.size, 0, none⟩ = some (.int .i64 0) := H1.c 0
  have f0 := H1.f 0
  have HH1 := Lib.hid (H1.put (cs' := #[.int .i64 (numR l 1), .int .i64 0]) 0 (.int .i64 (numR l 1)) rfl)
  clear h1 g1 H1
  go_wp2_with fail
  refine (rnum_any HH1.out.rs 3 (by omega)).mono ?_
  rintro e w2 ⟨rfl, s1, h1, g1⟩
  rw [dr_dr] at h1
  have H1 := HH1.out.step h1 g1
  have c1 : w2.cell? ⟨w.heap.size, 1, none⟩ = some (.int .i64 0) := H1.c 1
  have f1 := H1.f 1
  have HH2 := Lib.hid (H1.put (cs' := #[.int .i64 (numR l 1), .int .i64 (numR (dr l 1) 3)]) 1 (.int .i64 (numR (dr l 1) 3)) rfl)
  clear h1 g1 H1 c0 f0
  have HB := Lib.hid HH2.out.bx
  have HE := Lib.hid (setRow_self _ _ _ _ _ HH2.out.bx)
  have HF := Lib.hid (show (Tryz.prog.info? 74).map (·.size) = some (#[.int .i64 (numR l 1), .int .i64 (numR (dr l 1) 3)] : Array Value).size from infoDirty)
  have HA := Lib.hid (show (#[.int .i64 (numR l 1), .int .i64 (numR (dr l 1) 3)] : Array Value).all (·.oneCell') = true from by simp [Value.oneCell'])
  go_upto_region 3 with (fail)
  generalize (w2.setCell ⟨w.heap.size, 1, none⟩ (.int .i64 (numR (dr l 1) 3))) = wz at *
  clear c1 f1
  go_wp2_with (first
    | (with_reducible refine wpList_load_row rfl 74 (.tmp 2) rfl w.heap.size rfl 74 _ (0, 0) _ HB.out Tryz.underlying74 rfl HF.out ?_)
    | (with_reducible refine wpList_store_row rfl 74 (.tmp 2) (.tmp 9) rfl w.heap.size _ rfl rfl 74 _ HB.out HF.out rfl HA.out ?_))
  rw [HE.out]
  refine bodyPost_ret (v := .agg #[.int .i64 (numR l 1), .int .i64 (numR (dr l 1) 3)]) ?_ rfl ?_
  · exact results_cell_row Tryz.results157 _ _ _ _ _ _ _ rfl HB.out Tryz.underlying74 rfl HF.out
  · exact HH2.out.post

end Go.Proofs.YtljbhdldfffpfaaGreat
namespace Go.Proofs.YtljbhdldfffpfaaGreat
open Go.RowKit

/-- What is copied out of the bytes that are left, and what is left then. -/
theorem cel_out {w : World} {l : List Int} {A : Option Addr} {c : Nat} (hp : SlK .u8 w (.slice A l.length c) l) (hn : l.length ≤ 200000) :
    ∃ A' m' c' w', (∀ ty, (Builtin.append_ #[33, 33] ty #[.slice none 0 0, .slice A l.length c]).run Tryz.prog w = .ok (.slice A' m' c') w') ∧ w'.ownsRow w.heap.size 5 1 (.slice A' m' c') l.length (byteV l) ∧ Below w.heap.size w w' := by
  obtain ⟨v', w', hr, ho, hg, _⟩ := run_append_sl (xs := []) (World.ownsRow_nil w w.heap.size 5 1) hp.sw (by rw [Nat.zero_add]; exact hn) (Nat.le_refl _)
  obtain ⟨A', m', c', rfl⟩ := own_shape ho
  refine ⟨A', m', c', w', hr, by simpa using ho, ⟨hg.os, hg.tape, hg.output, hg.size, fun k hk => hg.block k hk (by simp [Value.ownBlock])⟩⟩
theorem own_set {w : World} {B p i n : Nat} {v x : Value} {xs : List Value} {e : TypeId} {sz : Nat} (h : w.ownsRow B e sz v n xs) (hp : p < B) : (w.setCell ⟨p, i, none⟩ x).ownsRow B e sz v n xs :=
  own_at h fun k hk => setCell_far _ _ _ _ (fun e => by have := (h.lt k hk).1; omega)
/-- What cell leaves. -/
def CelPost (w0 w : World) (p : Nat) (l : List Int) (e : Ending) (w' : World) : Prop := ∃ A m c sv', e = .returned (.slice A m c) ∧ w'.ownsRow w.heap.size 5 1 (.slice A m c) (celR l).1.length (byteV (celR l).1) ∧ RS w0 w' p sv' (celR l).2 ∧ Rd p w w'

set_option maxRecDepth 100000 in
set_option maxHeartbeats 1000000 in
theorem rcell_any {w0 w : World} {p : Nat} {sv : Value} {l : List Int} (h : RS w0 w p sv l) :
    Calls Tryz.prog 151 #[.pointer (some ⟨p, 0, none⟩)] w (CelPost w0 w p l) := by
  have hb := numR_bd h.sl.ok 1
  obtain ⟨k, hk⟩ : ∃ k : Nat, numR l 1 = (k : Int) := ⟨(numR l 1).toNat, by omega⟩
  have hk3 : k < 256 := by have := hb.2; omega
  have e1 : (celR l).1 = (dr l 1).take k := by
    show (l.drop 1).take (celN l) = (l.drop 1).take k
    unfold celN
    rw [hk, Int.toNat_natCast, ← List.take_eq_take_min]
  have e2 : (celR l).2 = dr (dr l 1) k := by
    show (l.drop 1).drop (celN l) = (l.drop 1).drop k
    unfold celN
    rw [hk, Int.toNat_natCast]
    rcases Nat.le_total k (l.drop 1).length with h | h
    · rw [Nat.min_eq_left h]
    · rw [List.drop_eq_nil_of_le h, Nat.min_eq_right h, List.drop_length]
  have HK := Lib.hid hk
  have HE1 := Lib.hid e1
  have HE2 := Lib.hid e2
  have HH := Lib.hid h
  clear hb hk e1 e2 h
  go_enter Tryz.func151, Tryz.ntmps151
  go_wp2_with fail
  refine (rnum_any HH.out 1 (by omega)).mono ?_
  rintro e w1 ⟨rfl, s1, h1, g1⟩
  rw [HK.out]
  have H1 := Lib.hid h1
  have G1 := Lib.hid g1
  clear h1 g1
  go_wp2_with fail
  refine (cut_any H1.out k (by omega)).mono ?_
  rintro e w2 ⟨A, c, s2, rfl, hm, h2, g2⟩
  have hl : ((dr l 1).take k).length ≤ k := List.length_take_le _ _
  obtain ⟨A3, m3, c3, w3, hr, ho, hb⟩ := cel_out (hm.below h2.bel h2.le) (by omega)
  have HR := Lib.hid hr
  have HO := Lib.hid ho
  have HB := Lib.hid hb
  have H2 := Lib.hid h2
  have G2 := Lib.hid g2
  clear hm h2 g2 hr ho hb hl
  generalize hmm : ((dr l 1).take k).length = n at *
  go_wp2_with (at_builtin; refine Lib.wpList_append_run _ rfl _ _ _ _ rfl _ _ rfl rfl _ _ (HR.out _) ?_)
  go_ret
  subst hmm
  refine ⟨A3, m3, c3, s2, rfl, ?_, ?_, ?_⟩
  · rw [HE1.out]
    exact HO.out.mono (Nat.le_trans G1.out.size G2.out.size)
  · rw [HE2.out]
    exact H2.out.on HB.out
  · exact G1.out.trans (G2.out.trans (Rd.of_below HB.out))
end Go.Proofs.YtljbhdldfffpfaaGreat
namespace Go.Proofs.YtljbhdldfffpfaaGreat
open Go.RowKit

theorem RS.grow {w0 w w' : World} {p : Nat} {sv : Value} {l : List Int} {row : Option Nat} (h : RS w0 w p sv l) (hg : w.grownBy w' row) (hr : ∀ k, row = some k → p < k) : RS w0 w' p sv l ∧ (∀ B, B ≤ p + 1 → Below B w w') := by
  have hb : ∀ B, B ≤ p + 1 → Below B w w' := fun B hB => ⟨hg.os, hg.tape, hg.output, hg.size, fun k hk => hg.block k (by have := h.lt; omega) (fun e => by have := hr k e.symm; omega)⟩
  exact ⟨⟨((hb (p + 1) (Nat.le_refl _)).block p (by omega)).trans h.bx, h.sl, h.bel.trans (hb p (by omega)), h.le⟩, hb⟩
theorem Rd.grow {w w1 w' : World} {p : Nat} {row : Option Nat} (h : Rd p w w1) (hg : w1.grownBy w' row) (hr : ∀ k, row = some k → w.heap.size ≤ k) : Rd p w w' :=
  ⟨hg.os.trans h.os, hg.tape.trans h.tape, hg.output.trans h.output, Nat.le_trans h.size hg.size, fun k hk hne => (hg.block k (Nat.lt_of_lt_of_le hk h.size) (fun e => by have := hr k e.symm; omega)).trans (h.block k hk hne)⟩
theorem flat_at {α : Type} {f : α → List Value} {k : Nat} (hf : ∀ x, (f x).length = k) : ∀ (xs : List α) (i j : Nat), i < xs.length → j < k → (xs.flatMap f)[i * k + j]? = ((xs.map f)[i]?.bind fun c => c[j]?)
  | [], i, j, h, _ => by cases h
  | x :: t, 0, j, _, hj => by
    rw [List.flatMap_cons, Nat.zero_mul, Nat.zero_add, List.getElem?_append_left (by rw [hf]; exact hj)]
    rfl
  | x :: t, i + 1, j, h, hj => by
    rw [List.flatMap_cons, List.getElem?_append_right (by rw [hf, Nat.succ_mul]; omega), hf, show (i + 1) * k + j - k = i * k + j by rw [Nat.succ_mul]; omega, flat_at hf t i j (by simpa using h) hj]
    rfl
theorem own_els {α : Type} {f : α → List Value} {k n B : Nat} (hf : ∀ x, (f x).length = k) {w : World} {e : TypeId} {v : Value} {xs : List α} (h : w.ownsRow B e k v n (xs.flatMap f)) (hn : xs.length = n) : Els w v k (xs.map f) ∧ ∀ b, v.ownBlock = some b → B ≤ b := by
  refine ⟨?_, fun b hb => (h.lt b hb).1⟩
  obtain ⟨h1, ⟨rfl, h0⟩ | ⟨g, cap, cur, rfl, hB, hg, hle, hm, hsz, htake⟩⟩ := h
  · obtain rfl : xs = [] := List.length_eq_zero_iff.1 (by omega)
    exact ⟨none, 0, rfl, Nat.le_refl _, fun _ => rfl, (fun a e => by cases e)⟩
  · refine ⟨some ⟨g, 0, none⟩, cap, by rw [List.length_map, hn], by rw [List.length_map]; omega, (fun e => by cases e), fun a e hne => ?_⟩
    cases e
    refine ⟨rfl, (Array.getElem?_eq_some_iff.1 hg).1, fun i j hi hj => ?_⟩
    rw [List.length_map] at hi
    have hij : i * k + j < n * k := by
      have := Nat.mul_le_mul_right k (show i + 1 ≤ n by omega)
      rw [Nat.succ_mul] at this
      omega
    show w.cell? ⟨g, 0 + i * k + j, none⟩ = _
    rw [Nat.zero_add, (cell_of hg _).1, ← flat_at hf xs i j hi hj, ← htake, List.getElem?_take, if_pos hij, Array.getElem?_toList]

/-- What a list's reading leaves. -/
def LPost {α : Type} (w0 w : World) (p k : Nat) (V : α → List Value) (r : List α × List Int) (e : Ending) (w' : World) : Prop := ∃ A c sv', e = .returned (.slice A r.1.length c) ∧ Els w' (.slice A r.1.length c) k (r.1.map V) ∧ (∀ b, (Value.slice A r.1.length c).ownBlock = some b → w.heap.size ≤ b) ∧ RS w0 w' p sv' r.2 ∧ Rd p w w'

def LLRel {α : Type} (w0 w : World) (p k : Nat) (t : TypeId) (V : α → List Value) (f : List Int → α × List Int) (l : List Int) (n : Nat) (v i : Value) (wr : World) : Prop :=
  ∃ (j : Nat) (A : Option Addr) (m c : Nat) (sv : Value), j ≤ n ∧ i = .int .i64 j ∧ v = .slice A m c ∧ wr.ownsRow w.heap.size t k (.slice A m c) j ((nR f j l).1.flatMap V) ∧ RS w0 wr p sv (nR f j l).2 ∧ Rd p w wr
theorem nR_len {α : Type} (f : List Int → α × List Int) (l : List Int) : ∀ k, (nR f k l).1.length = k
  | 0 => rfl
  | k + 1 => by simp [nR, nR_len f l k]
theorem own_n {w : World} {B sz n : Nat} {e : TypeId} {A : Option Addr} {m c : Nat} {xs : List Value} (h : w.ownsRow B e sz (.slice A m c) n xs) : m = n := by
  rcases h.2 with ⟨e, h0⟩ | ⟨g, cap, cur, e, _⟩
  · cases e; omega
  · cases e; rfl

theorem informoves_any : (Tryz.prog.info? 196).map (fun i => (i.zero, i.size, i.bytes)) = some (some (.agg #[.int .i64 0, .int .i64 0, .int .i64 0, .int .i64 0]), 4, 32) := by kernel_rfl
set_option maxRecDepth 100000 in
set_option maxHeartbeats 1000000 in
theorem rmoves_any {w0 w : World} {p : Nat} {sv : Value} {l : List Int} (h : RS w0 w p sv l) :
    Calls Tryz.prog 152 #[.pointer (some ⟨p, 0, none⟩), .func (.func 153) #[] #[]] w (LPost w0 w p 4 mvV (lstR mvR l)) := by
  obtain ⟨i, hi, hz0, hz1, hz2⟩ := info_parts informoves_any
  have hok := h.sl.ok
  have hb := numR_bd hok 1
  have hlt := h.lt
  obtain ⟨n, hn⟩ : ∃ n : Nat, numR l 1 = n := ⟨(numR l 1).toNat, by omega⟩
  have HL : Hid (lstR mvR l = nR mvR n (dr l 1)) := by
    show lstR mvR l = _
    unfold lstR
    rw [hn]
    rfl
  have hn2 : n < 256 := by have := hb.2; omega
  have HH := Lib.hid h
  clear h hok hb
  go_enter Tryz.func152, Tryz.ntmps152
  go_wp2_with fail
  refine (rnum_any HH.out 1 (by omega)).mono ?_
  rintro e w1 ⟨he, s1, h1, g1⟩
  rw [hn] at he
  subst he
  have H1 : Hid (LLRel w0 w p 4 196 mvV mvR (dr l 1) n (.slice none 0 0) (.int .i64 0) w1) := ⟨0, none, 0, 0, s1, Nat.zero_le _, rfl, rfl, World.ownsRow_nil _ _ _ _, h1, g1⟩
  clear h1 g1
  go_wp2
  go_loopw [5, 8] (fun v i wr => LLRel w0 w p 4 196 mvV mvR (dr l 1) n v i wr) (fun _ i _ => n - (RowKit.intOf i).toNat)
  case atStart => exact H1.out
  case round =>
    obtain ⟨j, A, m, c, s2, hj, rfl, rfl, ho, h2, g2⟩ := hrel
    have HO := Lib.hid ho
    have H2 := Lib.hid h2
    have G2 := Lib.hid g2
    clear ho h2 g2
    by_cases hjn : j < n
    · go_wp2_with fail
      refine (rmove_any H2.out).mono ?_
      rintro e w3 ⟨he, s3, h3, g3⟩
      obtain ⟨⟨a0, a1, a2, a3⟩, hm⟩ : ∃ m, m = (mvR (nR mvR j (dr l 1)).2).1 := ⟨_, rfl⟩
      rw [← hm] at he
      replace he : e = .returned (.agg #[.int .i64 a0, .int .i64 a1, .int .i64 a2, .int .i64 a3]) := he
      subst he
      have hsz : w.heap.size ≤ w3.heap.size := Nat.le_trans G2.out.size g3.size
      have ho3 : w3.ownsRow w.heap.size 196 4 (.slice A m c) j ((nR mvR j (dr l 1)).1.flatMap mvV) := own_at HO.out fun k hk => g3.block k (HO.out.lt k hk).2 (by have := (HO.out.lt k hk).1; omega)
      have hoa : ∀ o, (w3.alloc o).ownsRow w.heap.size 196 4 (.slice A m c) j ((nR mvR j (dr l 1)).1.flatMap mvV) := fun o => ho3.alloc o
      have HOA := Lib.hid hoa
      have HA3 : Hid (∀ o, Below w3.heap.size w3 (w3.alloc o)) := fun o => (Below.refl _ _).alloc (Nat.le_refl _) _
      have H3 := Lib.hid h3
      have G3 := Lib.hid g3
      have HM := Lib.hid hm
      have HZ := Lib.hid hsz
      clear ho3 hoa h3 g3 hm hsz
      go_wp2_with (at_builtin; refine wpList_append_lies _ rfl _ _ 50 rfl w.heap.size 196 i (.agg #[.int .i64 0, .int .i64 0, .int .i64 0, .int .i64 0]) 4 32 Tryz.underlying50 hi hz0 hz1 hz2 rfl (by decide) (.slice A m c) j _ rfl (HOA.out _) ⟨w3.heap.size, 0, none⟩ 1 1 [.int .i64 a0, .int .i64 a1, .int .i64 a2, .int .i64 a3] rfl rfl ?c1 ?c2 ?c3 ?c4 ?c5 ?c6 _ rfl ?_)
      case c1 => exact World.news_of_block (heap_alloc_new w3 _)
      case c2 => intro u hu; simp at hu; rcases hu with rfl | rfl | rfl | rfl <;> rfl
      case c3 => omega
      case c4 => unfold maxLen; omega
      case c5 => omega
      case c6 => simp; exact Nat.le_succ_of_le HZ.out
      intro g4 c4 w4 ho4 hg4 hv4 hl4
      have h4 := (H3.out.on (HA3.out _)).grow hg4 (fun k hk => by have := (HO.out.lt k hk).1; omega)
      have hr4 : LLRel w0 w p 4 196 mvV mvR (dr l 1) n (.slice (some ⟨g4, 0, none⟩) (j + 1) c4) (.int .i64 (j + 1)) w4 := by
        refine ⟨j + 1, _, _, _, s3, hjn, rfl, rfl, ?_, h4.1, ((G2.out.trans G3.out).trans (Rd.of_below (HA3.out _))).grow hg4 (fun k hk => (HO.out.lt k hk).1)⟩
        have e : (nR mvR (j + 1) (dr l 1)).1.flatMap mvV = (nR mvR j (dr l 1)).1.flatMap mvV ++ [.int .i64 a0, .int .i64 a1, .int .i64 a2, .int .i64 a3] := by
          show ((nR mvR j (dr l 1)).1 ++ [_]).flatMap mvV = _
          rw [List.flatMap_append, ← HM.out]
          rfl
        rw [e]
        exact ho4
      have HR4 := Lib.hid hr4
      clear ho4 hg4 hv4 hl4 h4 hr4
      go_wp2
      go_roundw
      all_goals first
        | exact HR4.out
        | (simp [RowKit.intOf]; omega)
    · obtain rfl : j = n := by omega
      have hm := own_n HO.out
      subst hm
      go_wp2
      go_ret
      have hE := own_els (f := mvV) (fun _ => rfl) HO.out (nR_len _ _ _)
      refine ⟨A, c, s2, ?_, ?_, ?_, ?_, G2.out⟩
      · rw [HL.out, nR_len]; rfl
      · rw [HL.out, nR_len]; exact hE.1
      · rw [HL.out, nR_len]; exact hE.2
      · rw [HL.out]; exact H2.out

theorem inforlives_any : (Tryz.prog.info? 201).map (fun i => (i.zero, i.size, i.bytes)) = some (some (.agg #[.int .i64 0, .int .i64 0, .int .i64 0, .bool false]), 4, 32) := by kernel_rfl
set_option maxRecDepth 100000 in
set_option maxHeartbeats 1000000 in
theorem rlives_any {w0 w : World} {p : Nat} {sv : Value} {l : List Int} (h : RS w0 w p sv l) :
    Calls Tryz.prog 154 #[.pointer (some ⟨p, 0, none⟩), .func (.func 155) #[] #[]] w (LPost w0 w p 4 lvV (lstR lvR l)) := by
  obtain ⟨i, hi, hz0, hz1, hz2⟩ := info_parts inforlives_any
  have hok := h.sl.ok
  have hb := numR_bd hok 1
  have hlt := h.lt
  obtain ⟨n, hn⟩ : ∃ n : Nat, numR l 1 = n := ⟨(numR l 1).toNat, by omega⟩
  have HL : Hid (lstR lvR l = nR lvR n (dr l 1)) := by
    show lstR lvR l = _
    unfold lstR
    rw [hn]
    rfl
  have hn2 : n < 256 := by have := hb.2; omega
  have HH := Lib.hid h
  clear h hok hb
  go_enter Tryz.func154, Tryz.ntmps154
  go_wp2_with fail
  refine (rnum_any HH.out 1 (by omega)).mono ?_
  rintro e w1 ⟨he, s1, h1, g1⟩
  rw [hn] at he
  subst he
  have H1 : Hid (LLRel w0 w p 4 201 lvV lvR (dr l 1) n (.slice none 0 0) (.int .i64 0) w1) := ⟨0, none, 0, 0, s1, Nat.zero_le _, rfl, rfl, World.ownsRow_nil _ _ _ _, h1, g1⟩
  clear h1 g1
  go_wp2
  go_loopw [5, 8] (fun v i wr => LLRel w0 w p 4 201 lvV lvR (dr l 1) n v i wr) (fun _ i _ => n - (RowKit.intOf i).toNat)
  case atStart => exact H1.out
  case round =>
    obtain ⟨j, A, m, c, s2, hj, rfl, rfl, ho, h2, g2⟩ := hrel
    have HO := Lib.hid ho
    have H2 := Lib.hid h2
    have G2 := Lib.hid g2
    clear ho h2 g2
    by_cases hjn : j < n
    · go_wp2_with fail
      refine (rlive_any H2.out).mono ?_
      rintro e w3 ⟨he, s3, h3, g3⟩
      obtain ⟨⟨a0, a1, a2, a3⟩, hm⟩ : ∃ m, m = (lvR (nR lvR j (dr l 1)).2).1 := ⟨_, rfl⟩
      rw [← hm] at he
      replace he : e = .returned (.agg #[.int .i64 a0, .int .i64 a1, .int .i64 a2, .bool a3]) := he
      subst he
      have hsz : w.heap.size ≤ w3.heap.size := Nat.le_trans G2.out.size g3.size
      have ho3 : w3.ownsRow w.heap.size 201 4 (.slice A m c) j ((nR lvR j (dr l 1)).1.flatMap lvV) := own_at HO.out fun k hk => g3.block k (HO.out.lt k hk).2 (by have := (HO.out.lt k hk).1; omega)
      have hoa : ∀ o, (w3.alloc o).ownsRow w.heap.size 201 4 (.slice A m c) j ((nR lvR j (dr l 1)).1.flatMap lvV) := fun o => ho3.alloc o
      have HOA := Lib.hid hoa
      have HA3 : Hid (∀ o, Below w3.heap.size w3 (w3.alloc o)) := fun o => (Below.refl _ _).alloc (Nat.le_refl _) _
      have H3 := Lib.hid h3
      have G3 := Lib.hid g3
      have HM := Lib.hid hm
      have HZ := Lib.hid hsz
      clear ho3 hoa h3 g3 hm hsz
      go_wp2_with (at_builtin; refine wpList_append_lies _ rfl _ _ 51 rfl w.heap.size 201 i (.agg #[.int .i64 0, .int .i64 0, .int .i64 0, .bool false]) 4 32 Tryz.underlying51 hi hz0 hz1 hz2 rfl (by decide) (.slice A m c) j _ rfl (HOA.out _) ⟨w3.heap.size, 0, none⟩ 1 1 [.int .i64 a0, .int .i64 a1, .int .i64 a2, .bool a3] rfl rfl ?c1 ?c2 ?c3 ?c4 ?c5 ?c6 _ rfl ?_)
      case c1 => exact World.news_of_block (heap_alloc_new w3 _)
      case c2 => intro u hu; simp at hu; rcases hu with rfl | rfl | rfl | rfl <;> rfl
      case c3 => omega
      case c4 => unfold maxLen; omega
      case c5 => omega
      case c6 => simp; exact Nat.le_succ_of_le HZ.out
      intro g4 c4 w4 ho4 hg4 hv4 hl4
      have h4 := (H3.out.on (HA3.out _)).grow hg4 (fun k hk => by have := (HO.out.lt k hk).1; omega)
      have hr4 : LLRel w0 w p 4 201 lvV lvR (dr l 1) n (.slice (some ⟨g4, 0, none⟩) (j + 1) c4) (.int .i64 (j + 1)) w4 := by
        refine ⟨j + 1, _, _, _, s3, hjn, rfl, rfl, ?_, h4.1, ((G2.out.trans G3.out).trans (Rd.of_below (HA3.out _))).grow hg4 (fun k hk => (HO.out.lt k hk).1)⟩
        have e : (nR lvR (j + 1) (dr l 1)).1.flatMap lvV = (nR lvR j (dr l 1)).1.flatMap lvV ++ [.int .i64 a0, .int .i64 a1, .int .i64 a2, .bool a3] := by
          show ((nR lvR j (dr l 1)).1 ++ [_]).flatMap lvV = _
          rw [List.flatMap_append, ← HM.out]
          rfl
        rw [e]
        exact ho4
      have HR4 := Lib.hid hr4
      clear ho4 hg4 hv4 hl4 h4 hr4
      go_wp2
      go_roundw
      all_goals first
        | exact HR4.out
        | (simp [RowKit.intOf]; omega)
    · obtain rfl : j = n := by omega
      have hm := own_n HO.out
      subst hm
      go_wp2
      go_ret
      have hE := own_els (f := lvV) (fun _ => rfl) HO.out (nR_len _ _ _)
      refine ⟨A, c, s2, ?_, ?_, ?_, ?_, G2.out⟩
      · rw [HL.out, nR_len]; rfl
      · rw [HL.out, nR_len]; exact hE.1
      · rw [HL.out, nR_len]; exact hE.2
      · rw [HL.out]; exact H2.out

theorem infordirtys_any : (Tryz.prog.info? 74).map (fun i => (i.zero, i.size, i.bytes)) = some (some (.agg #[.int .i64 0, .int .i64 0]), 2, 16) := by kernel_rfl
set_option maxRecDepth 100000 in
set_option maxHeartbeats 1000000 in
theorem rdirtys_any {w0 w : World} {p : Nat} {sv : Value} {l : List Int} (h : RS w0 w p sv l) :
    Calls Tryz.prog 156 #[.pointer (some ⟨p, 0, none⟩), .func (.func 157) #[] #[]] w (LPost w0 w p 2 dtV (lstR dtR l)) := by
  obtain ⟨i, hi, hz0, hz1, hz2⟩ := info_parts infordirtys_any
  have hok := h.sl.ok
  have hb := numR_bd hok 1
  have hlt := h.lt
  obtain ⟨n, hn⟩ : ∃ n : Nat, numR l 1 = n := ⟨(numR l 1).toNat, by omega⟩
  have HL : Hid (lstR dtR l = nR dtR n (dr l 1)) := by
    show lstR dtR l = _
    unfold lstR
    rw [hn]
    rfl
  have hn2 : n < 256 := by have := hb.2; omega
  have HH := Lib.hid h
  clear h hok hb
  go_enter Tryz.func156, Tryz.ntmps156
  go_wp2_with fail
  refine (rnum_any HH.out 1 (by omega)).mono ?_
  rintro e w1 ⟨he, s1, h1, g1⟩
  rw [hn] at he
  subst he
  have H1 : Hid (LLRel w0 w p 2 74 dtV dtR (dr l 1) n (.slice none 0 0) (.int .i64 0) w1) := ⟨0, none, 0, 0, s1, Nat.zero_le _, rfl, rfl, World.ownsRow_nil _ _ _ _, h1, g1⟩
  clear h1 g1
  go_wp2
  go_loopw [5, 8] (fun v i wr => LLRel w0 w p 2 74 dtV dtR (dr l 1) n v i wr) (fun _ i _ => n - (RowKit.intOf i).toNat)
  case atStart => exact H1.out
  case round =>
    obtain ⟨j, A, m, c, s2, hj, rfl, rfl, ho, h2, g2⟩ := hrel
    have HO := Lib.hid ho
    have H2 := Lib.hid h2
    have G2 := Lib.hid g2
    clear ho h2 g2
    by_cases hjn : j < n
    · go_wp2_with fail
      refine (rdirty_any H2.out).mono ?_
      rintro e w3 ⟨he, s3, h3, g3⟩
      obtain ⟨⟨a0, a1⟩, hm⟩ : ∃ m, m = (dtR (nR dtR j (dr l 1)).2).1 := ⟨_, rfl⟩
      rw [← hm] at he
      replace he : e = .returned (.agg #[.int .i64 a0, .int .i64 a1]) := he
      subst he
      have hsz : w.heap.size ≤ w3.heap.size := Nat.le_trans G2.out.size g3.size
      have ho3 : w3.ownsRow w.heap.size 74 2 (.slice A m c) j ((nR dtR j (dr l 1)).1.flatMap dtV) := own_at HO.out fun k hk => g3.block k (HO.out.lt k hk).2 (by have := (HO.out.lt k hk).1; omega)
      have hoa : ∀ o, (w3.alloc o).ownsRow w.heap.size 74 2 (.slice A m c) j ((nR dtR j (dr l 1)).1.flatMap dtV) := fun o => ho3.alloc o
      have HOA := Lib.hid hoa
      have HA3 : Hid (∀ o, Below w3.heap.size w3 (w3.alloc o)) := fun o => (Below.refl _ _).alloc (Nat.le_refl _) _
      have H3 := Lib.hid h3
      have G3 := Lib.hid g3
      have HM := Lib.hid hm
      have HZ := Lib.hid hsz
      clear ho3 hoa h3 g3 hm hsz
      go_wp2_with (at_builtin; refine wpList_append_lies _ rfl _ _ 52 rfl w.heap.size 74 i (.agg #[.int .i64 0, .int .i64 0]) 2 16 Tryz.underlying52 hi hz0 hz1 hz2 rfl (by decide) (.slice A m c) j _ rfl (HOA.out _) ⟨w3.heap.size, 0, none⟩ 1 1 [.int .i64 a0, .int .i64 a1] rfl rfl ?c1 ?c2 ?c3 ?c4 ?c5 ?c6 _ rfl ?_)
      case c1 => exact World.news_of_block (heap_alloc_new w3 _)
      case c2 => intro u hu; simp at hu; rcases hu with rfl | rfl <;> rfl
      case c3 => omega
      case c4 => unfold maxLen; omega
      case c5 => omega
      case c6 => simp; exact Nat.le_succ_of_le HZ.out
      intro g4 c4 w4 ho4 hg4 hv4 hl4
      have h4 := (H3.out.on (HA3.out _)).grow hg4 (fun k hk => by have := (HO.out.lt k hk).1; omega)
      have hr4 : LLRel w0 w p 2 74 dtV dtR (dr l 1) n (.slice (some ⟨g4, 0, none⟩) (j + 1) c4) (.int .i64 (j + 1)) w4 := by
        refine ⟨j + 1, _, _, _, s3, hjn, rfl, rfl, ?_, h4.1, ((G2.out.trans G3.out).trans (Rd.of_below (HA3.out _))).grow hg4 (fun k hk => (HO.out.lt k hk).1)⟩
        have e : (nR dtR (j + 1) (dr l 1)).1.flatMap dtV = (nR dtR j (dr l 1)).1.flatMap dtV ++ [.int .i64 a0, .int .i64 a1] := by
          show ((nR dtR j (dr l 1)).1 ++ [_]).flatMap dtV = _
          rw [List.flatMap_append, ← HM.out]
          rfl
        rw [e]
        exact ho4
      have HR4 := Lib.hid hr4
      clear ho4 hg4 hv4 hl4 h4 hr4
      go_wp2
      go_roundw
      all_goals first
        | exact HR4.out
        | (simp [RowKit.intOf]; omega)
    · obtain rfl : j = n := by omega
      have hm := own_n HO.out
      subst hm
      go_wp2
      go_ret
      have hE := own_els (f := dtV) (fun _ => rfl) HO.out (nR_len _ _ _)
      refine ⟨A, c, s2, ?_, ?_, ?_, ?_, G2.out⟩
      · rw [HL.out, nR_len]; rfl
      · rw [HL.out, nR_len]; exact hE.1
      · rw [HL.out, nR_len]; exact hE.2
      · rw [HL.out]; exact H2.out

end Go.Proofs.YtljbhdldfffpfaaGreat
