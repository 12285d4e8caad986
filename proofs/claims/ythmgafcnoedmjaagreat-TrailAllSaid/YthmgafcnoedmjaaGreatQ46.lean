/- TrailAll, a part. -/
import Derived.Test.YthmgafcnoedmjaaGreatQ13
import Derived.Laws.Tables
import Derived.Test.YthmgafcnoedmjaaGreatQ16
import Derived.Test.YthmgafcnoedmjaaGreatQ32
import Derived.Deep.RegionHeld
namespace Go.Proofs.YthmgafcnoedmjaaGreat
section
variable {P : Program}
theorem add_off (g off j : Nat) : (⟨g, off, none⟩ : Addr).add j = ⟨g, off + j, none⟩ := by unfold Addr.add; split <;> simp_all
theorem run_loadVar_at (w : World) (g off : Nat) (ty : TypeId) (cs : Array Value) (d : TypeDesc) (hc : ∀ j v, cs[j]? = some v → w.cell? ⟨g, off + j, none⟩ = some v)
  (hu : P.underlying ty = some d) (hd : (match d with | .struct _ | .array _ _ => true | _ => false) = true) (hi : (P.info? ty).map (·.size) = some cs.size) :
  (loadVar ty ⟨g, off, none⟩).run P w = .ok (.agg cs) w := by
 have hl : (loadCells ⟨g, off, none⟩ cs.toList.length).run P w = .ok cs.toList.toArray w :=
  run_loadCells_list (P := P) w ⟨g, off, none⟩ cs.toList (fun j v hv => by
   rw [add_off]
   exact hc j v (by simpa using hv))
 cases hq : P.info? ty with
 | none => simp [hq] at hi
 | some i =>
  have hs : i.size = cs.size := by simpa [hq] using hi
  have hagg : (isAgg ty).run P w = .ok true w := by
   unfold isAgg
   rw [Sem.run_bind, run_underlying hu w]
   cases d <;> simp_all
  simp only [Array.length_toList, Array.toArray_toList] at hl
  simp [loadVar, Sem.run_bind, hagg, sizeOf, typeInfo, hq, hs, hl]
theorem wp_load_at {o : Oper} {a : Act} {w : World} {K : Act → World → Prop} {Q : Exit → Act → World → Prop} (ty : TypeId) (x : Operand) (ho : o.op = .load ty x)
  (g off : Nat) (hx : a.eval x = .pointer (some ⟨g, off, none⟩)) (cs : Array Value) (d : TypeDesc) (hc : ∀ j v, cs[j]? = some v → w.cell? ⟨g, off + j, none⟩ = some v)
  (hu : P.underlying ty = some d) (hd : (match d with | .struct _ | .array _ _ => true | _ => false) = true) (hi : (P.info? ty).map (·.size) = some cs.size)
  (h : K (a.put o.dst (.agg cs)) w) : o.wp P a w K Q := by
 unfold Oper.wp execOp
 simp only [ho, hx, Instr.loadAt, Instr.sureAddr, Sem.run_bind, Sem.run_pure, Result.andThen_ok, run_loadVar_at w g off ty cs d hc hu hd hi]
 exact h
theorem wpList_load_at {ops : Array Oper} {rest : List Oper} {o : Oper} {a : Act} {w : World} {Q : Exit → Act → World → Prop} (hw : Region.wanted o (yielded ops a.tmps) = true) (ty : TypeId) (x : Operand) (ho : o.op = .load ty x)
  (g off : Nat) (hx : a.eval x = .pointer (some ⟨g, off, none⟩)) (cs : Array Value) (d : TypeDesc) (hc : ∀ j v, cs[j]? = some v → w.cell? ⟨g, off + j, none⟩ = some v)
  (hu : P.underlying ty = some d) (hd : (match d with | .struct _ | .array _ _ => true | _ => false) = true) (hi : (P.info? ty).map (·.size) = some cs.size)
  (h : wpList P ops Q rest (a.put o.dst (.agg cs)) w) : wpList P ops Q (o :: rest) a w :=
 wpList_step fun _ hK => by
  rw [if_pos hw]
  exact wp_load_at ty x ho g off hx cs d hc hu hd hi (hK _ _ h)
end
set_option maxRecDepth 100000
open Go.RowKit Go.Maps
structure RowE (w : World) (v : Value) (L : List Ent) : Prop where
 sl : ∃ A c, v = .slice A L.length c
 el : ∀ i (h : i < L.length), ∃ g o c s1 s2 s3 s4 s5 s6, v = .slice (some ⟨g, o, none⟩) L.length c ∧ EntS w s1 s2 s3 s4 s5 s6 L[i] ∧ ∀ j u, (entC L[i] s1 s2 s3 s4 s5 s6)[j]? = some u → w.cell? ⟨g, o + i * 16 + j, none⟩ = some u
theorem RowE.up {w w' : World} {v : Value} {L : List Ent} (h : RowE w v L) (hb : Below w.heap.size w w') : RowE w' v L := by
 refine ⟨h.sl, fun i hi => ?_⟩
 obtain ⟨g, o, c, s1, s2, s3, s4, s5, s6, e, h1, h2⟩ := h.el i hi
 exact ⟨g, o, c, s1, s2, s3, s4, s5, s6, e, h1.below hb (Nat.le_refl _), fun j u hu => (World.cell?_of_block (hb.block g (block_lt_of_cell (h2 j u hu)))).trans (h2 j u hu)⟩
theorem rowE_nil (w : World) (A : Option Addr) (c : Nat) : RowE w (.slice A 0 c) [] := ⟨⟨A, c, rfl⟩, fun i hi => by cases hi⟩
theorem rowE_els {w : World} {A : Option Addr} {n c : Nat} {es : List (Ent × S6)} {G : Nat → Prop} (h : Els w (.slice A n c) 16 (es.map enV)) (hG : ∀ o ∈ es, EnG w G o) : RowE w (.slice A n c) (es.map Prod.fst) := by
 obtain ⟨A', c', hv, _, hnn, hc⟩ := h
 injection hv with h1 h2 h3
 subst h1 h3
 have hn : n = es.length := by rw [h2, List.length_map]
 refine ⟨⟨A, c, by rw [List.length_map, hn]⟩, fun i hi => ?_⟩
 have hie : i < es.length := by simpa using hi
 have hne : es.map enV ≠ [] := fun e => by
  have := congrArg List.length e
  simp at this
  subst this
  cases hie
 cases A with
 | none => exact absurd (hnn rfl) hne
 | some a =>
  obtain ⟨h4, h5, h6⟩ := hc a rfl hne
  obtain ⟨ab, ao, asp⟩ := a
  cases h4
  have e : (es.map Prod.fst)[i] = (es[i]).1 := by simp
  have hE := (hG es[i] (List.getElem_mem hie)).entS
  refine ⟨ab, ao, c, _, _, _, _, _, _, by rw [List.length_map, hn], by rw [e]; exact hE, fun j u hu => ?_⟩
  rw [e] at hu
  have hj : j < 16 := (Array.getElem?_eq_some_iff.1 hu).1
  rw [h6 i j (by simpa using hie) hj, List.getElem?_map, List.getElem?_eq_getElem hie]
  show (enV es[i])[j]? = some u
  unfold enV
  rw [Array.getElem?_toList]
  exact hu
theorem held_at {P : Program} {a : Act} {o : Oper} {W : World} (ty : TypeId) (x : Operand) (ho : o.op = .load ty x)
  (g off : Nat) (hx : a.eval x = .pointer (some ⟨g, off, none⟩)) (cs : Array Value) (d : TypeDesc) (hc : ∀ j v, cs[j]? = some v → W.cell? ⟨g, off + j, none⟩ = some v)
  (hu : P.underlying ty = some d) (hd : (match d with | .struct _ | .array _ _ => true | _ => false) = true) (hi : (P.info? ty).map (·.size) = some cs.size) :
  (execOp a.eval o).run P W = .ok (.value (.agg cs)) W := by
 unfold execOp
 simp only [ho, hx, Instr.loadAt, Instr.sureAddr, Sem.run_bind, Sem.run_pure, Result.andThen_ok, run_loadVar_at W g off ty cs d hc hu hd hi]
set_option maxHeartbeats 8000000 in
theorem sames_any (w : World) {v u : Value} {L : List Ent} (hv : RowE w v L) (hu : RowE w u L) (hl : L.length ≤ 100000) (hE : ∀ e ∈ L, EntLen e) :
  Calls Tryz.prog 24 #[v, u] w fun e w' => e = .returned (.bool true) ∧ Below w.heap.size w w' := by
 obtain ⟨A1, c1, rfl⟩ := hv.sl
 obtain ⟨A2, c2, rfl⟩ := hu.sl
 obtain ⟨n, hn⟩ : ∃ n, L.length = n := ⟨_, rfl⟩
 have HN := Lib.hid hn
 have HV := Lib.hid hv
 have HU := Lib.hid hu
 have HE := Lib.hid hE
 rw [hn] at hl ⊢
 clear hv hu hE hn
 go_enter Tryz.func24, Tryz.ntmps24
 go_wp2_with fail
 go_loopw [5] (fun i wr => ∃ j : Nat, j ≤ n ∧ i = .int .i64 j ∧ Hid (Below w.heap.size w wr)) (fun i _ => n - ivT2 i)
 case atStart => exact ⟨0, Nat.zero_le _, rfl, Below.refl _ _⟩
 case round =>
  obtain ⟨j, hj, rfl, HB⟩ := hrel
  by_cases hlt : j < n
  ·have hjL : j < L.length := by rw [HN.out]; exact hlt
   obtain ⟨g1, o1, c1', s1, s2, s3, s4, s5, s6, e1, hS1, hc1⟩ := (HV.out.up HB.out).el j hjL
   obtain ⟨g2, o2, c2', t1, t2, t3, t4, t5, t6, e2, hS2, hc2⟩ := (HU.out.up HB.out).el j hjL
   obtain ⟨x, hx⟩ : ∃ x, L[j] = x := ⟨_, rfl⟩
   have hxl : EntLen x := HE.out x (hx ▸ List.getElem_mem hjL)
   rw [hx] at hS1 hc1 hS2 hc2
   injection e1 with e1 _ e1c
   injection e2 with e2 _ e2c
   subst e1 e1c e2 e2c
   have HSE : Hid (∀ W, Below wr.heap.size wr W → Calls Tryz.prog 50 #[.agg (entC x s1 s2 s3 s4 s5 s6), .agg (entC x t1 t2 t3 t4 t5 t6)] W fun r w' => r = .returned (.bool true) ∧ Below W.heap.size W w') := fun W hb => by
    have := rsame_any W x x (hS1.below hb (Nat.le_refl _)) (hS2.below hb (Nat.le_refl _)) hxl
    rw [(sameE_iff x x).2 rfl] at this
    exact this
   have HS : Hid (∀ W : World, Below wr.heap.size wr W → (∀ i u, (entC x s1 s2 s3 s4 s5 s6)[i]? = some u → W.cell? ⟨g1, o1 + j * 16 + i, none⟩ = some u) ∧ ∀ i u, (entC x t1 t2 t3 t4 t5 t6)[i]? = some u → W.cell? ⟨g2, o2 + j * 16 + i, none⟩ = some u) := fun W hb => ⟨fun i u hu => (World.cell?_of_block (hb.block g1 (block_lt_of_cell (hc1 i u hu)))).trans (hc1 i u hu), fun i u hu => (World.cell?_of_block (hb.block g2 (block_lt_of_cell (hc2 i u hu)))).trans (hc2 i u hu)⟩
   clear hS1 hc1 hS2 hc2 hxl hx hjL
   have hltI : (j : Int) < (n : Int) := by omega
   have hj0 : (0 : Int) ≤ (j : Int) := by omega
   go_upto_region 6 with (fail)
   refine wp_region_held_drew (S := fun W : World => (∀ i u, (entC x s1 s2 s3 s4 s5 s6)[i]? = some u → W.cell? ⟨g1, o1 + j * 16 + i, none⟩ = some u) ∧ ∀ i u, (entC x t1 t2 t3 t4 t5 t6)[i]? = some u → W.cell? ⟨g2, o2 + j * 16 + i, none⟩ = some u) (by kernel_rfl) (HS.out _ (Below.refl _ wr).drew) (fun hHeld => ?_)
   refine wpAnyH_take (i := 0) (oi := ⟨_, _, _, _, _, _⟩) (v := ?_) rfl (by kernel_rfl) (by kernel_rfl) (by kernel_rfl) (fun _ _ _ h => h) (Or.inl ⟨by rfl, ?_⟩) (by assumption) ?_
   rotate_left;(focus intro W hSW;(try dsimp only at hSW);go_simp;try with_reducible rfl);rotate_left;try simp only[Act.put,zq]
   refine wpAnyH_take (i := 1) (oi := ⟨_, _, _, _, _, _⟩) (v := ?_) rfl (by kernel_rfl) (by kernel_rfl) (by kernel_rfl) (fun _ _ _ h => h) (Or.inl ⟨by rfl, ?_⟩) (by assumption) ?_
   rotate_left;(focus intro W hSW;(try dsimp only at hSW);go_simp;try with_reducible rfl);rotate_left;try simp only[Act.put,zq]
   refine wpAnyH_take (i := 2) (oi := ⟨_, _, _, _, _, _⟩) (v := ?_) rfl (by kernel_rfl) (by kernel_rfl) (by kernel_rfl) (fun _ _ _ h => h) (Or.inl ⟨by rfl, ?_⟩) (by assumption) ?_
   rotate_left;(focus intro W hSW;(try dsimp only at hSW);go_simp;try with_reducible rfl);rotate_left;try simp only[Act.put,zq]
   refine wpAnyH_take (i := 3) (oi := ⟨_, _, _, _, _, _⟩) (v := .agg (entC x s1 s2 s3 s4 s5 s6)) rfl (by kernel_rfl) (by kernel_rfl) (by kernel_rfl) (fun _ _ _ h => h) (Or.inl ⟨by rfl, fun W hSW => ?_⟩) (by assumption) ?_
   ·exact held_at 44 (.tmp 19) (by rfl) g1 (o1 + j * 16) (by rfl) (entC x s1 s2 s3 s4 s5 s6) _ hSW.1 Tryz.underlying44 rfl (infoEntC ..)
   try simp only[Act.put,zq]
   refine wpAnyH_take (i := 4) (oi := ⟨_, _, _, _, _, _⟩) (v := ?_) rfl (by kernel_rfl) (by kernel_rfl) (by kernel_rfl) (fun _ _ _ h => h) (Or.inl ⟨by rfl, ?_⟩) (by assumption) ?_
   rotate_left;(focus intro W hSW;(try dsimp only at hSW);go_simp;try with_reducible rfl);rotate_left;try simp only[Act.put,zq]
   refine wpAnyH_take (i := 5) (oi := ⟨_, _, _, _, _, _⟩) (v := ?_) rfl (by kernel_rfl) (by kernel_rfl) (by kernel_rfl) (fun _ _ _ h => h) (Or.inl ⟨by rfl, ?_⟩) (by assumption) ?_
   rotate_left;(focus intro W hSW;(try dsimp only at hSW);go_simp;try with_reducible rfl);rotate_left;try simp only[Act.put,zq]
   refine wpAnyH_take (i := 6) (oi := ⟨_, _, _, _, _, _⟩) (v := ?_) rfl (by kernel_rfl) (by kernel_rfl) (by kernel_rfl) (fun _ _ _ h => h) (Or.inl ⟨by rfl, ?_⟩) (by assumption) ?_
   rotate_left;(focus intro W hSW;(try dsimp only at hSW);go_simp;try with_reducible rfl);rotate_left;try simp only[Act.put,zq]
   refine wpAnyH_take (i := 7) (oi := ⟨_, _, _, _, _, _⟩) (v := .agg (entC x t1 t2 t3 t4 t5 t6)) rfl (by kernel_rfl) (by kernel_rfl) (by kernel_rfl) (fun _ _ _ h => h) (Or.inl ⟨by rfl, fun W hSW => ?_⟩) (by assumption) ?_
   ·exact held_at 44 (.tmp 23) (by rfl) g2 (o2 + j * 16) (by rfl) (entC x t1 t2 t3 t4 t5 t6) _ hSW.2 Tryz.underlying44 rfl (infoEntC ..)
   try simp only[Act.put,zq]
   refine wpAnyH_ready (rs := [8]) (by kernel_rfl) (by simp) ?_
   refine AllReadyH.cons (o := ⟨_, _, _, _, _, _⟩) rfl (fun K hK => ?_) AllReadyH.nil
   rw [if_pos (by rfl)]
   go_simp
   go_at_call 50
   refine (HSE.out _ (Below.refl _ wr).drew).mono ?_
   rintro e w1 ⟨rfl, hb1⟩
   have hb2 : Below wr.heap.size wr w1 := (Below.refl _ wr).drew.trans hb1
   go_wp2_with fail
   refine hK.out _ _ (HS.out _ hb2) (fun hHeld => ?_)
   clear hK K
   try simp only[Act.put,zq]
   refine wpAnyH_take (i := 9) (oi := ⟨_, _, _, _, _, _⟩) (v := ?_) rfl (by kernel_rfl) (by kernel_rfl) (by kernel_rfl) (fun _ _ _ h => h) (Or.inl ⟨by rfl, ?_⟩) (by assumption) ?_
   rotate_left;(focus intro W hSW;(try dsimp only at hSW);go_simp;try with_reducible rfl);rotate_left;try simp only[Act.put,zq]
   refine wpAnyH_done (by kernel_rfl) ?_ _
   have HB2 := Lib.hid (HB.out.trans (hb2.mono HB.out.size))
   clear hb1 hb2 HS HSE hHeld HB
   go_wp2_with fail
   go_roundw
   case rel => exact ⟨j + 1, by omega, by go_num, HB2.out⟩
   case measure => simp [ivT2]; omega
  ·have hltI : ¬ (j : Int) < (n : Int) := by omega
   go_wp2_with fail
   go_ret
   exact ⟨rfl, HB.out⟩
end Go.Proofs.YthmgafcnoedmjaaGreat
