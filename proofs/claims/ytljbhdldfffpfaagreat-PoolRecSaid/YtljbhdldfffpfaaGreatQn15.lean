/- PoolNone, a part. -/
import Derived.Test.YtljbhdldfffpfaaGreatQn2
import Derived.Deep.RegionLaw
import Derived.Lib.Hide
import Derived.Laws.CopyOwn
namespace Go.Proofs.YtljbhdldfffpfaaGreat
open Go.RowKit Go.Maps

theorem law3 : Keyed Tryz.prog 3 := int_keyed Tryz.underlying3
def zcs : Array Value := Array.replicate 64 (.int .u8 0)
def zb : Value := .agg zcs
theorem zeroB (w : World) : (zeroValue 124).run Tryz.prog w = .ok zb w := by kernel_rfl
theorem infoB : (Tryz.prog.info? 124).map (·.size) = some 64 := by kernel_rfl
theorem zb_blk : IsBlk zb := ⟨List.replicate 64 0, by simp, by simp, by rw [List.map_replicate]; rfl⟩

theorem IsBlk.cells {v : Value} (h : IsBlk v) : ∃ c : Array Value, v = .agg c ∧ c.size = 64 ∧ c.all (·.oneCell') = true := by
  obtain ⟨l, hl, _, rfl⟩ := h
  exact ⟨_, rfl, by simp [hl], by simp [Value.oneCell']⟩

def Dk.store (d : Dk) (i : Int) (v : Value) : Dk := { d with old := if (d.old i).isSome = true then d.old else upd d.old i (some ((d.now i).getD zb)), now := upd d.now i (some v) }

theorem zlit : zcs = #[.int .u8 0, .int .u8 0, .int .u8 0, .int .u8 0, .int .u8 0, .int .u8 0, .int .u8 0, .int .u8 0, .int .u8 0, .int .u8 0, .int .u8 0, .int .u8 0, .int .u8 0, .int .u8 0, .int .u8 0, .int .u8 0, .int .u8 0, .int .u8 0, .int .u8 0, .int .u8 0, .int .u8 0, .int .u8 0, .int .u8 0, .int .u8 0, .int .u8 0, .int .u8 0, .int .u8 0, .int .u8 0, .int .u8 0, .int .u8 0, .int .u8 0, .int .u8 0, .int .u8 0, .int .u8 0, .int .u8 0, .int .u8 0, .int .u8 0, .int .u8 0, .int .u8 0, .int .u8 0, .int .u8 0, .int .u8 0, .int .u8 0, .int .u8 0, .int .u8 0, .int .u8 0, .int .u8 0, .int .u8 0, .int .u8 0, .int .u8 0, .int .u8 0, .int .u8 0, .int .u8 0, .int .u8 0, .int .u8 0, .int .u8 0, .int .u8 0, .int .u8 0, .int .u8 0, .int .u8 0, .int .u8 0, .int .u8 0, .int .u8 0, .int .u8 0] := rfl

theorem st_new (w : World) (co : Array Value) (hs : co.size = 64) (h1 : co.all (·.oneCell') = true) : (storeCells ⟨w.heap.size, 0, none⟩ co.toList).run Tryz.prog (w.alloc (.cells #[.int .u8 0, .int .u8 0, .int .u8 0, .int .u8 0, .int .u8 0, .int .u8 0, .int .u8 0, .int .u8 0, .int .u8 0, .int .u8 0, .int .u8 0, .int .u8 0, .int .u8 0, .int .u8 0, .int .u8 0, .int .u8 0, .int .u8 0, .int .u8 0, .int .u8 0, .int .u8 0, .int .u8 0, .int .u8 0, .int .u8 0, .int .u8 0, .int .u8 0, .int .u8 0, .int .u8 0, .int .u8 0, .int .u8 0, .int .u8 0, .int .u8 0, .int .u8 0, .int .u8 0, .int .u8 0, .int .u8 0, .int .u8 0, .int .u8 0, .int .u8 0, .int .u8 0, .int .u8 0, .int .u8 0, .int .u8 0, .int .u8 0, .int .u8 0, .int .u8 0, .int .u8 0, .int .u8 0, .int .u8 0, .int .u8 0, .int .u8 0, .int .u8 0, .int .u8 0, .int .u8 0, .int .u8 0, .int .u8 0, .int .u8 0, .int .u8 0, .int .u8 0, .int .u8 0, .int .u8 0, .int .u8 0, .int .u8 0, .int .u8 0, .int .u8 0] 124)) = .ok () (w.alloc (.cells co 124)) := by
  rw [← zlit]
  exact run_storeCells_new w _ zcs co (by rw [infoB, hs]) (by rw [hs]; rfl) h1



theorem splice_all {L cs : List Value} (h : cs.length = L.length) : splice L 0 cs = cs := by
  unfold splice; simp [h]


/-- A disk is where it was while nothing of it turns. -/
theorem DiskAt.kept {w w' : World} {p bn bo g : Nat} {d : Dk} (h : DiskAt w p bn bo g d) (hb : ∀ k, k < w.heap.size → w'.heap[k]? = w.heap[k]?) : DiskAt w' p bn bo g d := by
  have hp : p < w.heap.size := (Array.getElem?_eq_some_iff.1 h.cells).1
  refine ⟨(hb p hp).trans h.cells, h.now.of_block (hb _ h.now.lt), h.old.of_block (hb _ h.old.lt), ?_, h.ne, h.ok⟩
  obtain ⟨p0, len, cap, e, e2, hle, hcap, hn, ha⟩ := h.mask
  refine ⟨p0, len, cap, e, e2, hle, hcap, hn, fun a hpa hne => ?_⟩
  obtain ⟨h1, h2, h3⟩ := ha a hpa hne
  refine ⟨h1, h2, fun j hj => ?_⟩
  have h4 := h3 j hj
  rw [← h4]
  exact World.cell?_of_block (hb g (block_lt_of_cell h4))

theorem cell_turned {w w' : World} {b : Nat} (ht : w.mapTurned w' b) {a : Addr} {v : Value} (h : w.cell? a = some v) : w'.cell? a = some v := by
  obtain ⟨es, clock, es', clock', hb, rfl⟩ := ht
  have hne : a.block ≠ b := by rintro rfl; simp [World.cell?, hb] at h
  rw [← h]
  exact World.cell?_of_block (ChangeMaps.heap_setBlock_other hb _ hne)

theorem block_turned {w w' : World} {b k : Nat} (ht : w.mapTurned w' b) (hk : k ≠ b) : w'.heap[k]? = w.heap[k]? := by
  obtain ⟨es, clock, es', clock', hb, rfl⟩ := ht
  exact ChangeMaps.heap_setBlock_other hb _ hk

theorem SlB.turned {w w' : World} {b : Nat} (ht : w.mapTurned w' b) {v : Value} {l : List Int} {g : Nat} (h : SlB w v l g) : SlB w' v l g := by
  obtain ⟨p0, len, cap, e, e2, hle, hcap, hn, ha⟩ := h
  refine ⟨p0, len, cap, e, e2, hle, hcap, hn, fun a hpa hne => ?_⟩
  obtain ⟨h1, h2, h3⟩ := ha a hpa hne
  exact ⟨h1, h2, fun j hj => cell_turned ht (h3 j hj)⟩

theorem DiskAt.putNow {w w' : World} {p bn bo g : Nat} {d : Dk} (h : DiskAt w p bn bo g d) {m : Int → Option Value} (ht : w.mapTurned w' bn) (hf : fm w' Tryz.prog 3 bn m) (hm : ∀ i v, m i = some v → 0 ≤ i ∧ i < d.tiles ∧ IsBlk v) : DiskAt w' p bn bo g { d with now := m } :=
  ⟨(block_turned ht h.ne.2.1).trans h.cells, hf, h.old.of_block (block_turned ht h.ne.1.symm), h.mask.turned ht, h.ne, ⟨h.ok.lo, h.ok.hi, hm, h.ok.old, h.ok.llo, h.ok.lhi, h.ok.mok⟩⟩

theorem DiskAt.putOld {w w' : World} {p bn bo g : Nat} {d : Dk} (h : DiskAt w p bn bo g d) {m : Int → Option Value} (ht : w.mapTurned w' bo) (hf : fm w' Tryz.prog 3 bo m) (hm : ∀ i v, m i = some v → 0 ≤ i ∧ i < d.tiles ∧ IsBlk v) : DiskAt w' p bn bo g { d with old := m } :=
  ⟨(block_turned ht h.ne.2.2.1).trans h.cells, h.now.of_block (block_turned ht h.ne.1), hf, h.mask.turned ht, h.ne, ⟨h.ok.lo, h.ok.hi, h.ok.now, hm, h.ok.llo, h.ok.lhi, h.ok.mok⟩⟩

theorem range_upd {T : Int} {m : Int → Option Value} (hm : ∀ i v, m i = some v → 0 ≤ i ∧ i < T ∧ IsBlk v) {i : Int} (h0 : 0 ≤ i) (h1 : i < T) {v : Value} (hv : IsBlk v) : ∀ j u, upd m i (some v) j = some u → 0 ≤ j ∧ j < T ∧ IsBlk u := by
  intro j u hu
  unfold upd at hu
  split at hu
  · rename_i e; subst e; cases hu; exact ⟨h0, h1, hv⟩
  · exact hm j u hu

theorem DiskAt.lt {w : World} {p bn bo g : Nat} {d : Dk} (h : DiskAt w p bn bo g d) : p < w.heap.size ∧ bn < w.heap.size ∧ bo < w.heap.size := ⟨(Array.getElem?_eq_some_iff.1 h.cells).1, h.now.lt, h.old.lt⟩

def blkOf (l : List Int) : Value := .agg (byteV l).toArray
theorem blkOf_blk {l : List Int} (hl : l.length = 64) (hb : bytesOk l) : IsBlk (blkOf l) := ⟨l, hl, hb, rfl⟩

/-- The end of both ways: the tile's new bytes go into the map. -/
theorem store_end {w3 : World} {p bn bo g : Nat} {d : Dk} (h : DiskAt w3 p bn bo g d) {i : Int} (h0 : 0 ≤ i) (h1 : i < d.tiles) {v : Value} (hv : IsBlk v) :
    ∃ w4, (Instr.mapUpdate 80 (.map (some bn)) (.int .i64 i) v).run Tryz.prog w3 = .ok () w4 ∧ DiskAt w4 p bn bo g { d with now := upd d.now i (some v) } ∧ w3.mapTurned w4 bn := by
  have hhi := h.ok.hi
  have hlo := h.ok.lo
  have wi : (Lit.int .i64 i).wf = true := WalkArith.wf_i64 (by omega)
  obtain ⟨w4, r1, r2, r3⟩ := h.now.store law3 Tryz.underlying80 Tryz.underlying3 (zeroB w3) (N := 2000) (by unfold maxLen; omega) (fun j hj => by
    obtain ⟨u, hu⟩ := Option.isSome_iff_exists.1 hj
    have := h.ok.now j u hu
    omega) wi v
  exact ⟨w4, r1, h.putNow r3 r2 (range_upd h.ok.now h0 h1 hv), r3⟩

/-- The first way's end: what the tile had goes into the other map. -/
theorem store_old {w3 : World} {p bn bo g : Nat} {d : Dk} (h : DiskAt w3 p bn bo g d) {i : Int} (h0 : 0 ≤ i) (h1 : i < d.tiles) {v : Value} (hv : IsBlk v) :
    ∃ w4, (Instr.mapUpdate 80 (.map (some bo)) (.int .i64 i) v).run Tryz.prog w3 = .ok () w4 ∧ DiskAt w4 p bn bo g { d with old := upd d.old i (some v) } ∧ w3.mapTurned w4 bo := by
  have hhi := h.ok.hi
  have hlo := h.ok.lo
  have wi : (Lit.int .i64 i).wf = true := WalkArith.wf_i64 (by omega)
  obtain ⟨w4, r1, r2, r3⟩ := h.old.store law3 Tryz.underlying80 Tryz.underlying3 (zeroB w3) (N := 2000) (by unfold maxLen; omega) (fun j hj => by
    obtain ⟨u, hu⟩ := Option.isSome_iff_exists.1 hj
    have := h.ok.old j u hu
    omega) wi v
  exact ⟨w4, r1, h.putOld r3 r2 (range_upd h.ok.old h0 h1 hv), r3⟩

theorem now_blk {d : Dk} (h : d.Ok) (i : Int) : IsBlk ((d.now i).getD zb) := by
  cases hn : d.now i with
  | none => exact zb_blk
  | some v => exact (h.now i v hn).2.2

set_option maxRecDepth 100000 in
set_option maxHeartbeats 400000 in
theorem store_in (w : World) {p bn bo g gb : Nat} {d : Dk} (h : DiskAt w p bn bo g d) (i : Int) (h0 : 0 ≤ i) (h1 : i < d.tiles) (sv : Value) (l : List Int) (hs : SlB w sv l gb) (hl : l.length = 64) (hbl : bytesOk l) (hso : (d.old i).isSome = true) :
    Calls Tryz.prog 66 #[.pointer (some ⟨p, 0, none⟩), .int .i64 i, sv] w fun e w' => e = .returned (.tuple #[]) ∧ DiskAt w' p bn bo g (d.store i (blkOf l)) ∧ Fr w.heap.size (Three p bn bo) w w' := by
  have hblk := blkOf_blk hl hbl
  have c1 := h.c1
  have c2 := h.c2
  have wi : (Lit.int .i64 i).wf = true := by have := h.ok.hi; exact WalkArith.wf_i64 (by omega)
  obtain ⟨o0, ho0⟩ := Option.isSome_iff_exists.1 hso
  obtain ⟨co, rfl, hco, hco1⟩ := (h.ok.old i _ ho0).2.2.cells
  have k1 := h.old.look_ok law3 Tryz.underlying80 Tryz.underlying3 (zeroB w) wi
  rw [ho0] at k1
  simp only [Option.getD_some, Option.isSome_some] at k1
  have k2 := st_new w co hco hco1
  obtain ⟨p0, len, cap, rfl, rfl, hle, hcap, hn, ha⟩ := hs
  obtain ⟨a0, rfl⟩ : ∃ a0, p0 = some a0 := by cases p0; · rw [hn rfl] at hl; simp at hl
                                              · exact ⟨_, rfl⟩
  obtain ⟨rfl, hsp, hcell⟩ := ha _ rfl (by intro e; rw [e] at hl; cases hl)
  obtain ⟨gb, ao, _⟩ := a0
  cases hsp
  have hgb : gb < w.heap.size := block_lt_of_cell (hcell 0 (by omega))
  have HC := Lib.hid hcell
  have HS := Lib.hid hso
  clear hn ha ho0 hso hcell
  have HL := Lib.hid hl
  clear hl hco1
  go_enter Tryz.func66, Tryz.ntmps66
  go_wp2_with (with_reducible refine wpList_copy_splice (o := ⟨some 33, _, _, _, _, _⟩) rfl (.tmp 31) (.tmp 32) 33 33 rfl 5 Tryz.underlying33 info5 _ _ _ _ _ _ rfl rfl (w.heap.size + 1) 0 zcs.toList 124 ?c1 (byteV l) ?c2 ?c3 ?c4 ?c5 (w.heap.size + 1) ((w.alloc (.cells co 124)).alloc (.cells zcs 124)) ?c6 (Nat.le_refl _) ?_)
  case c1 => rw [← zlit]; exact (Array.getElem?_eq_some_iff.1 (heap_alloc2_new w _ _)).2
  case c2 => have := HL.out; simp [byteV, this]
  case c3 =>
    intro _ j v hv
    have hj : j < l.length := by have := (List.getElem?_eq_some_iff.1 hv).1; simpa [byteV] using this
    rw [HC.out j hj]
    simp [byteV] at hv
    obtain ⟨x, hx, rfl⟩ := hv
    rw [List.getElem?_eq_getElem hj] at hx
    cases hx
    rfl
  case c4 => have := HL.out; simp [byteV, this, zcs]
  case c5 => exact byteV_one l
  case c6 => rw [← zlit]; exact Below.refl _ _
  intro w3 hH hB
  have hf : Fr w.heap.size (Three p bn bo) w w3 := ⟨hB.os, hB.tape, hB.output, by have := hB.size; simp at this; omega, fun k hk _ => (hB.block k (by omega)).trans ((Below.heap_alloc _ _ k (by simp; omega)).trans (Below.heap_alloc _ _ k hk))⟩
  have h3 : DiskAt w3 p bn bo g d := h.kept (fun k hk => (hB.block k (by omega)).trans ((Below.heap_alloc _ _ k (by simp; omega)).trans (Below.heap_alloc _ _ k hk)))
  clear hB k1 k2 c1 c2
  have HR := hH.out
  rw [splice_all (by have := HL.out; simp [byteV, zcs, this])] at HR
  have hsz : (byteV l).toArray.size = 64 := by have := HL.out; simp [byteV, this]
  have c1 := h3.c1
  obtain ⟨w4, r1, r2, r3⟩ := store_end (w3 := w3.drew) (h3.kept fun _ _ => rfl) h0 h1 hblk
  unfold blkOf at r1
  generalize hbv : (byteV l).toArray = bv at r1 HR hsz
  have HR' := Lib.hid HR
  have HZ := Lib.hid hsz
  clear hbv HR hsz hH
  go_wp2
  refine wp_region_still_tail 6 (by kernel_rfl) (by kernel_rfl) ?_
  simp only [List.take_succ_cons, List.take_zero, List.drop_succ_cons, List.drop_zero]
  change wpStill _ _ w3.drew _ _ _
  iterate 5 still_step
  refine wpStill_load_row rfl _ _ rfl (w.heap.size + 1) rfl _ bv _ _ HR'.out Tryz.underlying124 rfl (by rw [infoB, HZ.out]) ?_
  refine wpStill_nil ?_
  change wpList _ _ _ _ _ w3.drew
  go_wp2
  go_end0
  refine ⟨rfl, ?_, ?_⟩
  · unfold Dk.store
    rw [if_pos HS.out]
    exact r2
  · exact hf.drew.turned (Or.inl (Or.inr (Or.inl rfl))) r3

set_option maxRecDepth 100000 in
set_option maxHeartbeats 400000 in
theorem store_new (w : World) {p bn bo g gb : Nat} {d : Dk} (h : DiskAt w p bn bo g d) (i : Int) (h0 : 0 ≤ i) (h1 : i < d.tiles) (sv : Value) (l : List Int) (hs : SlB w sv l gb) (hl : l.length = 64) (hbl : bytesOk l) (hso : (d.old i).isSome = false) :
    Calls Tryz.prog 66 #[.pointer (some ⟨p, 0, none⟩), .int .i64 i, sv] w fun e w' => e = .returned (.tuple #[]) ∧ DiskAt w' p bn bo g (d.store i (blkOf l)) ∧ Fr w.heap.size (Three p bn bo) w w' := by
  have hblk := blkOf_blk hl hbl
  have c1 := h.c1
  have c2 := h.c2
  have wi : (Lit.int .i64 i).wf = true := by have := h.ok.hi; exact WalkArith.wf_i64 (by omega)
  have ho0 : d.old i = none := by simpa using hso
  have k1 := h.old.look_ok law3 Tryz.underlying80 Tryz.underlying3 (zeroB w) wi
  rw [ho0] at k1
  simp only [Option.getD_none, Option.isSome_none] at k1
  unfold zb at k1
  have k2 := st_new w zcs rfl (by kernel_rfl)
  have hzs : zcs.size = 64 := rfl
  generalize hzc : zcs = co at k1 k2 hzs
  clear hzc
  obtain ⟨p0, len, cap, rfl, rfl, hle, hcap, hn, ha⟩ := hs
  obtain ⟨a0, rfl⟩ : ∃ a0, p0 = some a0 := by cases p0; · rw [hn rfl] at hl; simp at hl
                                              · exact ⟨_, rfl⟩
  obtain ⟨rfl, hsp, hcell⟩ := ha _ rfl (by intro e; rw [e] at hl; cases hl)
  obtain ⟨gb, ao, _⟩ := a0
  cases hsp
  have hgb : gb < w.heap.size := block_lt_of_cell (hcell 0 (by omega))
  have HS := Lib.hid hso
  clear hn ha ho0 hso
  have hl2 := hl
  have HL := Lib.hid hl
  clear hl
  have hD : DiskAt (w.alloc (.cells co 124)).drew p bn bo g d := h.kept (fun k hk => Below.heap_alloc _ _ k hk)
  have d1 := hD.c1
  have d2 := hD.c2
  rw [World.cell?_drew] at d1 d2
  have k4 := hD.now.look law3 Tryz.underlying80 Tryz.underlying3 (zeroB _) wi
  have hvb := now_blk h.ok i
  obtain ⟨w2, q1, q2, q3⟩ := store_old hD h0 h1 hvb
  have hgb2 : gb < w2.heap.size := by have := q3.grown.size; simp at this; omega
  have HC : Hid (∀ (j : Nat) (h : j < l.length), w2.cell? ⟨gb, ao + j, none⟩ = some (.int .u8 l[j])) := fun j hj => cell_turned q3 ((World.cell?_of_block (Below.heap_alloc _ _ gb hgb)).trans (hcell j hj))
  clear hcell hl2
  generalize hnv : (d.now i).getD zb = nv at k4 q1 hvb
  have HNV := Lib.hid hnv
  clear hnv
  go_enter Tryz.func66, Tryz.ntmps66
  go_wp2
  refine wp_region_still_tail 11 (by kernel_rfl) (by kernel_rfl) ?_
  simp only [List.take_succ_cons, List.take_zero, List.drop_succ_cons, List.drop_zero]
  change wpStill _ _ (w.alloc _).drew _ _ _
  iterate 11 still_step
  refine wpStill_nil ?_
  change wpList _ _ _ _ _ (w.alloc _).drew
  go_wp2_with (with_reducible refine wpList_copy_splice (o := ⟨some 33, _, _, _, _, _⟩) rfl (.tmp 31) (.tmp 32) 33 33 rfl 5 Tryz.underlying33 info5 _ _ _ _ _ _ rfl rfl w2.heap.size 0 zcs.toList 124 ?c1 (byteV l) ?c2 ?c3 ?c4 ?c5 w2.heap.size (w2.alloc (.cells zcs 124)) ?c6 (Nat.le_refl _) ?_)
  case c1 => rw [← zlit]; exact heap_alloc_new w2 _
  case c2 => have := HL.out; simp [byteV, this]
  case c3 =>
    intro _ j v hv
    have hj : j < l.length := by have := (List.getElem?_eq_some_iff.1 hv).1; simpa [byteV] using this
    rw [HC.out j hj]
    simp [byteV] at hv
    obtain ⟨x, hx, rfl⟩ := hv
    rw [List.getElem?_eq_getElem hj] at hx
    cases hx
    rfl
  case c4 => have := HL.out; simp [byteV, this, zcs]
  case c5 => exact byteV_one l
  case c6 => rw [← zlit]; exact Below.refl _ _
  intro w3 hH hB
  have hf2 : Fr w.heap.size (Three p bn bo) w w2 := ((Fr.refl _ _ w).alloc (Nat.le_refl _) (.cells co 124)).drew.turned (Or.inl (Or.inr (Or.inr rfl))) q3
  have hz2 := hf2.size
  have hf : Fr w.heap.size (Three p bn bo) w w3 := hf2.trans (B' := w2.heap.size) (S' := fun _ => False) ⟨hB.os, hB.tape, hB.output, by have := hB.size; simp at this; omega, fun k hk _ => (hB.block k hk).trans (Below.heap_alloc _ _ k hk)⟩ hz2 (fun _ _ e => e.elim)
  have h3 : DiskAt w3 p bn bo g _ := q2.kept (fun k hk => (hB.block k hk).trans (Below.heap_alloc _ _ k hk))
  clear hB k1 k2 c1 c2 d1 d2 k4 q1
  have HR := hH.out
  rw [splice_all (by have := HL.out; simp [byteV, zcs, this])] at HR
  have hsz : (byteV l).toArray.size = 64 := by have := HL.out; simp [byteV, this]
  have c1 := h3.c1
  obtain ⟨w4, r1, r2, r3⟩ := store_end (w3 := w3.drew) (h3.kept fun _ _ => rfl) h0 h1 hblk
  unfold blkOf at r1
  generalize hbv : (byteV l).toArray = bv at r1 HR hsz
  have HR' := Lib.hid HR
  have HZ := Lib.hid hsz
  clear hbv HR hsz hH
  go_wp2
  refine wp_region_still_tail 6 (by kernel_rfl) (by kernel_rfl) ?_
  simp only [List.take_succ_cons, List.take_zero, List.drop_succ_cons, List.drop_zero]
  change wpStill _ _ w3.drew _ _ _
  iterate 5 still_step
  refine wpStill_load_row rfl _ _ rfl w2.heap.size rfl _ bv _ _ HR'.out Tryz.underlying124 rfl (by rw [infoB, HZ.out]) ?_
  refine wpStill_nil ?_
  change wpList _ _ _ _ _ w3.drew
  go_wp2
  go_end0
  refine ⟨rfl, ?_, ?_⟩
  · unfold Dk.store
    rw [if_neg (by rw [HS.out]; simp)]
    exact r2
  · exact hf.drew.turned (Or.inl (Or.inr (Or.inl rfl))) r3

theorem store_any (w : World) {p bn bo g gb : Nat} {d : Dk} (h : DiskAt w p bn bo g d) (i : Int) (h0 : 0 ≤ i) (h1 : i < d.tiles) (sv : Value) (l : List Int) (hs : SlB w sv l gb) (hl : l.length = 64) (hbl : bytesOk l) :
    Calls Tryz.prog 66 #[.pointer (some ⟨p, 0, none⟩), .int .i64 i, sv] w fun e w' => e = .returned (.tuple #[]) ∧ DiskAt w' p bn bo g (d.store i (blkOf l)) ∧ Fr w.heap.size (Three p bn bo) w w' := by
  cases hso : (d.old i).isSome
  · exact store_new w h i h0 h1 sv l hs hl hbl hso
  · exact store_in w h i h0 h1 sv l hs hl hbl hso
end Go.Proofs.YtljbhdldfffpfaaGreat
namespace Go.Proofs.YtljbhdldfffpfaaGreat
open Go.RowKit Go.Maps

def Dk.fresh (n : Int) : Dk := { tiles := n, now := fun _ => none, old := fun _ => none, dead := false, set := false, left := 0, mv := .slice none 0 0, mask := [] }

def clampT (n : Int) : Int := if n < 0 then 0 else if 2000 < n then 2000 else n

theorem fresh_at (w : World) (t : Int) (h0 : 0 ≤ t) (h1 : t ≤ 2000) : DiskAt (((w.alloc (.map #[] 0)).alloc (.map #[] 0)).alloc (.cells #[.int .i64 t, .map (some w.heap.size), .map (some (w.heap.size + 1)), .bool false, .bool false, .int .i64 0, .slice none 0 0] 84)) (w.heap.size + 1 + 1) w.heap.size (w.heap.size + 1) 0 (.fresh t) := by
  have e2 : ((w.alloc (.map #[] 0)).alloc (.map #[] 0)).heap.size = w.heap.size + 1 + 1 := by simp
  have e1 : (w.alloc (.map #[] 0)).heap.size = w.heap.size + 1 := by simp
  refine ⟨?_, ?_, ?_, ?_, ⟨by omega, by omega, by omega, by omega⟩, ⟨h0, h1, ?_, ?_, by simp [Dk.fresh], by simp [Dk.fresh], by simp [Dk.fresh, bytesOk]⟩⟩
  · rw [← e2]; exact heap_alloc_new _ _
  · exact (fm_made w _ _).of_block ((Below.heap_alloc _ _ _ (by omega)).trans (Below.heap_alloc _ _ _ (by omega)))
  · have := fm_made (w.alloc (.map #[] 0)) Tryz.prog 3
    rw [e1] at this
    exact this.of_block (Below.heap_alloc _ _ _ (by omega))
  · exact ⟨_, _, _, rfl, rfl, Nat.le_refl _, by omega, fun _ => rfl, fun a e => by cases e⟩
  · intro i v e; cases e
  · intro i v e; cases e

theorem fresh_below (w : World) (o1 o2 o3 : Obj) : Below w.heap.size w (((w.alloc o1).alloc o2).alloc o3) :=
  (((Below.refl _ w).alloc (Nat.le_refl _) o1).alloc (by simp) o2).alloc (by simp; omega) o3

theorem new_any (w : World) (n : Int) : Calls Tryz.prog 10 #[.int .i64 n] w fun e w' => e = .returned (.pointer (some ⟨w.heap.size + 1 + 1, 0, none⟩)) ∧ DiskAt w' (w.heap.size + 1 + 1) w.heap.size (w.heap.size + 1) 0 (.fresh (clampT n)) ∧ Below w.heap.size w w' := by
  have hmm := @run_makeMap Tryz.prog
  rcases Int.lt_or_le n 0 with h | h
  · have e0 : clampT n = 0 := by unfold clampT; rw [if_pos h]
    rw [e0]
    go_enter Tryz.func10, Tryz.ntmps10
    go_wp2
    go_ret
    exact ⟨rfl, fresh_at w 0 (by omega) (by omega), fresh_below w _ _ _⟩
  · rcases Int.lt_or_le 2000 n with h2 | h2
    · have e0 : clampT n = 2000 := by unfold clampT; rw [if_neg (by omega), if_pos h2]
      rw [e0]
      go_enter Tryz.func10, Tryz.ntmps10
      go_wp2
      go_ret
      exact ⟨rfl, fresh_at w 2000 (by omega) (by omega), fresh_below w _ _ _⟩
    · have e0 : clampT n = n := by unfold clampT; rw [if_neg (by omega), if_neg (by omega)]
      rw [e0]
      go_enter Tryz.func10, Tryz.ntmps10
      go_wp2
      go_ret
      exact ⟨rfl, fresh_at w n (by omega) (by omega), fresh_below w _ _ _⟩

theorem read_nil (w : World) (i : Int) : Calls Tryz.prog 24 #[.pointer none, .int .i64 i] w fun e w' => e = .returned (.tuple #[.slice none 0 0, .int .i64 1]) ∧ w' = w := by
  have HR := Lib.hid (ready_nil w)
  go_enter Tryz.func24, Tryz.ntmps24
  go_wp2_with (go_at_call 60; refine HR.out.mono ?_; rintro e w' ⟨rfl, rfl⟩)
  go_ret2
  exact ⟨rfl, rfl⟩

set_option maxRecDepth 100000 in
theorem read_ok (w : World) {p bn bo g : Nat} {d : Dk} (h : DiskAt w p bn bo g d) (hd : d.dead = false) (i : Int) (h0 : 0 ≤ i) (h1 : i < d.tiles) (l : List Int) (hl : (d.now i).getD zb = blkOf l) (hl2 : l.length = 64) : Calls Tryz.prog 24 #[.pointer (some ⟨p, 0, none⟩), .int .i64 i] w fun e w' => e = .returned (.tuple #[.slice (some ⟨w.heap.size, 0, none⟩) 64 64, .int .i64 0]) ∧ w' = w.alloc (.cells (byteV l).toArray 124) := by
  have hr := ready_any w h
  rw [hd] at hr
  have HR := Lib.hid hr
  have hh := has_any w h i
  rw [decide_eq_true ⟨h0, h1⟩] at hh
  have HH := Lib.hid hh
  clear hr hh
  have c1 := h.c1
  have wi : (Lit.int .i64 i).wf = true := by have := h.ok.hi; exact WalkArith.wf_i64 (by omega)
  have k4 := h.now.look law3 Tryz.underlying80 Tryz.underlying3 (zeroB _) wi
  rw [hl] at k4
  unfold blkOf at k4
  have hsz : (byteV l).toArray.size = 64 := by simp [byteV, hl2]
  have k2 := st_new w (byteV l).toArray hsz (by simpa using byteV_one l)
  generalize (byteV l).toArray = co at k2 k4 hsz
  clear hl hl2
  go_enter Tryz.func24, Tryz.ntmps24
  go_wp2_with (first | (go_at_call 60; refine HR.out.mono ?_; rintro e w' ⟨rfl, rfl⟩) | (go_at_call 61; refine HH.out.mono ?_; rintro e w' ⟨rfl, rfl⟩))
  go_ret2
  exact ⟨rfl, rfl⟩
end Go.Proofs.YtljbhdldfffpfaaGreat
