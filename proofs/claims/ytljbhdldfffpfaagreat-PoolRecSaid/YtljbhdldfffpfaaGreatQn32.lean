/- PoolNone, a part. -/
import Derived.Test.YtljbhdldfffpfaaGreatQn21
import Derived.Test.YtljbhdldfffpfaaGreatQn30
import Derived.Test.YtljbhdldfffpfaaGreatQn31
import Derived.Test.YtljbhdldfffpfaaGreatQn5
import Derived.OwnWalk
import Derived.Laws.Tables
namespace Go.Proofs.YtljbhdldfffpfaaGreat.Hp
open Go.RowKit Go.Proofs.YtljbhdldfffpfaaGreat Go.Proofs.YtljbhdldfffpfaaGreat.Lf

theorem read_end {W : World} {tmps : Array Value} {q : Nat} {x : Pg} {t : TypeId} {er : Int} (h4 : tmps.getD 4 undef = .pointer (some ⟨q, 0, none⟩)) (h5 : tmps.getD 5 undef = .int .i64 er) (k : W.heap[q]? = some (.cells x.c t (0, 0))) : (results Tryz.f73 tmps).run Tryz.prog W = .ok (.tuple #[x.v, .int .i64 er]) W := by
  rw [Array.getD_eq_getD_getElem?] at h4 h5
  have a0 := (pg_cells k).1 0 (by decide)
  have a1 := (pg_cells k).1 1 (by decide)
  have a2 := (pg_cells k).1 2 (by decide)
  have a3 := (pg_cells k).1 3 (by decide)
  have a4 := (pg_cells k).2.1
  simp [results, Tryz.results73, go_sem, h4, h5, a0, a1, a2, a3, a4, Pg.v]

/-- What is read of two tiles: as Take has it. -/
def RPost (w : World) (l m : List Int) (e : Ending) (w' : World) : Prop := ∃ er c x, Tk l m er c x.l ∧ e = .returned (.tuple #[Pg.v x, .int .i64 er]) ∧ Cs w' x.P x.N x.K c ∧ Below w.heap.size w w'

theorem slk_fin {W : World} {v : Value} {l : List Int} (h : SlK .u8 W v l) {q : Nat} {y : Pg} {t : TypeId} (hq : W.heap[q]? = some (.cells y.c t (0, 0))) (x : Pg) : SlK .u8 (fin5 W q x) v l := by
  unfold fin5
  have h0 := heap_setCell_same W q 0 _ _ (.slice (x.P 0) (x.N 0) (x.K 0)) hq
  have h1 := heap_setCell_same _ q 1 _ _ (.slice (x.P 1) (x.N 1) (x.K 1)) h0
  have h2 := heap_setCell_same _ q 2 _ _ (.slice (x.P 2) (x.N 2) (x.K 2)) h1
  have h3 := heap_setCell_same _ q 3 _ _ (.slice (x.P 3) (x.N 3) (x.K 3)) h2
  refine slk_set (slk_set (slk_set (slk_set (slk_set h fun z e => ?n0) fun z e => ?n1) fun z e => ?n2) fun z e => ?n3) fun z e => ?n4
  case n0 =>
    rw [(cell_of hq 0).1] at e
    have e2 : some (.slice (y.P 0) (y.N 0) (y.K 0) : Value) = some (.int .u8 z) := e
    cases e2
  case n1 =>
    rw [(cell_of h0 1).1] at e
    have e2 : some (.slice (y.P 1) (y.N 1) (y.K 1) : Value) = some (.int .u8 z) := e
    cases e2
  case n2 =>
    rw [(cell_of h1 2).1] at e
    have e2 : some (.slice (y.P 2) (y.N 2) (y.K 2) : Value) = some (.int .u8 z) := e
    cases e2
  case n3 =>
    rw [(cell_of h2 3).1] at e
    have e2 : some (.slice (y.P 3) (y.N 3) (y.K 3) : Value) = some (.int .u8 z) := e
    cases e2
  case n4 =>
    rw [(cell_of h3 4).1] at e
    have e2 : some (.int .i64 y.l : Value) = some (.int .u8 z) := e
    cases e2
theorem fin5_below {B : Nat} {a W : World} {q : Nat} (h : Below B a W) (hq : B ≤ q) (x : Pg) : Below B a (fin5 W q x) :=
  ((((h.setCell (p := ⟨q, 0, none⟩) hq _).setCell (p := ⟨q, 1, none⟩) hq _).setCell (p := ⟨q, 2, none⟩) hq _).setCell (p := ⟨q, 3, none⟩) hq _).setCell (p := ⟨q, 4, none⟩) hq _
theorem cs_fin {W : World} {P : Nat → Option Addr} {N K : Nat → Nat} {c : Nat → List Int} (h : Cs W P N K c) {q : Nat} {y : Pg} {t : TypeId} (hq : W.heap[q]? = some (.cells y.c t (0, 0))) (x : Pg) : Cs (fin5 W q x) P N K c :=
  fun i hi => ⟨(h i hi).1, slk_fin (h i hi).2 hq x⟩

set_option maxHeartbeats 1000000 in
theorem pread_any (w : World) {p bn bo g : Nat} {x : Po} {d : Dk} (hx : PoAt w p x) (h : DkAt w x.dk bn bo g d) (n : Nat) (hn : n ≤ 1000) (hfit : (x.first : Int) + 2 * n + 1 < d.tiles) {l m : List Int} (hl : d.has ((x.first : Int) + 2 * n) l) (hm : d.has ((x.first : Int) + 2 * n + 1) m) :
    Calls Tryz.prog 73 #[.pointer (some ⟨p, 0, none⟩), .int .i64 (n : Int)] w (RPost w l m) := by
  have hb0 : Below w.heap.size w (w.alloc (.cells Pg.zero.c 42)) := (Below.refl _ _).alloc (Nat.le_refl _) _
  have HZ3 := Lib.hid (heap_alloc_new w (.cells Pg.zero.c 42))
  have hs0 : (w.alloc (.cells Pg.zero.c 42)).heap.size = w.heap.size + 1 := Array.size_push _
  have hT := tiles_ok _ (hx.on hb0) (h.on fun k hk => hb0.block k (h.lt hk)) n hn hfit hl hm
  rw [hs0] at hT
  go_enter Tryz.func73, Tryz.ntmps73
  go_upto_region 1 with fail
  change Code.wp _ _ _ _ (w.alloc (.cells Pg.zero.c 42))
  generalize w.alloc (.cells Pg.zero.c 42) = w1 at *
  have hr1 : SlK .u8 (twoB w1 l m) (.slice (some ⟨w.heap.size + 1, 0, none⟩) 64 64) l := by
    have hb := (Below.refl (w1.alloc (.cells (byteV l).toArray 124)).heap.size (w1.alloc (.cells (byteV l).toArray 124))).alloc (Nat.le_refl _) (.cells (byteV m).toArray 124)
    rw [← hs0]
    exact ((pt_row (heap_alloc_new w1 _) hl.2.1).slK hl.2.2).below hb (Nat.le_refl _)
  have hr2 : SlK .u8 (twoB w1 l m) (.slice (some ⟨w.heap.size + 1 + 1, 0, none⟩) 64 64) m := by
    have hs : (w1.alloc (.cells (byteV l).toArray 124)).heap.size = w.heap.size + 1 + 1 := by rw [← hs0]; exact Array.size_push _
    rw [← hs]
    exact (pt_row (heap_alloc_new _ _) hm.2.1).slK hm.2.2
  have hb2 : Below w1.heap.size w1 (twoB w1 l m) := ((Below.refl _ _).alloc (Nat.le_refl _) _).trans (((Below.refl _ _).alloc (Nat.le_refl _) _).mono (by rw [show (w1.alloc (.cells (byteV l).toArray 124)).heap.size = w1.heap.size + 1 from Array.size_push _]; omega))
  generalize twoB w1 l m = w2 at *
  have HT := Lib.hid hT
  have HTk := Lib.hid (ltake_any w2 _ _ l m hr1 hr2)
  have HB0 := Lib.hid hb0
  have HB2 := Lib.hid hb2
  have HZ4 := Lib.hid ((hb2.block w.heap.size (by omega)).trans HZ3.out)
  have hs2 := hb2.size
  clear hT hr1 hr2 hb0 hb2 hx h hl hm hfit HZ3
  go_upto_region 4 with (go_at_call 85; refine HT.out.mono ?_; rintro e w' ⟨rfl, hw⟩; obtain rfl := hw.symm; clear hw)
  go_wp2_with (go_at_call 94; refine HTk.out.mono ?_; rintro e w3 ⟨er, c, k, P, N, K, htk, rfl, hcs, hb3⟩; unfold pgV; have HZ5 := Lib.hid ((hb3.block w.heap.size (by omega)).trans HZ4.out); have HTK := Lib.hid htk; have HCS := Lib.hid hcs; have HB3 := Lib.hid hb3; clear htk hcs hb3; have z0 := (pg_cells HZ5.out).1 0 (by decide); have z1 := (pg_cells HZ5.out).1 1 (by decide); have z2 := (pg_cells HZ5.out).1 2 (by decide); have z3 := (pg_cells HZ5.out).1 3 (by decide); have z4 := (pg_cells HZ5.out).2.1; have y0 := (pg_cells HZ5.out).2.2 0; have y1 := (pg_cells HZ5.out).2.2 1; have y2 := (pg_cells HZ5.out).2.2 2; have y3 := (pg_cells HZ5.out).2.2 3; have y4 := (pg_cells HZ5.out).2.2 4)
  have hE := fin5_heap (x := ⟨P, N, K, k⟩) HZ5.out
  have hC := cs_fin HCS.out HZ5.out ⟨P, N, K, k⟩
  have hB := fin5_below (q := w.heap.size) ((HB0.out.trans (HB2.out.mono (by omega))).trans (HB3.out.mono (by omega))) (Nat.le_refl _) ⟨P, N, K, k⟩
  clear z0 z1 z2 z3 z4 y0 y1 y2 y3 y4
  change bodyPost _ _ _ _ _ (fin5 w3 w.heap.size ⟨P, N, K, k⟩)
  exact bodyPost_ret (read_end rfl rfl hE) rfl ⟨er, c, ⟨P, N, K, k⟩, HTK.out, rfl, hC, hB⟩
end Go.Proofs.YtljbhdldfffpfaaGreat.Hp
namespace Go.Proofs.YtljbhdldfffpfaaGreat.Hp
open Go.RowKit Go.Proofs.YtljbhdldfffpfaaGreat

/-- How many places there are. -/
def roomOf (n : Int) : Nat := (min (max n 1) 64).toNat
def newS (n : Nat) : St := ⟨n, fun _ => Pl.zero, 0⟩

theorem made_places (n : Nat) : madeCells (Value.agg #[.bool false, .int .i64 0, .slice none 0 0, .slice none 0 0, .slice none 0 0, .slice none 0 0, .int .i64 0, .bool false, .int .i64 0]).cells (n * 9) = rowP n fun _ => Pl.zero := by
  show _ = rowV n 9 fun _ => Pl.zero.c
  refine rowV_ext (n := n) (k := 9) (V := fun _ => Pl.zero.c) (fun _ => rfl) (by decide) (by rw [size_madeCells]) fun i j hi hj => ?_
  have h : i * 9 + j < n * 9 := by omega
  have e : (i * 9 + j) % 9 = j := by omega
  unfold madeCells
  rw [Array.getElem?_map, Array.getElem?_range, if_pos h]
  show some ((Value.agg #[.bool false, .int .i64 0, .slice none 0 0, .slice none 0 0, .slice none 0 0, .slice none 0 0, .int .i64 0, .bool false, .int .i64 0]).cells[(i * 9 + j) % 9]!) = _
  rw [e]
  match j, hj with
  | 0, _ => rfl
  | 1, _ => rfl
  | 2, _ => rfl
  | 3, _ => rfl
  | 4, _ => rfl
  | 5, _ => rfl
  | 6, _ => rfl
  | 7, _ => rfl
  | 8, _ => rfl
/-- The cells of a cache without keys, and m places. -/
def newC (m : Int) : Array Value := madeCells (Value.agg #[.bool false, .int .i64 0, .slice none 0 0, .slice none 0 0, .slice none 0 0, .slice none 0 0, .int .i64 0, .bool false, .int .i64 0]).cells (64 * 9) ++ #[.int .i64 m, .int .i64 0]
theorem newC_row (m : Nat) : newC (m : Int) = rowH (newS m) := by
  have e : clip m (fun _ => Pl.zero) = fun _ => Pl.zero := by funext j; unfold clip; split <;> rfl
  unfold newC rowH newS
  rw [e, made_places]
  rfl

def zeC : Array Value := newC 0
theorem zeC_size : zeC.size = 578 := by
  unfold zeC newC
  rw [Array.size_append, size_madeCells]
  rfl
theorem zeC_set (m : Int) : zeC.setIfInBounds 576 (.int .i64 m) = newC m := by
  apply Array.ext_getElem?
  intro x
  unfold zeC newC
  rw [Array.getElem?_setIfInBounds, Array.size_append, size_madeCells, Array.getElem?_append, Array.getElem?_append, size_madeCells]
  by_cases e : 576 = x
  · subst e; rfl
  · rw [if_neg e]
    by_cases e2 : x < 64 * 9
    · rw [if_pos e2, if_pos e2]
    · rw [if_neg e2, if_neg e2]
      obtain ⟨y, rfl⟩ : ∃ y, x = 577 + y := ⟨x - 577, by omega⟩
      rw [show 577 + y - 64 * 9 = y + 1 by omega]
      rfl
set_option maxRecDepth 100000 in
theorem zero_hand (w : World) : (zeroValue 97).run Tryz.prog w = .ok (.agg zeC) w := by kernel_rfl
theorem box_new (m : Int) (w : World) : (Instr.box 97 (.agg (newC m))).run Tryz.prog w = .ok (.pointer (some ⟨w.heap.size, 0, none⟩)) (w.alloc (.cells (newC m) 97)) := by
  rfl
set_option maxRecDepth 100000 in
set_option maxHeartbeats 2000000 in
theorem make_at (w : World) (n m : Int) (hm : m = min (max n 1) 64) : Calls Tryz.prog 39 #[.int .i64 n] w fun e w' => e = .returned (.pointer (some ⟨w.heap.size, 0, none⟩)) ∧ w' = w.alloc (.cells (newC m) 97) := by
  have hz := zero_hand
  have hzs := zeC_size
  have hzt := zeC_set
  have hbox := box_new m
  by_cases c1 : n < 1
  · obtain rfl : m = 1 := by omega
    have c1' : ¬ 1 ≤ n := by omega
    clear hm
    go_enter Tryz.func39, Tryz.ntmps39
    go_wp2
    go_ret
    exact ⟨rfl, rfl⟩
  · by_cases c2 : 64 < n
    · obtain rfl : m = 64 := by omega
      have c1' : 1 ≤ n := by omega
      clear hm
      go_enter Tryz.func39, Tryz.ntmps39
      go_wp2
      go_ret
      exact ⟨rfl, rfl⟩
    · obtain rfl : m = n := by omega
      have c1' : 1 ≤ m := by omega
      clear hm
      go_enter Tryz.func39, Tryz.ntmps39
      go_wp2
      go_ret
      exact ⟨rfl, rfl⟩


theorem fold_put (off : Nat) : ∀ (C : List Value) (k : Nat) (cells : Array Value), (C.zipIdx k).foldl (fun cs x => cs.setIfInBounds (off + x.2) x.1) cells = putRow cells (off + k) C
  | [], _, _ => rfl
  | c :: r, k, cells => by
    rw [List.zipIdx_cons, List.foldl_cons]
    show ((r.zipIdx (k + 1)).foldl _ (cells.setIfInBounds (off + k) c)) = putRow (cells.setIfInBounds (off + k) c) (off + k + 1) r
    rw [fold_put off r (k + 1)]
    rfl
theorem fold_putA (off : Nat) (C cells : Array Value) : C.zipIdx.foldl (fun cs x => cs.setIfInBounds (off + x.2) x.1) cells = putRow cells off C.toList := by
  rw [← Array.foldl_toList, Array.toList_zipIdx]
  exact fold_put off C.toList 0 cells
end Go.Proofs.YtljbhdldfffpfaaGreat.Hp
namespace Go.Proofs.YtljbhdldfffpfaaGreat.Hp
open Go.RowKit Go.Proofs.YtljbhdldfffpfaaGreat

theorem built_struct {P : Program} {t : TypeId} {z : Value} {fields : Array Field} {places : List (Nat × Nat)} (h1 : (P.info? t).map (·.zero) = some (some z)) (h2 : P.underlying t = some (.struct fields)) (h3 : fields.toList.mapM (fun f => (P.info? f.type).map fun i => (f.offset, i.size)) = some places) (parts : List (Nat × Value)) : P.built t parts = Instr.fill (places.toArray[·]?) z.cells parts := by
  unfold Program.built
  cases hi : P.info? t with
  | none => simp [hi] at h1
  | some it =>
    have hz : it.zero = some z := by simpa [hi] using h1
    simp only [h2, hz, h3]
theorem fill_one {place : Nat → Option (Nat × Nat)} {cells : Array Value} {i off size : Nat} {v : Value} {rest : List (Nat × Value)} (h1 : place i = some (off, size)) (h2 : v.cells.size = size) (h3 : off + size ≤ cells.size) : Instr.fill place cells ((i, v) :: rest) = Instr.fill place (putRow cells off v.cells.toList) rest := by
  rw [← fold_putA]
  conv => lhs; unfold Instr.fill
  rw [h1]
  simp only
  rw [if_neg (by simp [h2]; omega)]
def zeP : Array Value := (#[.pointer none, .pointer none, .int .i64 0, .int .i64 0] ++ zeC) ++ #[.map none]
theorem zeP_size : zeP.size = 583 := by
  unfold zeP
  rw [Array.size_append, Array.size_append, zeC_size]
  rfl
set_option maxRecDepth 100000 in
theorem zero_pool : (Tryz.prog.info? 102).map (·.zero) = some (some (.agg zeP)) := by kernel_rfl
def plP : List (Nat × Nat) := [(0, 1), (1, 1), (2, 1), (3, 1), (4, 578), (582, 1)]
set_option maxRecDepth 100000 in
theorem pool_places : (Tryz.prog.fieldsOf 102).toList.mapM (fun f => (Tryz.prog.info? f.type).map fun i => (f.offset, i.size)) = some plP := by kernel_rfl
theorem run_pool : Tryz.prog.underlying 102 = some (.struct (Tryz.prog.fieldsOf 102)) := by kernel_rfl
end Go.Proofs.YtljbhdldfffpfaaGreat.Hp
namespace Go.Proofs.YtljbhdldfffpfaaGreat.Hp
open Go.RowKit Go.Proofs.YtljbhdldfffpfaaGreat

theorem pool_built (a b : Option Addr) (f n : Int) (C : Array Value) (m : Nat) (hC : C.size = 578) :
    Tryz.prog.built 102 [(0, .pointer a), (1, .pointer b), (2, .int .i64 f), (3, .int .i64 n), (4, .agg C), (5, .map (some m))] = some (#[.pointer a, .pointer b, .int .i64 f, .int .i64 n] ++ C ++ #[.map (some m)]) := by
  rw [built_struct zero_pool run_pool pool_places]
  have hz := zeP_size
  have hcl : C.toList.length = 578 := by simp [hC]
  show Instr.fill _ zeP _ = _
  rw [fill_one (off := 0) (size := 1) rfl rfl (by omega), fill_one (off := 1) (size := 1) rfl rfl (by rw [putRow_size]; omega), fill_one (off := 2) (size := 1) rfl rfl (by rw [putRow_size, putRow_size]; omega),
    fill_one (off := 3) (size := 1) rfl rfl (by rw [putRow_size, putRow_size, putRow_size]; omega), fill_one (v := .agg C) (off := 4) (size := 578) rfl hC (by rw [putRow_size, putRow_size, putRow_size, putRow_size]; omega),
    fill_one (off := 582) (size := 1) rfl rfl (by rw [putRow_size, putRow_size, putRow_size, putRow_size, putRow_size]; omega)]
  show some _ = some _
  congr 1
  apply Array.ext_getElem?
  intro y
  have s4 : (#[.pointer a, .pointer b, .int .i64 f, .int .i64 n] : Array Value).size = 4 := rfl
  show (putRow (putRow ((((zeP.setIfInBounds 0 (.pointer a)).setIfInBounds 1 (.pointer b)).setIfInBounds 2 (.int .i64 f)).setIfInBounds 3 (.int .i64 n)) 4 C.toList) 582 [.map (some m)])[y]? = _
  rw [putRow_at _ _ _ _ (by rw [putRow_size]; simp [hz]), putRow_at _ _ _ _ (by simp [hz, hC])]
  by_cases e1 : y < 4
  · rw [if_neg (by omega), if_neg (by omega), Array.getElem?_append_left (by rw [Array.size_append, s4]; omega), Array.getElem?_append_left (by rw [s4]; exact e1)]
    simp only [Array.getElem?_setIfInBounds, Array.size_setIfInBounds, hz]
    match y, e1 with
    | 0, _ => rfl
    | 1, _ => rfl
    | 2, _ => rfl
    | 3, _ => rfl
  · by_cases e2 : y < 582
    · rw [if_neg (by omega), if_pos (by omega), Array.getElem?_append_left (by rw [Array.size_append, s4]; omega), Array.getElem?_append_right (by rw [s4]; omega), s4]
      simp
    · by_cases e3 : y = 582
      · subst e3
        rw [if_pos (by simp), Array.getElem?_append_right (by rw [Array.size_append, s4]; omega), Array.size_append, s4, hC]
        rfl
      · rw [if_neg (by simp; omega), if_neg (by omega), Array.getElem?_eq_none (by simp [hz]; omega), Array.getElem?_eq_none (by simp [hC]; omega)]
theorem run_build_pool (a b : Option Addr) (f n : Int) (C : Array Value) (m : Nat) (hC : C.size = 578) (w : World) : (Instr.build 102 #[(0, .pointer a), (1, .pointer b), (2, .int .i64 f), (3, .int .i64 n), (4, .agg C), (5, .map (some m))]).run Tryz.prog w = .ok (.agg (#[.pointer a, .pointer b, .int .i64 f, .int .i64 n] ++ C ++ #[.map (some m)])) w :=
  run_build w _ _ _ (pool_built a b f n C m hC)
end Go.Proofs.YtljbhdldfffpfaaGreat.Hp
namespace Go.Proofs.YtljbhdldfffpfaaGreat.Hp
open Go.RowKit Go.Proofs.YtljbhdldfffpfaaGreat

theorem run_hand : Tryz.prog.underlying 97 = some (.struct (Tryz.prog.fieldsOf 97)) := by kernel_rfl
theorem newC_size (m : Int) : (newC m).size = 578 := by
  unfold newC
  rw [Array.size_append, size_madeCells]
  rfl
theorem info_hand (m : Int) : (Tryz.prog.info? 97).map (·.size) = some (newC m).size := by
  rw [newC_size]; kernel_rfl
theorem box_pool (C : Array Value) (w : World) : (Instr.box 102 (.agg C)).run Tryz.prog w = .ok (.pointer (some ⟨w.heap.size, 0, none⟩)) (w.alloc (.cells C 102)) := by
  rfl
theorem wpList_build {P : Program} {ops : Array Oper} {rest : List Oper} {o : Oper} {a : Act} {w : World} {Q : Exit → Act → World → Prop} (hgd : o.guard = none) (ty : TypeId) (parts : Array (Nat × Operand)) (ho : o.op = .build ty parts) (vals : Array (Nat × Value)) (hv : (parts.map fun (i, x) => (i, a.eval x)) = vals) (r : Value) (hr : (Instr.build ty vals).run P w = .ok r w) (h : wpList P ops Q rest (a.put o.dst r) w) : wpList P ops Q (o :: rest) a w :=
  wpList_plain hgd fun _ hK => by
    unfold Oper.wp execOp
    simp only [ho, hv, hr, Sem.run_bind, Sem.run_pure, Result.andThen_ok]
    exact hK _ _ h
set_option maxHeartbeats 1000000 in
theorem pnew_any (w : World) (dk : Nat) (lg : Option Nat) (f n : Nat) (fr : Int) (hf : f ≤ 1000) (hn : n ≤ 1000) :
    Calls Tryz.prog 12 #[.pointer (some ⟨dk, 0, none⟩), .pointer (lg.map fun l => ⟨l, 0, none⟩), .int .i64 (f : Int), .int .i64 (n : Int), .int .i64 fr] w fun e w' => ∃ p bm, e = .returned (.pointer (some ⟨p, 0, none⟩)) ∧ w.heap.size ≤ p ∧ w.heap.size ≤ bm ∧ PoAt w' p ⟨dk, lg, f, n, newS (roomOf fr), bm, fun _ => none⟩ ∧ Below w.heap.size w w' := by
  have hm : ((roomOf fr : Nat) : Int) = min (max fr 1) 64 := by unfold roomOf; omega
  have h1 : 1 ≤ roomOf fr := by unfold roomOf; omega
  have h2 : roomOf fr ≤ 64 := by unfold roomOf; omega
  have HM := Lib.hid (make_at w fr (roomOf fr : Int) hm)
  have HI := Lib.hid (info_hand (roomOf fr : Int))
  have HG := Lib.hid (heap_alloc_new w (.cells (newC (roomOf fr : Int)) 97))
  have hbld := fun m w => run_build_pool (some ⟨dk, 0, none⟩) (lg.map fun l => ⟨l, 0, none⟩) (f : Int) (n : Int) (newC (roomOf fr : Int)) m (newC_size _) w
  have hb1 : Below w.heap.size w (w.alloc (.cells (newC (roomOf fr : Int)) 97)) := (Below.refl _ _).alloc (Nat.le_refl _) _
  have hmx : ¬ (n : Int) < 0 := by omega
  have hR := newC_row (roomOf fr)
  generalize newC (roomOf fr : Int) = C at *
  generalize hW : w.alloc (.cells C 97) = w1 at *
  have hmm := @run_makeMap Tryz.prog
  have hbx := fun R => box_pool R
  have HBL := Lib.hid (hbld w1.heap.size)
  obtain ⟨R, hRd⟩ : ∃ R, R = (#[.pointer (some ⟨dk, 0, none⟩), .pointer (lg.map fun l => ⟨l, 0, none⟩), .int .i64 (f : Int), .int .i64 (n : Int)] ++ C ++ #[.map (some w1.heap.size)] : Array Value) := ⟨_, rfl⟩
  rw [← hRd] at HBL
  have HRD := Lib.hid hRd
  have HB1 := Lib.hid hb1
  clear hbld hRd
  have HR := Lib.hid hR
  clear hm hb1 hR
  go_enter Tryz.func12, Tryz.ntmps12
  go_wp2_with (first | (go_at_call 39; refine HM.out.mono ?_; rintro e w' ⟨rfl, hw⟩; obtain rfl := hw.symm; clear hw) | (with_reducible refine wpList_load_row rfl 97 (.tmp 18) rfl w.heap.size rfl 97 _ (0, 0) _ HG.out run_hand rfl HI.out ?_) | (with_reducible refine wpList_build rfl 102 _ rfl #[(0, .pointer (some ⟨dk, 0, none⟩)), (1, .pointer (lg.map fun l => ⟨l, 0, none⟩)), (2, .int .i64 (f : Int)), (3, .int .i64 (n : Int)), (4, .agg C), (5, .map (some w1.heap.size))] ?hv (.agg R) (HBL.out _) ?_; (case hv => simp [go_sem])))
  go_ret
  have hs1 : (w1.alloc (.map #[] 0)).heap.size = w1.heap.size + 1 := Array.size_push _
  have hb2 : Below (w1.alloc (.map #[] 0)).heap.size (w1.alloc (.map #[] 0)) ((w1.alloc (.map #[] 0)).alloc (.cells R 102)) := (Below.refl _ _).alloc (Nat.le_refl _) _
  have hp : ((w1.alloc (.map #[] 0)).alloc (.cells R 102)).heap[w1.heap.size + 1]? = some (.cells R 102 (0, 0)) := by
    rw [← hs1]; exact heap_alloc_new _ _
  have hw1 := HB1.out.size
  have e : R = (Po.A ⟨dk, lg, f, n, newS (roomOf fr), w1.heap.size, fun _ => none⟩).c (newS (roomOf fr)) := by rw [HRD.out, HR.out]; rfl
  refine ⟨w1.heap.size + 1, w1.heap.size, rfl, by omega, by omega, ⟨⟨by rw [hp, e]; rfl, rfl, h1, h2⟩, (fm_made w1 _ _).of_block (hb2.block _ (by omega)), by show w1.heap.size + 1 ≠ w1.heap.size; omega, hf, hn⟩, ?_⟩
  exact (HB1.out.trans (((Below.refl w1.heap.size w1).alloc (Nat.le_refl _) _).mono hw1)).trans (hb2.mono (by omega))
end Go.Proofs.YtljbhdldfffpfaaGreat.Hp
namespace Go.Proofs.YtljbhdldfffpfaaGreat.Hp
open Go.RowKit Go.Proofs.YtljbhdldfffpfaaGreat

theorem info_rowH (s : St) : (Tryz.prog.info? 97).map (·.size) = some (rowH s).size := by
  rw [rowH_size]; kernel_rfl
theorem one_of {v z : Value} (h : some v = some z) (e : v.oneCell' = true) : z.oneCell' = true := by
  injection h with h
  rw [← h]; exact e
theorem rowH_one (s : St) : (rowH s).all (·.oneCell') = true := by
  refine Array.all_eq_true_iff_forall_mem.2 fun z hz => ?_
  obtain ⟨y, h⟩ := Array.mem_iff_getElem?.1 hz
  have hy : y < 578 := by
    rcases Nat.lt_or_ge y 578 with a | a
    · exact a
    · rw [Array.getElem?_eq_none (by rw [rowH_size]; exact a)] at h; cases h
  by_cases e : y < 576
  · rw [rowH_lo s e] at h
    have h9 := rowP_at (n := 64) (clip s.n s.P) (i := y / 9) (j := y % 9) (by omega) (by omega)
    rw [show y / 9 * 9 + y % 9 = y by omega] at h9
    rw [h9] at h
    have hj : y % 9 < 9 := by omega
    generalize y % 9 = j at h hj
    generalize clip s.n s.P (y / 9) = x at h
    match j, hj with
    | 0, _ => exact one_of (v := .bool x.u) h rfl
    | 1, _ => exact one_of (v := .int .i64 x.k) h rfl
    | 2, _ => exact one_of (v := .slice (x.v.P 0) (x.v.N 0) (x.v.K 0)) h rfl
    | 3, _ => exact one_of (v := .slice (x.v.P 1) (x.v.N 1) (x.v.K 1)) h rfl
    | 4, _ => exact one_of (v := .slice (x.v.P 2) (x.v.N 2) (x.v.K 2)) h rfl
    | 5, _ => exact one_of (v := .slice (x.v.P 3) (x.v.N 3) (x.v.K 3)) h rfl
    | 6, _ => exact one_of (v := .int .i64 x.v.l) h rfl
    | 7, _ => exact one_of (v := .bool x.b) h rfl
    | 8, _ => exact one_of (v := .int .i64 (x.n : Int)) h rfl
  · by_cases e2 : y = 576
    · rw [e2, rowH_n] at h
      exact one_of h rfl
    · rw [show y = 577 by omega, rowH_a] at h
      exact one_of h rfl
/-- A cache alone in a block. -/
def A0 : At := ⟨#[], #[], 97⟩
theorem A0_c (s : St) : A0.c s = rowH s := by
  unfold At.c A0
  simp
theorem PoAt.cells {w : World} {p : Nat} {x : Po} (h : PoAt w p x) : ∀ j v, (rowH x.s)[j]? = some v → w.cell? ⟨p, 4 + j, none⟩ = some v := fun j v e => by
  have hj : j < 578 := by
    rcases Nat.lt_or_ge j 578 with a | a
    · exact a
    · rw [Array.getElem?_eq_none (by rw [rowH_size]; exact a)] at e; cases e
  rw [(cell_of h.ha.hg _).1, At.at_ h.ha.lo hj, e]
/-- The cache laid into its place of the pool. -/
theorem PoAt.lay {w : World} {p : Nat} {x : Po} (h : PoAt w p x) {s : St} (ha : s.a < s.n) (hn : s.n ≤ 64) : PoAt (w.setRow p (putRow (x.A.c x.s) 4 (rowH s).toList)) p { x with s := s } := by
  have hl : (rowH s).toList.length = 578 := by simp [rowH_size]
  refine ⟨⟨?_, h.ha.lo, ha, hn⟩, h.map.of_block (setRow_far _ _ _ (fun e => h.ne e.symm)), h.ne, h.sf, h.sp⟩
  rw [setRow_heap w p _ _ _ _ h.ha.hg]
  have e : putRow (x.A.c x.s) 4 (rowH s).toList = x.A.c s := by
    have := At.put (A := x.A) (s := x.s) (s' := s) (o := 4) h.ha.lo (x := 0) (l := (rowH s).toList) (by omega) (by
      apply Array.ext_getElem?
      intro y
      rw [putRow_at _ _ _ _ (by rw [hl, rowH_size]; omega)]
      by_cases e : y < 578
      · rw [if_pos (by omega)]; simp
      · rw [if_neg (by omega), Array.getElem?_eq_none (by rw [rowH_size]; omega), Array.getElem?_eq_none (by rw [rowH_size]; omega)])
    simpa using this
  rw [e]
  rfl
end Go.Proofs.YtljbhdldfffpfaaGreat.Hp
