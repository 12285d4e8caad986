/- PoolNone, a part. -/
import Derived.Test.YtljbhdldfffpfaaGreatQn4
namespace Go.Proofs.YtljbhdldfffpfaaGreat.Hp
open Go.RowKit Go.Proofs.YtljbhdldfffpfaaGreat

set_option maxHeartbeats 1000000 in
theorem put_vac (w : World) {g o : Nat} {A : At} {s : St} {k : Int} {v : Pg} {i : Nat} (hh : HA w g o A s) (hf : First s.n (hit s k) s.n) (hv : First s.n (vac s) i) (hi : i < s.n) :
    Calls Tryz.prog 50 #[.pointer (some ⟨g, o, none⟩), .int .i64 k, v.v] w fun e w' => e = tup4 (s.P i).k (s.P i).v (s.P i).u 0 ∧ HA w' g o A { s with P := up s.P i ⟨true, k, v, true, 0⟩ } ∧ Fr w.heap.size (One g) w w' := by
  obtain ⟨hb0, hv0, hz0, hs0⟩ := two_new w (.cells v.c 42) (.cells Pg.zero.c 42)
  have HH := Lib.hid (hh.on hb0)
  have hgw := hh.lg
  have HF := Lib.hid hf
  have HV := Lib.hid hv
  have HI := Lib.hid hi
  clear hh hf hv hi
  unfold Pg.v
  go_enter Tryz.func50, Tryz.ntmps50
  go_upto_region 1 with fail
  change Code.wp _ _ _ _ ((w.alloc (.cells v.c 42)).alloc (.cells Pg.zero.c 42))
  generalize (w.alloc (.cells v.c 42)).alloc (.cells Pg.zero.c 42) = w0 at *
  have HB0 := Lib.hid hb0
  have HV0 := Lib.hid hv0
  have HZ0 := Lib.hid hz0
  clear hb0 hv0 hz0
  go_upto_region 10 with (first | (go_at_call 79; refine (find_any _ HH.out HF.out).mono ?_; rintro e w1 ⟨rfl, hb1⟩; rw [ptr_none]) | (go_at_call 80; refine (empty_any _ (HH.out.on hb1) HV.out).mono ?_; rintro e w2 ⟨rfl, hb2⟩; rw [ptr_some HI.out]))
  have h1 := (HH.out.on hb1).on hb2
  have hs2 : w.heap.size + 2 ≤ w2.heap.size := by have := hb1.size; have := hb2.size; omega
  have hvW := (hb2.block w.heap.size (by have := hb1.size; omega)).trans ((hb1.block _ (by omega)).trans HV0.out)
  have hzW := (hb2.block (w.heap.size + 1) (by have := hb1.size; omega)).trans ((hb1.block _ (by omega)).trans HZ0.out)
  have hfr : Fr w.heap.size (One g) w w2 := ((Fr.ofB (S := One g) HB0.out).thenB hb1 (by omega)).thenB hb2 (by have := hb1.size; omega)
  clear hb1 hb2 HH HB0 HV0 HZ0
  generalize hold : s.P i = old at *
  have HOLD := Lib.hid hold
  have hjn := HI.out
  have HC : Hid (∀ jj x, old.c[jj]? = some x → w2.cell? ⟨g, o + i * 9 + jj, none⟩ = some x) := fun jj x h => (h1.cell (i := i) HI.out (j := jj) (Nat.lt_of_not_ge fun hj => by rw [Array.getElem?_eq_none (by rw [old.c_size]; exact hj)] at h; cases h)).trans ((congrArg (fun y : Pl => y.c[jj]?) hold).trans h)
  have HI2 := Lib.hid (info_place old)
  have HON := Lib.hid (place_one old)
  have HAL := Lib.hid (heap_alloc_new w2 (.cells #[.bool false, .int .i64 0, .slice none 0 0, .slice none 0 0, .slice none 0 0, .slice none 0 0, .int .i64 0, .bool false, .int .i64 0] 94))
  have HSZ := Lib.hid (show (#[.bool false, .int .i64 0, .slice none 0 0, .slice none 0 0, .slice none 0 0, .slice none 0 0, .int .i64 0, .bool false, .int .i64 0] : Array Value).size = old.c.size from rfl)
  have HSET := Lib.hid (setRow_alloc w2 #[.bool false, .int .i64 0, .slice none 0 0, .slice none 0 0, .slice none 0 0, .slice none 0 0, .int .i64 0, .bool false, .int .i64 0] old.c 94)
  clear hold
  go_upto_region 11 with (first | (with_reducible refine wpList_load_at rfl 94 (.tmp 38) rfl g (o + i * 9) rfl old.c _ HC.out run_place rfl HI2.out ?_) | (with_reducible refine wpList_store_row rfl 94 (.tmp 12) (.tmp 39) rfl w2.heap.size old.c rfl rfl 94 _ HAL.out HI2.out HSZ.out HON.out ?_))
  rw [HSET.out]
  have h3 := h1.on ((Below.refl _ _).alloc (Nat.le_refl _) (.cells old.c 94))
  have hfr3 := hfr.alloc hfr.size (.cells old.c 94)
  have hq3 := heap_alloc_new w2 (.cells old.c 94)
  have hb3 : Below w2.heap.size w2 (w2.alloc (.cells old.c 94)) := (Below.refl _ _).alloc (Nat.le_refl _) _
  have hv3 := (hb3.block _ (by omega)).trans hvW
  have hz3 := (hb3.block _ (by omega)).trans hzW
  have hgv : g ≠ w2.heap.size := Nat.ne_of_lt h1.lg
  have hqz : w2.heap.size ≠ w.heap.size + 1 := by omega
  generalize w2.alloc (.cells old.c 94) = w4 at h3 hfr3 hq3 hv3 hz3 ⊢
  generalize w2.heap.size = q at *
  clear HSET HSZ HAL HON HI2 HC hb3 hvW hzW
  have h4 := h3.put (i := i) HI.out ⟨true, k, v, true, 0⟩
  have hfr4 := hfr3.setR (b := g) (Or.inl rfl) (putRow (A.c s) (o + i * 9) (Pl.c ⟨true, k, v, true, 0⟩).toList)
  have hq4 := (setRow_far w4 g (putRow (A.c s) (o + i * 9) (Pl.c ⟨true, k, v, true, 0⟩).toList) hgv.symm).trans hq3
  have hz4 := (setRow_far w4 g (putRow (A.c s) (o + i * 9) (Pl.c ⟨true, k, v, true, 0⟩).toList) (show w.heap.size + 1 ≠ g by omega)).trans hz3
  have HG := Lib.hid h3.hg
  have HI3 := Lib.hid (info_place ⟨true, k, v, true, 0⟩)
  have HON3 := Lib.hid (place_one ⟨true, k, v, true, 0⟩)
  have hl64 : s.n ≤ 64 := h3.ln
  have HLE : Hid (o + i * 9 + (Pl.c ⟨true, k, v, true, 0⟩).size ≤ (A.c s).size) := by
    rw [Pl.c_size, At.size h3.lo]
    show o + i * 9 + 9 ≤ o + 578 + A.suf.size
    omega
  have HV3 := Lib.hid hv3
  have H4 := Lib.hid h4
  have HFR := Lib.hid hfr4
  have HQ4 := Lib.hid hq4
  have HZ4 := Lib.hid hz4
  clear h1 h3 h4 hfr hfr3 hfr4 hq3 hq4 hz3 hz4 hv3
  have a0 := (pg_cells HV3.out).1 0 (by decide)
  have a1 := (pg_cells HV3.out).1 1 (by decide)
  have a2 := (pg_cells HV3.out).1 2 (by decide)
  have a3 := (pg_cells HV3.out).1 3 (by decide)
  have a4 := (pg_cells HV3.out).2.1
  go_upto_region 12 with (first | (with_reducible refine wpList_store_at rfl 94 (.tmp 44) (.tmp 43) rfl g (o + i * 9) (Pl.c ⟨true, k, v, true, 0⟩) rfl rfl A.t _ HG.out HI3.out HLE.out HON3.out ?_))
  simp only [Act.put]
  generalize w4.setRow g (putRow (A.c s) (o + i * 9) (Pl.c ⟨true, k, v, true, 0⟩).toList) = w5 at *
  clear a0 a1 a2 a3 a4 HV3 HG HI3 HON3 HLE
  have c0 := (cell_of HQ4.out 0).1
  rw [show old.c[0]? = some (.bool old.u) from rfl] at c0
  have c1 := (cell_of HQ4.out 1).1
  rw [show old.c[1]? = some (.int .i64 old.k) from rfl] at c1
  have c2 := (cell_of HQ4.out 2).1
  rw [show old.c[2]? = some (.slice (old.v.P 0) (old.v.N 0) (old.v.K 0)) from rfl] at c2
  have c3 := (cell_of HQ4.out 3).1
  rw [show old.c[3]? = some (.slice (old.v.P 1) (old.v.N 1) (old.v.K 1)) from rfl] at c3
  have c4 := (cell_of HQ4.out 4).1
  rw [show old.c[4]? = some (.slice (old.v.P 2) (old.v.N 2) (old.v.K 2)) from rfl] at c4
  have c5 := (cell_of HQ4.out 5).1
  rw [show old.c[5]? = some (.slice (old.v.P 3) (old.v.N 3) (old.v.K 3)) from rfl] at c5
  have c6 := (cell_of HQ4.out 6).1
  rw [show old.c[6]? = some (.int .i64 old.v.l) from rfl] at c6
  have z0 := (pg_cells HZ4.out).1 0 (by decide)
  have z1 := (pg_cells HZ4.out).1 1 (by decide)
  have z2 := (pg_cells HZ4.out).1 2 (by decide)
  have z3 := (pg_cells HZ4.out).1 3 (by decide)
  have z4 := (pg_cells HZ4.out).2.1
  have y0 := (pg_cells HZ4.out).2.2 0
  have y1 := (pg_cells HZ4.out).2.2 1
  have y2 := (pg_cells HZ4.out).2.2 2
  have y3 := (pg_cells HZ4.out).2.2 3
  have y4 := (pg_cells HZ4.out).2.2 4
  go_region
  all_goals
    change Exit.then _ _ _ _ (fin5 w5 (w.heap.size + 1) old.v).drew
    have h6 := H4.out.same (fin5_far (W := w5) (q := w.heap.size + 1) (x := old.v) (k := g) (by omega))
    have hz6 := fin5_heap (x := old.v) HZ4.out
    have hfr6 := Hp.Fr.fin5 HFR.out (q := w.heap.size + 1) (by omega) old.v
    clear c0 c1 c2 c3 c4 c5 c6 z0 z1 z2 z3 z4 y0 y1 y2 y3 y4
    generalize fin5 w5 (w.heap.size + 1) old.v = w6 at h6 hz6 hfr6 ⊢
    go_wp2
    exact bodyPost_ret (put_end rfl rfl rfl rfl (W := w6.drew) hz6) rfl ⟨by rw [HOLD.out]; rfl, h6.drew, hfr6.drew⟩

end Go.Proofs.YtljbhdldfffpfaaGreat.Hp
namespace Go.Proofs.YtljbhdldfffpfaaGreat.Hp
open Go.RowKit Go.Proofs.YtljbhdldfffpfaaGreat

/-- A pool: its disk's block, its log's block if it has one, its first tile, how many pages, its cache, the block of its map, and which pages are dirty. -/
structure Po where
  dk : Nat
  lg : Option Nat
  first : Nat
  pages : Nat
  s : St
  bm : Nat
  recs : Int → Option Value
def Po.A (x : Po) : At := ⟨#[.pointer (some ⟨x.dk, 0, none⟩), .pointer (x.lg.map fun l => ⟨l, 0, none⟩), .int .i64 (x.first : Int), .int .i64 (x.pages : Int)], #[.map (some x.bm)], 102⟩
/-- The pool x lies in block p. -/
structure PoAt (w : World) (p : Nat) (x : Po) : Prop where
  ha : HA w p 4 x.A x.s
  map : fm w Tryz.prog 3 x.bm x.recs
  ne : p ≠ x.bm
  sf : x.first ≤ 1000
  sp : x.pages ≤ 1000

section
variable {w w' : World} {p : Nat} {x : Po}
theorem PoAt.lo (h : PoAt w p x) {i : Nat} (hi : i < 4) : w.cell? ⟨p, i, none⟩ = x.A.pre[i]? := by
  rw [(cell_of h.ha.hg i).1]
  show (x.A.pre ++ rowH x.s ++ x.A.suf)[i]? = _
  have h4 : x.A.pre.size = 4 := rfl
  rw [Array.getElem?_append_left (by rw [Array.size_append, h4]; omega), Array.getElem?_append_left (by rw [h4]; exact hi)]
theorem PoAt.c0 (h : PoAt w p x) : w.cell? ⟨p, 0, none⟩ = some (.pointer (some ⟨x.dk, 0, none⟩)) := h.lo (by decide)
theorem PoAt.c1 (h : PoAt w p x) : w.cell? ⟨p, 1, none⟩ = some (.pointer (x.lg.map fun l => ⟨l, 0, none⟩)) := h.lo (by decide)
theorem PoAt.c2 (h : PoAt w p x) : w.cell? ⟨p, 2, none⟩ = some (.int .i64 (x.first : Int)) := h.lo (by decide)
theorem PoAt.c3 (h : PoAt w p x) : w.cell? ⟨p, 3, none⟩ = some (.int .i64 (x.pages : Int)) := h.lo (by decide)
theorem PoAt.c5 (h : PoAt w p x) : w.cell? ⟨p, 582, none⟩ = some (.map (some x.bm)) := by
  rw [(cell_of h.ha.hg 582).1]
  show (x.A.pre ++ rowH x.s ++ x.A.suf)[582]? = _
  have h4 : x.A.pre.size = 4 := rfl
  rw [Array.getElem?_append_right (by rw [Array.size_append, h4, rowH_size]; omega), Array.size_append, h4, rowH_size]
  rfl
theorem PoAt.lp (h : PoAt w p x) : p < w.heap.size := h.ha.lg
theorem PoAt.lm (h : PoAt w p x) : x.bm < w.heap.size := h.map.lt
theorem PoAt.keep (h : PoAt w p x) (h1 : w'.heap[p]? = w.heap[p]?) (h2 : w'.heap[x.bm]? = w.heap[x.bm]?) : PoAt w' p x := ⟨h.ha.same h1, h.map.of_block h2, h.ne, h.sf, h.sp⟩
theorem PoAt.on (h : PoAt w p x) (hb : Below w.heap.size w w') : PoAt w' p x := h.keep (hb.block _ h.lp) (hb.block _ h.lm)
theorem PoAt.fr (h : PoAt w p x) {B : Nat} {S : Nat → Prop} (hb : Fr B S w w') (h1 : p < B) (h2 : x.bm < B) (n1 : ¬ S p) (n2 : ¬ S x.bm) : PoAt w' p x := h.keep (hb.block _ h1 n1) (hb.block _ h2 n2)
end

theorem pages_nil (w : World) : Calls Tryz.prog 32 #[.pointer none] w fun e w' => e = .returned (.int .i64 0) ∧ w' = w := by
  go_enter Tryz.func32, Tryz.ntmps32
  go_wp2
  go_ret
  exact ⟨rfl, rfl⟩
theorem pages_any (w : World) {p : Nat} {x : Po} (h : PoAt w p x) : Calls Tryz.prog 32 #[.pointer (some ⟨p, 0, none⟩)] w fun e w' => e = .returned (.int .i64 (x.pages : Int)) ∧ w' = w := by
  have c3 := h.c3
  clear h
  go_enter Tryz.func32, Tryz.ntmps32
  go_wp2
  go_ret
  exact ⟨rfl, rfl⟩
def hasB (m : Nat) (n : Int) : Bool := decide (0 ≤ n) && decide (n < m)
theorem has_nil (w : World) (n : Int) : Calls Tryz.prog 54 #[.pointer none, .int .i64 n] w fun e w' => e = .returned (.bool false) ∧ w' = w := by
  by_cases h : 0 ≤ n
  · have hn : ¬ n < 0 := by omega
    go_enter Tryz.func54, Tryz.ntmps54
    go_wp2_with (go_at_call 32; refine (pages_nil _).mono ?_; rintro e w1 ⟨rfl, hw⟩; obtain rfl := hw.symm; clear hw)
    go_ret
    exact ⟨congrArg (fun b => Ending.returned (.bool b)) (decide_eq_false (by omega)), rfl⟩
  · go_enter Tryz.func54, Tryz.ntmps54
    go_wp2
    go_ret
    exact ⟨rfl, rfl⟩
theorem has_any (w : World) {p : Nat} {x : Po} (hx : PoAt w p x) (n : Int) : Calls Tryz.prog 54 #[.pointer (some ⟨p, 0, none⟩), .int .i64 n] w fun e w' => e = .returned (.bool (hasB x.pages n)) ∧ w' = w := by
  have HX := Lib.hid hx
  clear hx
  unfold hasB
  by_cases h : 0 ≤ n
  · rw [show decide (0 ≤ n) = true from decide_eq_true h, Bool.true_and]
    go_enter Tryz.func54, Tryz.ntmps54
    go_wp2_with (go_at_call 32; refine (pages_any _ HX.out).mono ?_; rintro e w1 ⟨rfl, hw⟩; obtain rfl := hw.symm; clear hw)
    go_ret
    exact ⟨rfl, rfl⟩
  · rw [show decide (0 ≤ n) = false from decide_eq_false h, Bool.false_and]
    go_enter Tryz.func54, Tryz.ntmps54
    go_wp2
    go_ret
    exact ⟨rfl, rfl⟩
theorem and_one {f : Nat} (h : f ≤ 1000) : bits .and .i64 (f : Int) 1 = (f : Int) % 2 := by
  have : ∀ f : Nat, f < 1001 → bits .and .i64 (f : Int) 1 = (f : Int) % 2 := by decide +kernel
  exact this f (by omega)
theorem tile_any (w : World) {p : Nat} {x : Po} (hx : PoAt w p x) (n : Nat) (hn : n ≤ 1000) : Calls Tryz.prog 86 #[.pointer (some ⟨p, 0, none⟩), .int .i64 (n : Int)] w fun e w' => e = .returned (.int .i64 ((x.first : Int) + 2 * n)) ∧ w' = w := by
  have c2 := hx.c2
  have sf := hx.sf
  generalize x.first = f at *
  clear hx
  have ha := and_one sf
  go_enter Tryz.func86, Tryz.ntmps86
  go_wp2
  go_ret
  exact ⟨congrArg (fun b => Ending.returned (.int .i64 b)) (show 2 * ((f : Int) / 2 + (n : Int)) + (f : Int) % 2 = (f : Int) + 2 * n by omega), rfl⟩
end Go.Proofs.YtljbhdldfffpfaaGreat.Hp
namespace Go.Proofs.YtljbhdldfffpfaaGreat.Hp
open Go.RowKit Go.Proofs.YtljbhdldfffpfaaGreat

theorem use_end {W : World} {tmps : Array Value} {q : Nat} {x : Pg} {t : TypeId} {er : Int} (h4 : tmps.getD 4 undef = .pointer (some ⟨q, 0, none⟩)) (h5 : tmps.getD 5 undef = .int .i64 er) (k : W.heap[q]? = some (.cells x.c t (0, 0))) : (results Tryz.f42 tmps).run Tryz.prog W = .ok (.tuple #[x.v, .int .i64 er]) W := by
  rw [Array.getD_eq_getD_getElem?] at h4 h5
  have a0 := (pg_cells k).1 0 (by decide)
  have a1 := (pg_cells k).1 1 (by decide)
  have a2 := (pg_cells k).1 2 (by decide)
  have a3 := (pg_cells k).1 3 (by decide)
  have a4 := (pg_cells k).2.1
  simp [results, Tryz.results42, go_sem, h4, h5, a0, a1, a2, a3, a4, Pg.v]
theorem flush_no (w : World) (P : Value) (n : Int) (hh : ∀ w : World, Calls Tryz.prog 54 #[P, .int .i64 n] w fun e w' => e = .returned (.bool false) ∧ w' = w) : Calls Tryz.prog 21 #[P, .int .i64 n] w fun e w' => e = .returned (.int .i64 1) ∧ w' = w := by
  have HH := Lib.hid hh
  clear hh
  go_enter Tryz.func21, Tryz.ntmps21
  go_wp2_with (go_at_call 54; refine (HH.out _).mono ?_; rintro e w2 ⟨rfl, hw⟩; obtain rfl := hw.symm; clear hw)
  go_ret
  exact ⟨rfl, rfl⟩
theorem lay_no (w : World) (P : Value) (n r : Int) (x : Pg) (hh : ∀ w : World, Calls Tryz.prog 54 #[P, .int .i64 n] w fun e w' => e = .returned (.bool false) ∧ w' = w) : Calls Tryz.prog 31 #[P, .int .i64 n, x.v, .int .i64 r] w fun e w' => e = .returned (.int .i64 1) ∧ Below w.heap.size w w' := by
  have HH := Lib.hid hh
  clear hh
  have hb0 : Below w.heap.size w (w.alloc (.cells x.c 42)) := (Below.refl _ _).alloc (Nat.le_refl _) _
  unfold Pg.v
  go_enter Tryz.func31, Tryz.ntmps31
  go_upto_region 1 with fail
  change Code.wp _ _ _ _ (w.alloc (.cells x.c 42))
  generalize w.alloc (.cells x.c 42) = w1 at *
  go_wp2_with (go_at_call 54; refine (HH.out _).mono ?_; rintro e w2 ⟨rfl, hw⟩; obtain rfl := hw.symm; clear hw)
  go_ret
  exact ⟨rfl, hb0⟩
theorem dirty_nil (w : World) : Calls Tryz.prog 18 #[.pointer none] w fun e w' => e = .returned (.slice none 0 0) ∧ w' = w := by
  go_enter Tryz.func18, Tryz.ntmps18
  go_wp2
  go_ret
  exact ⟨rfl, rfl⟩
end Go.Proofs.YtljbhdldfffpfaaGreat.Hp
