/- PoolNone, a part. -/
import Derived.Test.YtljbhdldfffpfaaGreatQn3
import Derived.Deep.CutBlock
import Derived.Deep.DeepCutAuto
namespace Go.Proofs.YtljbhdldfffpfaaGreat.Hp
open Go.RowKit Go.Proofs.YtljbhdldfffpfaaGreat

def tup4 (out : Int) (was : Pg) (had : Bool) (e : Int) : Ending := .returned (.tuple #[.int .i64 out, was.v, .bool had, .int .i64 e])
theorem up_up (P : Nat → Pl) (i : Nat) (x y : Pl) : up (up P i x) i y = up P i y := by
  funext j; unfold up; split <;> simp_all
theorem setRow_far (w : World) (g : Nat) (cs : Array Value) {k : Nat} (h : k ≠ g) : (w.setRow g cs).heap[k]? = w.heap[k]? := setRow_other _ _ _ _ h
theorem setRow_alloc (w : World) (old cs : Array Value) (t : TypeId) : (w.alloc (.cells old t)).setRow w.heap.size cs = w.alloc (.cells cs t) := by
  have h := setRow_heap (w.alloc (.cells old t)) w.heap.size old cs t (0, 0) (heap_alloc_new w _)
  have e2 : ((w.alloc (.cells old t)).setRow w.heap.size cs).heap = (w.alloc (.cells cs t)).heap := by
    apply Array.ext_getElem?
    intro i
    by_cases hi : i = w.heap.size
    · subst hi
      rw [h, heap_alloc_new]
    · rw [setRow_far _ _ _ hi]
      show (w.heap.push _)[i]? = (w.heap.push _)[i]?
      rw [Array.getElem?_push, Array.getElem?_push, if_neg hi, if_neg hi]
  have e3 : ∀ a b : World, a.heap = b.heap → a.tape = b.tape → a.drawn = b.drawn → a.os = b.os → a.output = b.output → a = b := by
    intro a b h1 h2 h3 h4 h5
    cases a; cases b
    simp only at h1 h2 h3 h4 h5
    subst h1 h2 h3 h4 h5
    rfl
  exact e3 _ _ e2 rfl rfl rfl rfl
theorem run_place : Tryz.prog.underlying 94 = some (.struct (Tryz.prog.fieldsOf 94)) := by kernel_rfl
theorem info_place (x : Pl) : (Tryz.prog.info? 94).map (·.size) = some x.c.size := by
  rw [x.c_size]; kernel_rfl
theorem place_one (x : Pl) : x.c.all (·.oneCell') = true := by simp [Pl.c, Value.oneCell']

def Pg.c (x : Pg) : Array Value := #[.slice (x.P 0) (x.N 0) (x.K 0), .slice (x.P 1) (x.N 1) (x.K 1), .slice (x.P 2) (x.N 2) (x.K 2), .slice (x.P 3) (x.N 3) (x.K 3), .int .i64 x.l]
theorem run_page : Tryz.prog.underlying 42 = some (.struct (Tryz.prog.fieldsOf 42)) := by kernel_rfl
theorem info_page (x : Pg) : (Tryz.prog.info? 42).map (·.size) = some x.c.size := by
  rw [show x.c.size = 5 from rfl]; kernel_rfl
theorem page_one (x : Pg) : x.c.all (·.oneCell') = true := by simp [Pg.c, Value.oneCell']
theorem HA.putV {w : World} {g o : Nat} {A : At} {s : St} (h : HA w g o A s) {i : Nat} (hi : i < s.n) (v : Pg) : HA (w.setRow g (putRow (A.c s) (o + i * 9 + 2) v.c.toList)) g o A { s with P := up s.P i { s.P i with v := v } } := by
  have hn := h.ln
  have e : putRow (rowH s) (i * 9 + 2) v.c.toList = rowH { s with P := up s.P i { s.P i with v := v } } := by
    rw [← rowH_put s hn hi]
    apply Array.ext_getElem?
    intro y
    have l5 : v.c.toList.length = 5 := rfl
    have l9 : (Pl.c { s.P i with v := v }).toList.length = 9 := rfl
    rw [putRow_at _ _ _ _ (by rw [l5, rowH_size]; omega), putRow_at _ _ _ _ (by rw [l9, rowH_size]; omega), l5, l9]
    by_cases h1 : i * 9 + 2 ≤ y ∧ y < i * 9 + 2 + 5
    · rw [if_pos h1, if_pos (by omega)]
      obtain ⟨j, hj, rfl⟩ : ∃ j, j < 5 ∧ y = i * 9 + 2 + j := ⟨y - (i * 9 + 2), by omega, by omega⟩
      rw [show i * 9 + 2 + j - (i * 9 + 2) = j by omega, show i * 9 + 2 + j - i * 9 = j + 2 by omega]
      match j, hj with
      | 0, _ => rfl
      | 1, _ => rfl
      | 2, _ => rfl
      | 3, _ => rfl
      | 4, _ => rfl
    · rw [if_neg h1]
      by_cases h2 : i * 9 ≤ y ∧ y < i * 9 + 9
      · rw [if_pos h2]
        obtain ⟨j, hj, rfl⟩ : ∃ j, j < 9 ∧ y = i * 9 + j := ⟨y - i * 9, by omega, by omega⟩
        rw [rowH_at s hn hi hj, show i * 9 + j - i * 9 = j by omega]
        match j, hj with
        | 0, _ => rfl
        | 1, _ => rfl
        | 7, _ => rfl
        | 8, _ => rfl
        | 2, _ => omega
        | 3, _ => omega
        | 4, _ => omega
        | 5, _ => omega
        | 6, _ => omega
      · rw [if_neg h2]
  refine ⟨?_, h.lo, h.la, h.ln⟩
  rw [setRow_heap w g _ _ _ _ h.hg, Nat.add_assoc, At.put h.lo (by show i * 9 + 2 + 5 ≤ 578; omega) e]

/-- A page's variable gets what it has. -/
def fin5 (W : World) (q : Nat) (x : Pg) : World := ((((W.setCell ⟨q, 0, none⟩ (.slice (x.P 0) (x.N 0) (x.K 0))).setCell ⟨q, 1, none⟩ (.slice (x.P 1) (x.N 1) (x.K 1))).setCell ⟨q, 2, none⟩ (.slice (x.P 2) (x.N 2) (x.K 2))).setCell ⟨q, 3, none⟩ (.slice (x.P 3) (x.N 3) (x.K 3))).setCell ⟨q, 4, none⟩ (.int .i64 x.l)
theorem fin5_heap {W : World} {q : Nat} {x y : Pg} {t : TypeId} (h : W.heap[q]? = some (.cells y.c t (0, 0))) : (fin5 W q x).heap[q]? = some (.cells x.c t (0, 0)) := by
  unfold fin5
  have h0 := heap_setCell_same W q 0 _ _ (.slice (x.P 0) (x.N 0) (x.K 0)) h
  have h1 := heap_setCell_same _ q 1 _ _ (.slice (x.P 1) (x.N 1) (x.K 1)) h0
  have h2 := heap_setCell_same _ q 2 _ _ (.slice (x.P 2) (x.N 2) (x.K 2)) h1
  have h3 := heap_setCell_same _ q 3 _ _ (.slice (x.P 3) (x.N 3) (x.K 3)) h2
  have h4 := heap_setCell_same _ q 4 _ _ (.int .i64 x.l) h3
  rw [h4]
  rfl
theorem fin5_far {W : World} {q k : Nat} {x : Pg} (h : k ≠ q) : (fin5 W q x).heap[k]? = W.heap[k]? := by
  unfold fin5
  have hs : ∀ (W : World) (i : Nat) (v : Value), (W.setCell ⟨q, i, none⟩ v).heap[k]? = W.heap[k]? := fun W i v => Below.heap_setCell _ _ _ _ h
  rw [hs, hs, hs, hs, hs]
theorem Fr.fin5 {B : Nat} {S : Nat → Prop} {a W : World} {q : Nat} (h : Fr B S a W) (hq : B ≤ q) (x : Pg) : Fr B S a (Hp.fin5 W q x) := by
  unfold Hp.fin5
  exact ((((h.setCell (p := ⟨q, 0, none⟩) (Or.inr hq) _).setCell (p := ⟨q, 1, none⟩) (Or.inr hq) _).setCell (p := ⟨q, 2, none⟩) (Or.inr hq) _).setCell (p := ⟨q, 3, none⟩) (Or.inr hq) _).setCell (p := ⟨q, 4, none⟩) (Or.inr hq) _
theorem pg_cells {W : World} {q : Nat} {x : Pg} {t : TypeId} (h : W.heap[q]? = some (.cells x.c t (0, 0))) : (∀ i, i < 4 → W.cell? ⟨q, i, none⟩ = some (.slice (x.P i) (x.N i) (x.K i))) ∧ W.cell? ⟨q, 4, none⟩ = some (.int .i64 x.l) ∧ ∀ i, W.frozen? ⟨q, i, none⟩ = false := by
  have hc := fun i => cell_of (cs := x.c) h i
  refine ⟨fun i hi => ?_, (hc 4).1, fun i => (hc i).2⟩
  rw [(hc i).1]
  match i, hi with
  | 0, _ => rfl
  | 1, _ => rfl
  | 2, _ => rfl
  | 3, _ => rfl
theorem put_end {W : World} {tmps : Array Value} {q : Nat} {x : Pg} {t : TypeId} {out er : Int} {had : Bool} (h6 : tmps.getD 6 undef = .int .i64 out) (h7 : tmps.getD 7 undef = .pointer (some ⟨q, 0, none⟩)) (h8 : tmps.getD 8 undef = .bool had) (h9 : tmps.getD 9 undef = .int .i64 er) (k : W.heap[q]? = some (.cells x.c t (0, 0))) : (results Tryz.f50 tmps).run Tryz.prog W = .ok (.tuple #[.int .i64 out, x.v, .bool had, .int .i64 er]) W := by
  rw [Array.getD_eq_getD_getElem?] at h6 h7 h8 h9
  have a0 := (pg_cells k).1 0 (by decide)
  have a1 := (pg_cells k).1 1 (by decide)
  have a2 := (pg_cells k).1 2 (by decide)
  have a3 := (pg_cells k).1 3 (by decide)
  have a4 := (pg_cells k).2.1
  simp [results, Tryz.results50, go_sem, h6, h7, h8, h9, a0, a1, a2, a3, a4, Pg.v]
theorem get_end {W : World} {tmps : Array Value} {q : Nat} {x : Pg} {t : TypeId} {had : Bool} (h4 : tmps.getD 4 undef = .pointer (some ⟨q, 0, none⟩)) (h5 : tmps.getD 5 undef = .bool had) (k : W.heap[q]? = some (.cells x.c t (0, 0))) : (results Tryz.f55 tmps).run Tryz.prog W = .ok (.tuple #[x.v, .bool had]) W := by
  rw [Array.getD_eq_getD_getElem?] at h4 h5
  have a0 := (pg_cells k).1 0 (by decide)
  have a1 := (pg_cells k).1 1 (by decide)
  have a2 := (pg_cells k).1 2 (by decide)
  have a3 := (pg_cells k).1 3 (by decide)
  have a4 := (pg_cells k).2.1
  simp [results, Tryz.results55, go_sem, h4, h5, a0, a1, a2, a3, a4, Pg.v]
end Go.Proofs.YtljbhdldfffpfaaGreat.Hp
namespace Go.Proofs.YtljbhdldfffpfaaGreat.Hp
open Go.RowKit Go.Proofs.YtljbhdldfffpfaaGreat

theorem two_new (w : World) (x y : Obj) : Below w.heap.size w ((w.alloc x).alloc y) ∧ ((w.alloc x).alloc y).heap[w.heap.size]? = some x ∧ ((w.alloc x).alloc y).heap[w.heap.size + 1]? = some y ∧ w.heap.size + 2 ≤ ((w.alloc x).alloc y).heap.size := by
  have hs : (w.alloc x).heap.size = w.heap.size + 1 := Array.size_push _
  have h0 := heap_alloc_new w x
  have h1 := heap_alloc_new (w.alloc x) y
  rw [hs] at h1
  have hb : Below (w.alloc x).heap.size (w.alloc x) ((w.alloc x).alloc y) := (Below.refl _ _).alloc (Nat.le_refl _) _
  exact ⟨((Below.refl _ _).alloc (Nat.le_refl _) _).trans (hb.mono (by omega)), (hb.block _ (by omega)).trans h0, h1, by rw [show ((w.alloc x).alloc y).heap.size = (w.alloc x).heap.size + 1 from Array.size_push _, hs]; omega⟩

set_option maxHeartbeats 1000000 in
theorem put_hit (w : World) {g o : Nat} {A : At} {s : St} {k : Int} {v : Pg} {i : Nat} (hh : HA w g o A s) (hf : First s.n (hit s k) i) (hi : i < s.n) :
    Calls Tryz.prog 50 #[.pointer (some ⟨g, o, none⟩), .int .i64 k, v.v] w fun e w' => e = tup4 0 Pg.zero false 0 ∧ HA w' g o A { s with P := up s.P i { s.P i with v := v, b := true } } ∧ Fr w.heap.size (One g) w w' := by
  obtain ⟨hb0, hv0, hz0, hs0⟩ := two_new w (.cells v.c 42) (.cells Pg.zero.c 42)
  have HH := Lib.hid (hh.on hb0)
  have hgw := hh.lg
  have HF := Lib.hid hf
  have HI := Lib.hid hi
  clear hh hf hi
  unfold Pg.v
  go_enter Tryz.func50, Tryz.ntmps50
  go_upto_region 1 with fail
  change Code.wp _ _ _ _ ((w.alloc (.cells v.c 42)).alloc (.cells Pg.zero.c 42))
  generalize (w.alloc (.cells v.c 42)).alloc (.cells Pg.zero.c 42) = w0 at *
  have HB0 := Lib.hid hb0
  have HV0 := Lib.hid hv0
  have HZ0 := Lib.hid hz0
  clear hb0 hv0 hz0
  go_upto_region 3 with (first | (go_at_call 79; refine (find_any _ HH.out HF.out).mono ?_; rintro e w1 ⟨rfl, hb1⟩; rw [ptr_some HI.out]))
  have h1 := HH.out.on hb1
  have hv1 : w1.heap[w.heap.size]? = some (.cells v.c 42 (0, 0)) := (hb1.block _ (by omega)).trans HV0.out
  have hz1 : w1.heap[w.heap.size + 1]? = some (.cells Pg.zero.c 42 (0, 0)) := (hb1.block _ (by omega)).trans HZ0.out
  have HV1 := Lib.hid hv1
  have HIP := Lib.hid (info_page v)
  have HON := Lib.hid (page_one v)
  have HG := Lib.hid h1.hg
  have hn64 := h1.ln
  have HLE : Hid (o + i * 9 + 2 + v.c.size ≤ (A.c s).size) := by
    have := HI.out
    rw [show v.c.size = 5 from rfl, At.size h1.lo]
    show o + i * 9 + 2 + 5 ≤ o + 578 + A.suf.size
    omega
  have h2 := h1.putV HI.out v
  have hfr2 : Fr w.heap.size (One g) w (w1.setRow g (putRow (A.c s) (o + i * 9 + 2) v.c.toList)) := ((Fr.ofB (S := One g) HB0.out).thenB hb1 (by omega)).setR (b := g) (Or.inl rfl) _
  have hz2 : (w1.setRow g (putRow (A.c s) (o + i * 9 + 2) v.c.toList)).heap[w.heap.size + 1]? = some (.cells Pg.zero.c 42 (0, 0)) := (setRow_far _ _ _ (by omega)).trans hz1
  have c7 := h2.cell (i := i) HI.out (j := 7) (by omega)
  simp only [up_same] at c7
  rw [show ({ s.P i with v := v } : Pl).c[7]? = some (.bool (s.P i).b) from rfl] at c7
  have f7 := h2.froz (o + i * 9 + 7)
  have h3 := h2.set (i := i) HI.out (j := 7) (by omega) (.bool true) { s.P i with v := v, b := true } (by simp only [up_same]; rfl)
  have hfr3 := hfr2.setCell (p := ⟨g, o + i * 9 + 7, none⟩) (Or.inl rfl) (.bool true)
  have hz3 : ((w1.setRow g (putRow (A.c s) (o + i * 9 + 2) v.c.toList)).setCell ⟨g, o + i * 9 + 7, none⟩ (.bool true)).heap[w.heap.size + 1]? = some (.cells Pg.zero.c 42 (0, 0)) := (Below.heap_setCell _ _ _ _ (show w.heap.size + 1 ≠ g by omega)).trans hz2
  have H3 := Lib.hid h3
  have HF3 := Lib.hid hfr3
  have HZ3 := Lib.hid hz3
  clear h1 h2 h3 hfr2 hfr3 hz2 hz3 hv1 hz1 HB0 HV0 HZ0 hb1 HH
  go_upto_region 4 with (first | (with_reducible refine wpList_load_row rfl 42 (.tmp 5) rfl w.heap.size rfl 42 _ (0, 0) _ HV1.out run_page rfl HIP.out ?_) | (with_reducible refine wpList_store_at rfl 42 (.tmp 22) (.tmp 20) rfl g (o + i * 9 + 2) v.c rfl rfl A.t _ HG.out HIP.out HLE.out HON.out ?_; simp only [Act.put]; generalize w1.setRow g (putRow (A.c s) (o + i * 9 + 2) v.c.toList) = w2 at c7 f7 H3 HF3 HZ3 ⊢))
  generalize w2.setCell ⟨g, o + i * 9 + 7, none⟩ (.bool true) = w3 at H3 HF3 HZ3 ⊢
  clear c7 f7 HV1 HG HLE
  have z0 := (pg_cells HZ3.out).1 0 (by decide)
  have z1 := (pg_cells HZ3.out).1 1 (by decide)
  have z2 := (pg_cells HZ3.out).1 2 (by decide)
  have z3 := (pg_cells HZ3.out).1 3 (by decide)
  have z4 := (pg_cells HZ3.out).2.1
  have y0 := (pg_cells HZ3.out).2.2 0
  have y1 := (pg_cells HZ3.out).2.2 1
  have y2 := (pg_cells HZ3.out).2.2 2
  have y3 := (pg_cells HZ3.out).2.2 3
  have y4 := (pg_cells HZ3.out).2.2 4
  go_region
  change Exit.then _ _ _ _ (fin5 w3 (w.heap.size + 1) Pg.zero).drew
  have h4 : HA (fin5 w3 (w.heap.size + 1) Pg.zero) g o A _ := H3.out.same (fin5_far (by omega))
  have hz4 : (fin5 w3 (w.heap.size + 1) Pg.zero).heap[w.heap.size + 1]? = some (.cells Pg.zero.c 42 (0, 0)) := fin5_heap HZ3.out
  have hfr4 := Hp.Fr.fin5 HF3.out (q := w.heap.size + 1) (by omega) Pg.zero
  clear z0 z1 z2 z3 z4 y0 y1 y2 y3 y4
  generalize fin5 w3 (w.heap.size + 1) Pg.zero = w4 at h4 hz4 hfr4 ⊢
  go_wp2
  refine bodyPost_ret (put_end rfl rfl rfl rfl (W := w4.drew) hz4) rfl ⟨rfl, ?_, hfr4.drew⟩
  have h5 := h4.drew
  simpa only [up_up] using h5
theorem get_none (w : World) {g o : Nat} {A : At} {s : St} {k : Int} (hh : HA w g o A s) (hf : First s.n (hit s k) s.n) :
    Calls Tryz.prog 55 #[.pointer (some ⟨g, o, none⟩), .int .i64 k] w fun e w' => e = .returned (.tuple #[Pg.zero.v, .bool false]) ∧ Below w.heap.size w w' := by
  have hb0 : Below w.heap.size w (w.alloc (.cells Pg.zero.c 42)) := (Below.refl _ _).alloc (Nat.le_refl _) _
  have hz0 := heap_alloc_new w (.cells Pg.zero.c 42)
  have hs0 : w.heap.size + 1 = (w.alloc (.cells Pg.zero.c 42)).heap.size := (Array.size_push _).symm
  have HH := Lib.hid (hh.on hb0)
  have hgw := hh.lg
  have HF := Lib.hid hf
  clear hh hf
  go_enter Tryz.func55, Tryz.ntmps55
  go_upto_region 1 with fail
  change Code.wp _ _ _ _ (w.alloc (.cells Pg.zero.c 42))
  generalize w.alloc (.cells Pg.zero.c 42) = w0 at *
  have HB0 := Lib.hid hb0
  have HZ0 := Lib.hid hz0
  clear hb0 hz0
  go_upto_region 3 with (go_at_call 79; refine (find_any _ HH.out HF.out).mono ?_; rintro e w1 ⟨rfl, hb1⟩; rw [ptr_none])
  have HZ3 := Lib.hid (show w1.heap[w.heap.size]? = some (.cells Pg.zero.c 42 (0, 0)) from (hb1.block _ (by omega)).trans HZ0.out)
  have HF3 := Lib.hid (show Fr w.heap.size (fun _ => False) w w1 from (Fr.ofB HB0.out).thenB hb1 (by omega))
  clear hb1 HH HZ0 HB0
  have z0 := (pg_cells HZ3.out).1 0 (by decide)
  have z1 := (pg_cells HZ3.out).1 1 (by decide)
  have z2 := (pg_cells HZ3.out).1 2 (by decide)
  have z3 := (pg_cells HZ3.out).1 3 (by decide)
  have z4 := (pg_cells HZ3.out).2.1
  have y0 := (pg_cells HZ3.out).2.2 0
  have y1 := (pg_cells HZ3.out).2.2 1
  have y2 := (pg_cells HZ3.out).2.2 2
  have y3 := (pg_cells HZ3.out).2.2 3
  have y4 := (pg_cells HZ3.out).2.2 4
  go_wp2
  have hz4 := fin5_heap (x := Pg.zero) HZ3.out
  have hfr4 := Hp.Fr.fin5 HF3.out (q := w.heap.size) (by omega) Pg.zero
  clear z0 z1 z2 z3 z4 y0 y1 y2 y3 y4
  change bodyPost _ _ _ _ _ (fin5 w1 w.heap.size Pg.zero)
  generalize fin5 w1 w.heap.size Pg.zero = w4 at hz4 hfr4 ⊢
  exact bodyPost_ret (get_end rfl rfl (W := w4) hz4) rfl ⟨rfl, hfr4.os, hfr4.tape, hfr4.output, hfr4.size, fun k hk => hfr4.block k hk (fun h => h)⟩
set_option maxHeartbeats 1000000 in
theorem get_one (w : World) {g o : Nat} {A : At} {s : St} {k : Int} {i : Nat} (hh : HA w g o A s) (hf : First s.n (hit s k) i) (hi : i < s.n) :
    Calls Tryz.prog 55 #[.pointer (some ⟨g, o, none⟩), .int .i64 k] w fun e w' => e = .returned (.tuple #[(s.P i).v.v, .bool true]) ∧ HA w' g o A { s with P := up s.P i { s.P i with b := true } } ∧ Fr w.heap.size (One g) w w' := by
  have hb0 : Below w.heap.size w (w.alloc (.cells Pg.zero.c 42)) := (Below.refl _ _).alloc (Nat.le_refl _) _
  have hz0 := heap_alloc_new w (.cells Pg.zero.c 42)
  have hs0 : w.heap.size + 1 = (w.alloc (.cells Pg.zero.c 42)).heap.size := (Array.size_push _).symm
  have HH := Lib.hid (hh.on hb0)
  have hgw := hh.lg
  have HF := Lib.hid hf
  have HI := Lib.hid hi
  clear hh hf hi
  go_enter Tryz.func55, Tryz.ntmps55
  go_upto_region 1 with fail
  change Code.wp _ _ _ _ (w.alloc (.cells Pg.zero.c 42))
  generalize w.alloc (.cells Pg.zero.c 42) = w0 at *
  have HB0 := Lib.hid hb0
  have HZ0 := Lib.hid hz0
  clear hb0 hz0
  go_upto_region 4 with (go_at_call 79; refine (find_any _ HH.out HF.out).mono ?_; rintro e w1 ⟨rfl, hb1⟩; rw [ptr_some HI.out])
  have h1 := HH.out.on hb1
  have hz1 : w1.heap[w.heap.size]? = some (.cells Pg.zero.c 42 (0, 0)) := (hb1.block _ (by omega)).trans HZ0.out
  have hfr : Fr w.heap.size (One g) w w1 := (Fr.ofB (S := One g) HB0.out).thenB hb1 (by omega)
  have c7 := h1.cell (i := i) HI.out (j := 7) (by omega)
  rw [show (s.P i).c[7]? = some (.bool (s.P i).b) from rfl] at c7
  have f7 := h1.froz (o + i * 9 + 7)
  have h2 := h1.set HI.out (j := 7) (by omega) (.bool true) { s.P i with b := true } rfl
  have hfr2 := hfr.setCell (p := ⟨g, o + i * 9 + 7, none⟩) (Or.inl rfl) (.bool true)
  have hz2 : (w1.setCell ⟨g, o + i * 9 + 7, none⟩ (.bool true)).heap[w.heap.size]? = some (.cells Pg.zero.c 42 (0, 0)) := (Below.heap_setCell _ _ _ _ (show w.heap.size ≠ g by omega)).trans hz1
  clear HZ0 HB0 HH hb1 h1 hz1 hfr
  go_upto_region 5 with fail
  generalize w1.setCell ⟨g, o + i * 9 + 7, none⟩ (.bool true) = w2 at h2 hfr2 hz2 ⊢
  clear c7 f7
  have d0 := h2.cell (i := i) HI.out (j := 2) (by omega)
  simp only [up_same] at d0
  rw [show (Pl.c { s.P i with b := true })[2]? = some (.slice ((s.P i).v.P 0) ((s.P i).v.N 0) ((s.P i).v.K 0)) from rfl] at d0
  have d1 := h2.cell (i := i) HI.out (j := 3) (by omega)
  simp only [up_same] at d1
  rw [show (Pl.c { s.P i with b := true })[3]? = some (.slice ((s.P i).v.P 1) ((s.P i).v.N 1) ((s.P i).v.K 1)) from rfl] at d1
  have d2 := h2.cell (i := i) HI.out (j := 4) (by omega)
  simp only [up_same] at d2
  rw [show (Pl.c { s.P i with b := true })[4]? = some (.slice ((s.P i).v.P 2) ((s.P i).v.N 2) ((s.P i).v.K 2)) from rfl] at d2
  have d3 := h2.cell (i := i) HI.out (j := 5) (by omega)
  simp only [up_same] at d3
  rw [show (Pl.c { s.P i with b := true })[5]? = some (.slice ((s.P i).v.P 3) ((s.P i).v.N 3) ((s.P i).v.K 3)) from rfl] at d3
  have d4 := h2.cell (i := i) HI.out (j := 6) (by omega)
  simp only [up_same] at d4
  rw [show (Pl.c { s.P i with b := true })[6]? = some (.int .i64 (s.P i).v.l) from rfl] at d4
  have H2 := Lib.hid h2
  have HF2 := Lib.hid hfr2
  have HZ3 := Lib.hid hz2
  clear h2 hfr2 hz2
  have z0 := (pg_cells HZ3.out).1 0 (by decide)
  have z1 := (pg_cells HZ3.out).1 1 (by decide)
  have z2 := (pg_cells HZ3.out).1 2 (by decide)
  have z3 := (pg_cells HZ3.out).1 3 (by decide)
  have z4 := (pg_cells HZ3.out).2.1
  have y0 := (pg_cells HZ3.out).2.2 0
  have y1 := (pg_cells HZ3.out).2.2 1
  have y2 := (pg_cells HZ3.out).2.2 2
  have y3 := (pg_cells HZ3.out).2.2 3
  have y4 := (pg_cells HZ3.out).2.2 4
  go_wp2
  have h4 := H2.out.same (fin5_far (W := w2) (q := w.heap.size) (x := (s.P i).v) (k := g) (by omega))
  have hz4 := fin5_heap (x := (s.P i).v) HZ3.out
  have hfr4 := Hp.Fr.fin5 HF2.out (q := w.heap.size) (by omega) (s.P i).v
  clear z0 z1 z2 z3 z4 y0 y1 y2 y3 y4
  change bodyPost _ _ _ _ _ (fin5 w2 w.heap.size (s.P i).v)
  generalize fin5 w2 w.heap.size (s.P i).v = w4 at h4 hz4 hfr4 ⊢
  exact bodyPost_ret (get_end rfl rfl (W := w4) hz4) rfl ⟨rfl, h4, hfr4⟩
end Go.Proofs.YtljbhdldfffpfaaGreat.Hp
