/- PoolNone, a part. -/
import Derived.Test.YtljbhdldfffpfaaGreatQn33
namespace Go.Proofs.YtljbhdldfffpfaaGreat.Hp
open Go.RowKit Go.Proofs.YtljbhdldfffpfaaGreat

/-- The pool with one of its cache's places turned. -/
theorem PoAt.with_ {w : World} {p : Nat} {x : Po} (h : PoAt w p x) {w' : World} {s : St} (ha : HA w' p 4 x.A s) (hm : w'.heap[x.bm]? = w.heap[x.bm]?) : PoAt w' p { x with s := s } := ⟨ha, h.map.of_block hm, h.ne, h.sf, h.sp⟩
set_option maxHeartbeats 1000000 in
theorem use_hit (w : World) {p : Nat} {x : Po} (hx : PoAt w p x) (n : Nat) (hn : n < x.pages) {i : Nat} (hf : First x.s.n (hit x.s n) i) (hi : i < x.s.n) :
    Calls Tryz.prog 42 #[.pointer (some ⟨p, 0, none⟩), .int .i64 (n : Int)] w fun e w' => e = .returned (.tuple #[(x.s.P i).v.v, .int .i64 0]) ∧ PoAt w' p { x with s := { x.s with P := up x.s.P i { x.s.P i with b := true } } } ∧ Fr w.heap.size (One p) w w' := by
  have hb0 : Below w.heap.size w (w.alloc (.cells Pg.zero.c 42)) := (Below.refl _ _).alloc (Nat.le_refl _) _
  have hs0 : (w.alloc (.cells Pg.zero.c 42)).heap.size = w.heap.size + 1 := Array.size_push _
  have hz0 := heap_alloc_new w (.cells Pg.zero.c 42)
  have hx0 := hx.on hb0
  have hp := hx.lp
  have hbm := hx.lm
  have hne := hx.ne
  go_enter Tryz.func42, Tryz.ntmps42
  go_upto_region 1 with fail
  change Code.wp _ _ _ _ (w.alloc (.cells Pg.zero.c 42))
  generalize w.alloc (.cells Pg.zero.c 42) = w1 at *
  have HX := Lib.hid hx0
  have hhas := has_any w1 hx0 n
  rw [show hasB x.pages n = true from by unfold hasB; simp; omega] at hhas
  have HH := Lib.hid hhas
  have HG := Lib.hid (get_one w1 hx0.ha hf hi)
  have HB0 := Lib.hid hb0
  have HZ0 := Lib.hid hz0
  clear hx hx0 hhas hf hb0 hz0
  go_upto_region 5 with (first | (go_at_call 54; refine HH.out.mono ?_; rintro e w' ⟨rfl, hw⟩; obtain rfl := hw.symm; clear hw) | (go_at_call 55; refine HG.out.mono ?_; rintro e w2 ⟨rfl, h2, hf2⟩; have H2 := Lib.hid h2; have HF2 := Lib.hid hf2; clear h2 hf2; unfold Pg.v))
  have hfr2 := HF2.out
  have hs2 := hfr2.size
  have hx2 : PoAt w2 p _ := HX.out.with_ H2.out (hfr2.block _ (by omega) (fun e => hne (show p = x.bm from Eq.symm e)))
  have hz2 := (hfr2.block w.heap.size (by omega) (fun e => by have : w.heap.size = p := e; omega)).trans HZ0.out
  have hfr := (Fr.ofB (S := One p) HB0.out).trans hfr2 (by omega) (fun _ _ e => e)
  change Code.wp _ _ _ _ (w2.alloc (.cells (x.s.P i).v.c 42))
  have hb3 : Below w2.heap.size w2 (w2.alloc (.cells (x.s.P i).v.c 42)) := (Below.refl _ _).alloc (Nat.le_refl _) _
  have hy3 := heap_alloc_new w2 (.cells (x.s.P i).v.c 42)
  generalize w2.alloc (.cells (x.s.P i).v.c 42) = w3 at *
  have HX3 := Lib.hid (hx2.on hb3)
  have HZ3 := Lib.hid ((hb3.block w.heap.size (by omega)).trans hz2)
  have HF3 := Lib.hid (hfr.thenB hb3 (by omega))
  have HY3 := Lib.hid hy3
  clear hx2 hz2 hfr hb3 hy3 hfr2 H2 HF2 HX HZ0 HB0 HH HG
  have a0 := (pg_cells HY3.out).1 0 (by decide)
  have a1 := (pg_cells HY3.out).1 1 (by decide)
  have a2 := (pg_cells HY3.out).1 2 (by decide)
  have a3 := (pg_cells HY3.out).1 3 (by decide)
  have a4 := (pg_cells HY3.out).2.1
  have z0 := (pg_cells HZ3.out).1 0 (by decide)
  have z1 := (pg_cells HZ3.out).1 1 (by decide)
  have z2 := (pg_cells HZ3.out).1 2 (by decide)
  have z3 := (pg_cells HZ3.out).1 3 (by decide)
  have z4 := (pg_cells HZ3.out).2.1
  have y0 := (pg_cells HZ3.out).2.2 0
  have y1 := (pg_cells HZ3.out).2.2 1
  have y2 := (pg_cells HZ3.out).2.2 2
  have y3 := (pg_cells HZ3.out).2.2 3
  have y4 := (pg_cells HZ3.out).2.2 4
  go_wp2
  have hE := fin5_heap (x := (x.s.P i).v) HZ3.out
  have hF := Hp.Fr.fin5 HF3.out (q := w.heap.size) (Nat.le_refl _) (x.s.P i).v
  have hX := HX3.out.keep (w' := fin5 w3 w.heap.size (x.s.P i).v) (fin5_far (by omega)) (fin5_far (show x.bm ≠ w.heap.size by omega))
  clear a0 a1 a2 a3 a4 z0 z1 z2 z3 z4 y0 y1 y2 y3 y4
  change bodyPost _ _ _ _ _ (fin5 w3 w.heap.size (x.s.P i).v)
  exact bodyPost_ret (use_end rfl rfl hE) rfl ⟨rfl, hX, hF⟩
end Go.Proofs.YtljbhdldfffpfaaGreat.Hp
namespace Go.Proofs.YtljbhdldfffpfaaGreat.Hp
open Go.RowKit Go.Proofs.YtljbhdldfffpfaaGreat Go.Proofs.YtljbhdldfffpfaaGreat.Lf

theorem page_end {W : World} {tmps : Array Value} {q : Nat} {x : Pg} {t : TypeId} {er : Int} (h4 : tmps.getD 4 undef = .pointer (some ⟨q, 0, none⟩)) (h5 : tmps.getD 5 undef = .int .i64 er) (k : W.heap[q]? = some (.cells x.c t (0, 0))) : (results Tryz.f14 tmps).run Tryz.prog W = .ok (.tuple #[x.v, .int .i64 er]) W := by
  rw [Array.getD_eq_getD_getElem?] at h4 h5
  have a0 := (pg_cells k).1 0 (by decide)
  have a1 := (pg_cells k).1 1 (by decide)
  have a2 := (pg_cells k).1 2 (by decide)
  have a3 := (pg_cells k).1 3 (by decide)
  have a4 := (pg_cells k).2.1
  simp [results, Tryz.results14, go_sem, h4, h5, a0, a1, a2, a3, a4, Pg.v]
/-- What use leaves, whatever page n is. -/
def UsOk (w : World) (p : Nat) (c : Nat → List Int) (l er : Int) (R : World → Prop) (e : Ending) (w1 : World) : Prop := ∃ P N K, e = .returned (.tuple #[pgV P N K l, .int .i64 er]) ∧ Cs w1 P N K c ∧ R w1 ∧ Fr w.heap.size (One p) w w1
/-- What Page leaves: a copy. -/
def PgOk (w : World) (c : Nat → List Int) (l er : Int) (R : World → Prop) (e : Ending) (w' : World) : Prop := ∃ P N K w1, e = .returned (.tuple #[pgV P N K l, .int .i64 er]) ∧ Cs w' P N K c ∧ R w1 ∧ Fr w1.heap.size (One w.heap.size) w1 w' ∧ w.heap.size < w1.heap.size

set_option maxHeartbeats 1000000 in
theorem page_of (w : World) {pv : Value} {p : Nat} (hp : p ≠ w.heap.size) (n : Int) {c : Nat → List Int} {l er : Int} {R : World → Prop} (hl : ∀ i, i < 4 → (c i).length ≤ 100000)
    (hU : Calls Tryz.prog 42 #[pv, .int .i64 n] (w.alloc (.cells Pg.zero.c 42)) (UsOk (w.alloc (.cells Pg.zero.c 42)) p c l er R)) :
    Calls Tryz.prog 14 #[pv, .int .i64 n] w (PgOk w c l er R) := by
  have HL := Lib.hid hl
  have hz0 := heap_alloc_new w (.cells Pg.zero.c 42)
  have hs0 : (w.alloc (.cells Pg.zero.c 42)).heap.size = w.heap.size + 1 := Array.size_push _
  go_enter Tryz.func14, Tryz.ntmps14
  go_upto_region 1 with fail
  change Code.wp _ _ _ _ (w.alloc (.cells Pg.zero.c 42))
  generalize w.alloc (.cells Pg.zero.c 42) = w0 at *
  have HU := Lib.hid hU
  have HZ0 := Lib.hid hz0
  clear hU hz0 hl
  go_upto_region 2 with (go_at_call 42; refine HU.out.mono ?_; rintro e w1 ⟨P, N, K, rfl, hcs, hR, hf1⟩; unfold pgV)
  change Code.wp _ _ _ _ (w1.alloc (pgO P N K l))
  have hb2 : Below w1.heap.size w1 (w1.alloc (pgO P N K l)) := (Below.refl _ _).alloc (Nat.le_refl _) _
  have hy2 := heap_alloc_new w1 (pgO P N K l)
  have hz1 : w1.heap[w.heap.size]? = some (.cells Pg.zero.c 42 (0, 0)) := (hf1.block w.heap.size (by omega) (fun e => by have e2 : w.heap.size = p := e; omega)).trans HZ0.out
  have hs1 : w.heap.size < w1.heap.size := by have := hf1.size; omega
  have hz2 := (hb2.block _ hs1).trans hz1
  have hs2 := hb2.size
  have HC2 := Lib.hid (hcs.below hb2 (Nat.le_refl _))
  have HR := Lib.hid hR
  have HB2 := Lib.hid hb2
  have HS1 := Lib.hid hs1
  generalize w1.alloc (pgO P N K l) = w2 at *
  have HCl := Lib.hid (pclone_any w2 P N K l c HC2.out HL.out)
  have HZ2 := Lib.hid hz2
  obtain ⟨zc, z4, -⟩ := pg_cell hy2
  have z0 := zc 0 (by decide)
  have z1 := zc 1 (by decide)
  have z2 := zc 2 (by decide)
  have z3 := zc 3 (by decide)
  have hlt2 : w.heap.size < w2.heap.size := by omega
  have HLT := Lib.hid hlt2
  clear zc hb2 hy2 hz1 hz2 hcs hR hf1 HU hs2 hlt2 hs0
  unfold pgV at HCl
  go_wp2_with (go_at_call 43; refine HCl.out.mono ?_; rintro e w3 ⟨P3, N3, K3, rfl, hco, hb3⟩; unfold pgV; have HZ3 := Lib.hid ((hb3.block _ HLT.out).trans HZ2.out); have HC3 := Lib.hid hco.cs; have HB3 := Lib.hid hb3; clear hco hb3; have y0 := (pg_cells HZ3.out).1 0 (by decide); have y1 := (pg_cells HZ3.out).1 1 (by decide); have y2 := (pg_cells HZ3.out).1 2 (by decide); have y3 := (pg_cells HZ3.out).1 3 (by decide); have y4 := (pg_cells HZ3.out).2.1; have f0 := (pg_cells HZ3.out).2.2)
  have hE := fin5_heap (x := ⟨P3, N3, K3, l⟩) HZ3.out
  have hC := cs_fin HC3.out HZ3.out ⟨P3, N3, K3, l⟩
  have h3 : Fr w1.heap.size (One w.heap.size) w1 w3 := Fr.ofB (HB2.out.trans (HB3.out.mono HB2.out.size))
  have hF : Fr w1.heap.size (One w.heap.size) w1 (fin5 w3 w.heap.size ⟨P3, N3, K3, l⟩) := by
    unfold fin5
    exact ((((h3.setCell (p := ⟨w.heap.size, 0, none⟩) (Or.inl rfl) _).setCell (p := ⟨w.heap.size, 1, none⟩) (Or.inl rfl) _).setCell (p := ⟨w.heap.size, 2, none⟩) (Or.inl rfl) _).setCell (p := ⟨w.heap.size, 3, none⟩) (Or.inl rfl) _).setCell (p := ⟨w.heap.size, 4, none⟩) (Or.inl rfl) _
  change bodyPost _ _ _ _ _ (fin5 w3 w.heap.size ⟨P3, N3, K3, l⟩)
  exact bodyPost_ret (page_end rfl rfl hE) rfl ⟨P3, N3, K3, w1, rfl, hC, HR.out, hF, HS1.out⟩
end Go.Proofs.YtljbhdldfffpfaaGreat.Hp
