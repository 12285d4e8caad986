/- PoolNone, a part. -/
import Derived.Test.YtljbhdldfffpfaaGreatQn32
import Derived.Test.YtljbhdldfffpfaaGreatQn30
import Derived.Test.YtljbhdldfffpfaaGreatQn16
namespace Go.Proofs.YtljbhdldfffpfaaGreat.Hp
open Go.RowKit Go.Proofs.YtljbhdldfffpfaaGreat

set_option maxHeartbeats 1000000 in
theorem bring_vac (w : World) {p : Nat} {x : Po} (hx : PoAt w p x) (n : Int) (v : Pg) {i : Nat} (hf : First x.s.n (hit x.s n) x.s.n) (hv : First x.s.n (vac x.s) i) (hi : i < x.s.n) :
    Calls Tryz.prog 69 #[.pointer (some ⟨p, 0, none⟩), .int .i64 n, v.v] w fun e w' => e = .returned (.int .i64 0) ∧ PoAt w' p { x with s := { x.s with P := up x.s.P i ⟨true, n, v, true, 0⟩ } } ∧ Fr w.heap.size (One p) w w' := by
  have hu : (x.s.P i).u = false := by
    have := hv.yes hi
    unfold vac at this
    simpa using this
  have hb0 : Below w.heap.size w (w.alloc (.cells v.c 42)) := (Below.refl _ _).alloc (Nat.le_refl _) _
  have hs0 : (w.alloc (.cells v.c 42)).heap.size = w.heap.size + 1 := Array.size_push _
  have hv0 := heap_alloc_new w (.cells v.c 42)
  have hx0 := hx.on hb0
  have hp := hx.lp
  have hbm := hx.lm
  unfold Pg.v
  go_enter Tryz.func69, Tryz.ntmps69
  go_upto_region 1 with fail
  change Code.wp _ _ _ _ (w.alloc (.cells v.c 42))
  generalize w.alloc (.cells v.c 42) = w1 at *
  have HC := Lib.hid hx0.cells
  have HI := Lib.hid (info_rowH x.s)
  have HO := Lib.hid (rowH_one x.s)
  have HX := Lib.hid hx0
  have HB0 := Lib.hid hb0
  have HV0 := Lib.hid hv0
  have HAL := Lib.hid (hs0 ▸ heap_alloc_new w1 (.cells Tryz.zeroCells97 97))
  have HSZ := Lib.hid (show (Tryz.zeroCells97 : Array Value).size = (rowH x.s).size by rw [rowH_size]; kernel_rfl)
  have HSET := Lib.hid (hs0 ▸ setRow_alloc w1 Tryz.zeroCells97 (rowH x.s) 97)
  clear hx hx0 hb0 hv0
  go_upto_region 2 with (first | (with_reducible refine wpList_load_at rfl 97 (.tmp 15) rfl p 4 rfl (rowH x.s) _ HC.out run_hand rfl HI.out ?_) | (with_reducible refine wpList_store_row rfl 97 (.tmp 7) (.tmp 16) rfl (w.heap.size + 1) (rowH x.s) rfl rfl 97 _ HAL.out HI.out HSZ.out HO.out ?_))
  rw [HSET.out]
  have hn := HX.out.ha.ln
  have ha := HX.out.ha.la
  have hq := heap_alloc_new w1 (.cells (rowH x.s) 97)
  rw [hs0] at hq
  have hb2 : Below w1.heap.size w1 (w1.alloc (.cells (rowH x.s) 97)) := (Below.refl _ _).alloc (Nat.le_refl _) _
  have hs2 : (w1.alloc (.cells (rowH x.s) 97)).heap.size = w1.heap.size + 1 := Array.size_push _
  generalize w1.alloc (.cells (rowH x.s) 97) = w2 at *
  have h2 : HA w2 (w.heap.size + 1) 0 A0 x.s := ⟨by rw [hq, A0_c]; rfl, rfl, ha, hn⟩
  have HP := Lib.hid (put_vac w2 (v := v) h2 hf hv hi)
  have HX2 := Lib.hid (HX.out.on hb2)
  have HV2 := Lib.hid ((hb2.block w.heap.size (by omega)).trans HV0.out)
  have HB2 := Lib.hid hb2
  clear HAL HSET HSZ HC hb2 hq h2 hf hv HX HV0
  rw [hu] at HP
  go_upto_region 3 with (first | (with_reducible refine wpList_load_row rfl 42 (.tmp 5) rfl w.heap.size rfl 42 _ (0, 0) _ HV2.out run_page rfl (info_page v) ?_) | (go_at_call 50; refine HP.out.mono ?_; rintro e w3 ⟨rfl, h3, hf3⟩; have H3 := Lib.hid h3; have HF3 := Lib.hid hf3; clear h3 hf3; unfold tup4 Pg.v))
  change Code.wp _ _ _ _ (w3.alloc (.cells (x.s.P i).v.c 42))
  obtain ⟨s', hs'⟩ : ∃ s' : St, s' = { x.s with P := up x.s.P i ⟨true, n, v, true, 0⟩ } := ⟨_, rfl⟩
  have h3 := H3.out
  rw [← hs'] at h3
  have hf3 := HF3.out
  have hp2 : p < w2.heap.size := by omega
  have hpo : ¬ One (w.heap.size + 1) p := fun e => by have : p = w.heap.size + 1 := e; omega
  have hbo : ¬ One (w.heap.size + 1) x.bm := fun e => by have : x.bm = w.heap.size + 1 := e; omega
  have hx3 := HX2.out.fr hf3 hp2 HX2.out.lm hpo hbo
  have hb4 : Below w3.heap.size w3 (w3.alloc (.cells (x.s.P i).v.c 42)) := (Below.refl _ _).alloc (Nat.le_refl _) _
  have hx4 := hx3.on hb4
  have h4 := h3.on hb4
  have hfr4 : Fr w.heap.size (One p) w (w3.alloc (.cells (x.s.P i).v.c 42)) := (((Fr.ofB HB0.out).thenB HB2.out (by omega)).trans hf3 (by omega) (fun k hk e => by have : k = w.heap.size + 1 := e; omega)).thenB hb4 (by have := hf3.size; omega)
  generalize w3.alloc (.cells (x.s.P i).v.c 42) = w4 at *
  have hg4 := h4.hg
  rw [A0_c] at hg4
  have HG4 := Lib.hid hg4
  have HI4 := Lib.hid (info_rowH s')
  have HO4 := Lib.hid (rowH_one s')
  have HPG := Lib.hid hx4.ha.hg
  have HLE : Hid (4 + (rowH s').size ≤ (x.A.c x.s).size) := by
    rw [rowH_size, At.size (o := 4) hx4.ha.lo]
    show 4 + 578 ≤ 4 + 578 + x.A.suf.size
    omega
  have HX5 := Lib.hid (hx4.lay (s := s') h4.la h4.ln)
  have HF5 := Lib.hid (hfr4.setR (b := p) (Or.inl rfl) (putRow (x.A.c x.s) 4 (rowH s').toList))
  have HSS := Lib.hid hs'
  clear hg4 hx4 h4 hfr4 hb4 hx3 hf3 h3 H3 HF3 HX2 HV2 HB2 HB0 HP hs'
  go_upto_region 10 with (first | (with_reducible refine wpList_load_row rfl 97 (.tmp 7) rfl (w.heap.size + 1) rfl 97 _ (0, 0) _ HG4.out run_hand rfl HI4.out ?_) | (with_reducible refine wpList_store_at rfl 97 (.tmp 38) (.tmp 36) rfl p 4 (rowH s') rfl rfl x.A.t _ HPG.out HI4.out HLE.out HO4.out ?_))
  simp only [Act.put]
  have hX5 := HX5.out
  have hF5 := HF5.out
  generalize w4.setRow p (putRow (x.A.c x.s) 4 (rowH s').toList) = w5 at hX5 hF5 ⊢
  clear HX5 HF5 HG4 HPG HLE HI4 HO4
  go_wp2
  go_ret
  exact ⟨rfl, HSS.out ▸ hX5, hF5⟩
end Go.Proofs.YtljbhdldfffpfaaGreat.Hp
namespace Go.Proofs.YtljbhdldfffpfaaGreat.Hp
open Go.RowKit Go.Proofs.YtljbhdldfffpfaaGreat Go.Proofs.YtljbhdldfffpfaaGreat.Lf

theorem one_all {f : Value → Prop} {v z : Value} (h : some v = some z) (e : f v) : f z := by
  injection h with h
  rw [← h]; exact e
theorem rowH_all (s : St) (f : Value → Prop) (hb : ∀ b, f (.bool b)) (hi : ∀ z, f (.int .i64 z)) (hs : ∀ a b c, f (.slice a b c)) : ∀ (y : Nat) (z : Value), (rowH s)[y]? = some z → f z := by
  intro y z h
  have hy : y < 578 := by
    rcases Nat.lt_or_ge y 578 with a | a
    · exact a
    · rw [Array.getElem?_eq_none (by rw [rowH_size]; exact a)] at h; cases h
  by_cases e : y < 576
  · rw [rowH_lo s e] at h
    have h9 := rowP_at (n := 64) (clip s.n s.P) (i := y / 9) (j := y % 9) (by omega) (by omega)
    rw [show y / 9 * 9 + y % 9 = y by omega] at h9
    rw [h9] at h
    have hj : y % 9 < 9 := by omega
    generalize y % 9 = j at h hj
    generalize clip s.n s.P (y / 9) = x at h
    match j, hj with
    | 0, _ => exact one_all (v := .bool x.u) h (hb _)
    | 1, _ => exact one_all (v := .int .i64 x.k) h (hi _)
    | 2, _ => exact one_all (v := .slice (x.v.P 0) (x.v.N 0) (x.v.K 0)) h (hs _ _ _)
    | 3, _ => exact one_all (v := .slice (x.v.P 1) (x.v.N 1) (x.v.K 1)) h (hs _ _ _)
    | 4, _ => exact one_all (v := .slice (x.v.P 2) (x.v.N 2) (x.v.K 2)) h (hs _ _ _)
    | 5, _ => exact one_all (v := .slice (x.v.P 3) (x.v.N 3) (x.v.K 3)) h (hs _ _ _)
    | 6, _ => exact one_all (v := .int .i64 x.v.l) h (hi _)
    | 7, _ => exact one_all (v := .bool x.b) h (hb _)
    | 8, _ => exact one_all (v := .int .i64 (x.n : Int)) h (hi _)
  · by_cases e2 : y = 576
    · rw [e2, rowH_n] at h
      exact one_all h (hi _)
    · rw [show y = 577 by omega, rowH_a] at h
      exact one_all h (hi _)
theorem po_nou8 {w : World} {p : Nat} {x : Po} (h : PoAt w p x) : ∀ j z, w.cell? ⟨p, j, none⟩ ≠ some (.int .u8 z) := by
  intro j z e
  by_cases h1 : j < 4
  · rw [h.lo h1] at e
    match j, h1 with
    | 0, _ => have e2 : some (Value.pointer (some ⟨x.dk, 0, none⟩)) = some (.int .u8 z) := e; cases e2
    | 1, _ => have e2 : some (Value.pointer (x.lg.map fun l => ⟨l, 0, none⟩)) = some (.int .u8 z) := e; cases e2
    | 2, _ => have e2 : some (Value.int .i64 (x.first : Int)) = some (.int .u8 z) := e; cases e2
    | 3, _ => have e2 : some (Value.int .i64 (x.pages : Int)) = some (.int .u8 z) := e; cases e2
  · by_cases h2 : j < 582
    · rw [(cell_of h.ha.hg j).1, show j = 4 + (j - 4) by omega, At.at_ h.ha.lo (by omega)] at e
      exact rowH_all x.s (fun v => v ≠ .int .u8 z) (fun _ e => by cases e) (fun _ e => by cases e) (fun _ _ _ e => by cases e) _ _ e rfl
    · by_cases h3 : j = 582
      · rw [h3, h.c5] at e; cases e
      · rw [(cell_of h.ha.hg j).1, Array.getElem?_eq_none (by rw [At.size (o := 4) h.ha.lo]; show 4 + 578 + 1 ≤ j; omega)] at e
        cases e
theorem slk_fr {w w' : World} {p : Nat} (hs : w.heap.size ≤ w'.heap.size) (hb : ∀ k, k < w.heap.size → k ≠ p → w'.heap[k]? = w.heap[k]?) (hn : ∀ j z, w.cell? ⟨p, j, none⟩ ≠ some (.int .u8 z)) {v : Value} {l : List Int} (h : SlK .u8 w v l) : SlK .u8 w' v l := by
  obtain ⟨q, cap, rfl, h1, h2, h3, h4⟩ := h
  refine ⟨q, cap, rfl, h1, h2, h3, fun a ha => ?_⟩
  obtain ⟨h5, h6, h7⟩ := h4 a ha
  refine ⟨h5, by omega, fun j hj => ?_⟩
  have e := h7 j hj
  by_cases hp : a.block = p
  · exact absurd (hp ▸ e) (hn _ _)
  · rw [← e]
    exact World.cell?_of_block (hb _ h6 hp)

/-- A page that came in: the pool has it, its cells as Take has them. -/
def UPost (w : World) (p : Nat) (x : Po) (n : Int) (i : Nat) (l m : List Int) (e : Ending) (w' : World) : Prop := ∃ c y, Tk l m 0 c (Pg.l y) ∧ e = .returned (.tuple #[Pg.v y, .int .i64 0]) ∧ Cs w' y.P y.N y.K c ∧ PoAt w' p { x with s := { x.s with P := up x.s.P i ⟨true, n, y, true, 0⟩ } } ∧ Fr w.heap.size (One p) w w'

set_option maxHeartbeats 1000000 in
theorem use_vac (w : World) {p bn bo g : Nat} {x : Po} {d : Dk} (hx : PoAt w p x) (h : DkAt w x.dk bn bo g d) (n : Nat) (hn : n < x.pages) (hfit : (x.first : Int) + 2 * n + 1 < d.tiles) {l m : List Int} (hl : d.has ((x.first : Int) + 2 * n) l) (hm : d.has ((x.first : Int) + 2 * n + 1) m)
    (hok : ∀ er c k, Tk l m er c k → er = 0) {i : Nat} (hf : First x.s.n (hit x.s n) x.s.n) (hv : First x.s.n (vac x.s) i) (hi : i < x.s.n) :
    Calls Tryz.prog 42 #[.pointer (some ⟨p, 0, none⟩), .int .i64 (n : Int)] w (UPost w p x n i l m) := by
  have hsp := hx.sp
  have hb0 : Below w.heap.size w (w.alloc (.cells Pg.zero.c 42)) := (Below.refl _ _).alloc (Nat.le_refl _) _
  have hs0 : (w.alloc (.cells Pg.zero.c 42)).heap.size = w.heap.size + 1 := Array.size_push _
  have hz0 := heap_alloc_new w (.cells Pg.zero.c 42)
  have hx0 := hx.on hb0
  have h0 := h.on fun k hk => hb0.block k (h.lt hk)
  have hp := hx.lp
  have hbm := hx.lm
  go_enter Tryz.func42, Tryz.ntmps42
  go_upto_region 1 with fail
  change Code.wp _ _ _ _ (w.alloc (.cells Pg.zero.c 42))
  generalize w.alloc (.cells Pg.zero.c 42) = w1 at *
  have HX := Lib.hid hx0
  have hhas := has_any w1 hx0 n
  rw [show hasB x.pages n = true from by unfold hasB; simp; omega] at hhas
  have HH := Lib.hid hhas
  have HG := Lib.hid (get_none w1 hx0.ha hf)
  have HB0 := Lib.hid hb0
  have HZ0 := Lib.hid hz0
  have HD := Lib.hid h0
  have HL := Lib.hid hl
  have HM := Lib.hid hm
  have HOK := Lib.hid hok
  have HF := Lib.hid hf
  have HV := Lib.hid hv
  have HI := Lib.hid hi
  clear hx hx0 h h0 hhas hl hm hok hf hv hi hb0 hz0
  go_upto_region 6 with (first | (go_at_call 54; refine HH.out.mono ?_; rintro e w' ⟨rfl, hw⟩; obtain rfl := hw.symm; clear hw) | (go_at_call 55; refine HG.out.mono ?_; rintro e w2 ⟨rfl, hb2⟩; have HB2 := Lib.hid hb2; clear hb2; unfold Pg.v))
  change Code.wp _ _ _ _ (w2.alloc (.cells Pg.zero.c 42))
  have hb3 : Below w1.heap.size w1 (w2.alloc (.cells Pg.zero.c 42)) := HB2.out.trans (((Below.refl _ _).alloc (Nat.le_refl _) _).mono HB2.out.size)
  generalize w2.alloc (.cells Pg.zero.c 42) = w3 at *
  have HX3 := Lib.hid (HX.out.on hb3)
  have HR := Lib.hid (pread_any w3 HX3.out (HD.out.on fun k hk => hb3.block k (HD.out.lt hk)) n (by omega) hfit HL.out HM.out)
  have HZ3 := Lib.hid ((hb3.block w.heap.size (by omega)).trans HZ0.out)
  have HB3 := Lib.hid (HB0.out.trans (hb3.mono (by omega)))
  have hs3 := hb3.size
  clear hb3 HG HH HB0 HZ0 HB2 HX
  go_upto_region 7 with (go_at_call 73; refine HR.out.mono ?_; rintro e w4 ⟨er, c, y, htk, rfl, hcs, hb4⟩; obtain rfl := HOK.out _ _ _ htk; have HTK := Lib.hid htk; have HCS := Lib.hid hcs; have HB4 := Lib.hid hb4; clear htk hcs hb4; unfold Pg.v)
  change Code.wp _ _ _ _ (w4.alloc (.cells y.c 42))
  have hb5 : Below w4.heap.size w4 (w4.alloc (.cells y.c 42)) := (Below.refl _ _).alloc (Nat.le_refl _) _
  have hy5 := heap_alloc_new w4 (.cells y.c 42)
  have hs5 : (w4.alloc (.cells y.c 42)).heap.size = w4.heap.size + 1 := Array.size_push _
  generalize w4.alloc (.cells y.c 42) = w5 at *
  have hb35 := HB4.out.trans (hb5.mono HB4.out.size)
  have HX5 := Lib.hid (HX3.out.on hb35)
  have HZ5 := Lib.hid ((hb35.block w.heap.size (by omega)).trans HZ3.out)
  have HB5 := Lib.hid (HB3.out.trans (hb35.mono (by omega)))
  have HC5 := Lib.hid (show Cs w5 y.P y.N y.K c from fun j hj => ⟨(HCS.out j hj).1, (HCS.out j hj).2.below hb5 (Nat.le_refl _)⟩)
  have HBR := Lib.hid (bring_vac w5 HX5.out (n : Int) y HF.out HV.out HI.out)
  have HY5 := Lib.hid hy5
  have hs4 := HB4.out.size
  clear hb5 hb35 hy5 HR HX3 HZ3 HB3 HB4 HCS
  have a0 := (pg_cells HY5.out).1 0 (by decide)
  have a1 := (pg_cells HY5.out).1 1 (by decide)
  have a2 := (pg_cells HY5.out).1 2 (by decide)
  have a3 := (pg_cells HY5.out).1 3 (by decide)
  have a4 := (pg_cells HY5.out).2.1
  go_upto_region 10 with (go_at_call 69; refine HBR.out.mono ?_; rintro e w6 ⟨rfl, hx6, hf6⟩; have HX6 := Lib.hid hx6; have HF6 := Lib.hid hf6; clear hx6 hf6)
  clear a0 a1 a2 a3 a4
  have hq8 : ¬ One p w4.heap.size := fun e => by have : w4.heap.size = p := e; omega
  have hq0 : ¬ One p w.heap.size := fun e => by have : w.heap.size = p := e; omega
  have HY6 := Lib.hid ((HF6.out.block w4.heap.size (by omega) hq8).trans HY5.out)
  have HZ6 := Lib.hid ((HF6.out.block w.heap.size (by omega) hq0).trans HZ5.out)
  have a0 := (pg_cells HY6.out).1 0 (by decide)
  have a1 := (pg_cells HY6.out).1 1 (by decide)
  have a2 := (pg_cells HY6.out).1 2 (by decide)
  have a3 := (pg_cells HY6.out).1 3 (by decide)
  have a4 := (pg_cells HY6.out).2.1
  have z0 := (pg_cells HZ6.out).1 0 (by decide)
  have z1 := (pg_cells HZ6.out).1 1 (by decide)
  have z2 := (pg_cells HZ6.out).1 2 (by decide)
  have z3 := (pg_cells HZ6.out).1 3 (by decide)
  have z4 := (pg_cells HZ6.out).2.1
  have y0 := (pg_cells HZ6.out).2.2 0
  have y1 := (pg_cells HZ6.out).2.2 1
  have y2 := (pg_cells HZ6.out).2.2 2
  have y3 := (pg_cells HZ6.out).2.2 3
  have y4 := (pg_cells HZ6.out).2.2 4
  go_wp2
  have hE := fin5_heap (x := y) HZ6.out
  have hC6 : Cs w6 y.P y.N y.K c := fun j hj => ⟨(HC5.out j hj).1, slk_fr HF6.out.size (fun k hk hne => HF6.out.block k hk hne) (po_nou8 HX5.out) (HC5.out j hj).2⟩
  have hC := cs_fin hC6 HZ6.out y
  have hF := Hp.Fr.fin5 ((Fr.ofB HB5.out).trans HF6.out (by omega) (fun _ _ e => e)) (q := w.heap.size) (Nat.le_refl _) y
  have hX : PoAt (fin5 w6 w.heap.size y) p _ := HX6.out.keep (fin5_far (by omega)) (fin5_far (show x.bm ≠ w.heap.size by omega))
  clear a0 a1 a2 a3 a4 z0 z1 z2 z3 z4 y0 y1 y2 y3 y4
  change bodyPost _ _ _ _ _ (fin5 w6 w.heap.size y)
  exact bodyPost_ret (use_end rfl rfl hE) rfl ⟨c, y, HTK.out, rfl, hC, hX, hF⟩
end Go.Proofs.YtljbhdldfffpfaaGreat.Hp
namespace Go.Proofs.YtljbhdldfffpfaaGreat.Hp
open Go.RowKit Go.Proofs.YtljbhdldfffpfaaGreat Go.Proofs.YtljbhdldfffpfaaGreat.Lf

theorem slk_S {w w' : World} {S : Nat → Prop} (hs : w.heap.size ≤ w'.heap.size) (hb : ∀ k, k < w.heap.size → ¬ S k → w'.heap[k]? = w.heap[k]?) (hn : ∀ k, S k → ∀ j z, w.cell? ⟨k, j, none⟩ ≠ some (.int .u8 z)) {v : Value} {l : List Int} (h : SlK .u8 w v l) : SlK .u8 w' v l := by
  obtain ⟨q, cap, rfl, h1, h2, h3, h4⟩ := h
  refine ⟨q, cap, rfl, h1, h2, h3, fun a ha => ?_⟩
  obtain ⟨h5, h6, h7⟩ := h4 a ha
  refine ⟨h5, by omega, fun j hj => ?_⟩
  have e := h7 j hj
  rw [← e]
  exact World.cell?_of_block (hb a.block h6 fun e2 => hn a.block e2 (a.off + j) _ e)
theorem fm_nou8 {w : World} {P : Program} {k b : Nat} {m : Int → Option Value} (h : fm w P k b m) : ∀ j z, w.cell? ⟨b, j, none⟩ ≠ some (.int .u8 z) := by
  intro j z e
  obtain ⟨D, ⟨es, clock, hm, _⟩, _⟩ := h
  unfold World.cell? at e
  simp [hm] at e
theorem dk_nou8 {w : World} {p bn bo g : Nat} {d : Dk} (h : DkAt w p bn bo g d) : ∀ k, Three p bn bo k → ∀ j z, w.cell? ⟨k, j, none⟩ ≠ some (.int .u8 z) := by
  intro k hk j z e
  rcases hk with rfl | rfl | rfl
  · rw [(cell_of h.dk.cells j).1, h.mv] at e
    match j with
    | 0 => have e2 : some (Value.int .i64 d.tiles) = some (.int .u8 z) := e; cases e2
    | 1 => have e2 : some (Value.map (some bn)) = some (.int .u8 z) := e; cases e2
    | 2 => have e2 : some (Value.map (some bo)) = some (.int .u8 z) := e; cases e2
    | 3 => have e2 : some (Value.bool d.dead) = some (.int .u8 z) := e; cases e2
    | 4 => have e2 : some (Value.bool d.set) = some (.int .u8 z) := e; cases e2
    | 5 => have e2 : some (Value.int .i64 d.left) = some (.int .u8 z) := e; cases e2
    | 6 => have e2 : some (Value.slice none 0 0) = some (.int .u8 z) := e; cases e2
    | j + 7 => have e2 : (none : Option Value) = some (.int .u8 z) := e; cases e2
  · exact fm_nou8 h.dk.now j z e
  · exact fm_nou8 h.dk.old j z e
theorem slK_slB {w : World} {v : Value} {l : List Int} (h : SlK .u8 w v l) (hl : l.length ≤ 1000000) : ∃ g, SlB w v l g := by
  obtain ⟨p, cap, rfl, h1, h2, h3, h4⟩ := h
  cases p with
  | none => exact ⟨0, none, l.length, cap, rfl, rfl, h1, hl, fun _ => (h3 rfl).1, fun a e => by cases e⟩
  | some a =>
    obtain ⟨h5, h6, h7⟩ := h4 a rfl
    exact ⟨a.block, some a, l.length, cap, rfl, rfl, h1, hl, fun e => (by cases e), fun a' e' _ => by cases e'; exact ⟨rfl, h5, h7⟩⟩
theorem DkAt.stored {w : World} {p bn bo g : Nat} {d d' : Dk} (h : DiskAt w p bn bo g d') (k : DkAt w p bn bo g d ∨ (d.dead = false ∧ d.set = false ∧ d.mv = .slice none 0 0 ∧ d.mask = [])) (e1 : d'.dead = d.dead) (e2 : d'.set = d.set) (e3 : d'.mv = d.mv) (e4 : d'.mask = d.mask) : DkAt w p bn bo g d' := by
  rcases k with k | ⟨k1, k2, k3, k4⟩
  · exact ⟨h, e1.trans k.dead, e2.trans k.set, e3.trans k.mv, e4.trans k.mask⟩
  · exact ⟨h, e1.trans k1, e2.trans k2, e3.trans k3, e4.trans k4⟩
/-- What the disk has behind a write of a page. -/
def wrD (d : Dk) (a : Int) (la lb : List Int) : Dk := ((d.store a (blkOf la)).store (a + 1) (blkOf lb)).synced

set_option maxRecDepth 100000 in
set_option maxHeartbeats 2000000 in
theorem pwrite_any (w : World) {p bn bo g : Nat} {x : Po} {d : Dk} (hx : PoAt w p x) (h : DkAt w x.dk bn bo g d) (hap : ∀ k, Three x.dk bn bo k → k ≠ p ∧ k ≠ x.bm) (n : Nat) (hn : n ≤ 1000) (hfit : (x.first : Int) + 2 * n + 1 < d.tiles) (P : Nat → Option Addr) (N K : Nat → Nat) (l : Int) (c : Nat → List Int) (hc : Cs w P N K c) (ho : lfE c l = 0) (hla : (lfA c l).length = 64) (hlb : (lfB c l).length = 64) :
    Calls Tryz.prog 57 #[.pointer (some ⟨p, 0, none⟩), .int .i64 (n : Int), pgV P N K l] w fun e w' => e = .returned (.int .i64 0) ∧ DkAt w' x.dk bn bo g (wrD d ((x.first : Int) + 2 * n) (lfA c l) (lfB c l)) ∧ Fr w.heap.size (Three x.dk bn bo) w w' := by
  have sf := hx.sf
  have HLA := Lib.hid hla
  have HLB := Lib.hid hlb
  clear hla hlb
  obtain ⟨la, hla0⟩ := d.has_any h.dk.ok ((x.first : Int) + 2 * n)
  obtain ⟨lb, hlb0⟩ := d.has_any h.dk.ok ((x.first : Int) + 2 * n + 1)
  obtain ⟨W, hW⟩ : ∃ W, W = w.alloc (pgO P N K l) := ⟨_, rfl⟩
  have hb0 : Below w.heap.size w W := by rw [hW]; exact (Below.refl _ _).alloc (Nat.le_refl _) _
  have hX0 : W.heap[w.heap.size]? = some (pgO P N K l) := by rw [hW]; exact heap_alloc_new w _
  have hx0 := hx.on hb0
  have h0 := h.on (w' := W) fun k hk => hb0.block k (h.lt hk)
  have hc0 := hc.below hb0 (Nat.le_refl _)
  have HT := Lib.hid (tiles_ok W hx0 h0 n hn hfit hla0 hlb0)
  have hb1 : Below W.heap.size W (twoB W la lb) := ((Below.refl _ _).alloc (Nat.le_refl _) _).alloc (by simp) _
  have hx1 := hx0.on hb1
  have h1 := h0.on (w' := twoB W la lb) fun k hk => hb1.block k (h0.lt hk)
  have hc1 := hc0.below hb1 (Nat.le_refl _)
  have HX1 := Lib.hid ((hb1.block w.heap.size (Array.getElem?_eq_some_iff.1 hX0).1).trans hX0)
  have HB1 := Lib.hid (hb0.trans (hb1.mono hb0.size))
  have HPO := Lib.hid hx1
  have HDK := Lib.hid h1
  have HLP := Lib.hid (lput_any _ P N K l c hc1)
  have HAP := Lib.hid hap
  have HDO := Lib.hid (And.intro h.dead (And.intro h.set (And.intro h.mv h.mask)))
  clear hx0 h0 hc0 hx1 h1 hc1 hb1 hb0 hX0 hap hc hla0 hlb0 hx h
  go_enter Tryz.func57, Tryz.ntmps57
  go_upto_region 1 with (fail)
  show Code.wp _ _ _ _ (w.alloc (pgO P N K l))
  rw [← hW]
  clear hW
  go_upto_region 4 with (go_at_call 85; refine HT.out.mono ?_; rintro e w' ⟨rfl, hw⟩; obtain rfl := hw.symm; clear hw)
  generalize twoB W la lb = w1 at *
  obtain ⟨zc, z4, -⟩ := pg_cell HX1.out
  have z0 := zc 0 (by decide)
  have z1 := zc 1 (by decide)
  have z2 := zc 2 (by decide)
  have z3 := zc 3 (by decide)
  clear zc HT
  have HLP2 : Hid (Calls Tryz.prog 68 #[.agg #[.slice (P 0) (N 0) (K 0), .slice (P 1) (N 1) (K 1), .slice (P 2) (N 2) (K 2), .slice (P 3) (N 3) (K 3), .int .i64 l]] w1 (PutPost w1 c l)) := HLP.out
  go_wp2_with fail
  refine HLP2.out.mono ?_
  rintro r w2 ⟨va, vb, rfl, hva, hvb, hb2⟩
  rw [ho]
  have hx2 := HPO.out.on hb2
  have h2 := HDK.out.on (w' := w2) fun k hk => hb2.block k (HDK.out.lt hk)
  have HB2 := Lib.hid (HB1.out.trans (hb2.mono HB1.out.size))
  have HT := Lib.hid (tile_any w2 hx2 n hn)
  obtain ⟨ga, hga⟩ := slK_slB hva (by rw [HLA.out]; omega)
  have HW1 := Lib.hid (write_plain w2 h2.dk h2.dead ((x.first : Int) + 2 * n) (by omega) (by omega) va _ hga HLA.out hva.ok h2.set)
  have HX2 := Lib.hid hx2
  have HD2 := Lib.hid h2
  have HVB := Lib.hid hvb
  obtain ⟨Aa, ca, rfl, -⟩ := hva.form
  obtain ⟨Ab, cb, rfl, -⟩ := hvb.form
  have c0 := hx2.c0
  clear z0 z1 z2 z3 z4 hx2 h2 hb2 hga hva hvb HLP HLP2 HX1 HPO HDK HB1
  go_upto_region 8 with (go_at_call 86; refine HT.out.mono ?_; rintro e w' ⟨rfl, hw⟩; obtain rfl := hw.symm; clear hw)
  go_wp2_with fail
  refine HW1.out.mono ?_
  rintro r w3 ⟨rfl, hd3, hf3⟩
  have hx3 : PoAt w3 p x := HX2.out.fr hf3 HX2.out.lp HX2.out.lm (fun e => (HAP.out _ e).1 rfl) (fun e => (HAP.out _ e).2 rfl)
  have hvb3 : SlK .u8 w3 (.slice Ab (lfB c l).length cb) (lfB c l) := slk_S hf3.size (fun k hk hs => hf3.block k hk hs) (dk_nou8 HD2.out) HVB.out
  obtain ⟨gb, hgb⟩ := slK_slB hvb3 (by rw [HLB.out]; omega)
  have q1 : IntKind.i64.wrap ((x.first : Int) + 2 * n + 1) = (x.first : Int) + 2 * n + 1 := IntWalk.i64_in _ (by omega)
  have HW2 := Lib.hid (write_plain w3 hd3 HD2.out.dead ((x.first : Int) + 2 * n + 1) (by omega) hfit _ _ hgb HLB.out hvb3.ok HD2.out.set)
  have c0 := hx3.c0
  have HX3 := Lib.hid hx3
  have HF3 := Lib.hid hf3
  clear hx3 hvb3 hgb hd3 hf3 HW1 HT HVB
  go_wp2_with fail
  refine HW2.out.mono ?_
  rintro r w4 ⟨rfl, hd4, hf4⟩
  have hx4 : PoAt w4 p x := HX3.out.fr hf4 HX3.out.lp HX3.out.lm (fun e => (HAP.out _ e).1 rfl) (fun e => (HAP.out _ e).2 rfl)
  have HS := Lib.hid (sync_plain w4 hd4 HD2.out.dead HD2.out.set)
  have c0 := hx4.c0
  have HF4 := Lib.hid (HF3.out.trans hf4 HF3.out.size (fun _ _ h => h))
  clear hx4 hd4 hf4 HW2 HF3 HX3 q1
  go_wp2_with fail
  refine HS.out.mono ?_
  rintro r w5 ⟨rfl, hd5, hf5⟩
  have HF5 := Lib.hid (HF4.out.trans hf5 HF4.out.size (fun _ _ h => h))
  have HD5 : Hid (DkAt w5 x.dk bn bo g (wrD d ((x.first : Int) + 2 * n) (lfA c l) (lfB c l))) := DkAt.stored hd5 (.inr HDO.out) rfl rfl rfl rfl
  clear HS hd5 hf5 HF4
  go_wp2
  go_ret
  exact ⟨rfl, HD5.out, (Fr.ofB HB2.out).trans HF5.out HB2.out.size (fun _ _ h => h)⟩
end Go.Proofs.YtljbhdldfffpfaaGreat.Hp
