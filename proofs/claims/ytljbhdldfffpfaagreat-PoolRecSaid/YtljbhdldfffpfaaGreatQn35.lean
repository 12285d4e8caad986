/- PoolNone, a part. -/
import Derived.Test.YtljbhdldfffpfaaGreatQn34
namespace Go.Proofs.YtljbhdldfffpfaaGreat.Hp
open Go.RowKit Go.Proofs.YtljbhdldfffpfaaGreat Go.Proofs.YtljbhdldfffpfaaGreat.Lf

theorem zI (w : World) : (zeroValue 3).run Tryz.prog w = .ok (.int .i64 0) w := by kernel_rfl
/-- The Recs behind a change noted as lsn. -/
def recsS (recs : Int → Option Value) (n lsn : Int) : Int → Option Value := if (recs n).isSome = true then recs else Go.Proofs.YtljbhdldfffpfaaGreat.upd recs n (some (.int .i64 lsn))
/-- The Recs are numbers, of pages that there may be. -/
def Rec1 (recs : Int → Option Value) : Prop := ∀ i v, recs i = some v → (0 ≤ i ∧ i < 1000) ∧ ∃ z, v = .int .i64 z
theorem fr_mono2 {B : Nat} {S S' : Nat → Prop} {a w : World} (h : Fr B S a w) (hS : ∀ k, S k → S' k) : Fr B S' a w := ⟨h.os, h.tape, h.output, h.size, fun k hk hn => h.block k hk (fun e => hn (hS k e))⟩
def Two2 (a b : Nat) : Nat → Prop := fun k => k = a ∨ k = b
def SetOk (w : World) (p : Nat) (x : Po) (n : Int) (i : Nat) (c : Nat → List Int) (l lsn : Int) (e : Ending) (w' : World) : Prop := ∃ y : Pg, y.l = l ∧ e = .returned (.int .i64 0) ∧ PoAt w' p { x with s := { x.s with P := up x.s.P i { x.s.P i with v := y, b := true } }, recs := recsS x.recs n lsn } ∧ Cs w' y.P y.N y.K c ∧ Fr w.heap.size (Two2 p x.bm) w w'

set_option maxRecDepth 100000 in
set_option maxHeartbeats 2000000 in
theorem set_new (w : World) {p : Nat} {x : Po} (hx : PoAt w p x) (n at' : Nat) (hn : n < 1000) (hat : at' < 4) {c : Nat → List Int} {l lsn : Int} {b : List Int} {A0 : Option Addr} {q0 : Nat} (hb : SlK .u8 w (.slice A0 b.length q0) b) (hbl : b.length = 0 ∨ b.length = 26) (hl : ∀ i, i < 4 → (c i).length ≤ 100000)
    {i : Nat} {S : Po → Prop} (hS : ∀ x1, S x1 → x1.bm = x.bm ∧ x1.recs = x.recs ∧ First x1.s.n (hit x1.s n) i ∧ i < x1.s.n) (hrec : Rec1 x.recs)
    (hU : Calls Tryz.prog 42 #[.pointer (some ⟨p, 0, none⟩), .int .i64 (n : Int)] w fun e w1 => ∃ x1, S x1 ∧ UsOk w p c l 0 (fun w1 => PoAt w1 p x1) e w1)
    (hns : pgSame (setC c l (at' : Int) lsn b) c (setN l (at' : Int) lsn) l = false) :
    Calls Tryz.prog 17 #[.pointer (some ⟨p, 0, none⟩), .int .i64 (n : Int), .int .i64 (at' : Int), .slice A0 b.length q0, .int .i64 lsn] w (fun e w' => ∃ x1, S x1 ∧ SetOk w p x1 n i (setC c l (at' : Int) lsn b) (setN l (at' : Int) lsn) lsn e w') := by
  have HU := Lib.hid hU
  have HL := Lib.hid hl
  have HBS := Lib.hid hb
  have HX := Lib.hid hx
  have HSS := Lib.hid hS
  have HREC0 := Lib.hid hrec
  have HNS := Lib.hid hns
  have HBL := Lib.hid (show b.length ≤ 100000 by omega)
  have a1 : ¬ (at' : Int) < 0 := by omega
  have a2 : ¬ (4 : Int) ≤ (at' : Int) := by omega
  have HN := Lib.hid hn
  obtain ⟨m, hm⟩ : ∃ m, m = b.length := ⟨_, rfl⟩
  have HM := Lib.hid hm
  rw [← hm] at HBS hbl ⊢
  obtain ⟨l3, hl3⟩ : ∃ z, z = setN l (at' : Int) lsn := ⟨_, rfl⟩
  obtain ⟨c3, hc3⟩ : ∃ z, z = setC c l (at' : Int) lsn b := ⟨_, rfl⟩
  rw [← hc3, ← hl3] at HNS ⊢
  have HL3 := Lib.hid hl3
  have HC3 := Lib.hid hc3
  clear hl3 hc3
  have HBL2 := Lib.hid hbl
  clear hU hl hb hx hS hrec hns hm hbl hn hat
  rcases HBL2.out with h | h
  · have EE : ((m : Int) != 0) = false := by subst h; rfl
    clear h HBL2
    go_enter Tryz.func17, Tryz.ntmps17
    go_upto_region 3 with fail
    clear a1 a2 EE
    go_upto_region 6 with (go_at_call 42; refine HU.out.mono ?_; rintro e w1 ⟨x1, hS1, P, N, K, rfl, hcs, hx1, hf1⟩; unfold pgV)
    obtain ⟨hbm1, hrc1, hft1, hi1⟩ := HSS.out x1 hS1
    have HF := Lib.hid hft1
    have HI := Lib.hid hi1
    have HREC : Hid (Rec1 x1.recs) := by show Rec1 x1.recs; rw [hrc1]; exact HREC0.out
    have HSX := Lib.hid hS1
    clear hbm1 hrc1 hft1 hi1 hS1
    change Code.wp _ _ _ _ (w1.alloc (pgO P N K l))
    have hb2 : Below w1.heap.size w1 (w1.alloc (pgO P N K l)) := (Below.refl _ _).alloc (Nat.le_refl _) _
    have hy2 := heap_alloc_new w1 (pgO P N K l)
    have hbs1 : SlK .u8 w1 (.slice A0 m q0) b := slk_fr hf1.size (fun k hk h => hf1.block k hk h) (po_nou8 HX.out) HBS.out
    have HX2 := Lib.hid (hx1.on hb2)
    have HC2 := Lib.hid (hcs.below hb2 (Nat.le_refl _))
    have HB2 := Lib.hid (hbs1.below hb2 (Nat.le_refl _))
    have HF2 : Hid (Fr w.heap.size (One p) w (w1.alloc (pgO P N K l))) := hf1.trans (Fr.ofB (S := One p) hb2) hf1.size (fun _ _ h => h)
    have hs1 : w.heap.size ≤ w1.heap.size := hf1.size
    generalize w1.alloc (pgO P N K l) = w2 at *
    obtain ⟨zc, z4, -⟩ := pg_cell hy2
    have z0 := zc 0 (by decide)
    have z1 := zc 1 (by decide)
    have z2 := zc 2 (by decide)
    have z3 := zc 3 (by decide)
    have HY2 := Lib.hid hy2
    have HS1 := Lib.hid hs1
    have HSe : Hid (Calls Tryz.prog 48 #[.agg #[.slice (P 0) (N 0) (K 0), .slice (P 1) (N 1) (K 1), .slice (P 2) (N 2) (K 2), .slice (P 3) (N 3) (K 3), .int .i64 l], .int .i64 (at' : Int), .slice A0 m q0, .int .i64 lsn] w2 (PgPost w2 c3 l3)) := by rw [HC3.out, HL3.out]; exact set_any w2 P N K l c HC2.out (at' : Int) lsn A0 m q0 b HB2.out HM.out HL.out HBL.out
    clear zc hb2 hy2 hbs1 hcs hx1 hf1 HU hs1
    go_upto_region 7 with (go_at_call 48; refine HSe.out.mono ?_; rintro e w3 ⟨P3, N3, K3, rfl, hco, hb3⟩; unfold pgV)
    change Code.wp _ _ _ _ (w3.alloc (pgO P3 N3 K3 l3))
    have hb4 : Below w3.heap.size w3 (w3.alloc (pgO P3 N3 K3 l3)) := (Below.refl _ _).alloc (Nat.le_refl _) _
    have hy4 := heap_alloc_new w3 (pgO P3 N3 K3 l3)
    have hb24 : Below w2.heap.size w2 (w3.alloc (pgO P3 N3 K3 l3)) := hb3.trans (hb4.mono hb3.size)
    have HX4 := Lib.hid (HX2.out.on hb24)
    have HC4 := Lib.hid (HC2.out.below hb24 (Nat.le_refl _))
    have HD4 := Lib.hid (hco.cs.below hb4 (Nat.le_refl _))
    have HF4 : Hid (Fr w.heap.size (One p) w (w3.alloc (pgO P3 N3 K3 l3))) := HF2.out.trans (Fr.ofB (S := One p) hb24) HF2.out.size (fun _ _ h => h)
    have hy24 := (hb24.block _ (Array.getElem?_eq_some_iff.1 HY2.out).1).trans HY2.out
    generalize w3.alloc (pgO P3 N3 K3 l3) = w4 at *
    obtain ⟨yc, y4, -⟩ := pg_cell hy4
    have y0 := yc 0 (by decide)
    have y1 := yc 1 (by decide)
    have y2 := yc 2 (by decide)
    have y3 := yc 3 (by decide)
    obtain ⟨uc, u4, -⟩ := pg_cell hy24
    have u0 := uc 0 (by decide)
    have u1 := uc 1 (by decide)
    have u2 := uc 2 (by decide)
    have u3 := uc 3 (by decide)
    have hsm := Lf.same_any w4 P3 N3 K3 l3 c3 P N K l c HD4.out HC4.out
    rw [HNS.out] at hsm
    unfold pgV at hsm
    have HSm := Lib.hid hsm
    have HY4 := Lib.hid hy4
    clear z0 z1 z2 z3 z4 yc uc hb4 hy4 hb24 hy24 hco hb3 HSe HC2 HB2 HF2 HX2 HY2 hsm
    go_upto_region 9 with (go_at_call 49; refine HSm.out.mono ?_; rintro e w5 ⟨rfl, hb5⟩)
    have HX5 := Lib.hid (HX4.out.on hb5)
    have HD5 := Lib.hid (HD4.out.below hb5 (Nat.le_refl _))
    have HF5 : Hid (Fr w.heap.size (One p) w w5) := HF4.out.trans (Fr.ofB (S := One p) hb5) HF4.out.size (fun _ _ h => h)
    have hy5 := (hb5.block _ (Array.getElem?_eq_some_iff.1 HY4.out).1).trans HY4.out
    clear y0 y1 y2 y3 y4 u0 u1 u2 u3 u4 HX4 HC4 HD4 HF4 HY4 HSm
    obtain ⟨yc, y4, -⟩ := pg_cell hy5
    have y0 := yc 0 (by decide)
    have y1 := yc 1 (by decide)
    have y2 := yc 2 (by decide)
    have y3 := yc 3 (by decide)
    clear yc hb5 hy5
    have HPut : Hid (Calls Tryz.prog 50 #[.pointer (some ⟨p, 4, none⟩), .int .i64 (n : Int), .agg #[.slice (P3 0) (N3 0) (K3 0), .slice (P3 1) (N3 1) (K3 1), .slice (P3 2) (N3 2) (K3 2), .slice (P3 3) (N3 3) (K3 3), .int .i64 l3]] w5.drew fun e w' => e = tup4 0 Pg.zero false 0 ∧ HA w' p 4 x1.A { x1.s with P := up x1.s.P i { x1.s.P i with v := ⟨P3, N3, K3, l3⟩, b := true } } ∧ Fr w5.drew.heap.size (One p) w5.drew w') := put_hit w5.drew (v := ⟨P3, N3, K3, l3⟩) HX5.out.ha.drew HF.out HI.out
    go_region_with (go_at_call 50; refine HPut.out.mono ?_; rintro e w6 ⟨rfl, hha, hf6⟩; unfold tup4)
    clear y0 y1 y2 y3 y4 HPut
    have hpbm : x1.bm ≠ p := fun e => HX5.out.ne e.symm
    have hx6 : PoAt w6 p { x1 with s := { x1.s with P := up x1.s.P i { x1.s.P i with v := ⟨P3, N3, K3, l3⟩, b := true } } } := HX5.out.with_ hha (hf6.block _ HX5.out.lm hpbm)
    have hcs6 : Cs w6 P3 N3 K3 c3 := fun j hj => ⟨(HD5.out j hj).1, slk_fr (w := w5) hf6.size (fun k hk h => hf6.block k hk h) (po_nou8 HX5.out) (HD5.out j hj).2⟩
    have hf06 : Fr w.heap.size (Two2 p x1.bm) w w6 := fr_mono2 (HF5.out.drew.trans (S' := One p) hf6 HF5.out.size (fun _ _ h => h)) (fun k h => Or.inl h)
    have c5 := hx6.c5
    have wi : (Lit.int .i64 (n : Int)).wf = true := by
      simp only [Lit.wf, Bool.and_eq_true, decide_eq_true_eq]
      have hmin : IntKind.i64.min = -9223372036854775808 := rfl
      have hmax : IntKind.i64.max = 9223372036854775807 := rfl
      have := HN.out
      omega
    have k1 := hx6.map.look_ok law3 Tryz.underlying100 Tryz.underlying3 (zI w6) wi
    have HX6 := Lib.hid hx6
    have HC6 := Lib.hid hcs6
    have HF6 := Lib.hid hf06
    have WI := Lib.hid wi
    clear hha hf6 hpbm hx6 hcs6 hf06 wi HX5 HD5 HF5
    cases hv : x1.recs n with
    | some v =>
      obtain ⟨z, rfl⟩ := (HREC.out _ _ hv).2
      have HRS : Hid (recsS x1.recs n lsn = x1.recs) := by show recsS x1.recs n lsn = x1.recs; unfold recsS; rw [hv]; rfl
      rw [hv] at k1
      simp only [Option.getD_some, Option.isSome_some] at k1
      clear hv
      go_wp2
      go_ret
      refine ⟨x1, HSX.out, ⟨P3, N3, K3, l3⟩, rfl, rfl, ?_, HC6.out, HF6.out⟩
      rw [HRS.out]
      exact HX6.out
    | none =>
      have HRS : Hid (recsS x1.recs n lsn = Go.Proofs.YtljbhdldfffpfaaGreat.upd x1.recs n (some (.int .i64 lsn))) := by show recsS x1.recs n lsn = _; unfold recsS; rw [hv]; rfl
      rw [hv] at k1
      simp only [Option.getD_none, Option.isSome_none] at k1
      obtain ⟨w7, r1, r2, r3⟩ := HX6.out.map.store law3 Tryz.underlying100 Tryz.underlying3 (zI w6) (N := 1000) (by unfold maxLen; omega) (fun j hj => by
        cases hj2 : x1.recs j with
        | none =>
          have hj3 : (x1.recs j).isSome = true := hj
          rw [hj2] at hj3; cases hj3
        | some v => have := (HREC.out _ _ hj2).1; omega) WI.out (.int .i64 lsn)
      have hf7 : Fr w6.heap.size (One x1.bm) w6 w7 := (Fr.refl _ _ _).turned (Or.inl rfl) r3
      have hx7 : PoAt w7 p { x1 with s := { x1.s with P := up x1.s.P i { x1.s.P i with v := ⟨P3, N3, K3, l3⟩, b := true } }, recs := Go.Proofs.YtljbhdldfffpfaaGreat.upd x1.recs n (some (.int .i64 lsn)) } := ⟨HX6.out.ha.same (hf7.block _ HX6.out.lp (fun e => HX6.out.ne e)), r2, HX6.out.ne, HX6.out.sf, HX6.out.sp⟩
      have hc7 : Cs w7 P3 N3 K3 c3 := fun j hj => ⟨(HC6.out j hj).1, slk_fr (p := x1.bm) hf7.size (fun k hk h => hf7.block k hk h) (fm_nou8 HX6.out.map) (HC6.out j hj).2⟩
      have hf07 : Fr w.heap.size (Two2 p x1.bm) w w7 := HF6.out.trans (S' := One x1.bm) hf7 HF6.out.size (fun k _ h => Or.inr h)
      have HX7 := Lib.hid (And.intro hx7 (And.intro hc7 hf07))
      clear hf7 hx7 hc7 hf07 r2 r3 hv
      go_wp2
      go_ret
      refine ⟨x1, HSX.out, ⟨P3, N3, K3, l3⟩, rfl, rfl, ?_, HX7.out.2.1, HX7.out.2.2⟩
      rw [HRS.out]
      exact HX7.out.1
  · have EE : ((m : Int) != 0) = true ∧ ((m : Int) != 26) = false := by subst h; exact ⟨rfl, rfl⟩
    clear h HBL2
    obtain ⟨E1, E2⟩ := EE
    go_enter Tryz.func17, Tryz.ntmps17
    go_upto_region 3 with fail
    clear a1 a2 E1 E2
    go_upto_region 6 with (go_at_call 42; refine HU.out.mono ?_; rintro e w1 ⟨x1, hS1, P, N, K, rfl, hcs, hx1, hf1⟩; unfold pgV)
    obtain ⟨hbm1, hrc1, hft1, hi1⟩ := HSS.out x1 hS1
    have HF := Lib.hid hft1
    have HI := Lib.hid hi1
    have HREC : Hid (Rec1 x1.recs) := by show Rec1 x1.recs; rw [hrc1]; exact HREC0.out
    have HSX := Lib.hid hS1
    clear hbm1 hrc1 hft1 hi1 hS1
    change Code.wp _ _ _ _ (w1.alloc (pgO P N K l))
    have hb2 : Below w1.heap.size w1 (w1.alloc (pgO P N K l)) := (Below.refl _ _).alloc (Nat.le_refl _) _
    have hy2 := heap_alloc_new w1 (pgO P N K l)
    have hbs1 : SlK .u8 w1 (.slice A0 m q0) b := slk_fr hf1.size (fun k hk h => hf1.block k hk h) (po_nou8 HX.out) HBS.out
    have HX2 := Lib.hid (hx1.on hb2)
    have HC2 := Lib.hid (hcs.below hb2 (Nat.le_refl _))
    have HB2 := Lib.hid (hbs1.below hb2 (Nat.le_refl _))
    have HF2 : Hid (Fr w.heap.size (One p) w (w1.alloc (pgO P N K l))) := hf1.trans (Fr.ofB (S := One p) hb2) hf1.size (fun _ _ h => h)
    have hs1 : w.heap.size ≤ w1.heap.size := hf1.size
    generalize w1.alloc (pgO P N K l) = w2 at *
    obtain ⟨zc, z4, -⟩ := pg_cell hy2
    have z0 := zc 0 (by decide)
    have z1 := zc 1 (by decide)
    have z2 := zc 2 (by decide)
    have z3 := zc 3 (by decide)
    have HY2 := Lib.hid hy2
    have HS1 := Lib.hid hs1
    have HSe : Hid (Calls Tryz.prog 48 #[.agg #[.slice (P 0) (N 0) (K 0), .slice (P 1) (N 1) (K 1), .slice (P 2) (N 2) (K 2), .slice (P 3) (N 3) (K 3), .int .i64 l], .int .i64 (at' : Int), .slice A0 m q0, .int .i64 lsn] w2 (PgPost w2 c3 l3)) := by rw [HC3.out, HL3.out]; exact set_any w2 P N K l c HC2.out (at' : Int) lsn A0 m q0 b HB2.out HM.out HL.out HBL.out
    clear zc hb2 hy2 hbs1 hcs hx1 hf1 HU hs1
    go_upto_region 7 with (go_at_call 48; refine HSe.out.mono ?_; rintro e w3 ⟨P3, N3, K3, rfl, hco, hb3⟩; unfold pgV)
    change Code.wp _ _ _ _ (w3.alloc (pgO P3 N3 K3 l3))
    have hb4 : Below w3.heap.size w3 (w3.alloc (pgO P3 N3 K3 l3)) := (Below.refl _ _).alloc (Nat.le_refl _) _
    have hy4 := heap_alloc_new w3 (pgO P3 N3 K3 l3)
    have hb24 : Below w2.heap.size w2 (w3.alloc (pgO P3 N3 K3 l3)) := hb3.trans (hb4.mono hb3.size)
    have HX4 := Lib.hid (HX2.out.on hb24)
    have HC4 := Lib.hid (HC2.out.below hb24 (Nat.le_refl _))
    have HD4 := Lib.hid (hco.cs.below hb4 (Nat.le_refl _))
    have HF4 : Hid (Fr w.heap.size (One p) w (w3.alloc (pgO P3 N3 K3 l3))) := HF2.out.trans (Fr.ofB (S := One p) hb24) HF2.out.size (fun _ _ h => h)
    have hy24 := (hb24.block _ (Array.getElem?_eq_some_iff.1 HY2.out).1).trans HY2.out
    generalize w3.alloc (pgO P3 N3 K3 l3) = w4 at *
    obtain ⟨yc, y4, -⟩ := pg_cell hy4
    have y0 := yc 0 (by decide)
    have y1 := yc 1 (by decide)
    have y2 := yc 2 (by decide)
    have y3 := yc 3 (by decide)
    obtain ⟨uc, u4, -⟩ := pg_cell hy24
    have u0 := uc 0 (by decide)
    have u1 := uc 1 (by decide)
    have u2 := uc 2 (by decide)
    have u3 := uc 3 (by decide)
    have hsm := Lf.same_any w4 P3 N3 K3 l3 c3 P N K l c HD4.out HC4.out
    rw [HNS.out] at hsm
    unfold pgV at hsm
    have HSm := Lib.hid hsm
    have HY4 := Lib.hid hy4
    clear z0 z1 z2 z3 z4 yc uc hb4 hy4 hb24 hy24 hco hb3 HSe HC2 HB2 HF2 HX2 HY2 hsm
    go_upto_region 9 with (go_at_call 49; refine HSm.out.mono ?_; rintro e w5 ⟨rfl, hb5⟩)
    have HX5 := Lib.hid (HX4.out.on hb5)
    have HD5 := Lib.hid (HD4.out.below hb5 (Nat.le_refl _))
    have HF5 : Hid (Fr w.heap.size (One p) w w5) := HF4.out.trans (Fr.ofB (S := One p) hb5) HF4.out.size (fun _ _ h => h)
    have hy5 := (hb5.block _ (Array.getElem?_eq_some_iff.1 HY4.out).1).trans HY4.out
    clear y0 y1 y2 y3 y4 u0 u1 u2 u3 u4 HX4 HC4 HD4 HF4 HY4 HSm
    obtain ⟨yc, y4, -⟩ := pg_cell hy5
    have y0 := yc 0 (by decide)
    have y1 := yc 1 (by decide)
    have y2 := yc 2 (by decide)
    have y3 := yc 3 (by decide)
    clear yc hb5 hy5
    have HPut : Hid (Calls Tryz.prog 50 #[.pointer (some ⟨p, 4, none⟩), .int .i64 (n : Int), .agg #[.slice (P3 0) (N3 0) (K3 0), .slice (P3 1) (N3 1) (K3 1), .slice (P3 2) (N3 2) (K3 2), .slice (P3 3) (N3 3) (K3 3), .int .i64 l3]] w5.drew fun e w' => e = tup4 0 Pg.zero false 0 ∧ HA w' p 4 x1.A { x1.s with P := up x1.s.P i { x1.s.P i with v := ⟨P3, N3, K3, l3⟩, b := true } } ∧ Fr w5.drew.heap.size (One p) w5.drew w') := put_hit w5.drew (v := ⟨P3, N3, K3, l3⟩) HX5.out.ha.drew HF.out HI.out
    go_region_with (go_at_call 50; refine HPut.out.mono ?_; rintro e w6 ⟨rfl, hha, hf6⟩; unfold tup4)
    clear y0 y1 y2 y3 y4 HPut
    have hpbm : x1.bm ≠ p := fun e => HX5.out.ne e.symm
    have hx6 : PoAt w6 p { x1 with s := { x1.s with P := up x1.s.P i { x1.s.P i with v := ⟨P3, N3, K3, l3⟩, b := true } } } := HX5.out.with_ hha (hf6.block _ HX5.out.lm hpbm)
    have hcs6 : Cs w6 P3 N3 K3 c3 := fun j hj => ⟨(HD5.out j hj).1, slk_fr (w := w5) hf6.size (fun k hk h => hf6.block k hk h) (po_nou8 HX5.out) (HD5.out j hj).2⟩
    have hf06 : Fr w.heap.size (Two2 p x1.bm) w w6 := fr_mono2 (HF5.out.drew.trans (S' := One p) hf6 HF5.out.size (fun _ _ h => h)) (fun k h => Or.inl h)
    have c5 := hx6.c5
    have wi : (Lit.int .i64 (n : Int)).wf = true := by
      simp only [Lit.wf, Bool.and_eq_true, decide_eq_true_eq]
      have hmin : IntKind.i64.min = -9223372036854775808 := rfl
      have hmax : IntKind.i64.max = 9223372036854775807 := rfl
      have := HN.out
      omega
    have k1 := hx6.map.look_ok law3 Tryz.underlying100 Tryz.underlying3 (zI w6) wi
    have HX6 := Lib.hid hx6
    have HC6 := Lib.hid hcs6
    have HF6 := Lib.hid hf06
    have WI := Lib.hid wi
    clear hha hf6 hpbm hx6 hcs6 hf06 wi HX5 HD5 HF5
    cases hv : x1.recs n with
    | some v =>
      obtain ⟨z, rfl⟩ := (HREC.out _ _ hv).2
      have HRS : Hid (recsS x1.recs n lsn = x1.recs) := by show recsS x1.recs n lsn = x1.recs; unfold recsS; rw [hv]; rfl
      rw [hv] at k1
      simp only [Option.getD_some, Option.isSome_some] at k1
      clear hv
      go_wp2
      go_ret
      refine ⟨x1, HSX.out, ⟨P3, N3, K3, l3⟩, rfl, rfl, ?_, HC6.out, HF6.out⟩
      rw [HRS.out]
      exact HX6.out
    | none =>
      have HRS : Hid (recsS x1.recs n lsn = Go.Proofs.YtljbhdldfffpfaaGreat.upd x1.recs n (some (.int .i64 lsn))) := by show recsS x1.recs n lsn = _; unfold recsS; rw [hv]; rfl
      rw [hv] at k1
      simp only [Option.getD_none, Option.isSome_none] at k1
      obtain ⟨w7, r1, r2, r3⟩ := HX6.out.map.store law3 Tryz.underlying100 Tryz.underlying3 (zI w6) (N := 1000) (by unfold maxLen; omega) (fun j hj => by
        cases hj2 : x1.recs j with
        | none =>
          have hj3 : (x1.recs j).isSome = true := hj
          rw [hj2] at hj3; cases hj3
        | some v => have := (HREC.out _ _ hj2).1; omega) WI.out (.int .i64 lsn)
      have hf7 : Fr w6.heap.size (One x1.bm) w6 w7 := (Fr.refl _ _ _).turned (Or.inl rfl) r3
      have hx7 : PoAt w7 p { x1 with s := { x1.s with P := up x1.s.P i { x1.s.P i with v := ⟨P3, N3, K3, l3⟩, b := true } }, recs := Go.Proofs.YtljbhdldfffpfaaGreat.upd x1.recs n (some (.int .i64 lsn)) } := ⟨HX6.out.ha.same (hf7.block _ HX6.out.lp (fun e => HX6.out.ne e)), r2, HX6.out.ne, HX6.out.sf, HX6.out.sp⟩
      have hc7 : Cs w7 P3 N3 K3 c3 := fun j hj => ⟨(HC6.out j hj).1, slk_fr (p := x1.bm) hf7.size (fun k hk h => hf7.block k hk h) (fm_nou8 HX6.out.map) (HC6.out j hj).2⟩
      have hf07 : Fr w.heap.size (Two2 p x1.bm) w w7 := HF6.out.trans (S' := One x1.bm) hf7 HF6.out.size (fun k _ h => Or.inr h)
      have HX7 := Lib.hid (And.intro hx7 (And.intro hc7 hf07))
      clear hf7 hx7 hc7 hf07 r2 r3 hv
      go_wp2
      go_ret
      refine ⟨x1, HSX.out, ⟨P3, N3, K3, l3⟩, rfl, rfl, ?_, HX7.out.2.1, HX7.out.2.2⟩
      rw [HRS.out]
      exact HX7.out.1
end Go.Proofs.YtljbhdldfffpfaaGreat.Hp
