/- TrailAll, a part. -/
import Derived.Test.YthmgafcnoedmjaaGreatQ40
namespace Go.Proofs.YthmgafcnoedmjaaGreat
set_option maxRecDepth 100000
open Go.RowKit Go.Maps
def Tq (w0 w' : World) (q r gn gw gt gm : Nat) (vn vw vt : Value) (f : Rf) (d' : Dk) : Prop :=
 ∃ f', Like d' f' ∧ d'.Ok ∧ RfAt w' r gn gw gt gm vn vw vt f' ∧ f'.mask = f.mask ∧ f'.k = f.k ∧ Fr w0.heap.size (fun b => Four r gn gw gt b ∨ b = q) w0 w'
theorem Tw.tq {w0 w' : World} {q r gn gw gt gm : Nat} {vn vw vt : Value} {f : Rf} {d' : Dk} (h : Tw w0 w' r gn gw gt gm vn vw vt f d') : Tq w0 w' q r gn gw gt gm vn vw vt f d' := by
 obtain ⟨f', h1, h2, h3, h4, h5, h6⟩ := h
 exact ⟨f', h1, h2, h3, h4, h5, h6.os, h6.tape, h6.output, h6.size, fun k hk hs => h6.block k hk fun e => hs (Or.inl e)⟩
theorem RfAt.far {w w' : World} {r gn gw gt gm : Nat} {vn vw vt : Value} {d : Rf} (h : RfAt w r gn gw gt gm vn vw vt d) {q i : Nat} {u : Value} (hq : ¬ Four r gn gw gt q) (hm : d.mask ≠ [] → gm ≠ q) (e : w' = w.setCell ⟨q, i, none⟩ u) : RfAt w' r gn gw gt gm vn vw vt d := by
 subst e
 have k : ∀ b, b ≠ q → (w.setCell ⟨q, i, none⟩ u).heap[b]? = w.heap[b]? := fun b hb => Below.heap_setCell _ _ _ _ hb
 refine ⟨(k r fun e => hq (Or.inl e.symm)).trans h.cells, h.sn, h.sw, h.st, fun z => (h.now z).of_block (k _ fun e => hq (Or.inr (Or.inl e.symm))), fun z => (h.was z).of_block (k _ fun e => hq (Or.inr (Or.inr (Or.inl e.symm)))), fun z => (h.wet z).of_block (k _ fun e => hq (Or.inr (Or.inr (Or.inr e.symm)))), ?_, h.ne, h.kle, h.ok, h.mok, h.nil0⟩
 by_cases hl : d.mask = []
 ·obtain ⟨p0, len, cap, e, e2, hle, hcap, hn, ha⟩ := h.mask
  exact ⟨p0, len, cap, e, e2, hle, hcap, hn, fun _ _ hne => absurd hl hne⟩
 ·exact h.mask.keep (k _ (hm hl))
theorem Tq.poke {w0 w' : World} {q r gn gw gt gm : Nat} {vn vw vt : Value} {f : Rf} {d' : Dk} (h : Tq w0 w' q r gn gw gt gm vn vw vt f d') (hq : ¬ Four r gn gw gt q) (hm : f.mask ≠ [] → gm ≠ q) (i : Nat) (u : Value) : Tq w0 (w'.setCell ⟨q, i, none⟩ u) q r gn gw gt gm vn vw vt f d' := by
 obtain ⟨f', h1, h2, h3, h4, h5, h6⟩ := h
 exact ⟨f', h1, h2, h3.far hq (fun e => hm (by rw [← h4]; exact e)) rfl, h4, h5, h6.setCell (p := ⟨q, i, none⟩) (Or.inl (Or.inr rfl)) _⟩
theorem RtAt.st5 {w : World} {q : Nat} {lv av : Value} {P : Nat → Prop} {t : Rt} (h : RtAt w q lv av P t) (hP : P q) (x : Int) : RtAt (w.setCell ⟨q, 5, none⟩ (.int .i64 x)) q lv av P { t with steady := x } := by
 have k : ∀ b, b ≠ q → (w.setCell ⟨q, 5, none⟩ (.int .i64 x)).heap[b]? = w.heap[b]? := fun b hb => Below.heap_setCell _ _ _ _ hb
 obtain ⟨news, h1, h2, h3⟩ := h.row
 refine ⟨?_, ⟨news, h1.far (fun e => List.eq_nil_of_length_eq_zero (by simp [h2, e])) fun a n c e hn _ => k _ fun e2 => h.ol a n c e hn (by rw [e2]; exact hP), h2, h3⟩, h.all.far (by simp) fun a n c e hn _ => k _ fun e2 => h.oa a n c e hn (by rw [e2]; exact hP), h.f0, h.f1, h.t0, h.t1, h.len, h.ol, h.oa⟩
 rw [heap_setCell_same w q 5 _ _ _ h.bx]
 rfl
def RfoPost (w : World) (q : Nat) (lv av : Value) (P : Nat → Prop) (t : Rt) (gn gw gt gm : Nat) (vn vw vt : Value) (f : Rf) (d : Dk) (e : Ending) (w' : World) : Prop :=
 ∃ (c : Int) (d' : Dk), e = .returned (.int .i64 c) ∧ ((t.steady = t.n ∧ c = 0 ∧ d' = d) ∨ (t.steady ≠ t.n ∧ ((d.dead = true ∧ c = 2 ∧ d' = d) ∨ (d.dead = false ∧ Settled t.S t.first t.tiles.toNat d c d')))) ∧
  Tq w w' q t.r gn gw gt gm vn vw vt f d' ∧ RtAt w' q lv av P (if c = 0 then { t with steady := t.n } else t)
set_option maxHeartbeats 1000000 in
theorem rforce_any (w : World) {q : Nat} {lv av : Value} {P : Nat → Prop} {t : Rt} {gn gw gt gm : Nat} {vn vw vt : Value} {f : Rf} {d : Dk} (h : RtAt w q lv av P t) (hr : RfAt w t.r gn gw gt gm vn vw vt f) (hL : Like d f) (hok : d.Ok)
  (hfit : t.first + t.tiles ≤ f.k) (hP : ∀ b, Four t.r gn gw gt b → P b) (hq : ¬ Four t.r gn gw gt q) (hPq : P q) (hm : f.mask ≠ [] → gm ≠ q) : Calls Tryz.prog 15 #[.pointer (some ⟨q, 0, none⟩)] w (RfoPost w q lv av P t gn gw gt gm vn vw vt f d) := by
 obtain ⟨A, c, rfl⟩ := h.lsh
 have x5 : w.cell? ⟨q, 5, none⟩ = some (.int .i64 t.steady) := h.c 5
 have x3 : w.cell? ⟨q, 3, none⟩ = some (.slice A t.n c) := h.c 3
 have y5 : w.drew.cell? ⟨q, 5, none⟩ = some (.int .i64 t.steady) := h.c 5
 have y3 : w.drew.cell? ⟨q, 3, none⟩ = some (.slice A t.n c) := h.c 3
 have x0 : w.drew.cell? ⟨q, 0, none⟩ = some (.pointer (some ⟨t.r, 0, none⟩)) := h.c 0
 have r3 : w.drew.cell? ⟨t.r, 3, none⟩ = some (.bool f.off) := hr.c3
 have hd2 : d.dead = f.off := hL.2.1
 have HD := Lib.hid (Below.refl w.heap.size w).drew
 have HR1 := Lib.hid (h.kept HD.out)
 have HRF := Lib.hid (hr.grow HD.out.block)
 have HT0 : Hid (Tq w w.drew q t.r gn gw gt gm vn vw vt f d) := Lib.hid ⟨f, hL, hok, HRF.out, rfl, rfl, fr_of_below HD.out⟩
 have HLy : Hid (f.off = false → Calls Tryz.prog 39 #[.pointer (some ⟨q, 0, none⟩)] w.drew (LyPost w.drew q (.slice A t.n c) av P t gn gw gt gm vn vw vt f d)) := Lib.hid fun e => rlay_any w.drew HR1.out HRF.out hL hok (by rw [hd2, e]) hfit hP hq
 have HPq := Lib.hid hPq
 have HQ := Lib.hid hq
 have HM := Lib.hid hm
 have HDd := Lib.hid hd2
 clear h hr hL hok hfit hP hq hPq hm hd2
 go_enter Tryz.func15, Tryz.ntmps15
 by_cases hs : t.steady = t.n
 ·have HE : Hid (RfoPost w q (.slice A t.n c) av P t gn gw gt gm vn vw vt f d (.returned (.int .i64 0)) w.drew) := Lib.hid ⟨0, d, rfl, Or.inl ⟨hs, rfl, rfl⟩, HT0.out, by rw [if_pos rfl, ← hs]; exact HR1.out⟩
  rw [hs] at x5 y5
  clear hs HLy
  go_upto_region 1 with (fail)
  go_region
  all_goals go_wp2
  all_goals go_ret
  all_goals exact HE.out
 ·have HS := Lib.hid hs
  have hs2 : (t.steady == (t.n : Int)) = false := by simpa using hs
  clear hs
  cases ho : f.off with
  | true =>
   have HE : Hid (RfoPost w q (.slice A t.n c) av P t gn gw gt gm vn vw vt f d (.returned (.int .i64 2)) w.drew) := Lib.hid ⟨2, d, rfl, Or.inr ⟨HS.out, Or.inl ⟨by rw [HDd.out, ho], rfl, rfl⟩⟩, HT0.out, by rw [if_neg (by decide)]; exact HR1.out⟩
   rw [ho] at r3
   clear HLy ho
   go_upto_region 1 with (fail)
   go_region
   all_goals
    clear x5 x3 y5 y3
    go_wp2
    go_ret
    exact HE.out
  | false =>
   have HLz := Lib.hid (HLy.out ho)
   have HDe : Hid (d.dead = false) := Lib.hid (by rw [HDd.out, ho])
   rw [ho] at r3
   clear HLy ho
   go_upto_region 1 with (fail)
   go_region
   all_goals
    clear x5 x3 y5 y3
    go_wp2_with fail
    refine HLz.out.mono ?_
    rintro e w2 ⟨c2, d2, rfl, hse, htw, hat⟩
    have HTq : Hid (Tq w w2 q t.r gn gw gt gm vn vw vt f d2) := Lib.hid (by
     obtain ⟨f', h1, h2, h3, h4, h5, h6⟩ := htw.tq (q := q)
     exact ⟨f', h1, h2, h3, h4, h5, (fr_of_below HD.out).trans h6 HD.out.size (fun _ _ e => e)⟩)
    have x3 : w2.cell? ⟨q, 3, none⟩ = some (.slice A t.n c) := hat.c 3
    have x5 : w2.cell? ⟨q, 5, none⟩ = some (.int .i64 t.steady) := hat.c 5
    have z5 := hat.fz 5
    by_cases hc : c2 = 0
    ·subst hc
     have HE : Hid (RfoPost w q (.slice A t.n c) av P t gn gw gt gm vn vw vt f d (.returned (.int .i64 0)) (w2.setCell ⟨q, 5, none⟩ (.int .i64 t.n))) := Lib.hid ⟨0, d2, rfl, Or.inr ⟨HS.out, Or.inr ⟨HDe.out, hse⟩⟩, HTq.out.poke HQ.out HM.out 5 _, by rw [if_pos rfl]; exact hat.st5 HPq.out _⟩
     clear hse htw hat x0 r3
     go_wp2
     go_ret
     exact HE.out
    ·have hc2 : (c2 == 0) = false := by simpa using hc
     have HE : Hid (RfoPost w q (.slice A t.n c) av P t gn gw gt gm vn vw vt f d (.returned (.int .i64 c2)) w2) := Lib.hid ⟨c2, d2, rfl, Or.inr ⟨HS.out, Or.inr ⟨HDe.out, hse⟩⟩, HTq.out, by rw [if_neg hc]; exact hat⟩
     clear hse htw hat hc x0 r3 x3 x5 z5
     go_wp2
     go_ret
     exact HE.out
end Go.Proofs.YthmgafcnoedmjaaGreat
