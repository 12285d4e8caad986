/- TrailAll, a part. -/
import Derived.Test.YthmgafcnoedmjaaGreatQ15
import Derived.Test.YthmgafcnoedmjaaGreatQ47
import Derived.Test.YthmgafcnoedmjaaGreatQ48
namespace Go.Proofs.YthmgafcnoedmjaaGreat
set_option maxRecDepth 100000
open Go.ChangeShapes Go.WideShapes Go.ChangeAt Go.RowKit Go.Deep
structure De where
 kind : Int
 at_ : Int
 mask : List Int
 mv : Value
 e : Ent × S6
 raw : List Int
 rv : Value
def deV (o : De) : List Value := [.int .i64 o.kind, .int .i64 o.at_, o.mv] ++ enV o.e ++ [o.rv]
structure DeIn (w : World) (o : De) : Prop where
 k : I64 o.kind
 a : I64 o.at_
 m : SlW w o.mv o.mask
 e : EntIn w o.e
 r : SlW w o.rv o.raw
theorem coDe : Tryz.prog.cellsOf 46 = 20 := by kernel_rfl
theorem coE16 : Tryz.prog.cellsOf 44 = 16 := by kernel_rfl
section
variable {H : Type} {enc : TypeId × Value → H} {w : World} {base b0 : Nat} {sp : Nat → Bool} {held : Bool}
theorem one_deed (fuel : Nat) (cs : List Value) (y : DataW H × List MemPlace) (h : DataW.trod enc Tryz.prog w base sp held fuel 46 cs = some y) : ∃ o : De, cs = deV o ∧ (deV o).length = 20 ∧ DeIn w o := by
 have h20 : cs.length = 20 := by
  obtain ⟨h1, _⟩ := st_field Tryz.underlying46 h
  exact h1.trans coDe
 match cs, h20 with
 | [c0, c1, c2, c3, c4, c5, c6, c7, c8, c9, c10, c11, c12, c13, c14, c15, c16, c17, c18, c19], _ =>
  obtain ⟨_, n', hf⟩ := st_field Tryz.underlying46 h
  obtain ⟨z0, h0⟩ := hf 0 _ rfl 3 0 1 rfl rfl co3
  obtain ⟨z1, h1⟩ := hf 1 _ rfl 3 1 1 rfl rfl co3
  obtain ⟨z2, h2⟩ := hf 2 _ rfl 36 2 1 rfl rfl coB
  obtain ⟨z3, h3⟩ := hf 3 _ rfl 44 3 16 rfl rfl coE16
  obtain ⟨z4, h4⟩ := hf 4 _ rfl 36 19 1 rfl rfl coB
  clear hf
  obtain ⟨a0, rfl, i0⟩ := one_int h0
  obtain ⟨a1, rfl, i1⟩ := one_int h1
  obtain ⟨lm, hM⟩ := mem_slW (show DataW.trod enc Tryz.prog w base sp held n' 36 [c2] = some z2 from h2)
  obtain ⟨lr, hR⟩ := mem_slW (show DataW.trod enc Tryz.prog w base sp held n' 36 [c19] = some z4 from h4)
  obtain ⟨o, e, _, hE⟩ := one_entry n' _ z3 (show DataW.trod enc Tryz.prog w base sp held n' 44 [c3, c4, c5, c6, c7, c8, c9, c10, c11, c12, c13, c14, c15, c16, c17, c18] = some z3 from h3)
  refine ⟨⟨a0, a1, lm, c2, o, lr, c19⟩, ?_, rfl, i0, i1, hM, hE, hR⟩
  show _ = [.int .i64 a0, .int .i64 a1, c2] ++ enV o ++ [c19]
  rw [← e]
  rfl
theorem open_deeds {v : Value} {d : DataW H} {p : List MemPlace} (hok : Value.okWide Tryz.prog w .any b0 22 v) (h : DataW.Trod enc Tryz.prog w base sp held 22 v d p) : ∃ os : List De, Els w v 20 (os.map deV) ∧ (∀ o ∈ os, DeIn w o) ∧ Bd os.length := by
 obtain ⟨a0, len, cap, rfl⟩ := okWide_slice Tryz.underlying22 hok
 obtain ⟨fuel, hf⟩ := h
 exact open_els 20 (by decide) deV (DeIn w) Tryz.underlying22 coDe one_deed hf
end
end Go.Proofs.YthmgafcnoedmjaaGreat
namespace Go.Proofs.YthmgafcnoedmjaaGreat
open Go.RowKit Go.Maps
def PP (pd bn bo r gn gw gt p bm q : Nat) : Nat → Prop := fun b => Three pd bn bo b ∨ Four r gn gw gt b ∨ Two p bm b ∨ b = q
def rtOf (r : Nat) (t : Tr) : Rt := ⟨r, t.first, t.tiles, t.count.toNat, t.S, t.stable⟩
structure TI (B : Nat) (W : World) (pd bn bo g r gn gw gt gm : Nat) (vn vw vt : Value) (d : Dk) (f : Rf) (p bm q : Nat) (lv av : Value) (t : Tr) (K : Nat) : Prop where
 dk : DiskAt W pd bn bo g d
 rf : RfAt W r gn gw gt gm vn vw vt f
 like : Like d f
 kk : f.k = K + 2
 tr : TrAt W p bm t
 tp : t.dp = pd ∧ t.first = 1 ∧ t.tiles = (K : Int)
 st : 0 ≤ t.stable ∧ t.stable ≤ t.count
 rt : RtAt W q lv av (PP pd bn bo r gn gw gt p bm q) (rtOf r t)
 a1 : ∀ x, Three pd bn bo x → ¬ Four r gn gw gt x ∧ ¬ Two p bm x ∧ x ≠ q
 a2 : ∀ x, Four r gn gw gt x → ¬ Two p bm x ∧ x ≠ q
 a3 : ¬ Two p bm q
 sg : ¬ Two p bm g
 ag : d.mask ≠ [] → ¬ Four r gn gw gt g ∧ g ≠ q
 am : f.mask ≠ [] → ¬ Three pd bn bo gm ∧ ¬ Two p bm gm ∧ gm ≠ q
 lo : ∀ x, PP pd bn bo r gn gw gt p bm q x → B ≤ x
section
variable {B : Nat} {W W' : World} {pd bn bo g r gn gw gt gm : Nat} {vn vw vt : Value} {d : Dk} {f : Rf} {p bm q : Nat} {lv av : Value} {t : Tr} {K : Nat}
theorem TI.kept (h : TI B W pd bn bo g r gn gw gt gm vn vw vt d f p bm q lv av t K) (hb : Below W.heap.size W W') : TI B W' pd bn bo g r gn gw gt gm vn vw vt d f p bm q lv av t K :=
 ⟨h.dk.kept hb.block, h.rf.grow hb.block, h.like, h.kk, h.tr.kept hb.block, h.tp, h.st, h.rt.kept hb, h.a1, h.a2, h.a3, h.sg, h.ag, h.am, h.lo⟩
theorem TI.lt (h : TI B W pd bn bo g r gn gw gt gm vn vw vt d f p bm q lv av t K) : ∀ b, PP pd bn bo r gn gw gt p bm q b → b < W.heap.size := by
 have hk : 0 < f.k := by have := h.kk; omega
 rintro b (hb | hb | hb | rfl)
 ·exact lt_three h.dk hb
 ·rcases hb with rfl | rfl | rfl | rfl
  ·exact (Array.getElem?_eq_some_iff.1 h.rf.cells).1
  ·exact (h.rf.now hk).lt
  ·exact (h.rf.was hk).lt
  ·exact (h.rf.wet hk).lt
 ·rcases hb with rfl | rfl
  ·exact h.tr.lt.1
  ·exact h.tr.lt.2
 ·exact (Array.getElem?_eq_some_iff.1 h.rt.bx).1
theorem TI.logd (h : TI B W pd bn bo g r gn gw gt gm vn vw vt d f p bm q lv av t K) : LogD W p bm t bn bo g d :=
 ⟨h.tr, by rw [h.tp.1]; exact h.dk, fun k hk => (h.a1 k (by rw [h.tp.1] at hk; exact hk)).2.1, h.sg, by have := h.like.1; have := h.kk; rw [h.tp.2.1, h.tp.2.2]; omega⟩
theorem TI.bel (h : TI B W pd bn bo g r gn gw gt gm vn vw vt d f p bm q lv av t K) {S : Nat → Prop} (hf : Fr W.heap.size S W W') (hS : ∀ b, S b → PP pd bn bo r gn gw gt p bm q b) (hB : B ≤ W.heap.size) : Below B W W' := below_of_fr hf (fun x hx => h.lo x (hS x hx)) hB
theorem TI.hB (h : TI B W pd bn bo g r gn gw gt gm vn vw vt d f p bm q lv av t K) : B ≤ W.heap.size := Nat.le_of_lt (Nat.lt_of_le_of_lt (h.lo q (.inr (.inr (.inr rfl)))) (h.lt q (.inr (.inr (.inr rfl)))))
theorem frL_nil (e : Ent) : frL e = [] ↔ entB e = false := by
 cases hB : entB e with
 | false => simp [frL_no hB]
 | true => rw [frL_yes hB]; simp [frB]
theorem fr_sub {B : Nat} {S S' : Nat → Prop} {w w' : World} (h : Fr B S w w') (hS : ∀ x, S x → S' x) : Fr B S' w w' := ⟨h.os, h.tape, h.output, h.size, fun k hk hn => h.block k hk fun e => hn (hS k e)⟩
def BF (B : Nat) (S : Nat → Prop) (w w' : World) : Prop := Below B w w' ∧ Fr w.heap.size S w w'
theorem ti_append (h : TI B W pd bn bo g r gn gw gt gm vn vw vt d f p bm q lv av t K) (hc : t.count ≤ 2000) {e : Ent} {s1 s2 s3 s4 s5 s6 : Value} (hs : ∀ V, Below B W V → EntS V s1 s2 s3 s4 s5 s6 e) (hi : EntI e) :
  Calls Tryz.prog 12 #[.pointer (some ⟨p, 0, none⟩), .agg (entC e s1 s2 s3 s4 s5 s6)] W fun a w1 => a = .returned (.tuple #[.int .i64 (apN t e), .int .i64 (apE t e)]) ∧ BF B (PP pd bn bo r gn gw gt p bm q) W w1 ∧
   ∀ v, Below w1.heap.size w1 v → Calls Tryz.prog 13 #[.pointer (some ⟨q, 0, none⟩), .agg (entC e s1 s2 s3 s4 s5 s6)] v fun a w2 => a = .returned (.tuple #[.int .i64 (apN t e), .int .i64 (apE t e)]) ∧ BF B (PP pd bn bo r gn gw gt p bm q) v w2 ∧ ∃ lv' av', TI B w2 pd bn bo g r gn gw gt gm vn vw vt d f p bm q lv' av' (apT t e) K := by
 have hB := h.hB
 refine (append_any W h.tr e (hs W (Below.refl _ _)) hi).mono ?_
 rintro a w1 ⟨rfl, ht1, hf1⟩
 have hb1 : Below B W w1 := h.bel hf1 (fun b hb => .inr (.inr (.inl hb))) hB
 have hd1 : DiskAt w1 pd bn bo g d := h.dk.fr hf1 (fun x hx => (h.a1 x hx).2.1) (fun _ => h.sg)
 have hr1 : RfAt w1 r gn gw gt gm vn vw vt f := h.rf.fr hf1 (fun x hx => (h.a2 x hx).1) (fun e => (h.am e).2.1)
 have hq1 := h.rt.far hf1 (fun b hb => .inr (.inr (.inl hb))) h.a3
 have hlt1 : ∀ b, PP pd bn bo r gn gw gt p bm q b → b < w1.heap.size := fun b hb => Nat.lt_of_lt_of_le (h.lt b hb) hf1.size
 refine ⟨rfl, ⟨hb1, fr_sub hf1 fun b hb => .inr (.inr (.inl hb))⟩, fun v hv => ?_⟩
 have hc0 := h.tr.ok.c0
 have hsz := hv.size
 refine (rappend_any v (hq1.kept hv) (by show t.count.toNat ≤ 2000; omega) (fun b hb => Nat.lt_of_lt_of_le (hlt1 b hb) hv.size) (hs v (hb1.trans (hv.mono hb1.size |>.trans (Below.refl _ _) |> fun x => ⟨x.os, x.tape, x.output, x.size, fun k hk => hv.block k (Nat.lt_of_lt_of_le hk (Nat.le_trans hB hb1.size))⟩))) hi).mono ?_
 rintro a w2 hap
 have hd := hd1.kept hv.block
 have hr := hr1.grow hv.block
 have ht := ht1.kept hv.block
 rcases hap with ⟨hL, rfl, hrt, hb2⟩ | ⟨hL, hfl, rfl, hrt, hb2⟩ | ⟨hL, hfl, rfl, lv', av', hrt, hf2⟩
 ·have hE := (frL_nil e).1 hL
  have e1 : apE t e = 1 := by unfold apE; rw [if_pos hE]
  have e2 : apN t e = 0 := by unfold apN; rw [if_neg (by rw [e1]; decide)]
  have e3 : apT t e = t := by unfold apT; rw [if_neg (by rw [e1]; decide)]
  rw [e1, e2, e3]
  rw [e3] at ht
  exact ⟨rfl, ⟨⟨hb2.os, hb2.tape, hb2.output, hb2.size, fun k hk => hb2.block k (by have := hb1.size; omega)⟩, fr_of_below hb2⟩, lv, av, hd.kept hb2.block, hr.grow hb2.block, h.like, h.kk, ht.kept hb2.block, h.tp, h.st, hrt, h.a1, h.a2, h.a3, h.sg, h.ag, h.am, h.lo⟩
 ·have hE : ¬ entB e = false := fun e0 => hL ((frL_nil e).2 e0)
  have e1 : apE t e = 5 := by unfold apE; rw [if_neg hE, if_pos (show 63 * t.tiles < ((t.S.length + (frL e).length : Nat) : Int) from hfl)]
  have e2 : apN t e = 0 := by unfold apN; rw [if_neg (by rw [e1]; decide)]
  have e3 : apT t e = t := by unfold apT; rw [if_neg (by rw [e1]; decide)]
  rw [e1, e2, e3]
  rw [e3] at ht
  exact ⟨rfl, ⟨⟨hb2.os, hb2.tape, hb2.output, hb2.size, fun k hk => hb2.block k (by have := hb1.size; omega)⟩, fr_of_below hb2⟩, lv, av, hd.kept hb2.block, hr.grow hb2.block, h.like, h.kk, ht.kept hb2.block, h.tp, h.st, hrt, h.a1, h.a2, h.a3, h.sg, h.ag, h.am, h.lo⟩
 ·have hE : ¬ entB e = false := fun e0 => hL ((frL_nil e).2 e0)
  have hfl' : ¬ 63 * t.tiles < ((t.S.length + (frL e).length : Nat) : Int) := by
   have : ((t.S.length + (frL e).length : Nat) : Int) ≤ 63 * t.tiles := hfl
   omega
  have e1 : apE t e = 0 := by unfold apE; rw [if_neg hE, if_neg hfl']
  have e2 : apN t e = t.count + 1 := by unfold apN; rw [if_pos e1]
  have e3 : apT t e = { t with S := t.S ++ frL e, count := t.count + 1 } := by unfold apT; rw [if_pos e1]
  have e4 : (((rtOf r t).n + 1 : Nat) : Int) = t.count + 1 := by show ((t.count.toNat + 1 : Nat) : Int) = _; omega
  rw [e1, e2, e3]
  rw [e3] at ht
  refine ⟨by rw [e4], ⟨below_of_fr hf2 (fun x hx => h.lo x (.inr (.inr (.inr hx)))) (by have := hb1.size; omega), fr_sub hf2 fun x hx => .inr (.inr (.inr hx))⟩, lv', av', hd.fr hf2 (fun x hx => (h.a1 x hx).2.2) (fun e => (h.ag e).2), hr.fr hf2 (fun x hx => (h.a2 x hx).2) (fun e => (h.am e).2.2), h.like, h.kk, ?_, h.tp, ⟨h.st.1, by have := h.st.2; show t.stable ≤ t.count + 1; omega⟩, ?_, h.a1, h.a2, h.a3, h.sg, h.ag, h.am, h.lo⟩
  ·exact ⟨(hf2.block p ht.lt.1 fun e => h.a3 (.inl e.symm)).trans ht.bx, ht.mp.of_block (hf2.block bm ht.lt.2 fun e => h.a3 (.inr e.symm)), ht.ok, ht.ne⟩
  ·have e5 : rtOf r { t with S := t.S ++ frL e, count := t.count + 1 } = { rtOf r t with n := (rtOf r t).n + 1, S := (rtOf r t).S ++ frL e } := by
    have e6 : (t.count + 1).toNat = t.count.toNat + 1 := by omega
    show (⟨r, t.first, t.tiles, (t.count + 1).toNat, t.S ++ frL e, t.stable⟩ : Rt) = ⟨r, t.first, t.tiles, t.count.toNat + 1, t.S ++ frL e, t.stable⟩
    rw [e6]
   rw [e5]
   exact hrt
theorem Wrote.mask {d d' : Dk} {i e : Int} {l : List Int} (h : Wrote d i l e d') : d'.mask = d.mask ∨ d'.mask = [] := by
 rcases h with ⟨_, _, rfl⟩ | ⟨_, _, _, rfl⟩ | ⟨_, _, _, _, rfl⟩ | ⟨_, _, _, _, _, _, rfl⟩
 ·exact .inl rfl
 ·exact .inl rfl
 ·exact .inl rfl
 ·exact .inr rfl
theorem Synced.mask {d d' : Dk} {e : Int} (h : Synced d e d') : d'.mask = d.mask ∨ d'.mask = [] := by
 rcases h with ⟨_, _, rfl⟩ | ⟨_, _, _, rfl⟩ | ⟨_, _, _, _, rfl⟩ | ⟨_, _, _, _, _, _, rfl⟩
 ·exact .inl rfl
 ·exact .inl rfl
 ·exact .inl rfl
 ·exact .inr rfl
theorem mask_on {a b c : List Int} (h : b = a ∨ b = []) (k : c = b ∨ c = []) : c = a ∨ c = [] := by
 rcases k with k | k
 ·rcases h with h | h
  ·exact .inl (k.trans h)
  ·exact .inr (k.trans h)
 ·exact .inr k
theorem Went.mask {S : List Int} {first : Int} {d d1 : Dk} {n : Nat} {b : Bool} (h : Went S first d n b d1) : d1.mask = d.mask ∨ d1.mask = [] := by
 induction h with
 | start => exact .inl rfl
 | same _ _ _ ih => exact ih
 | wrote _ _ _ _ hw ih => exact mask_on ih hw.mask
theorem Settled.mask {S : List Int} {first : Int} {K : Nat} {d d' : Dk} {e : Int} (h : Settled S first K d e d') : d'.mask = d.mask ∨ d'.mask = [] := by
 rcases h with ⟨n, q, h1, h2, h3, h4⟩ | ⟨n, q, d1, l, h1, h2, h3, h4, h5, h6, h7⟩ | ⟨h1, h2⟩ | ⟨d1, h1, h2⟩
 ·exact h2.mask
 ·exact mask_on h2.mask h6.mask
 ·exact h1.mask
 ·exact mask_on h1.mask h2.mask
theorem TrAt.far {w w' : World} {S : Nat → Prop} (h : TrAt w p bm t) (hf : Fr w.heap.size S w w') (hS : ∀ b, Two p bm b → ¬ S b) : TrAt w' p bm t :=
 ⟨(hf.block p h.lt.1 (hS p (.inl rfl))).trans h.bx, h.mp.of_block (hf.block bm h.lt.2 (hS bm (.inr rfl))), h.ok, h.ne⟩
theorem ti_force (h : TI B W pd bn bo g r gn gw gt gm vn vw vt d f p bm q lv av t K) :
  Calls Tryz.prog 14 #[.pointer (some ⟨p, 0, none⟩)] W fun a w1 => ∃ c : Int, a = .returned (.int .i64 c) ∧ BF B (PP pd bn bo r gn gw gt p bm q) W w1 ∧
   Calls Tryz.prog 15 #[.pointer (some ⟨q, 0, none⟩)] w1 fun a w2 => a = .returned (.int .i64 c) ∧ BF B (PP pd bn bo r gn gw gt p bm q) w1 w2 ∧ ∃ d' f' t', TI B w2 pd bn bo g r gn gw gt gm vn vw vt d' f' p bm q lv av t' K ∧ t'.count = t.count := by
 have hB := h.hB
 have hc0 := h.tr.ok.c0
 have hfit : (rtOf r t).first + (rtOf r t).tiles ≤ f.k := by
  have := h.kk
  show t.first + t.tiles ≤ f.k
  rw [h.tp.2.1, h.tp.2.2]; omega
 have hq4 : ¬ Four r gn gw gt q := fun e => (h.a2 q e).2 rfl
 have hPq : PP pd bn bo r gn gw gt p bm q q := .inr (.inr (.inr rfl))
 have hP4 : ∀ b, Four r gn gw gt b → PP pd bn bo r gn gw gt p bm q b := fun b hb => .inr (.inl hb)
 have hmq : f.mask ≠ [] → gm ≠ q := fun e => (h.am e).2.2
 have h3q : ∀ x, Three pd bn bo x → ¬ (Four r gn gw gt x ∨ x = q) := fun x hx e => e.elim (h.a1 x hx).1 (h.a1 x hx).2.2
 have h2q : ∀ x, Two p bm x → ¬ (Four r gn gw gt x ∨ x = q) := fun x hx e => e.elim (fun e => (h.a2 x e).1 hx) (fun e => h.a3 (e ▸ hx))
 by_cases hs : t.stable = t.count
 ·refine (force_no W h.tr hs).mono ?_
  rintro a w1 ⟨rfl, hb1⟩
  have h1 := h.kept hb1
  refine ⟨0, rfl, ⟨⟨hb1.os, hb1.tape, hb1.output, hb1.size, fun k hk => hb1.block k (by omega)⟩, fr_of_below hb1⟩, ?_⟩
  refine (rforce_any w1 h1.rt h1.rf h1.like h1.dk.ok hfit hP4 hq4 hPq hmq).mono ?_
  rintro a w2 ⟨c, d', rfl, hcase, ⟨f', k1, k2, k3, k4, k5, k6⟩, hrt⟩
  have hsn : (rtOf r t).steady = ((rtOf r t).n : Int) := by show t.stable = ((t.count.toNat : Nat) : Int); omega
  rcases hcase with ⟨_, rfl, rfl⟩ | ⟨e, _⟩
  ·rw [if_pos rfl, show ({ rtOf r t with steady := ((rtOf r t).n : Int) } : Rt) = rtOf r t by rw [← hsn]] at hrt
   exact ⟨rfl, ⟨below_of_fr k6 (fun x hx => h.lo x (hx.elim (hP4 x) (fun e => .inr (.inr (.inr e))))) h1.hB, fr_sub k6 fun x hx => hx.elim (hP4 x) (fun e => .inr (.inr (.inr e)))⟩, d', f', t, ⟨h1.dk.fr k6 h3q (fun e => fun e2 => e2.elim (h.ag e).1 (h.ag e).2), k3, k1, k5.trans h.kk, h1.tr.far k6 h2q, h.tp, h.st, hrt, h.a1, h.a2, h.a3, h.sg, h.ag, fun e => h.am (by rw [← k4]; exact e), h.lo⟩, rfl⟩
  ·exact absurd hsn e
 ·refine (force_rel W h.logd hs).mono ?_
  rintro a w1 ⟨e, d1, rfl, hse, hl1, hf1⟩
  rw [h.tp.1] at hf1
  have hF : ∀ b, Five p bm pd bn bo b → PP pd bn bo r gn gw gt p bm q b := fun b hb => hb.elim (fun e => .inr (.inr (.inl e))) (fun e => .inl e)
  have hr1 : RfAt w1 r gn gw gt gm vn vw vt f := h.rf.fr hf1 (fun x hx e => e.elim (h.a2 x hx).1 (fun e => (h.a1 x e).1 hx)) (fun e e2 => e2.elim (h.am e).2.1 (h.am e).1)
  have hq1 := h.rt.far hf1 hF (fun e => e.elim h.a3 (fun e => (h.a1 q e).2.2 rfl))
  refine ⟨e, rfl, ⟨h.bel hf1 hF hB, fr_sub hf1 hF⟩, ?_⟩
  refine (rforce_any w1 hq1 hr1 h.like h.dk.ok hfit hP4 hq4 hPq hmq).mono ?_
  rintro a w2 ⟨c, d', rfl, hcase, ⟨f', k1, k2, k3, k4, k5, k6⟩, hrt⟩
  have hsn : ¬ (rtOf r t).steady = ((rtOf r t).n : Int) := by show ¬ t.stable = ((t.count.toNat : Nat) : Int); omega
  have hK0 : 0 < t.tiles.toNat := by
   have := h.tr.ok.len
   have := h.tr.ok.c1
   have := h.st
   have := h.tr.ok.t0
   omega
  have hed : e = c ∧ d1 = d' := by
   rcases hcase with ⟨e, _⟩ | ⟨_, ⟨hd, rfl, rfl⟩ | ⟨_, hse2⟩⟩
   ·exact absurd e hsn
   ·exact hse.det (Or.inl ⟨0, false, hK0, Went.start, hd, rfl⟩)
   ·exact hse.det hse2
  obtain ⟨rfl, rfl⟩ := hed
  have hb2 : Below B w1 w2 := below_of_fr k6 (fun x hx => h.lo x (hx.elim (hP4 x) (fun e => .inr (.inr (.inr e))))) (Nat.le_trans hB hf1.size)
  have hmk := hse.mask
  have hag : d1.mask ≠ [] → ¬ Four r gn gw gt g ∧ g ≠ q := fun e => h.ag (by
   rcases hmk with e2 | e2
   ·rw [← e2]; exact e
   ·exact absurd e2 e)
  have hdk : DiskAt w1 pd bn bo g d1 := by
   have := hl1.dk
   split at this
   ·rw [← h.tp.1]; exact this
   ·rw [← h.tp.1]; exact this
  have hdk2 := hdk.fr k6 h3q (fun e => fun e2 => e2.elim (hag e).1 (hag e).2)
  refine ⟨rfl, ⟨hb2, fr_sub k6 fun x hx => hx.elim (hP4 x) (fun e => .inr (.inr (.inr e)))⟩, d1, f', if e = 0 then { t with stable := t.count } else t, ?_, by split <;> rfl⟩
  by_cases he : e = 0
  ·rw [if_pos he] at hl1 hrt ⊢
   have e7 : ({ rtOf r t with steady := ((rtOf r t).n : Int) } : Rt) = rtOf r { t with stable := t.count } := by
    have e6 : ((t.count.toNat : Nat) : Int) = t.count := by omega
    show (⟨r, t.first, t.tiles, t.count.toNat, t.S, ((t.count.toNat : Nat) : Int)⟩ : Rt) = ⟨r, t.first, t.tiles, t.count.toNat, t.S, t.count⟩
    rw [e6]
   rw [e7] at hrt
   exact ⟨hdk2, k3, k1, k5.trans h.kk, hl1.tr.far k6 h2q, h.tp, ⟨hc0, Int.le_refl _⟩, hrt, h.a1, h.a2, h.a3, h.sg, hag, fun e => h.am (by rw [← k4]; exact e), h.lo⟩
  ·rw [if_neg he] at hl1 hrt ⊢
   exact ⟨hdk2, k3, k1, k5.trans h.kk, hl1.tr.far k6 h2q, h.tp, h.st, hrt, h.a1, h.a2, h.a3, h.sg, hag, fun e => h.am (by rw [← k4]; exact e), h.lo⟩
end
end Go.Proofs.YthmgafcnoedmjaaGreat
namespace Go.Proofs.YthmgafcnoedmjaaGreat
open Go.RowKit Go.Maps
theorem rdL_len (T : Nat → List Int) : ∀ m i, (rdL T m i).length ≤ 63 * m
 | 0, _ => Nat.zero_le _
 | m + 1, i => by
  have ih := rdL_len T m (i + 1)
  unfold rdL
  split
  ·simp
  ·split
   ·rw [List.length_take]; omega
   ·rw [List.length_append, List.length_take]; omega
structure DI (B : Nat) (W : World) (pd bn bo g r gn gw gt gm : Nat) (vn vw vt : Value) (d : Dk) (f : Rf) (K : Nat) : Prop where
 dk : DiskAt W pd bn bo g d
 rf : RfAt W r gn gw gt gm vn vw vt f
 like : Like d f
 kk : f.k = K + 2
 a1 : ∀ x, Three pd bn bo x → ¬ Four r gn gw gt x
 ag : d.mask ≠ [] → ¬ Four r gn gw gt g
 am : f.mask ≠ [] → ¬ Three pd bn bo gm
 lo : ∀ x, Three pd bn bo x ∨ Four r gn gw gt x → B ≤ x
theorem RtAt.sub {w : World} {q : Nat} {lv av : Value} {P P' : Nat → Prop} {t : Rt} (h : RtAt w q lv av P t) (hS : ∀ b, P' b → P b) : RtAt w q lv av P' t :=
 ⟨h.bx, h.row, h.all, h.f0, h.f1, h.t0, h.t1, h.len, fun a n c e hn k => h.ol a n c e hn (hS _ k), fun a n c e hn k => h.oa a n c e hn (hS _ k)⟩
theorem SlB.blk_lt {w : World} {v : Value} {l : List Int} {g : Nat} (h : SlB w v l g) (hl : l ≠ []) : g < w.heap.size := h.block_lt hl
def OpBoth (Z : Prop) (B : Nat) (w2 : World) (pd bn bo r gn gw gt gm : Nat) (vn vw vt : Value) (K : Nat) (a b : Ending) : Prop :=
 (Z ∧ a = .returned (.tuple #[.pointer none, .slice none 0 0, .int .i64 2]) ∧ b = .returned (.tuple #[.pointer none, .slice none 0 0, .int .i64 2])) ∨
 ∃ (p bm q g : Nat) (d : Dk) (f : Rf) (lv av : Value) (t : Tr) (A1 A2 : Option Addr) (n c1 c2 : Nat) (L : List Ent), a = .returned (.tuple #[.pointer (some ⟨p, 0, none⟩), .slice A1 n c1, .int .i64 0]) ∧ b = .returned (.tuple #[.pointer (some ⟨q, 0, none⟩), .slice A2 n c2, .int .i64 0]) ∧
  TI B w2 pd bn bo g r gn gw gt gm vn vw vt d f p bm q lv av t K ∧ RowE w2 (.slice A1 n c1) L ∧ RowE w2 (.slice A2 n c2) L ∧ L.length ≤ 2000 ∧ (∀ e ∈ L, EntLen e) ∧ t.count ≤ 1600
section
variable {B : Nat} {W W' : World} {pd bn bo g r gn gw gt gm : Nat} {vn vw vt : Value} {d : Dk} {f : Rf} {K : Nat}
theorem DI.low (h : DI B W pd bn bo g r gn gw gt gm vn vw vt d f K) : ∃ g', g' < W.heap.size ∧ DI B W pd bn bo g' r gn gw gt gm vn vw vt d f K := by
 obtain ⟨g', h1, h2, h3⟩ := disk_low h.dk
 refine ⟨g', h1, h2, h.rf, h.like, h.kk, h.a1, fun e => ?_, h.am, h.lo⟩
 rcases h3 with rfl | rfl
 ·exact h.ag e
 ·exact h.a1 _ (.inr (.inl rfl))
theorem DI.lt (h : DI B W pd bn bo g r gn gw gt gm vn vw vt d f K) : ∀ b, Three pd bn bo b ∨ Four r gn gw gt b → b < W.heap.size := by
 have hk : 0 < f.k := by have := h.kk; omega
 rintro b (hb | hb)
 ·exact lt_three h.dk hb
 ·rcases hb with rfl | rfl | rfl | rfl
  ·exact (Array.getElem?_eq_some_iff.1 h.rf.cells).1
  ·exact (h.rf.now hk).lt
  ·exact (h.rf.was hk).lt
  ·exact (h.rf.wet hk).lt
theorem open_both (h : DI B W pd bn bo g r gn gw gt gm vn vw vt d f K) (hB : B ≤ W.heap.size) (hd : d.dead = false) (hK : K ≤ 24) :
  Calls Tryz.prog 9 #[.pointer (some ⟨pd, 0, none⟩), .int .i64 1, .int .i64 K] W fun a w1 => (∃ x y z, a = .returned (.tuple #[x, y, z])) ∧ Below B W w1 ∧
   Calls Tryz.prog 10 #[.pointer (some ⟨r, 0, none⟩), .int .i64 1, .int .i64 K] w1 fun b w2 => Below B w1 w2 ∧ OpBoth (d.set = true) B w2 pd bn bo r gn gw gt gm vn vw vt K a b := by
 obtain ⟨g', hg, h⟩ := h.low
 have hlike := h.like.1
 have hkk := h.kk
 have hT : ∀ i : Nat, ∃ l, d.has ((1 : Int) + i) l := fun i => d.has_any h.dk.ok _
 obtain ⟨T, hT⟩ : ∃ T : Nat → List Int, ∀ i : Nat, i < K → d.has ((1 : Int) + i) (T i) := ⟨fun i => Classical.choose (hT i), fun i _ => Classical.choose_spec (hT i)⟩
 refine (topen_rel W h.dk hg hd 1 K (by decide) (by rw [hlike]; omega) hT).mono ?_
 rintro a w1 ⟨e, d1, hse, hcase, hf1⟩
 have hb1 : Below B W w1 := below_of_fr hf1 (fun x hx => h.lo x (.inl hx)) hB
 have hr1 : RfAt w1 r gn gw gt gm vn vw vt f := h.rf.fr hf1 (fun x hx e => h.a1 x e hx) h.am
 have hmk := hse.mask
 have hT2 : ∀ i : Nat, i < K → d.has (((1 : Nat) : Int) + i) (T i) := hT
 have hag : d1.mask ≠ [] → ¬ Four r gn gw gt g' := fun e => h.ag (by
  rcases hmk with e2 | e2
  ·rw [← e2]; exact e
  ·exact absurd e2 e)
 obtain ⟨R, hR⟩ : ∃ R, R = rdL T K 0 := ⟨_, rfl⟩
 have hRl : R.length ≤ 63 * K := by rw [hR]; exact rdL_len T K 0
 have hokR : bytesOk R := by rw [hR]; exact rdL_ok (fun i hi => (hT i hi).2.2) K 0 (by omega)
 obtain ⟨hs1, hs2⟩ := scan_le R
 rw [← hR] at hse hcase
 rcases hcase with ⟨rfl, p, bm, A, c, es, rfl, hp, hbm, hlg, hes, hels, hown, hG⟩ | ⟨rfl, rfl, hdk⟩
 ·refine ⟨⟨_, _, _, rfl⟩, hb1, ?_⟩
  have hdk1 : DiskAt w1 pd bn bo g' d1 := hlg.dk
  have hlt1 : ∀ b, Three pd bn bo b ∨ Four r gn gw gt b ∨ Two p bm b → b < w1.heap.size := by
   rintro b (hb | hb | hb)
   ·exact lt_three hdk1 hb
   ·exact Nat.lt_of_lt_of_le (h.lt b (.inr hb)) hf1.size
   ·rcases hb with rfl | rfl
    ·exact hlg.tr.lt.1
    ·exact hlg.tr.lt.2
  refine (ropenR_any w1 hr1 h.like h.dk.ok hd (fun b => Three pd bn bo b ∨ Four r gn gw gt b ∨ Two p bm b) hlt1 (fun b hb => .inr (.inl hb)) 1 K (by omega) hT2).mono ?_
  rintro b w2 ⟨c2, d2, hse2, ⟨f', k1, k2, k3, k4, k5, k6⟩, hcase⟩
  rw [← hR] at hse2 hcase
  obtain ⟨rfl, rfl⟩ := hse.det hse2
  rcases hcase with ⟨_, q, A2, n, lc, av, rfl, hq, hrt, hRE⟩ | ⟨hne, _⟩
  ·have hb2 : Below B w1 w2 := below_of_fr k6 (fun x hx => h.lo x (.inr hx)) (Nat.le_trans hB hf1.size)
   have h2w : ∀ x, Two p bm x → W.heap.size ≤ x := fun x hx => by rcases hx with rfl | rfl <;> assumption
   have a2 : ∀ x, Four r gn gw gt x → ¬ Two p bm x ∧ x ≠ q := fun x hx => ⟨fun e => by have := h2w x e; have := h.lt x (.inr hx); omega, fun e => by have := h.lt x (.inr hx); have := hf1.size; omega⟩
   have a3 : ¬ Two p bm q := fun e => by
    have := hlt1 q (.inr (.inr e))
    omega
   have hn : n = (scan R).length := by
    obtain ⟨A', c', e⟩ := hrt.lsh
    injection e
   subst hn
   have hE2 : Els w2 (.slice A (scan R).length c) 16 (es.map enV) := hels.at fun _ b hb hlt => k6.block b hlt fun e => by have := (hown b hb).1; have := h.lt b (.inr e); omega
   have hG2 : ∀ o ∈ es, EnG w2 (fun b => W.heap.size ≤ b ∧ b < w1.heap.size ∧ ¬ Two p bm b) o := fun o ho => (hG o ho).at k6.size fun b hb => k6.block b hb.2.1 fun e => by have := hb.1; have := h.lt b (.inr e); omega
   have hRE1 := rowE_els hE2 hG2
   rw [hes] at hRE1
   refine ⟨hb2, Or.inr ⟨p, bm, q, g', d1, f', Value.slice A2 (scan R).length lc, av, opT pd 1 K R, A, A2, (scan R).length, c, lc, (scan R).map tkE, rfl, rfl, ?_, hRE1, hRE, ?_, ?_, ?_⟩⟩
   rotate_left
   ·rw [List.length_map]; omega
   rotate_left
   rotate_left
   ·refine ⟨hdk1.fr k6 (fun x hx e => h.a1 x hx e) hag, k3, k1, k5.trans h.kk, hlg.tr.far k6 (fun x hx e => (a2 x e).1 hx), ⟨rfl, rfl, rfl⟩, ⟨by show (0 : Int) ≤ ((scan R).length : Int); omega, Int.le_refl _⟩, ?_, fun x hx => ⟨h.a1 x hx, fun e => hlg.sep x hx e, fun e => ?_⟩, a2, a3, hlg.sepg, fun e => ⟨hag e, fun e2 => ?_⟩, fun e => ⟨h.am (by rw [← k4]; exact e), fun e2 => ?_, fun e2 => ?_⟩, ?_⟩
    ·have e5 : rtOf r (opT pd 1 K R) = ⟨r, ((1 : Nat) : Int), K, (scan R).length, R.take (frsN (scan R)), (scan R).length⟩ := by
      show (⟨r, 1, K, ((scan R).length : Int).toNat, _, _⟩ : Rt) = _
      rw [Int.toNat_natCast]
      rfl
     rw [e5]
     exact hrt.sub fun b hb => by
      rcases hb with hb | hb | hb | hb
      ·exact .inr (.inl hb)
      ·exact .inr (.inr (.inl hb))
      ·exact .inr (.inr (.inr hb))
      ·exact .inl hb
    ·have := h.lt x (.inl hx); have := hf1.size; omega
    ·have := hf1.size; omega
    ·have := h2w gm e2
     have hgm := h.rf.mask.blk_lt (by rw [← k4]; exact e)
     omega
    ·have hgm := h.rf.mask.blk_lt (by rw [← k4]; exact e)
     have := hf1.size; omega
    ·rintro x (hx | hx | hx | rfl)
     ·exact h.lo x (.inl hx)
     ·exact h.lo x (.inr hx)
     ·exact Nat.le_trans hB (h2w x hx)
     ·exact Nat.le_trans hB (Nat.le_trans hf1.size hq)
   ·intro e he
    obtain ⟨b, hb, rfl⟩ := List.mem_map.1 he
    exact trailScans.tkE_len b
   ·show ((scan R).length : Int) ≤ 1600
    omega
  ·exact absurd rfl hne
 ·have hset : d.set = true := by
   cases hs : d.set with
   | true => rfl
   | false =>
    have := (settled_free (ok_take hokR _) hd hs hse).1
    cases this
  refine ⟨⟨_, _, _, rfl⟩, hb1, ?_⟩
  refine (ropenR_any w1 hr1 h.like h.dk.ok hd (fun b => Three pd bn bo b ∨ Four r gn gw gt b) (fun b hb => Nat.lt_of_lt_of_le (h.lt b hb) hf1.size) (fun b hb => .inr hb) 1 K (by omega) hT2).mono ?_
  rintro b w2 ⟨c2, d2, hse2, ⟨f', k1, k2, k3, k4, k5, k6⟩, hcase⟩
  rw [← hR] at hse2 hcase
  obtain ⟨rfl, rfl⟩ := hse.det hse2
  rcases hcase with ⟨e, _⟩ | ⟨_, rfl⟩
  ·cases e
  ·exact ⟨below_of_fr k6 (fun x hx => h.lo x (.inr hx)) (Nat.le_trans hB hf1.size), .inl ⟨hset, rfl, rfl⟩⟩
end
end Go.Proofs.YthmgafcnoedmjaaGreat
namespace Go.Proofs.YthmgafcnoedmjaaGreat
open Go.RowKit Go.Maps
section
variable {B : Nat} {W W' : World} {pd bn bo g r gn gw gt gm : Nat} {vn vw vt : Value} {d : Dk} {f : Rf} {p bm q : Nat} {lv av : Value} {t : Tr} {K : Nat}
theorem rarm_keep {w : World} (h : RfAt w r gn gw gt gm vn vw vt f) (hk : 0 < f.k) (n : Int) (n1 : n ≤ 9223372036854775807) {p0 : Option Addr} {len cap : Nat} {ms : List Int} {gs : Nat} (hs : SlB w (.slice p0 len cap) ms gs) (hok : bytesOk ms) (hz : p0 = none → len = 0 ∧ cap = 0) :
  Calls Tryz.prog 19 #[.pointer (some ⟨r, 0, none⟩), .int .i64 n, .slice p0 len cap] w fun e w' => e = .returned (.tuple #[]) ∧ ∃ mv g', RfAt w' r gn gw gt g' vn vw vt (f.armed n mv ms) ∧ w.heap.size ≤ g' ∧ Fr w.heap.size (Four r gn gw gt) w w' := by
 have hlen : len = ms.length := by obtain ⟨_, _, _, e, e2, _⟩ := hs; injection e with e1 e3 e4; omega
 have hle : ms.length ≤ 1000000 := by obtain ⟨_, _, _, e, e2, _, e5, _⟩ := hs; injection e with e1 e3 e4; omega
 have hR : Calls Tryz.prog 19 #[.pointer (some ⟨r, 0, none⟩), .int .i64 n, .slice p0 len cap] w fun e w' => ∃ mv a' b' c' g', e = .returned (.tuple #[]) ∧ RfAt w' r a' b' c' g' vn vw vt (f.armed n mv ms) ∧ (a' = gn ∨ w.heap.size ≤ a') ∧ (b' = gw ∨ w.heap.size ≤ b') ∧ (c' = gt ∨ w.heap.size ≤ c') ∧ w.heap.size ≤ g' ∧ Fr w.heap.size (Four r gn gw gt) w w' := by
  cases p0 with
  | none =>
   obtain ⟨rfl, rfl⟩ := hz rfl
   obtain rfl : ms = [] := List.length_eq_zero_iff.1 hlen.symm
   exact rarm_nil h n n1
  | some ad =>
   obtain ⟨ab, ao, asp⟩ := ad
   subst hlen
   exact rarm_some h n n1 ab ao asp cap ms hle hok (fun hne => (hs.parts hne).2.1) (fun j hj => by
    obtain ⟨q1, _, q3⟩ := hs.parts (by intro e; rw [e] at hj; cases hj)
    simp only at q1 q3
    rw [q1]; exact q3 j hj)
 refine hR.mono ?_
 rintro e w' ⟨mv, a, b, c, g', rfl, h2, -, -, -, hg, hf⟩
 have e1 : a = gn := by
  obtain ⟨c1, e1, _⟩ := h.sn.some hk
  obtain ⟨c2, e2, _⟩ := h2.sn.some (k := (f.armed n mv ms).k) hk
  rw [e1] at e2
  injection e2 with e2
  injection e2 with e2
  injection e2 with e2
  exact e2.symm
 have e2 : b = gw := by
  obtain ⟨c1, e1, _⟩ := h.sw.some hk
  obtain ⟨c2, e2, _⟩ := h2.sw.some (k := (f.armed n mv ms).k) hk
  rw [e1] at e2
  injection e2 with e2
  injection e2 with e2
  injection e2 with e2
  exact e2.symm
 have e3 : c = gt := by
  obtain ⟨c1, e1, _⟩ := h.st.some hk
  obtain ⟨c2, e2, _⟩ := h2.st.some (k := (f.armed n mv ms).k) hk
  rw [e1] at e2
  injection e2 with e2
  injection e2 with e2
  injection e2 with e2
  exact e2.symm
 subst e1 e2 e3
 exact ⟨rfl, mv, g', h2, hg, hf⟩
theorem TI.q4 (h : TI B W pd bn bo g r gn gw gt gm vn vw vt d f p bm q lv av t K) : ¬ Four r gn gw gt q := fun e => (h.a2 q e).2 rfl
theorem TI.k0 (h : TI B W pd bn bo g r gn gw gt gm vn vw vt d f p bm q lv av t K) : 0 < f.k := by have := h.kk; omega
theorem ti_arm (h : TI B W pd bn bo g r gn gw gt gm vn vw vt d f p bm q lv av t K) (n : Int) (n1 : n ≤ 9223372036854775807) {p0 : Option Addr} {len cap : Nat} {ms : List Int} {gs : Nat} (hs : SlB W (.slice p0 len cap) ms gs) (hok : bytesOk ms) (hz : p0 = none → len = 0 ∧ cap = 0) (hg3 : ¬ Three pd bn bo gs) :
  Calls Tryz.prog 18 #[.pointer (some ⟨pd, 0, none⟩), .int .i64 n, .slice p0 len cap] W fun a w1 => a = .returned (.tuple #[]) ∧ BF B (PP pd bn bo r gn gw gt p bm q) W w1 ∧
   Calls Tryz.prog 19 #[.pointer (some ⟨r, 0, none⟩), .int .i64 n, .slice p0 len cap] w1 fun a w2 => a = .returned (.tuple #[]) ∧ BF B (PP pd bn bo r gn gw gt p bm q) w1 w2 ∧ ∃ d' f' g' gm', TI B w2 pd bn bo g' r gn gw gt gm' vn vw vt d' f' p bm q lv av t K := by
 have hB := h.hB
 have hlt := h.lt
 have key : ∀ (w1 : World) (d' : Dk) (g1 : Nat), DiskAt w1 pd bn bo g1 d' → Fr W.heap.size (Three pd bn bo) W w1 → ¬ Two p bm g1 → (d'.mask ≠ [] → W.heap.size ≤ g1) → (∀ mv, Like d' (f.armed n mv ms)) →
   Calls Tryz.prog 19 #[.pointer (some ⟨r, 0, none⟩), .int .i64 n, .slice p0 len cap] w1 fun a w2 => a = .returned (.tuple #[]) ∧ BF B (PP pd bn bo r gn gw gt p bm q) w1 w2 ∧ ∃ d' f' g' gm', TI B w2 pd bn bo g' r gn gw gt gm' vn vw vt d' f' p bm q lv av t K := by
  intro w1 d' g1 h1 f1 hg1 hgm hL
  have hr1 : RfAt w1 r gn gw gt gm vn vw vt f := h.rf.fr f1 (fun x hx e => (h.a1 x e).1 hx) (fun e => (h.am e).1)
  have hsz := f1.size
  refine (rarm_keep hr1 h.k0 n n1 (hs.fr f1 hg3) hok hz).mono ?_
  rintro e w2 ⟨rfl, mv, g', h2, hg', f2⟩
  have hag : d'.mask ≠ [] → ¬ Four r gn gw gt g1 ∧ g1 ≠ q := fun e => by
   have := hgm e
   exact ⟨fun e2 => by have := hlt g1 (.inr (.inl e2)); omega, fun e2 => by have := hlt g1 (.inr (.inr (.inr e2))); omega⟩
  have ht1 := h.tr.far f1 (fun x hx e => (h.a1 x e).2.1 hx)
  have hq1 := h.rt.far f1 (fun b hb => .inl hb) (fun e => (h.a1 q e).2.2 rfl)
  refine ⟨rfl, ⟨below_of_fr f2 (fun x hx => h.lo x (.inr (.inl hx))) (by omega), fr_sub f2 fun x hx => .inr (.inl hx)⟩, d', f.armed n mv ms, g1, g', h1.fr f2 (fun x hx => (h.a1 x hx).1) (fun e => (hag e).1), h2, hL mv, h.kk, ht1.far f2 (fun x hx e => (h.a2 x e).1 hx), h.tp, h.st, hq1.far f2 (fun b hb => .inr (.inl hb)) h.q4, h.a1, h.a2, h.a3, hg1, hag, fun _ => ⟨fun e => ?_, fun e => ?_, fun e => ?_⟩, h.lo⟩
  ·have := hlt g' (.inl e); omega
  ·have := hlt g' (.inr (.inr (.inl e))); omega
  ·have := hlt g' (.inr (.inr (.inr e))); omega
 by_cases hn : n < 0
 ·refine (arm_neg W h.dk n hn _).mono ?_
  rintro e w1 ⟨rfl, h1, f1⟩
  exact ⟨rfl, ⟨h.bel f1 (fun b hb => .inl hb) hB, fr_sub f1 fun b hb => .inl hb⟩, key w1 _ g h1 f1 h.sg (fun e => absurd rfl e) (fun mv => like_unarm h.like hn mv ms)⟩
 ·have hgp : gs ≠ pd := fun e => hg3 (Or.inl e)
  refine (arm_pos2 W h.dk n (by omega) n1 hs hgp (by cases p0 with
   | none => obtain ⟨rfl, rfl⟩ := hz rfl; exact Or.inl rfl
   | some a => exact Or.inr ⟨a, _, _, rfl⟩) hok).mono ?_
  rintro e w1 ⟨rfl, mv, g1, h1, -, hg1, f1⟩
  exact ⟨rfl, ⟨h.bel f1 (fun b hb => .inl hb) hB, fr_sub f1 fun b hb => .inl hb⟩, key w1 _ g1 h1 f1 (fun e => by have := hlt g1 (.inr (.inr (.inl e))); omega) (fun _ => hg1) (fun mv2 => like_arm h.like (by omega) mv mv2 ms)⟩
theorem TI.di (h : TI B W pd bn bo g r gn gw gt gm vn vw vt d f p bm q lv av t K) : DI B W pd bn bo g r gn gw gt gm vn vw vt d f K :=
 ⟨h.dk, h.rf, h.like, h.kk, fun x hx => (h.a1 x hx).1, fun e => (h.ag e).1, fun e => (h.am e).1, fun x hx => h.lo x (hx.elim .inl fun e => .inr (.inl e))⟩
theorem DI.kept (h : DI B W pd bn bo g r gn gw gt gm vn vw vt d f K) (hb : Below W.heap.size W W') : DI B W' pd bn bo g r gn gw gt gm vn vw vt d f K :=
 ⟨h.dk.kept hb.block, h.rf.grow hb.block, h.like, h.kk, h.a1, h.ag, h.am, h.lo⟩
theorem DI.hB (h : DI B W pd bn bo g r gn gw gt gm vn vw vt d f K) : B ≤ W.heap.size := Nat.le_of_lt (Nat.lt_of_le_of_lt (h.lo pd (.inl (.inl rfl))) (h.lt pd (.inl (.inl rfl))))
theorem di_crash (h : DI B W pd bn bo g r gn gw gt gm vn vw vt d f K) {mv : Value} {ms : List Int} {gs : Nat} (hs : SlB W mv ms gs) (hok : bytesOk ms) (hg3 : ¬ Three pd bn bo gs) (hg4 : ¬ Four r gn gw gt gs) :
  Calls Tryz.prog 16 #[.pointer (some ⟨pd, 0, none⟩), mv] W fun a w1 => a = .returned (.tuple #[]) ∧ BF B (fun x => Three pd bn bo x ∨ Four r gn gw gt x) W w1 ∧
   Calls Tryz.prog 17 #[.pointer (some ⟨r, 0, none⟩), mv] w1 fun a w2 => a = .returned (.tuple #[]) ∧ BF B (fun x => Three pd bn bo x ∨ Four r gn gw gt x) w1 w2 ∧ ∃ d' f', DI B w2 pd bn bo g r gn gw gt gm vn vw vt d' f' K := by
 have hB := h.hB
 refine (crash_any W h.dk hs hok).mono ?_
 rintro a w1 ⟨rfl, ls, hls, h1, f1⟩
 have hr1 : RfAt w1 r gn gw gt gm vn vw vt f := h.rf.fr f1 (fun x hx e => h.a1 x e hx) h.am
 refine ⟨rfl, ⟨below_of_fr f1 (fun x hx => h.lo x (.inl hx)) hB, fr_sub f1 fun x hx => .inl hx⟩, (rcrash hr1 (hs.fr f1 hg3) hok hg4).mono ?_⟩
 rintro a w2 ⟨rfl, h2, f2⟩
 exact ⟨rfl, ⟨below_of_fr f2 (fun x hx => h.lo x (.inr hx)) (Nat.le_trans hB f1.size), fr_sub f2 fun x hx => .inr hx⟩, _, _, h1.fr f2 h.a1 (fun e => absurd rfl e), h2, like_crash h.like h.dk.ok ⟨ls, hls, rfl⟩, h.kk, h.a1, fun e => absurd rfl e, h.am, h.lo⟩
theorem di_write (h : DI B W pd bn bo g r gn gw gt gm vn vw vt d f K) (i : Int) {sv : Value} {l : List Int} {gs : Nat} (hs : SlB W sv l gs) (hl : l.length = 64) (hok : bytesOk l) (hg3 : ¬ Three pd bn bo gs) (hg4 : gs ≠ r) :
  Calls Tryz.prog 20 #[.pointer (some ⟨pd, 0, none⟩), .int .i64 i, sv] W fun a w1 => ∃ c : Int, a = .returned (.int .i64 c) ∧ BF B (fun x => Three pd bn bo x ∨ Four r gn gw gt x) W w1 ∧
   Calls Tryz.prog 21 #[.pointer (some ⟨r, 0, none⟩), .int .i64 i, sv] w1 fun a w2 => a = .returned (.int .i64 c) ∧ BF B (fun x => Three pd bn bo x ∨ Four r gn gw gt x) w1 w2 ∧ ∃ d' f', DI B w2 pd bn bo g r gn gw gt gm vn vw vt d' f' K := by
 have hB := h.hB
 have hlk := h.like.1
 have hdo := h.like.2.1
 cases hd : d.dead with
 | true =>
  refine (write_dead W h.dk hd i sv).mono ?_
  rintro a w1 ⟨rfl, rfl⟩
  refine ⟨2, rfl, ⟨Below.refl _ _, fr_id _ _ _⟩, (rwrite_off h.rf (by rw [← hdo, hd]) i sv).mono ?_⟩
  rintro a w2 ⟨rfl, rfl⟩
  exact ⟨rfl, ⟨Below.refl _ _, fr_id _ _ _⟩, _, _, h⟩
 | false =>
  by_cases hi : 0 ≤ i ∧ i < d.tiles
  ·obtain ⟨n, rfl⟩ := Int.eq_ofNat_of_zero_le hi.1
   refine (write_rel W h.dk n hi.1 hi.2 sv l hs hl hok).mono ?_
   rintro a w1 ⟨e, d1, rfl, hw, h1, f1⟩
   have hr1 : RfAt w1 r gn gw gt gm vn vw vt f := h.rf.fr f1 (fun x hx e => h.a1 x e hx) h.am
   refine ⟨e, rfl, ⟨below_of_fr f1 (fun x hx => h.lo x (.inl hx)) hB, fr_sub f1 fun x hx => .inl hx⟩, (rwrite_like hr1 h.like h.dk.ok n (by have := hi.2; omega) (hs.fr f1 hg3) hok hl hg4).mono ?_⟩
   rintro a w2 ⟨c, d2, rfl, hw2, f', k1, k2, k3, k4, k5, k6⟩
   obtain ⟨rfl, rfl⟩ := hw.det hw2
   have hag : d1.mask ≠ [] → ¬ Four r gn gw gt g := fun e => h.ag (by
    rcases hw.mask with e2 | e2
    ·rw [← e2]; exact e
    ·exact absurd e2 e)
   exact ⟨rfl, ⟨below_of_fr k6 (fun x hx => h.lo x (.inr hx)) (Nat.le_trans hB f1.size), fr_sub k6 fun x hx => .inr hx⟩, d1, f', h1.fr k6 h.a1 hag, k3, k1, k5.trans h.kk, h.a1, hag, fun e => h.am (by rw [← k4]; exact e), h.lo⟩
  ·obtain ⟨p0, len, cap, rfl, hlen, hrest⟩ := id hs
   refine (write_far W h.dk hd i hi _).mono ?_
   rintro a w1 ⟨rfl, rfl⟩
   refine ⟨1, rfl, ⟨Below.refl _ _, fr_id _ _ _⟩, (rwrite_bad h.rf (by rw [← hdo, hd]) i p0 len cap (.inl (by rw [← hlk]; exact hi))).mono ?_⟩
   rintro a w2 ⟨rfl, rfl⟩
   exact ⟨rfl, ⟨Below.refl _ _, fr_id _ _ _⟩, _, _, h⟩
theorem di_power (h : DI B W pd bn bo g r gn gw gt gm vn vw vt d f K) :
  DI B ((W.setCell ⟨pd, 3, none⟩ (.bool false)).setCell ⟨r, 3, none⟩ (.bool false)) pd bn bo g r gn gw gt gm vn vw vt { d with dead := false } { f with off := false } K ∧ Below B W ((W.setCell ⟨pd, 3, none⟩ (.bool false)).setCell ⟨r, 3, none⟩ (.bool false)) := by
 have f1 := fr_poke W.heap.size pd (Three pd bn bo) (Or.inl rfl) W 3 (.bool false)
 have h1 : DiskAt (W.setCell ⟨pd, 3, none⟩ (.bool false)) pd bn bo g { d with dead := false } := h.dk.poke 3 _ rfl rfl rfl h.dk.mask ⟨h.dk.ok.lo, h.dk.ok.hi, h.dk.ok.now, h.dk.ok.old, h.dk.ok.llo, h.dk.ok.lhi, h.dk.ok.mok⟩
 have hr : RfAt (W.setCell ⟨pd, 3, none⟩ (.bool false)) r gn gw gt gm vn vw vt f := h.rf.fr f1 (fun x hx e => h.a1 x e hx) h.am
 have f2 := fr_poke (W.setCell ⟨pd, 3, none⟩ (.bool false)).heap.size r (Four r gn gw gt) (Or.inl rfl) (W.setCell ⟨pd, 3, none⟩ (.bool false)) 3 (.bool false)
 have h2 : RfAt ((W.setCell ⟨pd, 3, none⟩ (.bool false)).setCell ⟨r, 3, none⟩ (.bool false)) r gn gw gt gm vn vw vt { f with off := false } := hr.poke 3 _ rfl rfl rfl rfl rfl hr.mask hr.ok hr.mok
 exact ⟨⟨h1.fr f2 h.a1 h.ag, h2, like_power h.like, h.kk, h.a1, h.ag, h.am, h.lo⟩, ((Below.refl B W).setCell (p := ⟨pd, 3, none⟩) (h.lo pd (.inl (.inl rfl))) _).setCell (p := ⟨r, 3, none⟩) (h.lo r (.inr (.inl rfl))) _⟩
theorem di_new (w : World) (k K : Nat) (hk : k = K + 2) (hK : K ≤ 24) : Calls Tryz.prog 7 #[.int .i64 k] w fun e w1 => ∃ pd, e = .returned (.pointer (some ⟨pd, 0, none⟩)) ∧ Below w.heap.size w w1 ∧
  Calls Tryz.prog 8 #[.int .i64 k] w1 fun e2 w2 => ∃ r, e2 = .returned (.pointer (some ⟨r, 0, none⟩)) ∧ Below w.heap.size w1 w2 ∧ ∃ bn bo g gn gw gt gm vn vw vt d f, DI w.heap.size w2 pd bn bo g r gn gw gt gm vn vw vt d f K ∧ d.dead = false ∧ d.set = false := by
 refine (new_any w k).mono ?_
 rintro e w1 ⟨rfl, h1, hb1⟩
 have hs1 := hb1.size
 have hl := h1.lt
 refine ⟨_, rfl, hb1, ?_⟩
 have hcv : ∀ V : World, (convert 36 9 (.slice (some ⟨V.heap.size, 0, none⟩) 64 64)).run Tryz.prog (V.alloc (.cells (byteV z64).toArray 5)) = .ok (.string (bstr z64)) (V.alloc (.cells (byteV z64).toArray 5)) := fun V => conv_slB (slB_new V z64 5 (by decide))
 refine (rnew_any w1 k (by omega) (bstr z64) hcv).mono ?_
 rintro e w2 ⟨vn, vw, vt, rfl, hz, hb2, hnl⟩
 have hs2 := hb2.size
 refine ⟨w1.heap.size, rfl, hb2.mono hs1, ?_⟩
 obtain ⟨gn, gw, gt, gm, hrf, hlo⟩ := rf_of_nz hz hnl (by omega)
 have hct : clampT (k : Int) = k := by unfold clampT; rw [if_neg (by omega), if_neg (by omega)]
 rw [hct] at h1
 obtain ⟨b1, b2, b3⟩ := hlo (by omega)
 refine ⟨_, _, _, gn, gw, gt, gm, vn, vw, vt, _, _, ⟨h1.kept hb2.block, hrf, like_fresh k _, hk, fun x hx e => ?_, fun e => absurd rfl e, fun e => absurd rfl e, fun x hx => ?_⟩, rfl, rfl⟩
 ·rcases hx with rfl | rfl | rfl <;> rcases e with e | e | e | e <;> omega
 ·rcases hx with hx | hx
  ·rcases hx with rfl | rfl | rfl <;> omega
  ·rcases hx with rfl | rfl | rfl | rfl <;> omega
end
end Go.Proofs.YthmgafcnoedmjaaGreat
