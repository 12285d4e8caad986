/- TrailAll, a part. -/
import Derived.Test.YthmgafcnoedmjaaGreatQ24
import Derived.Test.YthmgafcnoedmjaaGreatQ25
import Derived.Test.YthmgafcnoedmjaaGreatQ39
import Derived.Deep.DeepCutAuto
namespace Go.Proofs.YthmgafcnoedmjaaGreat
set_option maxRecDepth 100000
open Go.RowKit Go.Maps
theorem own_blk {w : World} {B k n : Nat} {e : TypeId} {v : Value} {xs : List Value} (h : w.ownsRow B e k v n xs) {g : Nat} (hg : v.ownBlock = some g) : B ≤ g ∧ g < w.heap.size ∧ ∃ cs, w.heap[g]? = some (.cells cs e (0, 0)) := by
 rcases h.2 with ⟨rfl, _⟩ | ⟨q, cap, cur, rfl, hb, hq, _⟩
 ·cases hg
 ·cases hg
  exact ⟨hb, (Array.getElem?_eq_some_iff.1 hq).1, cur, hq⟩
theorem own_same6 {w w' : World} {B sz n : Nat} {e : TypeId} {v : Value} {xs : List Value} (h : w.ownsRow B e sz v n xs) (hb : ∀ b, v.ownBlock = some b → w'.heap[b]? = w.heap[b]?) : w'.ownsRow B e sz v n xs := by
 refine ⟨h.1, ?_⟩
 rcases h.2 with h2 | ⟨g, cap, cur, rfl, h3, hg, h4⟩
 ·exact .inl h2
 ·exact .inr ⟨g, cap, cur, rfl, h3, (hb g rfl).trans hg, h4⟩
theorem src_slK {w : World} {v : Value} {l : List Int} (h : SlK .u8 w v l) : Src w v l.length (byteV l) := by
 obtain ⟨p, cap, rfl, h1, h2, h3, h4⟩ := h
 cases p with
 | none =>
  obtain ⟨rfl, rfl⟩ := h3 rfl
  exact .inl ⟨0, rfl, rfl, rfl⟩
 | some a =>
  obtain ⟨h5, h6, h7⟩ := h4 a rfl
  obtain ⟨b, o, sp⟩ := a
  cases h5
  refine .inr ⟨_, cap, rfl, fun j u hu => ?_⟩
  have hj : j < l.length := by have := (List.getElem?_eq_some_iff.1 hu).1; simpa [byteV] using this
  have e : (⟨b, o, none⟩ : Addr).add j = ⟨b, o + j, none⟩ := by unfold Addr.add; split <;> simp_all
  rw [e, h7 j hj]
  simp [byteV] at hu
  obtain ⟨x, hx, rfl⟩ := hu
  rw [List.getElem?_eq_getElem hj] at hx
  cases hx
  rfl
theorem one_byteV (l : List Int) : ∀ u ∈ byteV l, u.oneCell' = true := fun u hu => by
 obtain ⟨x, _, rfl⟩ := List.mem_map.1 hu
 rfl
theorem src_blk {w : World} {g m k : Nat} {cs : Array Value} {t : TypeId} (h : w.heap[g]? = some (.cells cs t (0, 0))) : Src w (.slice (some ⟨g, 0, none⟩) m k) m cs.toList :=
 .inr ⟨_, k, rfl, fun j u hu => by
  rw [add_more, Nat.zero_add, (c_o h j).1]
  simpa using hu⟩
theorem app_srcL {P : Program} (w : World) (base : Nat) (t ty e : TypeId) (i : TypeInfo) (z : Value) (size bytes : Nat) (ht : P.underlying t = some (.slice e)) (hi : P.info? e = some i) (hz : i.zero = some z)
  (hsize : i.size = size) (hby : i.bytes = bytes) (hzs : z.cells.size = size) (hsz : 0 < size)
  (g0 c0 n : Nat) (xs : List Value) (hown : w.ownsRow base e size (.slice (some ⟨g0, 0, none⟩) n c0) n xs)
  (sv : Value) (m : Nat) (news : List Value) (hsrc : Src w sv m news) (hl : news.length = m * size) (h1 : ∀ u ∈ news, u.oneCell' = true)
  (h63 : n + m ≤ maxLen) (hbytes : (n + m) * bytes ≤ 140737488355328) (hbase : base ≤ w.heap.size) (N : Nat) (hN : n + m = N) (XS : List Value) (hX : xs ++ news = XS) :
  ∃ g c w', (Builtin.append_ #[t, t] ty #[.slice (some ⟨g0, 0, none⟩) n c0, sv]).run P w = .ok (.slice (some ⟨g, 0, none⟩) N c) w' ∧ w'.ownsRow base e size (.slice (some ⟨g, 0, none⟩) N c) N XS ∧ w.grownBy w' (some g0) ∧ (g = g0 ∨ g = w.heap.size) := by
 subst hN hX
 rcases hsrc with ⟨c, rfl, rfl, rfl⟩ | ⟨ad, c, rfl, hnews⟩
 ·have hrun := app_nil0 (P := P) w base t ty e i size ht hi _ n xs hown c
  exact ⟨g0, c0, w, by simpa using hrun, by simpa using hown, ⟨rfl, rfl, rfl, Nat.le_refl _, fun _ _ _ => rfl⟩, .inl rfl⟩
 ·obtain ⟨v', w', hr, h2, h3, h4, h5⟩ := run_append_own_at (P := P) w base t ty e i z size bytes ht hi hz hsize hby hzs hsz _ n xs hown ad m c news hl hnews h1 h63 hbytes hbase
  rcases id h2.2 with ⟨h6, _⟩ | ⟨g, cap, cur, rfl, _⟩
  ·have := (h4.1 h6).1
   cases this
  ·refine ⟨g, cap, w', hr, h2, h3, ?_⟩
   rcases h5 with h5 | h5
   ·left; simpa [Value.ownBlock] using h5
   ·right; simpa [Value.ownBlock] using h5
structure GA (w0 : World) (eC : Array Value) (v1 : Value) (m1 : Nat) (l1 : List Value) (v2 : Value) (m2 : Nat) (l2 : List Value) (k2 : Option Nat) (W : World) : Prop where
 bl : Below w0.heap.size w0 W
 o1 : W.ownsRow w0.heap.size 44 16 v1 m1 l1
 o2 : W.ownsRow w0.heap.size 5 1 v2 m2 l2
 en : ∀ g, k2 = some g → W.heap[g]? = some (.cells eC 44 (0, 0)) ∧ v1.ownBlock ≠ some g
section
variable {w0 W W' : World} {eC : Array Value} {v1 v2 : Value} {m1 m2 : Nat} {l1 l2 : List Value} {k2 : Option Nat}
theorem own_up6 {w w' : World} {B k n : Nat} {e : TypeId} {v : Value} {xs : List Value} (h : w.ownsRow B e k v n xs) (hb : Below w.heap.size w w') : w'.ownsRow B e k v n xs := own_same6 h fun b hx => hb.block b (own_blk h hx).2.1
theorem GA.up (h : GA w0 eC v1 m1 l1 v2 m2 l2 k2 W) (hb : Below W.heap.size W W') : GA w0 eC v1 m1 l1 v2 m2 l2 k2 W' :=
 ⟨h.bl.trans (hb.mono h.bl.size), own_up6 h.o1 hb, own_up6 h.o2 hb, fun g e => ⟨(hb.block g (Array.getElem?_eq_some_iff.1 (h.en g e).1).1).trans (h.en g e).1, (h.en g e).2⟩⟩
theorem GA.al (h : GA w0 eC v1 m1 l1 v2 m2 l2 k2 W) (o : Obj) : GA w0 eC v1 m1 l1 v2 m2 l2 k2 (W.alloc o) := h.up ((Below.refl _ _).alloc (Nat.le_refl _) o)
theorem GA.b1 (h : GA w0 eC v1 m1 l1 v2 m2 l2 k2 W) : GA w0 eC (.slice (some ⟨W.heap.size, 0, none⟩) 0 0) 0 [] v2 m2 l2 k2 (W.alloc (.cells #[] 44)) := by
 have h2 := h.al (.cells #[] 44)
 refine ⟨h2.bl, World.ownsRow_made W #[] 0 h.bl.size (by decide) rfl, h2.o2, fun g e => ⟨(h2.en g e).1, fun e2 => ?_⟩⟩
 have h3 := (Array.getElem?_eq_some_iff.1 (h.en g e).1).1
 have e3 : W.heap.size = g := by simpa [Value.ownBlock] using e2
 omega
theorem GA.b2 (h : GA w0 eC v1 m1 l1 v2 m2 l2 k2 W) : GA w0 eC v1 m1 l1 (.slice (some ⟨W.heap.size, 0, none⟩) 0 0) 0 [] k2 (W.alloc (.cells #[] 5)) := by
 have h2 := h.al (.cells #[] 5)
 exact ⟨h2.bl, h2.o1, World.ownsRow_made W #[] 0 h.bl.size (by decide) rfl, h2.en⟩
theorem GA.be (h : GA w0 eC v1 m1 l1 v2 m2 l2 k2 W) : GA w0 eC v1 m1 l1 v2 m2 l2 (some W.heap.size) (W.alloc (.cells eC 44)) := by
 have h2 := h.al (.cells eC 44)
 refine ⟨h2.bl, h2.o1, h2.o2, fun g e => ?_⟩
 cases e
 refine ⟨heap_alloc_new W _, fun e => ?_⟩
 have := (own_blk h.o1 e).2.1
 omega
theorem below_grown6 {B B0 k n : Nat} {e : TypeId} {v : Value} {xs : List Value} {w0 w w' : World} (h : Below B0 w0 w) (ho : w.ownsRow B e k v n xs) (g : w.grownBy w' v.ownBlock) (hB : B0 ≤ w.heap.size) (hBB : B0 ≤ B) : Below B0 w0 w' := below_grown h ho g hB hBB
theorem GA.a1 {g0 c0 g c m' : Nat} {l' : List Value} (h : GA w0 eC (.slice (some ⟨g0, 0, none⟩) m1 c0) m1 l1 v2 m2 l2 k2 W) (ho : W'.ownsRow w0.heap.size 44 16 (.slice (some ⟨g, 0, none⟩) m' c) m' l') (hg : W.grownBy W' (some g0)) (hq : g = g0 ∨ g = W.heap.size) :
  GA w0 eC (.slice (some ⟨g, 0, none⟩) m' c) m' l' v2 m2 l2 k2 W' := by
 obtain ⟨hb1, hlt, cs, hcs⟩ := own_blk h.o1 (g := g0) rfl
 refine ⟨below_grown6 h.bl h.o1 hg h.bl.size (Nat.le_refl _), ho, own_same6 h.o2 fun b hb => hg.block b (own_blk h.o2 hb).2.1 fun e => ?_, fun k e => ⟨(hg.block k (Array.getElem?_eq_some_iff.1 (h.en k e).1).1 fun e2 => (h.en k e).2 e2.symm).trans (h.en k e).1, fun e2 => ?_⟩⟩
 ·obtain ⟨_, _, cs', h3⟩ := own_blk h.o2 hb
  cases e
  rw [hcs] at h3
  cases h3
 ·have e3 : g = k := by simpa [Value.ownBlock] using e2
  have hk := (Array.getElem?_eq_some_iff.1 (h.en k e).1).1
  rcases hq with rfl | rfl
  ·exact (h.en k e).2 (by rw [← e3]; rfl)
  ·omega
theorem GA.a2 {g0 c0 g c m' : Nat} {l' : List Value} (h : GA w0 eC v1 m1 l1 (.slice (some ⟨g0, 0, none⟩) m2 c0) m2 l2 k2 W) (ho : W'.ownsRow w0.heap.size 5 1 (.slice (some ⟨g, 0, none⟩) m' c) m' l') (hg : W.grownBy W' (some g0)) :
  GA w0 eC v1 m1 l1 (.slice (some ⟨g, 0, none⟩) m' c) m' l' k2 W' := by
 obtain ⟨hb1, hlt, cs, hcs⟩ := own_blk h.o2 (g := g0) rfl
 refine ⟨below_grown6 h.bl h.o2 hg h.bl.size (Nat.le_refl _), own_same6 h.o1 fun b hb => hg.block b (own_blk h.o1 hb).2.1 fun e => ?_, ho, fun k e => ⟨(hg.block k (Array.getElem?_eq_some_iff.1 (h.en k e).1).1 fun e2 => ?_).trans (h.en k e).1, (h.en k e).2⟩⟩
 ·obtain ⟨_, _, cs', h3⟩ := own_blk h.o1 hb
  cases e
  rw [hcs] at h3
  cases h3
 ·have h3 := (h.en k e).1
  cases e2
  rw [hcs] at h3
  cases h3
end
def GaS (q bx : Nat) (qC eC : Array Value) (k : Bool) (W : World) : Prop := match k with
 | true => W.heap[q]? = some (.cells qC 61 (0, 0))
 | false => W.heap[bx]? = some (.cells eC 44 (0, 0))
def GaT (k : Bool) (j : Nat) : Bool := match k with
 | true => j == 21 || j == 24
 | false => false
theorem GA.s {q bx : Nat} {qC eC : Array Value} {w0 W : World} {v1 v2 : Value} {m1 m2 : Nat} {l1 l2 : List Value} {k2 : Option Nat} (h : GA w0 eC v1 m1 l1 v2 m2 l2 k2 W) (h0 : ∀ k, GaS q bx qC eC k w0) (k : Bool) : GaS q bx qC eC k W := by
 cases k with
 | true => exact (h.bl.block q (Array.getElem?_eq_some_iff.1 (h0 true)).1).trans (h0 true)
 | false => exact (h.bl.block bx (Array.getElem?_eq_some_iff.1 (h0 false)).1).trans (h0 false)
theorem GaS.st {q bx : Nat} {qC eC : Array Value} {W : World} (h : GaS q bx qC eC false W) (hq : W.heap[q]? = some (.cells qC 61 (0, 0))) (i : Nat) (u : Value) : GaS q bx qC eC false (W.setCell ⟨q, i, none⟩ u) :=
 (Below.heap_setCell W ⟨q, i, none⟩ u bx (by
   rintro rfl
   have h' : W.heap[bx]? = _ := h
   rw [hq] at h'
   cases h')).trans h
theorem ga_fin {w0 W : World} {eC : Array Value} {q : Nat} {lv av : Value} {P : Nat → Prop} {t : Rt} {g1 c1 g2 c2 : Nat} {newsL : List Value} {eL : List Value} {L : List Int} {k2 : Option Nat}
  (h : GA w0 eC (.slice (some ⟨g1, 0, none⟩) (t.n + 1) c1) (t.n + 1) (newsL ++ eL) (.slice (some ⟨g2, 0, none⟩) (t.S.length + L.length) c2) (t.S.length + L.length) (byteV (t.S ++ L)) k2 W) (hr : RtAt w0 q lv av P t) (hL : bytesOk L) (hPw : ∀ b, P b → b < w0.heap.size)
  (hlen : ((t.S.length + L.length : Nat) : Int) ≤ 63 * t.tiles) (h1 : newsL.length = t.n * 16) (h2 : ∀ u ∈ newsL, u.oneCell' = true) (h3 : eL.length = 16) (h4 : ∀ u ∈ eL, u.oneCell' = true) :
  RtAt ((W.setCell ⟨q, 3, none⟩ (.slice (some ⟨g1, 0, none⟩) (t.n + 1) c1)).setCell ⟨q, 4, none⟩ (.slice (some ⟨g2, 0, none⟩) (t.S.length + L.length) c2)) q (.slice (some ⟨g1, 0, none⟩) (t.n + 1) c1) (.slice (some ⟨g2, 0, none⟩) (t.S.length + L.length) c2) P { t with n := t.n + 1, S := t.S ++ L } ∧
   Fr w0.heap.size (fun b => b = q) w0 ((W.setCell ⟨q, 3, none⟩ (.slice (some ⟨g1, 0, none⟩) (t.n + 1) c1)).setCell ⟨q, 4, none⟩ (.slice (some ⟨g2, 0, none⟩) (t.S.length + L.length) c2)) := by
 have hq0 := (Array.getElem?_eq_some_iff.1 hr.bx).1
 have hq := (h.bl.block q hq0).trans hr.bx
 obtain ⟨b1, l1, cs1, e1⟩ := own_blk h.o1 (g := g1) rfl
 obtain ⟨b2, l2, cs2, e2⟩ := own_blk h.o2 (g := g2) rfl
 have n1 : g1 ≠ q := by omega
 have n2 : g2 ≠ q := by omega
 have k1 : ∀ b, b ≠ q → ((W.setCell ⟨q, 3, none⟩ (.slice (some ⟨g1, 0, none⟩) (t.n + 1) c1)).setCell ⟨q, 4, none⟩ (.slice (some ⟨g2, 0, none⟩) (t.S.length + L.length) c2)).heap[b]? = W.heap[b]? := fun b hb =>
  (Below.heap_setCell _ ⟨q, 4, none⟩ _ b hb).trans (Below.heap_setCell _ ⟨q, 3, none⟩ _ b hb)
 have k2 := heap_setCell_same W q 3 _ _ (.slice (some ⟨g1, 0, none⟩) (t.n + 1) c1) hq
 have k3 := heap_setCell_same _ q 4 _ _ (.slice (some ⟨g2, 0, none⟩) (t.S.length + L.length) c2) k2
 have o1 := own_same6 h.o1 (w' := (W.setCell ⟨q, 3, none⟩ (.slice (some ⟨g1, 0, none⟩) (t.n + 1) c1)).setCell ⟨q, 4, none⟩ (.slice (some ⟨g2, 0, none⟩) (t.S.length + L.length) c2)) fun b hb => k1 b (by cases hb; exact n1)
 have o2 := own_same6 h.o2 (w' := (W.setCell ⟨q, 3, none⟩ (.slice (some ⟨g1, 0, none⟩) (t.n + 1) c1)).setCell ⟨q, 4, none⟩ (.slice (some ⟨g2, 0, none⟩) (t.S.length + L.length) c2)) fun b hb => k1 b (by cases hb; exact n2)
 have f : Fr w0.heap.size (fun b => b = q) w0 W := fr_of_below h.bl
 refine ⟨⟨k3, ⟨newsL ++ eL, ?_, by rw [List.length_append, h1, h3]; show _ = (t.n + 1) * 16; omega, fun u hu => (List.mem_append.1 hu).elim (h2 u) (h4 u)⟩, ?_, hr.f0, hr.f1, hr.t0, hr.t1, by show ((t.S ++ L).length : Int) ≤ _; rw [List.length_append]; exact hlen, ?_, ?_⟩, (f.setCell (p := ⟨q, 3, none⟩) (.inl rfl) _).setCell (p := ⟨q, 4, none⟩) (.inl rfl) _⟩
 ·rcases o1.2 with ⟨e, _⟩ | ⟨g, cap, cur, e, hb, hg, hle, hm, hsz, htake⟩
  ·cases e
  ·cases e
   refine .inr ⟨_, _, rfl, fun j u hu => ?_⟩
   rw [add_more, Nat.zero_add, (c_o hg j).1]
   rw [← htake, List.getElem?_take] at hu
   split at hu
   ·simpa using hu
   ·cases hu
 ·have := own_slK o2 (l := t.S ++ L) (fun x hx => (List.mem_append.1 hx).elim (hr.all.ok x) (hL x))
  exact this
 ·intro a n c e _ hp
  cases e
  have := hPw _ hp
  have h5 : g1 < w0.heap.size := this
  omega
 ·intro a n c e _ hp
  cases e
  have h5 : g2 < w0.heap.size := hPw _ hp
  omega
theorem frz {W : World} {q : Nat} {cs : Array Value} {t : TypeId} (h : W.heap[q]? = some (.cells cs t (0, 0))) (i : Nat) : W.frozen? ⟨q, i, none⟩ = false := (c_o h i).2
theorem RtAt.lsh {w : World} {q : Nat} {lv av : Value} {P : Nat → Prop} {t : Rt} (h : RtAt w q lv av P t) : ∃ A c, lv = .slice A t.n c := by
 obtain ⟨news, h1, _⟩ := h.row
 rcases h1 with ⟨c, h1, h2, _⟩ | ⟨ad, c, h1, _⟩
 ·exact ⟨none, c, by rw [h1, h2]⟩
 ·exact ⟨_, c, h1⟩
def RapPost (w : World) (q : Nat) (lv av : Value) (P : Nat → Prop) (t : Rt) (L : List Int) (r : Ending) (w' : World) : Prop :=
 (L = [] ∧ r = .returned (.tuple #[.int .i64 0, .int .i64 1]) ∧ RtAt w' q lv av P t ∧ Below w.heap.size w w') ∨
 (L ≠ [] ∧ 63 * t.tiles < ((t.S.length + L.length : Nat) : Int) ∧ r = .returned (.tuple #[.int .i64 0, .int .i64 5]) ∧ RtAt w' q lv av P t ∧ Below w.heap.size w w') ∨
 (L ≠ [] ∧ ((t.S.length + L.length : Nat) : Int) ≤ 63 * t.tiles ∧ r = .returned (.tuple #[.int .i64 ((t.n + 1 : Nat) : Int), .int .i64 0]) ∧ ∃ lv' av', RtAt w' q lv' av' P { t with n := t.n + 1, S := t.S ++ L } ∧ Fr w.heap.size (fun b => b = q) w w')
set_option maxHeartbeats 8000000 in
theorem rapp_core (w : World) {q : Nat} {lv av : Value} {P : Nat → Prop} {t : Rt} {L : List Int} {y0 y1 y2 y3 y4 y5 y6 y7 y8 y9 y10 y11 y12 y13 y14 y15 : Value} (h : RtAt w q lv av P t) (hn : t.n ≤ 2000) (hPw : ∀ b, P b → b < w.heap.size) (hL : bytesOk L) (hy : ∀ u ∈ ([y0, y1, y2, y3, y4, y5, y6, y7, y8, y9, y10, y11, y12, y13, y14, y15] : List Value), u.oneCell' = true)
  (hF : ∀ W, Below w.heap.size w W → Calls Tryz.prog 30 #[.agg #[y0, y1, y2, y3, y4, y5, y6, y7, y8, y9, y10, y11, y12, y13, y14, y15]] W fun r w' => ∃ A m c, r = .returned (.slice A m c) ∧ w'.ownsRow W.heap.size 5 1 (.slice A m c) L.length (byteV L) ∧ Below W.heap.size W w') :
  Calls Tryz.prog 13 #[.pointer (some ⟨q, 0, none⟩), .agg #[y0, y1, y2, y3, y4, y5, y6, y7, y8, y9, y10, y11, y12, y13, y14, y15]] w (RapPost w q lv av P t L) := by
 obtain ⟨ii, hi, hz0, hz1, hz2⟩ := info_parts infoEntA
 obtain ⟨iu, hiu, hzu, hyu, hxu⟩ := info_parts infoU8
 obtain ⟨bx, hbx⟩ : ∃ b, b = w.heap.size := ⟨_, rfl⟩
 obtain ⟨w1, hw1⟩ : ∃ W, W = w.alloc (.cells #[y0, y1, y2, y3, y4, y5, y6, y7, y8, y9, y10, y11, y12, y13, y14, y15] 44) := ⟨_, rfl⟩
 have hb1 : Below w.heap.size w w1 := by rw [hw1]; exact (Below.refl _ _).alloc (Nat.le_refl _) _
 have hc1 : w1.heap[bx]? = some (.cells #[y0, y1, y2, y3, y4, y5, y6, y7, y8, y9, y10, y11, y12, y13, y14, y15] 44 (0, 0)) := by rw [hw1, hbx]; exact heap_alloc_new w _
 have HF := Lib.hid (hF w1 hb1)
 have HB1 := Lib.hid hb1
 have HC1 := Lib.hid hc1
 have HH := Lib.hid h
 have HPW := Lib.hid hPw
 have HOL := Lib.hid hL
 have HY := Lib.hid hy
 have HIN : Hid ((Tryz.prog.info? 44).map (·.size) = some (#[y0, y1, y2, y3, y4, y5, y6, y7, y8, y9, y10, y11, y12, y13, y14, y15] : Array Value).size) := Lib.hid infoEnt
 clear hF hb1 hc1 h hPw hL hy
 go_enter Tryz.func13, Tryz.ntmps13
 go_upto_region 1 with (fail)
 rw [← hw1, ← hbx]
 clear hw1
 go_wp2_with (with_reducible refine wpList_load_row rfl 44 (.tmp 3) rfl bx rfl 44 _ (0, 0) _ HC1.out Tryz.underlying44 rfl HIN.out ?_)
 refine HF.out.mono ?_
 rintro r w2 ⟨A, m, c, rfl, ho, hb2⟩
 have hm := own_n ho
 subst hm
 have hS : SlK .u8 w2 (.slice A L.length c) L := own_slK ho HOL.out
 have HS2 := Lib.hid hS
 have HB2 := Lib.hid (HB1.out.trans (hb2.mono HB1.out.size))
 have HC2 : Hid (w2.heap[bx]? = some (.cells #[y0, y1, y2, y3, y4, y5, y6, y7, y8, y9, y10, y11, y12, y13, y14, y15] 44 (0, 0))) := Lib.hid ((hb2.block bx (Array.getElem?_eq_some_iff.1 HC1.out).1).trans HC1.out)
 have HR2 := Lib.hid (HH.out.kept HB2.out)
 have HLE := Lib.hid (rleft_any w2 HR2.out)
 have hlen := HH.out.len
 have ht0 := HH.out.t0
 have ht1 := HH.out.t1
 clear hS ho hb2 HB1 HC1 HF
 by_cases hL0 : L.length = 0
 ·have HE : Hid (RapPost w q lv av P t L (.returned (.tuple #[.int .i64 0, .int .i64 1])) w2) := Lib.hid (.inl ⟨List.eq_nil_of_length_eq_zero hL0, rfl, HR2.out, HB2.out⟩)
  rw [hL0]
  clear hlen ht0 ht1 hL0 hn HLE
  go_wp2
  go_ret2
  exact HE.out
 ·have hLi : ¬ ((L.length : Int) = 0) := by omega
  have HLN : Hid (L ≠ []) := Lib.hid fun e => hL0 (by rw [e]; rfl)
  go_upto_region 4 with (fail)
  go_cut [16] (fun v wx => v = .bool (decide (63 * t.tiles < ((t.S.length + L.length : Nat) : Int))) ∧ Below w2.heap.size w2 wx)
  case first =>
   obtain ⟨LN, hLN⟩ : ∃ n, n = L.length := ⟨_, rfl⟩
   rw [← hLN] at hL0 hLi ⊢
   clear hi hz0 hz1 hz2 hiu hzu hyu hxu
   go_wp2_with (go_at_call 28; refine HLE.out.mono ?_; rintro e w3 ⟨rfl, hb3⟩; have HB3 := Lib.hid hb3; clear hb3)
   go_meet
   refine ⟨?_, HB3.out⟩
   congr 1
   apply decide_eq_decide.2
   omega
  case rest =>
   obtain ⟨rfl, hb3⟩ := hcut
   generalize wc = w3 at *
   have HR3 := Lib.hid (HR2.out.kept hb3)
   have HB3 := Lib.hid (HB2.out.trans (hb3.mono HB2.out.size))
   have HC3 : Hid (w3.heap[bx]? = some (.cells #[y0, y1, y2, y3, y4, y5, y6, y7, y8, y9, y10, y11, y12, y13, y14, y15] 44 (0, 0))) := Lib.hid ((hb3.block bx (Array.getElem?_eq_some_iff.1 HC2.out).1).trans HC2.out)
   have HS3 := Lib.hid (HS2.out.below hb3 (Nat.le_refl _))
   clear hb3 HS2 HC2 HR2 HLE
   by_cases hfull : 63 * t.tiles < ((t.S.length + L.length : Nat) : Int)
   ·have HE : Hid (RapPost w q lv av P t L (.returned (.tuple #[.int .i64 0, .int .i64 5])) w3) := Lib.hid (.inr (.inl ⟨HLN.out, hfull, rfl, HR3.out, HB3.out⟩))
    rw [decide_eq_true hfull]
    clear hlen ht0 ht1 hL0 hLi hn hfull
    go_wp2
    go_ret2
    exact HE.out
   ·rw [decide_eq_false hfull]
    have hfit : ((t.S.length + L.length : Nat) : Int) ≤ 63 * t.tiles := by omega
    have HFit := Lib.hid hfit
    have hSn : t.S.length + L.length ≤ 200000 := by omega
    go_upto_region 6 with (fail)
    go_cut [] (fun wx => ∃ lv' av', RtAt wx q lv' av' P { t with n := t.n + 1, S := t.S ++ L } ∧ Fr w.heap.size (fun b => b = q) w wx)
    case rest =>
     obtain ⟨lv', av', hR, hFr⟩ := hcut
     generalize wc = w4 at *
     obtain ⟨A', c', rfl⟩ := hR.lsh
     have x3 : w4.cell? ⟨q, 3, none⟩ = some (.slice A' (t.n + 1) c') := hR.c 3
     have HE : Hid (RapPost w q lv av P t L (.returned (.tuple #[.int .i64 ((t.n + 1 : Nat) : Int), .int .i64 0])) w4) := Lib.hid (.inr (.inr ⟨HLN.out, HFit.out, rfl, _, av', hR, hFr⟩))
     clear hR hFr hlen ht0 ht1 hL0 hLi hfull hfit hSn
     obtain ⟨N1, hN1⟩ : ∃ N, N = t.n + 1 := ⟨_, rfl⟩
     rw [← hN1] at x3 HE
     have hN2 : N1 ≤ 3000 := by omega
     clear hN1 hn
     go_wp2
     go_ret2
     exact HE.out
    case first =>
     try rw [← hbx]
     have hq3 := HR3.out.bx
     have HBd := Lib.hid (HB3.out.trans ((Below.refl w3.heap.size w3).drew.mono HB3.out.size))
     have HRd : Hid (RtAt w3.drew q lv av P t) := Lib.hid (HR3.out.kept (Below.refl _ _).drew)
     have HCd : Hid (w3.drew.heap[bx]? = some (.cells #[y0, y1, y2, y3, y4, y5, y6, y7, y8, y9, y10, y11, y12, y13, y14, y15] 44 (0, 0))) := Lib.hid HC3.out
     have HSd := Lib.hid (HS3.out.below (Below.refl _ _).drew (Nat.le_refl _))
     obtain ⟨newsL, hnw, hnl, hno⟩ := HRd.out.row
     have HNW := Lib.hid hnw
     have HNL := Lib.hid hnl
     have HNO := Lib.hid hno
     clear hq3 hnw hnl hno HR3 HB3 HC3 HS3
     refine wp_region_F (GaS q bx #[.pointer (some ⟨t.r, 0, none⟩), .int .i64 t.first, .int .i64 t.tiles, lv, av, .int .i64 t.steady] #[y0, y1, y2, y3, y4, y5, y6, y7, y8, y9, y10, y11, y12, y13, y14, y15]) GaT (by kernel_rfl) ?_
     generalize w3.drew = W0 at *
     have HS0 : Hid (∀ k, GaS q bx #[.pointer (some ⟨t.r, 0, none⟩), .int .i64 t.first, .int .i64 t.tiles, lv, av, .int .i64 t.steady] #[y0, y1, y2, y3, y4, y5, y6, y7, y8, y9, y10, y11, y12, y13, y14, y15] k W0) := Lib.hid fun k => by
      cases k with
      | true => exact HRd.out.bx
      | false => exact HCd.out
     have G0 : Hid (GA W0 #[y0, y1, y2, y3, y4, y5, y6, y7, y8, y9, y10, y11, y12, y13, y14, y15] (.slice none 0 0) 0 [] (.slice none 0 0) 0 [] none W0) := Lib.hid ⟨Below.refl _ _, World.ownsRow_nil _ _ _ _, World.ownsRow_nil _ _ _ _, fun g e => by cases e⟩
     have HSA := Lib.hid (src_slK HRd.out.all)
     have HSF := Lib.hid (src_slK HSd.out)
     have hn16 : t.n + 1 ≤ 3000 := by omega
     clear hlen ht0 ht1 hL0 hLi hfull hfit
     refine tF0 (i := 0) (v := ?_) rfl ?_ ?_
     rotate_left;(focus intro W _;go_simp;try with_reducible rfl);rotate_left;try simp only[Act.put,zq]
     refine tF0 (i := 1) (v := ?_) rfl ?_ ?_
     rotate_left;(focus intro W _;go_simp;try with_reducible rfl);rotate_left;try simp only[Act.put,zq]
     refine tF0 (i := 3) (v := ?_) rfl ?_ ?_
     rotate_left;(focus intro W _;go_simp;try with_reducible rfl);rotate_left;try simp only[Act.put,zq]
     refine tF0 (i := 4) (v := ?_) rfl ?_ ?_
     rotate_left;(focus intro W _;go_simp;try with_reducible rfl);rotate_left;try simp only[Act.put,zq]
     refine tF0 (i := 5) (v := ?_) rfl ?_ ?_
     rotate_left;(focus intro W _;go_simp;try with_reducible rfl);rotate_left;try simp only[Act.put,zq]
     refine wpAnyF_take true (i := 6) (oi := ⟨_,_,_,_,_,_⟩) (v := lv) rfl (by kernel_rfl) (by kernel_rfl) (by kernel_rfl) (by kernel_rfl) (fun _ _ _ h => h) (G0.out.s HS0.out true) (Or.inl ⟨by rfl, fun W hSW => ?_⟩) ?_
     ·have hS : W.cell? ⟨q, 3, none⟩ = some lv := (c_o hSW 3).1
      go_simp
     try simp only[Act.put,zq]
     refine wpAnyF_take false (i := 8) (oi := ⟨_,_,_,_,_,_⟩) (v := .agg #[y0, y1, y2, y3, y4, y5, y6, y7, y8, y9, y10, y11, y12, y13, y14, y15]) rfl (by kernel_rfl) (by kernel_rfl) (by kernel_rfl) (by kernel_rfl) (fun _ _ _ h => h) (G0.out.s HS0.out false) (Or.inl ⟨by rfl, fun W hSW => ?_⟩) ?_
     ·exact held_row 44 (.tmp 3) (by rfl) bx (by rfl) 44 _ (0, 0) _ hSW Tryz.underlying44 rfl HIN.out
     try simp only[Act.put,zq]
     refine tF0 (i := 12) (v := ?_) rfl ?_ ?_
     rotate_left;(focus intro W _;go_simp;try with_reducible rfl);rotate_left;try simp only[Act.put,zq]
     refine tF0 (i := 13) (v := ?_) rfl ?_ ?_
     rotate_left;(focus intro W _;go_simp;try with_reducible rfl);rotate_left;try simp only[Act.put,zq]
     refine tF0 (i := 14) (v := ?_) rfl ?_ ?_
     rotate_left;(focus intro W _;go_simp;try with_reducible rfl);rotate_left;try simp only[Act.put,zq]
     refine wpAnyF_take true (i := 15) (oi := ⟨_,_,_,_,_,_⟩) (v := av) rfl (by kernel_rfl) (by kernel_rfl) (by kernel_rfl) (by kernel_rfl) (fun _ _ _ h => h) (G0.out.s HS0.out true) (Or.inl ⟨by rfl, fun W hSW => ?_⟩) ?_
     ·have hS : W.cell? ⟨q, 4, none⟩ = some av := (c_o hSW 4).1
      go_simp
     try simp only[Act.put,zq]
     refine tF0 (i := 17) (v := ?_) rfl ?_ ?_
     rotate_left;(focus intro W _;go_simp;try with_reducible rfl);rotate_left;try simp only[Act.put,zq]
     refine rdF (rs := [2, 9, 11]) (by kernel_rfl) (by simp) ?_
     refine cF2 rfl (fun K hK => ?_) (AllReadyF.cons (o := ⟨_,_,_,_,_,_⟩) rfl (fun K hK => ?_) (AllReadyF.cons (o := ⟨_,_,_,_,_,_⟩) rfl (fun K hK => ?_) (AllReadyF.nil)))
     ·go_simp
      refine hK.out _ _ (fun k _ _ => G0.out.b1.s HS0.out k) ?_
      clear hK K
      try simp only[Act.put,zq]
      have G1 := Lib.hid G0.out.b1
      generalize W0.alloc (.cells #[] 44) = W1 at *
      generalize W0.heap.size = k1 at *
      clear G0
      refine rdF (rs := [7, 9, 11]) (by kernel_rfl) (by simp) ?_
      refine cF2 rfl (fun K hK => ?_) (AllReadyF.cons (o := ⟨_,_,_,_,_,_⟩) rfl (fun K hK => ?_) (AllReadyF.cons (o := ⟨_,_,_,_,_,_⟩) rfl (fun K hK => ?_) (AllReadyF.nil)))
      ·obtain ⟨g2, c2, W2, hr, ho, hg, hq⟩ := app_srcL (P := Tryz.prog) W1 W0.heap.size 29 29 44 ii _ 16 224 Tryz.underlying29 hi hz0 hz1 hz2 rfl (by decide) k1 0 0 [] G1.out.o1 lv t.n newsL (HNW.out.up G1.out.bl) HNL.out HNO.out (by unfold maxLen; omega) (by omega) G1.out.bl.size t.n (by omega) newsL rfl
       rw [if_pos (by rfl)]
       refine Lib.wp_append_run _ (.tmp 19) (.tmp 23) 29 29 rfl _ _ rfl rfl _ _ hr ?_
       have G2 := Lib.hid (G1.out.a1 ho hg hq)
       refine hK.out _ _ (fun k _ _ => G2.out.s HS0.out k) ?_
       clear hK K hr ho hg hq G1
       try simp only[Act.put,zq]
       refine rdF (rs := [9, 11]) (by kernel_rfl) (by simp) ?_
       refine cF2 rfl (fun K hK => ?_) (AllReadyF.cons (o := ⟨_,_,_,_,_,_⟩) rfl (fun K hK => ?_) (AllReadyF.nil))
       ·go_simp
        refine hK.out _ _ (fun k _ _ => G2.out.be.s HS0.out k) ?_
        clear hK K
        try simp only[Act.put,zq]
        have G3 := Lib.hid G2.out.be
        generalize W2.alloc (.cells #[y0, y1, y2, y3, y4, y5, y6, y7, y8, y9, y10, y11, y12, y13, y14, y15] 44) = W3 at *
        generalize W2.heap.size = k3 at *
        clear G2
        refine rdF (rs := [10, 11]) (by kernel_rfl) (by simp) ?_
        refine cF2 rfl (fun K hK => ?_) (AllReadyF.cons (o := ⟨_,_,_,_,_,_⟩) rfl (fun K hK => ?_) (AllReadyF.nil))
        ·obtain ⟨g4, c4, W4, hr, ho, hg, hq⟩ := app_srcL (P := Tryz.prog) W3 W0.heap.size 29 29 44 ii _ 16 224 Tryz.underlying29 hi hz0 hz1 hz2 rfl (by decide) g2 c2 t.n newsL G3.out.o1 (.slice (some ⟨k3, 0, none⟩) 1 1) 1 [y0, y1, y2, y3, y4, y5, y6, y7, y8, y9, y10, y11, y12, y13, y14, y15] (src_blk (G3.out.en _ rfl).1) rfl HY.out (by unfold maxLen; omega) (by omega) G3.out.bl.size (t.n + 1) rfl (newsL ++ [y0, y1, y2, y3, y4, y5, y6, y7, y8, y9, y10, y11, y12, y13, y14, y15]) rfl
         rw [if_pos (by rfl)]
         refine Lib.wp_append_run _ (.tmp 24) (.tmp 26) 29 29 rfl _ _ rfl rfl _ _ hr ?_
         have G4 := Lib.hid (G3.out.a1 ho hg hq)
         refine hK.out _ _ (fun k _ _ => G4.out.s HS0.out k) ?_
         clear hK K hr ho hg hq G3
         try simp only[Act.put,zq]
         refine rdF (rs := [11]) (by kernel_rfl) (by simp) ?_
         refine cF1 rfl fun K hK => ?_
         go_simp
         refine hK.out _ _ (fun k _ _ => G4.out.b2.s HS0.out k) ?_
         clear hK K
         try simp only[Act.put,zq]
         have G5 := Lib.hid G4.out.b2
         generalize W4.alloc (.cells #[] 5) = W5 at *
         generalize W4.heap.size = k5 at *
         clear G4
         refine rdF (rs := [16]) (by kernel_rfl) (by simp) ?_
         refine cF1 rfl fun K hK => ?_
         obtain ⟨g6, c6, W6, hr, ho, hg, hq⟩ := app_srcL (P := Tryz.prog) W5 W0.heap.size 36 36 5 iu _ 1 1 Tryz.underlying36 hiu hzu hyu hxu rfl (by decide) k5 0 0 [] G5.out.o2 av t.S.length (byteV t.S) (HSA.out.up G5.out.bl) (by simp [byteV]) (one_byteV _) (by unfold maxLen; omega) (by omega) G5.out.bl.size t.S.length (by omega) (byteV t.S) rfl
         rw [if_pos (by rfl)]
         refine Lib.wp_append_run _ (.tmp 28) (.tmp 32) 36 36 rfl _ _ rfl rfl _ _ hr ?_
         have G6 := Lib.hid (G5.out.a2 ho hg)
         refine hK.out _ _ (fun k _ _ => G6.out.s HS0.out k) ?_
         clear hK K hr ho hg hq G5
         try simp only[Act.put,zq]
         refine rdF (rs := [18]) (by kernel_rfl) (by simp) ?_
         refine cF1 rfl fun K hK => ?_
         obtain ⟨g7, c7, W7, hr, ho, hg, hq⟩ := app_srcL (P := Tryz.prog) W6 W0.heap.size 36 36 5 iu _ 1 1 Tryz.underlying36 hiu hzu hyu hxu rfl (by decide) g6 c6 t.S.length (byteV t.S) G6.out.o2 (.slice A L.length c) L.length (byteV L) (HSF.out.up G6.out.bl) (by simp [byteV]) (one_byteV _) (by unfold maxLen; omega) (by omega) G6.out.bl.size (t.S.length + L.length) rfl (byteV (t.S ++ L)) (by simp [byteV])
         rw [if_pos (by rfl)]
         refine Lib.wp_append_run _ (.tmp 33) (.tmp 34) 36 36 rfl _ _ rfl rfl _ _ hr ?_
         have G7 := Lib.hid (G6.out.a2 ho hg)
         refine hK.out _ _ (fun k _ _ => G7.out.s HS0.out k) ?_
         clear hK K hr ho hg hq G6
         try simp only[Act.put,zq]
         refine tF0 (i := 19) (v := ?_) rfl ?_ ?_
         rotate_left;(focus intro W _;go_simp;try with_reducible rfl);rotate_left;try simp only[Act.put,zq]
         refine tF0 (i := 20) (v := ?_) rfl ?_ ?_
         rotate_left;(focus intro W _;go_simp;try with_reducible rfl);rotate_left;try simp only[Act.put,zq]
         refine rdF (rs := [21]) (by kernel_rfl) (by simp) ?_
         refine cF1 rfl fun K hK => ?_
         have hq1 : W7.heap[q]? = some (.cells #[.pointer (some ⟨t.r, 0, none⟩), .int .i64 t.first, .int .i64 t.tiles, lv, av, .int .i64 t.steady] 61 (0, 0)) := G7.out.s HS0.out true
         have hca1 : W7.cell? ⟨q, 3, none⟩ = some lv := (c_o hq1 3).1
         have hca2 := frz hq1 3
         have HQ1 := Lib.hid hq1
         clear hq1
         go_simp
         refine hK.out _ _ (fun k hT _ => by
          cases k with
          | true => cases hT
          | false => exact GaS.st (G7.out.s HS0.out false) HQ1.out 3 _) ?_
         clear hK K hca1 hca2
         try simp only[Act.put,zq]
         refine tF0 (i := 22) (v := ?_) rfl ?_ ?_
         rotate_left;(focus intro W _;go_simp;try with_reducible rfl);rotate_left;try simp only[Act.put,zq]
         refine tF0 (i := 23) (v := ?_) rfl ?_ ?_
         rotate_left;(focus intro W _;go_simp;try with_reducible rfl);rotate_left;try simp only[Act.put,zq]
         refine rdF (rs := [24]) (by kernel_rfl) (by simp) ?_
         refine cF1 rfl fun K hK => ?_
         have HQ2 := Lib.hid (heap_setCell_same W7 q 3 _ _ (.slice (some ⟨g4, 0, none⟩) (t.n + 1) c4) HQ1.out)
         have hcb1 : (W7.setCell ⟨q, 3, none⟩ (.slice (some ⟨g4, 0, none⟩) (t.n + 1) c4)).cell? ⟨q, 4, none⟩ = some av := (c_o HQ2.out 4).1
         have hcb2 := frz HQ2.out 4
         go_simp
         refine hK.out _ _ (fun k hT _ => by
          cases k with
          | true => cases hT
          | false => exact GaS.st (qC := #[.pointer (some ⟨t.r, 0, none⟩), .int .i64 t.first, .int .i64 t.tiles, lv, av, .int .i64 t.steady].setIfInBounds 3 (.slice (some ⟨g4, 0, none⟩) (t.n + 1) c4)) (GaS.st (G7.out.s HS0.out false) HQ1.out 3 _) HQ2.out 4 _) ?_
         clear hK K hcb1 hcb2
         try simp only[Act.put,zq]
         refine wpAnyF_done (by kernel_rfl) ?_ _
         have hf := ga_fin G7.out HRd.out HOL.out (fun b hb => Nat.lt_of_lt_of_le (HPW.out b hb) HBd.out.size) HFit.out HNL.out HNO.out rfl HY.out
         have HFI := Lib.hid (And.intro hf.1 ((fr_of_below (S := fun b => b = q) HBd.out).trans hf.2 HBd.out.size (fun _ _ e => e)))
         clear hf
         go_wp2_with fail
         go_meet
         exact ⟨_, _, HFI.out⟩
        ·go_simp
         refine hK.out _ _ (fun k _ _ => G3.out.b2.s HS0.out k) ?_
         clear hK K
         try simp only[Act.put,zq]
         have G8 := Lib.hid G3.out.b2
         generalize W3.alloc (.cells #[] 5) = W8 at *
         generalize W3.heap.size = k8 at *
         clear G3
         refine rdF (rs := [10]) (by kernel_rfl) (by simp) ?_
         refine cF1 rfl fun K hK => ?_
         obtain ⟨g9, c9, W9, hr, ho, hg, hq⟩ := app_srcL (P := Tryz.prog) W8 W0.heap.size 29 29 44 ii _ 16 224 Tryz.underlying29 hi hz0 hz1 hz2 rfl (by decide) g2 c2 t.n newsL G8.out.o1 (.slice (some ⟨k3, 0, none⟩) 1 1) 1 [y0, y1, y2, y3, y4, y5, y6, y7, y8, y9, y10, y11, y12, y13, y14, y15] (src_blk (G8.out.en _ rfl).1) rfl HY.out (by unfold maxLen; omega) (by omega) G8.out.bl.size (t.n + 1) rfl (newsL ++ [y0, y1, y2, y3, y4, y5, y6, y7, y8, y9, y10, y11, y12, y13, y14, y15]) rfl
         rw [if_pos (by rfl)]
         refine Lib.wp_append_run _ (.tmp 24) (.tmp 26) 29 29 rfl _ _ rfl rfl _ _ hr ?_
         have G9 := Lib.hid (G8.out.a1 ho hg hq)
         refine hK.out _ _ (fun k _ _ => G9.out.s HS0.out k) ?_
         clear hK K hr ho hg hq G8
         try simp only[Act.put,zq]
         refine rdF (rs := [16]) (by kernel_rfl) (by simp) ?_
         refine cF1 rfl fun K hK => ?_
         obtain ⟨g10, c10, W10, hr, ho, hg, hq⟩ := app_srcL (P := Tryz.prog) W9 W0.heap.size 36 36 5 iu _ 1 1 Tryz.underlying36 hiu hzu hyu hxu rfl (by decide) k8 0 0 [] G9.out.o2 av t.S.length (byteV t.S) (HSA.out.up G9.out.bl) (by simp [byteV]) (one_byteV _) (by unfold maxLen; omega) (by omega) G9.out.bl.size t.S.length (by omega) (byteV t.S) rfl
         rw [if_pos (by rfl)]
         refine Lib.wp_append_run _ (.tmp 28) (.tmp 32) 36 36 rfl _ _ rfl rfl _ _ hr ?_
         have G10 := Lib.hid (G9.out.a2 ho hg)
         refine hK.out _ _ (fun k _ _ => G10.out.s HS0.out k) ?_
         clear hK K hr ho hg hq G9
         try simp only[Act.put,zq]
         refine rdF (rs := [18]) (by kernel_rfl) (by simp) ?_
         refine cF1 rfl fun K hK => ?_
         obtain ⟨g11, c11, W11, hr, ho, hg, hq⟩ := app_srcL (P := Tryz.prog) W10 W0.heap.size 36 36 5 iu _ 1 1 Tryz.underlying36 hiu hzu hyu hxu rfl (by decide) g10 c10 t.S.length (byteV t.S) G10.out.o2 (.slice A L.length c) L.length (byteV L) (HSF.out.up G10.out.bl) (by simp [byteV]) (one_byteV _) (by unfold maxLen; omega) (by omega) G10.out.bl.size (t.S.length + L.length) rfl (byteV (t.S ++ L)) (by simp [byteV])
         rw [if_pos (by rfl)]
         refine Lib.wp_append_run _ (.tmp 33) (.tmp 34) 36 36 rfl _ _ rfl rfl _ _ hr ?_
         have G11 := Lib.hid (G10.out.a2 ho hg)
         refine hK.out _ _ (fun k _ _ => G11.out.s HS0.out k) ?_
         clear hK K hr ho hg hq G10
         try simp only[Act.put,zq]
         refine tF0 (i := 19) (v := ?_) rfl ?_ ?_
         rotate_left;(focus intro W _;go_simp;try with_reducible rfl);rotate_left;try simp only[Act.put,zq]
         refine tF0 (i := 20) (v := ?_) rfl ?_ ?_
         rotate_left;(focus intro W _;go_simp;try with_reducible rfl);rotate_left;try simp only[Act.put,zq]
         refine rdF (rs := [21]) (by kernel_rfl) (by simp) ?_
         refine cF1 rfl fun K hK => ?_
         have hq1 : W11.heap[q]? = some (.cells #[.pointer (some ⟨t.r, 0, none⟩), .int .i64 t.first, .int .i64 t.tiles, lv, av, .int .i64 t.steady] 61 (0, 0)) := G11.out.s HS0.out true
         have hca1 : W11.cell? ⟨q, 3, none⟩ = some lv := (c_o hq1 3).1
         have hca2 := frz hq1 3
         have HQ1 := Lib.hid hq1
         clear hq1
         go_simp
         refine hK.out _ _ (fun k hT _ => by
          cases k with
          | true => cases hT
          | false => exact GaS.st (G11.out.s HS0.out false) HQ1.out 3 _) ?_
         clear hK K hca1 hca2
         try simp only[Act.put,zq]
         refine tF0 (i := 22) (v := ?_) rfl ?_ ?_
         rotate_left;(focus intro W _;go_simp;try with_reducible rfl);rotate_left;try simp only[Act.put,zq]
         refine tF0 (i := 23) (v := ?_) rfl ?_ ?_
         rotate_left;(focus intro W _;go_simp;try with_reducible rfl);rotate_left;try simp only[Act.put,zq]
         refine rdF (rs := [24]) (by kernel_rfl) (by simp) ?_
         refine cF1 rfl fun K hK => ?_
         have HQ2 := Lib.hid (heap_setCell_same W11 q 3 _ _ (.slice (some ⟨g9, 0, none⟩) (t.n + 1) c9) HQ1.out)
         have hcb1 : (W11.setCell ⟨q, 3, none⟩ (.slice (some ⟨g9, 0, none⟩) (t.n + 1) c9)).cell? ⟨q, 4, none⟩ = some av := (c_o HQ2.out 4).1
         have hcb2 := frz HQ2.out 4
         go_simp
         refine hK.out _ _ (fun k hT _ => by
          cases k with
          | true => cases hT
          | false => exact GaS.st (qC := #[.pointer (some ⟨t.r, 0, none⟩), .int .i64 t.first, .int .i64 t.tiles, lv, av, .int .i64 t.steady].setIfInBounds 3 (.slice (some ⟨g9, 0, none⟩) (t.n + 1) c9)) (GaS.st (G11.out.s HS0.out false) HQ1.out 3 _) HQ2.out 4 _) ?_
         clear hK K hcb1 hcb2
         try simp only[Act.put,zq]
         refine wpAnyF_done (by kernel_rfl) ?_ _
         have hf := ga_fin G11.out HRd.out HOL.out (fun b hb => Nat.lt_of_lt_of_le (HPW.out b hb) HBd.out.size) HFit.out HNL.out HNO.out rfl HY.out
         have HFI := Lib.hid (And.intro hf.1 ((fr_of_below (S := fun b => b = q) HBd.out).trans hf.2 HBd.out.size (fun _ _ e => e)))
         clear hf
         go_wp2_with fail
         go_meet
         exact ⟨_, _, HFI.out⟩
       ·go_simp
        refine hK.out _ _ (fun k _ _ => G2.out.b2.s HS0.out k) ?_
        clear hK K
        try simp only[Act.put,zq]
        have G12 := Lib.hid G2.out.b2
        generalize W2.alloc (.cells #[] 5) = W12 at *
        generalize W2.heap.size = k12 at *
        clear G2
        refine rdF (rs := [9]) (by kernel_rfl) (by simp) ?_
        refine cF1 rfl fun K hK => ?_
        go_simp
        refine hK.out _ _ (fun k _ _ => G12.out.be.s HS0.out k) ?_
        clear hK K
        try simp only[Act.put,zq]
        have G13 := Lib.hid G12.out.be
        generalize W12.alloc (.cells #[y0, y1, y2, y3, y4, y5, y6, y7, y8, y9, y10, y11, y12, y13, y14, y15] 44) = W13 at *
        generalize W12.heap.size = k13 at *
        clear G12
        refine rdF (rs := [10]) (by kernel_rfl) (by simp) ?_
        refine cF1 rfl fun K hK => ?_
        obtain ⟨g14, c14, W14, hr, ho, hg, hq⟩ := app_srcL (P := Tryz.prog) W13 W0.heap.size 29 29 44 ii _ 16 224 Tryz.underlying29 hi hz0 hz1 hz2 rfl (by decide) g2 c2 t.n newsL G13.out.o1 (.slice (some ⟨k13, 0, none⟩) 1 1) 1 [y0, y1, y2, y3, y4, y5, y6, y7, y8, y9, y10, y11, y12, y13, y14, y15] (src_blk (G13.out.en _ rfl).1) rfl HY.out (by unfold maxLen; omega) (by omega) G13.out.bl.size (t.n + 1) rfl (newsL ++ [y0, y1, y2, y3, y4, y5, y6, y7, y8, y9, y10, y11, y12, y13, y14, y15]) rfl
        rw [if_pos (by rfl)]
        refine Lib.wp_append_run _ (.tmp 24) (.tmp 26) 29 29 rfl _ _ rfl rfl _ _ hr ?_
        have G14 := Lib.hid (G13.out.a1 ho hg hq)
        refine hK.out _ _ (fun k _ _ => G14.out.s HS0.out k) ?_
        clear hK K hr ho hg hq G13
        try simp only[Act.put,zq]
        refine rdF (rs := [16]) (by kernel_rfl) (by simp) ?_
        refine cF1 rfl fun K hK => ?_
        obtain ⟨g15, c15, W15, hr, ho, hg, hq⟩ := app_srcL (P := Tryz.prog) W14 W0.heap.size 36 36 5 iu _ 1 1 Tryz.underlying36 hiu hzu hyu hxu rfl (by decide) k12 0 0 [] G14.out.o2 av t.S.length (byteV t.S) (HSA.out.up G14.out.bl) (by simp [byteV]) (one_byteV _) (by unfold maxLen; omega) (by omega) G14.out.bl.size t.S.length (by omega) (byteV t.S) rfl
        rw [if_pos (by rfl)]
        refine Lib.wp_append_run _ (.tmp 28) (.tmp 32) 36 36 rfl _ _ rfl rfl _ _ hr ?_
        have G15 := Lib.hid (G14.out.a2 ho hg)
        refine hK.out _ _ (fun k _ _ => G15.out.s HS0.out k) ?_
        clear hK K hr ho hg hq G14
        try simp only[Act.put,zq]
        refine rdF (rs := [18]) (by kernel_rfl) (by simp) ?_
        refine cF1 rfl fun K hK => ?_
        obtain ⟨g16, c16, W16, hr, ho, hg, hq⟩ := app_srcL (P := Tryz.prog) W15 W0.heap.size 36 36 5 iu _ 1 1 Tryz.underlying36 hiu hzu hyu hxu rfl (by decide) g15 c15 t.S.length (byteV t.S) G15.out.o2 (.slice A L.length c) L.length (byteV L) (HSF.out.up G15.out.bl) (by simp [byteV]) (one_byteV _) (by unfold maxLen; omega) (by omega) G15.out.bl.size (t.S.length + L.length) rfl (byteV (t.S ++ L)) (by simp [byteV])
        rw [if_pos (by rfl)]
        refine Lib.wp_append_run _ (.tmp 33) (.tmp 34) 36 36 rfl _ _ rfl rfl _ _ hr ?_
        have G16 := Lib.hid (G15.out.a2 ho hg)
        refine hK.out _ _ (fun k _ _ => G16.out.s HS0.out k) ?_
        clear hK K hr ho hg hq G15
        try simp only[Act.put,zq]
        refine tF0 (i := 19) (v := ?_) rfl ?_ ?_
        rotate_left;(focus intro W _;go_simp;try with_reducible rfl);rotate_left;try simp only[Act.put,zq]
        refine tF0 (i := 20) (v := ?_) rfl ?_ ?_
        rotate_left;(focus intro W _;go_simp;try with_reducible rfl);rotate_left;try simp only[Act.put,zq]
        refine rdF (rs := [21]) (by kernel_rfl) (by simp) ?_
        refine cF1 rfl fun K hK => ?_
        have hq1 : W16.heap[q]? = some (.cells #[.pointer (some ⟨t.r, 0, none⟩), .int .i64 t.first, .int .i64 t.tiles, lv, av, .int .i64 t.steady] 61 (0, 0)) := G16.out.s HS0.out true
        have hca1 : W16.cell? ⟨q, 3, none⟩ = some lv := (c_o hq1 3).1
        have hca2 := frz hq1 3
        have HQ1 := Lib.hid hq1
        clear hq1
        go_simp
        refine hK.out _ _ (fun k hT _ => by
         cases k with
         | true => cases hT
         | false => exact GaS.st (G16.out.s HS0.out false) HQ1.out 3 _) ?_
        clear hK K hca1 hca2
        try simp only[Act.put,zq]
        refine tF0 (i := 22) (v := ?_) rfl ?_ ?_
        rotate_left;(focus intro W _;go_simp;try with_reducible rfl);rotate_left;try simp only[Act.put,zq]
        refine tF0 (i := 23) (v := ?_) rfl ?_ ?_
        rotate_left;(focus intro W _;go_simp;try with_reducible rfl);rotate_left;try simp only[Act.put,zq]
        refine rdF (rs := [24]) (by kernel_rfl) (by simp) ?_
        refine cF1 rfl fun K hK => ?_
        have HQ2 := Lib.hid (heap_setCell_same W16 q 3 _ _ (.slice (some ⟨g14, 0, none⟩) (t.n + 1) c14) HQ1.out)
        have hcb1 : (W16.setCell ⟨q, 3, none⟩ (.slice (some ⟨g14, 0, none⟩) (t.n + 1) c14)).cell? ⟨q, 4, none⟩ = some av := (c_o HQ2.out 4).1
        have hcb2 := frz HQ2.out 4
        go_simp
        refine hK.out _ _ (fun k hT _ => by
         cases k with
         | true => cases hT
         | false => exact GaS.st (qC := #[.pointer (some ⟨t.r, 0, none⟩), .int .i64 t.first, .int .i64 t.tiles, lv, av, .int .i64 t.steady].setIfInBounds 3 (.slice (some ⟨g14, 0, none⟩) (t.n + 1) c14)) (GaS.st (G16.out.s HS0.out false) HQ1.out 3 _) HQ2.out 4 _) ?_
        clear hK K hcb1 hcb2
        try simp only[Act.put,zq]
        refine wpAnyF_done (by kernel_rfl) ?_ _
        have hf := ga_fin G16.out HRd.out HOL.out (fun b hb => Nat.lt_of_lt_of_le (HPW.out b hb) HBd.out.size) HFit.out HNL.out HNO.out rfl HY.out
        have HFI := Lib.hid (And.intro hf.1 ((fr_of_below (S := fun b => b = q) HBd.out).trans hf.2 HBd.out.size (fun _ _ e => e)))
        clear hf
        go_wp2_with fail
        go_meet
        exact ⟨_, _, HFI.out⟩
      ·go_simp
       refine hK.out _ _ (fun k _ _ => G1.out.be.s HS0.out k) ?_
       clear hK K
       try simp only[Act.put,zq]
       have G17 := Lib.hid G1.out.be
       generalize W1.alloc (.cells #[y0, y1, y2, y3, y4, y5, y6, y7, y8, y9, y10, y11, y12, y13, y14, y15] 44) = W17 at *
       generalize W1.heap.size = k17 at *
       clear G1
       refine rdF (rs := [7, 11]) (by kernel_rfl) (by simp) ?_
       refine cF2 rfl (fun K hK => ?_) (AllReadyF.cons (o := ⟨_,_,_,_,_,_⟩) rfl (fun K hK => ?_) (AllReadyF.nil))
       ·obtain ⟨g18, c18, W18, hr, ho, hg, hq⟩ := app_srcL (P := Tryz.prog) W17 W0.heap.size 29 29 44 ii _ 16 224 Tryz.underlying29 hi hz0 hz1 hz2 rfl (by decide) k1 0 0 [] G17.out.o1 lv t.n newsL (HNW.out.up G17.out.bl) HNL.out HNO.out (by unfold maxLen; omega) (by omega) G17.out.bl.size t.n (by omega) newsL rfl
        rw [if_pos (by rfl)]
        refine Lib.wp_append_run _ (.tmp 19) (.tmp 23) 29 29 rfl _ _ rfl rfl _ _ hr ?_
        have G18 := Lib.hid (G17.out.a1 ho hg hq)
        refine hK.out _ _ (fun k _ _ => G18.out.s HS0.out k) ?_
        clear hK K hr ho hg hq G17
        try simp only[Act.put,zq]
        refine rdF (rs := [10, 11]) (by kernel_rfl) (by simp) ?_
        refine cF2 rfl (fun K hK => ?_) (AllReadyF.cons (o := ⟨_,_,_,_,_,_⟩) rfl (fun K hK => ?_) (AllReadyF.nil))
        ·obtain ⟨g19, c19, W19, hr, ho, hg, hq⟩ := app_srcL (P := Tryz.prog) W18 W0.heap.size 29 29 44 ii _ 16 224 Tryz.underlying29 hi hz0 hz1 hz2 rfl (by decide) g18 c18 t.n newsL G18.out.o1 (.slice (some ⟨k17, 0, none⟩) 1 1) 1 [y0, y1, y2, y3, y4, y5, y6, y7, y8, y9, y10, y11, y12, y13, y14, y15] (src_blk (G18.out.en _ rfl).1) rfl HY.out (by unfold maxLen; omega) (by omega) G18.out.bl.size (t.n + 1) rfl (newsL ++ [y0, y1, y2, y3, y4, y5, y6, y7, y8, y9, y10, y11, y12, y13, y14, y15]) rfl
         rw [if_pos (by rfl)]
         refine Lib.wp_append_run _ (.tmp 24) (.tmp 26) 29 29 rfl _ _ rfl rfl _ _ hr ?_
         have G19 := Lib.hid (G18.out.a1 ho hg hq)
         refine hK.out _ _ (fun k _ _ => G19.out.s HS0.out k) ?_
         clear hK K hr ho hg hq G18
         try simp only[Act.put,zq]
         refine rdF (rs := [11]) (by kernel_rfl) (by simp) ?_
         refine cF1 rfl fun K hK => ?_
         go_simp
         refine hK.out _ _ (fun k _ _ => G19.out.b2.s HS0.out k) ?_
         clear hK K
         try simp only[Act.put,zq]
         have G20 := Lib.hid G19.out.b2
         generalize W19.alloc (.cells #[] 5) = W20 at *
         generalize W19.heap.size = k20 at *
         clear G19
         refine rdF (rs := [16]) (by kernel_rfl) (by simp) ?_
         refine cF1 rfl fun K hK => ?_
         obtain ⟨g21, c21, W21, hr, ho, hg, hq⟩ := app_srcL (P := Tryz.prog) W20 W0.heap.size 36 36 5 iu _ 1 1 Tryz.underlying36 hiu hzu hyu hxu rfl (by decide) k20 0 0 [] G20.out.o2 av t.S.length (byteV t.S) (HSA.out.up G20.out.bl) (by simp [byteV]) (one_byteV _) (by unfold maxLen; omega) (by omega) G20.out.bl.size t.S.length (by omega) (byteV t.S) rfl
         rw [if_pos (by rfl)]
         refine Lib.wp_append_run _ (.tmp 28) (.tmp 32) 36 36 rfl _ _ rfl rfl _ _ hr ?_
         have G21 := Lib.hid (G20.out.a2 ho hg)
         refine hK.out _ _ (fun k _ _ => G21.out.s HS0.out k) ?_
         clear hK K hr ho hg hq G20
         try simp only[Act.put,zq]
         refine rdF (rs := [18]) (by kernel_rfl) (by simp) ?_
         refine cF1 rfl fun K hK => ?_
         obtain ⟨g22, c22, W22, hr, ho, hg, hq⟩ := app_srcL (P := Tryz.prog) W21 W0.heap.size 36 36 5 iu _ 1 1 Tryz.underlying36 hiu hzu hyu hxu rfl (by decide) g21 c21 t.S.length (byteV t.S) G21.out.o2 (.slice A L.length c) L.length (byteV L) (HSF.out.up G21.out.bl) (by simp [byteV]) (one_byteV _) (by unfold maxLen; omega) (by omega) G21.out.bl.size (t.S.length + L.length) rfl (byteV (t.S ++ L)) (by simp [byteV])
         rw [if_pos (by rfl)]
         refine Lib.wp_append_run _ (.tmp 33) (.tmp 34) 36 36 rfl _ _ rfl rfl _ _ hr ?_
         have G22 := Lib.hid (G21.out.a2 ho hg)
         refine hK.out _ _ (fun k _ _ => G22.out.s HS0.out k) ?_
         clear hK K hr ho hg hq G21
         try simp only[Act.put,zq]
         refine tF0 (i := 19) (v := ?_) rfl ?_ ?_
         rotate_left;(focus intro W _;go_simp;try with_reducible rfl);rotate_left;try simp only[Act.put,zq]
         refine tF0 (i := 20) (v := ?_) rfl ?_ ?_
         rotate_left;(focus intro W _;go_simp;try with_reducible rfl);rotate_left;try simp only[Act.put,zq]
         refine rdF (rs := [21]) (by kernel_rfl) (by simp) ?_
         refine cF1 rfl fun K hK => ?_
         have hq1 : W22.heap[q]? = some (.cells #[.pointer (some ⟨t.r, 0, none⟩), .int .i64 t.first, .int .i64 t.tiles, lv, av, .int .i64 t.steady] 61 (0, 0)) := G22.out.s HS0.out true
         have hca1 : W22.cell? ⟨q, 3, none⟩ = some lv := (c_o hq1 3).1
         have hca2 := frz hq1 3
         have HQ1 := Lib.hid hq1
         clear hq1
         go_simp
         refine hK.out _ _ (fun k hT _ => by
          cases k with
          | true => cases hT
          | false => exact GaS.st (G22.out.s HS0.out false) HQ1.out 3 _) ?_
         clear hK K hca1 hca2
         try simp only[Act.put,zq]
         refine tF0 (i := 22) (v := ?_) rfl ?_ ?_
         rotate_left;(focus intro W _;go_simp;try with_reducible rfl);rotate_left;try simp only[Act.put,zq]
         refine tF0 (i := 23) (v := ?_) rfl ?_ ?_
         rotate_left;(focus intro W _;go_simp;try with_reducible rfl);rotate_left;try simp only[Act.put,zq]
         refine rdF (rs := [24]) (by kernel_rfl) (by simp) ?_
         refine cF1 rfl fun K hK => ?_
         have HQ2 := Lib.hid (heap_setCell_same W22 q 3 _ _ (.slice (some ⟨g19, 0, none⟩) (t.n + 1) c19) HQ1.out)
         have hcb1 : (W22.setCell ⟨q, 3, none⟩ (.slice (some ⟨g19, 0, none⟩) (t.n + 1) c19)).cell? ⟨q, 4, none⟩ = some av := (c_o HQ2.out 4).1
         have hcb2 := frz HQ2.out 4
         go_simp
         refine hK.out _ _ (fun k hT _ => by
          cases k with
          | true => cases hT
          | false => exact GaS.st (qC := #[.pointer (some ⟨t.r, 0, none⟩), .int .i64 t.first, .int .i64 t.tiles, lv, av, .int .i64 t.steady].setIfInBounds 3 (.slice (some ⟨g19, 0, none⟩) (t.n + 1) c19)) (GaS.st (G22.out.s HS0.out false) HQ1.out 3 _) HQ2.out 4 _) ?_
         clear hK K hcb1 hcb2
         try simp only[Act.put,zq]
         refine wpAnyF_done (by kernel_rfl) ?_ _
         have hf := ga_fin G22.out HRd.out HOL.out (fun b hb => Nat.lt_of_lt_of_le (HPW.out b hb) HBd.out.size) HFit.out HNL.out HNO.out rfl HY.out
         have HFI := Lib.hid (And.intro hf.1 ((fr_of_below (S := fun b => b = q) HBd.out).trans hf.2 HBd.out.size (fun _ _ e => e)))
         clear hf
         go_wp2_with fail
         go_meet
         exact ⟨_, _, HFI.out⟩
        ·go_simp
         refine hK.out _ _ (fun k _ _ => G18.out.b2.s HS0.out k) ?_
         clear hK K
         try simp only[Act.put,zq]
         have G23 := Lib.hid G18.out.b2
         generalize W18.alloc (.cells #[] 5) = W23 at *
         generalize W18.heap.size = k23 at *
         clear G18
         refine rdF (rs := [10]) (by kernel_rfl) (by simp) ?_
         refine cF1 rfl fun K hK => ?_
         obtain ⟨g24, c24, W24, hr, ho, hg, hq⟩ := app_srcL (P := Tryz.prog) W23 W0.heap.size 29 29 44 ii _ 16 224 Tryz.underlying29 hi hz0 hz1 hz2 rfl (by decide) g18 c18 t.n newsL G23.out.o1 (.slice (some ⟨k17, 0, none⟩) 1 1) 1 [y0, y1, y2, y3, y4, y5, y6, y7, y8, y9, y10, y11, y12, y13, y14, y15] (src_blk (G23.out.en _ rfl).1) rfl HY.out (by unfold maxLen; omega) (by omega) G23.out.bl.size (t.n + 1) rfl (newsL ++ [y0, y1, y2, y3, y4, y5, y6, y7, y8, y9, y10, y11, y12, y13, y14, y15]) rfl
         rw [if_pos (by rfl)]
         refine Lib.wp_append_run _ (.tmp 24) (.tmp 26) 29 29 rfl _ _ rfl rfl _ _ hr ?_
         have G24 := Lib.hid (G23.out.a1 ho hg hq)
         refine hK.out _ _ (fun k _ _ => G24.out.s HS0.out k) ?_
         clear hK K hr ho hg hq G23
         try simp only[Act.put,zq]
         refine rdF (rs := [16]) (by kernel_rfl) (by simp) ?_
         refine cF1 rfl fun K hK => ?_
         obtain ⟨g25, c25, W25, hr, ho, hg, hq⟩ := app_srcL (P := Tryz.prog) W24 W0.heap.size 36 36 5 iu _ 1 1 Tryz.underlying36 hiu hzu hyu hxu rfl (by decide) k23 0 0 [] G24.out.o2 av t.S.length (byteV t.S) (HSA.out.up G24.out.bl) (by simp [byteV]) (one_byteV _) (by unfold maxLen; omega) (by omega) G24.out.bl.size t.S.length (by omega) (byteV t.S) rfl
         rw [if_pos (by rfl)]
         refine Lib.wp_append_run _ (.tmp 28) (.tmp 32) 36 36 rfl _ _ rfl rfl _ _ hr ?_
         have G25 := Lib.hid (G24.out.a2 ho hg)
         refine hK.out _ _ (fun k _ _ => G25.out.s HS0.out k) ?_
         clear hK K hr ho hg hq G24
         try simp only[Act.put,zq]
         refine rdF (rs := [18]) (by kernel_rfl) (by simp) ?_
         refine cF1 rfl fun K hK => ?_
         obtain ⟨g26, c26, W26, hr, ho, hg, hq⟩ := app_srcL (P := Tryz.prog) W25 W0.heap.size 36 36 5 iu _ 1 1 Tryz.underlying36 hiu hzu hyu hxu rfl (by decide) g25 c25 t.S.length (byteV t.S) G25.out.o2 (.slice A L.length c) L.length (byteV L) (HSF.out.up G25.out.bl) (by simp [byteV]) (one_byteV _) (by unfold maxLen; omega) (by omega) G25.out.bl.size (t.S.length + L.length) rfl (byteV (t.S ++ L)) (by simp [byteV])
         rw [if_pos (by rfl)]
         refine Lib.wp_append_run _ (.tmp 33) (.tmp 34) 36 36 rfl _ _ rfl rfl _ _ hr ?_
         have G26 := Lib.hid (G25.out.a2 ho hg)
         refine hK.out _ _ (fun k _ _ => G26.out.s HS0.out k) ?_
         clear hK K hr ho hg hq G25
         try simp only[Act.put,zq]
         refine tF0 (i := 19) (v := ?_) rfl ?_ ?_
         rotate_left;(focus intro W _;go_simp;try with_reducible rfl);rotate_left;try simp only[Act.put,zq]
         refine tF0 (i := 20) (v := ?_) rfl ?_ ?_
         rotate_left;(focus intro W _;go_simp;try with_reducible rfl);rotate_left;try simp only[Act.put,zq]
         refine rdF (rs := [21]) (by kernel_rfl) (by simp) ?_
         refine cF1 rfl fun K hK => ?_
         have hq1 : W26.heap[q]? = some (.cells #[.pointer (some ⟨t.r, 0, none⟩), .int .i64 t.first, .int .i64 t.tiles, lv, av, .int .i64 t.steady] 61 (0, 0)) := G26.out.s HS0.out true
         have hca1 : W26.cell? ⟨q, 3, none⟩ = some lv := (c_o hq1 3).1
         have hca2 := frz hq1 3
         have HQ1 := Lib.hid hq1
         clear hq1
         go_simp
         refine hK.out _ _ (fun k hT _ => by
          cases k with
          | true => cases hT
          | false => exact GaS.st (G26.out.s HS0.out false) HQ1.out 3 _) ?_
         clear hK K hca1 hca2
         try simp only[Act.put,zq]
         refine tF0 (i := 22) (v := ?_) rfl ?_ ?_
         rotate_left;(focus intro W _;go_simp;try with_reducible rfl);rotate_left;try simp only[Act.put,zq]
         refine tF0 (i := 23) (v := ?_) rfl ?_ ?_
         rotate_left;(focus intro W _;go_simp;try with_reducible rfl);rotate_left;try simp only[Act.put,zq]
         refine rdF (rs := [24]) (by kernel_rfl) (by simp) ?_
         refine cF1 rfl fun K hK => ?_
         have HQ2 := Lib.hid (heap_setCell_same W26 q 3 _ _ (.slice (some ⟨g24, 0, none⟩) (t.n + 1) c24) HQ1.out)
         have hcb1 : (W26.setCell ⟨q, 3, none⟩ (.slice (some ⟨g24, 0, none⟩) (t.n + 1) c24)).cell? ⟨q, 4, none⟩ = some av := (c_o HQ2.out 4).1
         have hcb2 := frz HQ2.out 4
         go_simp
         refine hK.out _ _ (fun k hT _ => by
          cases k with
          | true => cases hT
          | false => exact GaS.st (qC := #[.pointer (some ⟨t.r, 0, none⟩), .int .i64 t.first, .int .i64 t.tiles, lv, av, .int .i64 t.steady].setIfInBounds 3 (.slice (some ⟨g24, 0, none⟩) (t.n + 1) c24)) (GaS.st (G26.out.s HS0.out false) HQ1.out 3 _) HQ2.out 4 _) ?_
         clear hK K hcb1 hcb2
         try simp only[Act.put,zq]
         refine wpAnyF_done (by kernel_rfl) ?_ _
         have hf := ga_fin G26.out HRd.out HOL.out (fun b hb => Nat.lt_of_lt_of_le (HPW.out b hb) HBd.out.size) HFit.out HNL.out HNO.out rfl HY.out
         have HFI := Lib.hid (And.intro hf.1 ((fr_of_below (S := fun b => b = q) HBd.out).trans hf.2 HBd.out.size (fun _ _ e => e)))
         clear hf
         go_wp2_with fail
         go_meet
         exact ⟨_, _, HFI.out⟩
       ·go_simp
        refine hK.out _ _ (fun k _ _ => G17.out.b2.s HS0.out k) ?_
        clear hK K
        try simp only[Act.put,zq]
        have G27 := Lib.hid G17.out.b2
        generalize W17.alloc (.cells #[] 5) = W27 at *
        generalize W17.heap.size = k27 at *
        clear G17
        refine rdF (rs := [7]) (by kernel_rfl) (by simp) ?_
        refine cF1 rfl fun K hK => ?_
        obtain ⟨g28, c28, W28, hr, ho, hg, hq⟩ := app_srcL (P := Tryz.prog) W27 W0.heap.size 29 29 44 ii _ 16 224 Tryz.underlying29 hi hz0 hz1 hz2 rfl (by decide) k1 0 0 [] G27.out.o1 lv t.n newsL (HNW.out.up G27.out.bl) HNL.out HNO.out (by unfold maxLen; omega) (by omega) G27.out.bl.size t.n (by omega) newsL rfl
        rw [if_pos (by rfl)]
        refine Lib.wp_append_run _ (.tmp 19) (.tmp 23) 29 29 rfl _ _ rfl rfl _ _ hr ?_
        have G28 := Lib.hid (G27.out.a1 ho hg hq)
        refine hK.out _ _ (fun k _ _ => G28.out.s HS0.out k) ?_
        clear hK K hr ho hg hq G27
        try simp only[Act.put,zq]
        refine rdF (rs := [10]) (by kernel_rfl) (by simp) ?_
        refine cF1 rfl fun K hK => ?_
        obtain ⟨g29, c29, W29, hr, ho, hg, hq⟩ := app_srcL (P := Tryz.prog) W28 W0.heap.size 29 29 44 ii _ 16 224 Tryz.underlying29 hi hz0 hz1 hz2 rfl (by decide) g28 c28 t.n newsL G28.out.o1 (.slice (some ⟨k17, 0, none⟩) 1 1) 1 [y0, y1, y2, y3, y4, y5, y6, y7, y8, y9, y10, y11, y12, y13, y14, y15] (src_blk (G28.out.en _ rfl).1) rfl HY.out (by unfold maxLen; omega) (by omega) G28.out.bl.size (t.n + 1) rfl (newsL ++ [y0, y1, y2, y3, y4, y5, y6, y7, y8, y9, y10, y11, y12, y13, y14, y15]) rfl
        rw [if_pos (by rfl)]
        refine Lib.wp_append_run _ (.tmp 24) (.tmp 26) 29 29 rfl _ _ rfl rfl _ _ hr ?_
        have G29 := Lib.hid (G28.out.a1 ho hg hq)
        refine hK.out _ _ (fun k _ _ => G29.out.s HS0.out k) ?_
        clear hK K hr ho hg hq G28
        try simp only[Act.put,zq]
        refine rdF (rs := [16]) (by kernel_rfl) (by simp) ?_
        refine cF1 rfl fun K hK => ?_
        obtain ⟨g30, c30, W30, hr, ho, hg, hq⟩ := app_srcL (P := Tryz.prog) W29 W0.heap.size 36 36 5 iu _ 1 1 Tryz.underlying36 hiu hzu hyu hxu rfl (by decide) k27 0 0 [] G29.out.o2 av t.S.length (byteV t.S) (HSA.out.up G29.out.bl) (by simp [byteV]) (one_byteV _) (by unfold maxLen; omega) (by omega) G29.out.bl.size t.S.length (by omega) (byteV t.S) rfl
        rw [if_pos (by rfl)]
        refine Lib.wp_append_run _ (.tmp 28) (.tmp 32) 36 36 rfl _ _ rfl rfl _ _ hr ?_
        have G30 := Lib.hid (G29.out.a2 ho hg)
        refine hK.out _ _ (fun k _ _ => G30.out.s HS0.out k) ?_
        clear hK K hr ho hg hq G29
        try simp only[Act.put,zq]
        refine rdF (rs := [18]) (by kernel_rfl) (by simp) ?_
        refine cF1 rfl fun K hK => ?_
        obtain ⟨g31, c31, W31, hr, ho, hg, hq⟩ := app_srcL (P := Tryz.prog) W30 W0.heap.size 36 36 5 iu _ 1 1 Tryz.underlying36 hiu hzu hyu hxu rfl (by decide) g30 c30 t.S.length (byteV t.S) G30.out.o2 (.slice A L.length c) L.length (byteV L) (HSF.out.up G30.out.bl) (by simp [byteV]) (one_byteV _) (by unfold maxLen; omega) (by omega) G30.out.bl.size (t.S.length + L.length) rfl (byteV (t.S ++ L)) (by simp [byteV])
        rw [if_pos (by rfl)]
        refine Lib.wp_append_run _ (.tmp 33) (.tmp 34) 36 36 rfl _ _ rfl rfl _ _ hr ?_
        have G31 := Lib.hid (G30.out.a2 ho hg)
        refine hK.out _ _ (fun k _ _ => G31.out.s HS0.out k) ?_
        clear hK K hr ho hg hq G30
        try simp only[Act.put,zq]
        refine tF0 (i := 19) (v := ?_) rfl ?_ ?_
        rotate_left;(focus intro W _;go_simp;try with_reducible rfl);rotate_left;try simp only[Act.put,zq]
        refine tF0 (i := 20) (v := ?_) rfl ?_ ?_
        rotate_left;(focus intro W _;go_simp;try with_reducible rfl);rotate_left;try simp only[Act.put,zq]
        refine rdF (rs := [21]) (by kernel_rfl) (by simp) ?_
        refine cF1 rfl fun K hK => ?_
        have hq1 : W31.heap[q]? = some (.cells #[.pointer (some ⟨t.r, 0, none⟩), .int .i64 t.first, .int .i64 t.tiles, lv, av, .int .i64 t.steady] 61 (0, 0)) := G31.out.s HS0.out true
        have hca1 : W31.cell? ⟨q, 3, none⟩ = some lv := (c_o hq1 3).1
        have hca2 := frz hq1 3
        have HQ1 := Lib.hid hq1
        clear hq1
        go_simp
        refine hK.out _ _ (fun k hT _ => by
         cases k with
         | true => cases hT
         | false => exact GaS.st (G31.out.s HS0.out false) HQ1.out 3 _) ?_
        clear hK K hca1 hca2
        try simp only[Act.put,zq]
        refine tF0 (i := 22) (v := ?_) rfl ?_ ?_
        rotate_left;(focus intro W _;go_simp;try with_reducible rfl);rotate_left;try simp only[Act.put,zq]
        refine tF0 (i := 23) (v := ?_) rfl ?_ ?_
        rotate_left;(focus intro W _;go_simp;try with_reducible rfl);rotate_left;try simp only[Act.put,zq]
        refine rdF (rs := [24]) (by kernel_rfl) (by simp) ?_
        refine cF1 rfl fun K hK => ?_
        have HQ2 := Lib.hid (heap_setCell_same W31 q 3 _ _ (.slice (some ⟨g29, 0, none⟩) (t.n + 1) c29) HQ1.out)
        have hcb1 : (W31.setCell ⟨q, 3, none⟩ (.slice (some ⟨g29, 0, none⟩) (t.n + 1) c29)).cell? ⟨q, 4, none⟩ = some av := (c_o HQ2.out 4).1
        have hcb2 := frz HQ2.out 4
        go_simp
        refine hK.out _ _ (fun k hT _ => by
         cases k with
         | true => cases hT
         | false => exact GaS.st (qC := #[.pointer (some ⟨t.r, 0, none⟩), .int .i64 t.first, .int .i64 t.tiles, lv, av, .int .i64 t.steady].setIfInBounds 3 (.slice (some ⟨g29, 0, none⟩) (t.n + 1) c29)) (GaS.st (G31.out.s HS0.out false) HQ1.out 3 _) HQ2.out 4 _) ?_
        clear hK K hcb1 hcb2
        try simp only[Act.put,zq]
        refine wpAnyF_done (by kernel_rfl) ?_ _
        have hf := ga_fin G31.out HRd.out HOL.out (fun b hb => Nat.lt_of_lt_of_le (HPW.out b hb) HBd.out.size) HFit.out HNL.out HNO.out rfl HY.out
        have HFI := Lib.hid (And.intro hf.1 ((fr_of_below (S := fun b => b = q) HBd.out).trans hf.2 HBd.out.size (fun _ _ e => e)))
        clear hf
        go_wp2_with fail
        go_meet
        exact ⟨_, _, HFI.out⟩
      ·go_simp
       refine hK.out _ _ (fun k _ _ => G1.out.b2.s HS0.out k) ?_
       clear hK K
       try simp only[Act.put,zq]
       have G32 := Lib.hid G1.out.b2
       generalize W1.alloc (.cells #[] 5) = W32 at *
       generalize W1.heap.size = k32 at *
       clear G1
       refine rdF (rs := [7, 9]) (by kernel_rfl) (by simp) ?_
       refine cF2 rfl (fun K hK => ?_) (AllReadyF.cons (o := ⟨_,_,_,_,_,_⟩) rfl (fun K hK => ?_) (AllReadyF.nil))
       ·obtain ⟨g33, c33, W33, hr, ho, hg, hq⟩ := app_srcL (P := Tryz.prog) W32 W0.heap.size 29 29 44 ii _ 16 224 Tryz.underlying29 hi hz0 hz1 hz2 rfl (by decide) k1 0 0 [] G32.out.o1 lv t.n newsL (HNW.out.up G32.out.bl) HNL.out HNO.out (by unfold maxLen; omega) (by omega) G32.out.bl.size t.n (by omega) newsL rfl
        rw [if_pos (by rfl)]
        refine Lib.wp_append_run _ (.tmp 19) (.tmp 23) 29 29 rfl _ _ rfl rfl _ _ hr ?_
        have G33 := Lib.hid (G32.out.a1 ho hg hq)
        refine hK.out _ _ (fun k _ _ => G33.out.s HS0.out k) ?_
        clear hK K hr ho hg hq G32
        try simp only[Act.put,zq]
        refine rdF (rs := [9]) (by kernel_rfl) (by simp) ?_
        refine cF1 rfl fun K hK => ?_
        go_simp
        refine hK.out _ _ (fun k _ _ => G33.out.be.s HS0.out k) ?_
        clear hK K
        try simp only[Act.put,zq]
        have G34 := Lib.hid G33.out.be
        generalize W33.alloc (.cells #[y0, y1, y2, y3, y4, y5, y6, y7, y8, y9, y10, y11, y12, y13, y14, y15] 44) = W34 at *
        generalize W33.heap.size = k34 at *
        clear G33
        refine rdF (rs := [10]) (by kernel_rfl) (by simp) ?_
        refine cF1 rfl fun K hK => ?_
        obtain ⟨g35, c35, W35, hr, ho, hg, hq⟩ := app_srcL (P := Tryz.prog) W34 W0.heap.size 29 29 44 ii _ 16 224 Tryz.underlying29 hi hz0 hz1 hz2 rfl (by decide) g33 c33 t.n newsL G34.out.o1 (.slice (some ⟨k34, 0, none⟩) 1 1) 1 [y0, y1, y2, y3, y4, y5, y6, y7, y8, y9, y10, y11, y12, y13, y14, y15] (src_blk (G34.out.en _ rfl).1) rfl HY.out (by unfold maxLen; omega) (by omega) G34.out.bl.size (t.n + 1) rfl (newsL ++ [y0, y1, y2, y3, y4, y5, y6, y7, y8, y9, y10, y11, y12, y13, y14, y15]) rfl
        rw [if_pos (by rfl)]
        refine Lib.wp_append_run _ (.tmp 24) (.tmp 26) 29 29 rfl _ _ rfl rfl _ _ hr ?_
        have G35 := Lib.hid (G34.out.a1 ho hg hq)
        refine hK.out _ _ (fun k _ _ => G35.out.s HS0.out k) ?_
        clear hK K hr ho hg hq G34
        try simp only[Act.put,zq]
        refine rdF (rs := [16]) (by kernel_rfl) (by simp) ?_
        refine cF1 rfl fun K hK => ?_
        obtain ⟨g36, c36, W36, hr, ho, hg, hq⟩ := app_srcL (P := Tryz.prog) W35 W0.heap.size 36 36 5 iu _ 1 1 Tryz.underlying36 hiu hzu hyu hxu rfl (by decide) k32 0 0 [] G35.out.o2 av t.S.length (byteV t.S) (HSA.out.up G35.out.bl) (by simp [byteV]) (one_byteV _) (by unfold maxLen; omega) (by omega) G35.out.bl.size t.S.length (by omega) (byteV t.S) rfl
        rw [if_pos (by rfl)]
        refine Lib.wp_append_run _ (.tmp 28) (.tmp 32) 36 36 rfl _ _ rfl rfl _ _ hr ?_
        have G36 := Lib.hid (G35.out.a2 ho hg)
        refine hK.out _ _ (fun k _ _ => G36.out.s HS0.out k) ?_
        clear hK K hr ho hg hq G35
        try simp only[Act.put,zq]
        refine rdF (rs := [18]) (by kernel_rfl) (by simp) ?_
        refine cF1 rfl fun K hK => ?_
        obtain ⟨g37, c37, W37, hr, ho, hg, hq⟩ := app_srcL (P := Tryz.prog) W36 W0.heap.size 36 36 5 iu _ 1 1 Tryz.underlying36 hiu hzu hyu hxu rfl (by decide) g36 c36 t.S.length (byteV t.S) G36.out.o2 (.slice A L.length c) L.length (byteV L) (HSF.out.up G36.out.bl) (by simp [byteV]) (one_byteV _) (by unfold maxLen; omega) (by omega) G36.out.bl.size (t.S.length + L.length) rfl (byteV (t.S ++ L)) (by simp [byteV])
        rw [if_pos (by rfl)]
        refine Lib.wp_append_run _ (.tmp 33) (.tmp 34) 36 36 rfl _ _ rfl rfl _ _ hr ?_
        have G37 := Lib.hid (G36.out.a2 ho hg)
        refine hK.out _ _ (fun k _ _ => G37.out.s HS0.out k) ?_
        clear hK K hr ho hg hq G36
        try simp only[Act.put,zq]
        refine tF0 (i := 19) (v := ?_) rfl ?_ ?_
        rotate_left;(focus intro W _;go_simp;try with_reducible rfl);rotate_left;try simp only[Act.put,zq]
        refine tF0 (i := 20) (v := ?_) rfl ?_ ?_
        rotate_left;(focus intro W _;go_simp;try with_reducible rfl);rotate_left;try simp only[Act.put,zq]
        refine rdF (rs := [21]) (by kernel_rfl) (by simp) ?_
        refine cF1 rfl fun K hK => ?_
        have hq1 : W37.heap[q]? = some (.cells #[.pointer (some ⟨t.r, 0, none⟩), .int .i64 t.first, .int .i64 t.tiles, lv, av, .int .i64 t.steady] 61 (0, 0)) := G37.out.s HS0.out true
        have hca1 : W37.cell? ⟨q, 3, none⟩ = some lv := (c_o hq1 3).1
        have hca2 := frz hq1 3
        have HQ1 := Lib.hid hq1
        clear hq1
        go_simp
        refine hK.out _ _ (fun k hT _ => by
         cases k with
         | true => cases hT
         | false => exact GaS.st (G37.out.s HS0.out false) HQ1.out 3 _) ?_
        clear hK K hca1 hca2
        try simp only[Act.put,zq]
        refine tF0 (i := 22) (v := ?_) rfl ?_ ?_
        rotate_left;(focus intro W _;go_simp;try with_reducible rfl);rotate_left;try simp only[Act.put,zq]
        refine tF0 (i := 23) (v := ?_) rfl ?_ ?_
        rotate_left;(focus intro W _;go_simp;try with_reducible rfl);rotate_left;try simp only[Act.put,zq]
        refine rdF (rs := [24]) (by kernel_rfl) (by simp) ?_
        refine cF1 rfl fun K hK => ?_
        have HQ2 := Lib.hid (heap_setCell_same W37 q 3 _ _ (.slice (some ⟨g35, 0, none⟩) (t.n + 1) c35) HQ1.out)
        have hcb1 : (W37.setCell ⟨q, 3, none⟩ (.slice (some ⟨g35, 0, none⟩) (t.n + 1) c35)).cell? ⟨q, 4, none⟩ = some av := (c_o HQ2.out 4).1
        have hcb2 := frz HQ2.out 4
        go_simp
        refine hK.out _ _ (fun k hT _ => by
         cases k with
         | true => cases hT
         | false => exact GaS.st (qC := #[.pointer (some ⟨t.r, 0, none⟩), .int .i64 t.first, .int .i64 t.tiles, lv, av, .int .i64 t.steady].setIfInBounds 3 (.slice (some ⟨g35, 0, none⟩) (t.n + 1) c35)) (GaS.st (G37.out.s HS0.out false) HQ1.out 3 _) HQ2.out 4 _) ?_
        clear hK K hcb1 hcb2
        try simp only[Act.put,zq]
        refine wpAnyF_done (by kernel_rfl) ?_ _
        have hf := ga_fin G37.out HRd.out HOL.out (fun b hb => Nat.lt_of_lt_of_le (HPW.out b hb) HBd.out.size) HFit.out HNL.out HNO.out rfl HY.out
        have HFI := Lib.hid (And.intro hf.1 ((fr_of_below (S := fun b => b = q) HBd.out).trans hf.2 HBd.out.size (fun _ _ e => e)))
        clear hf
        go_wp2_with fail
        go_meet
        exact ⟨_, _, HFI.out⟩
       ·go_simp
        refine hK.out _ _ (fun k _ _ => G32.out.be.s HS0.out k) ?_
        clear hK K
        try simp only[Act.put,zq]
        have G38 := Lib.hid G32.out.be
        generalize W32.alloc (.cells #[y0, y1, y2, y3, y4, y5, y6, y7, y8, y9, y10, y11, y12, y13, y14, y15] 44) = W38 at *
        generalize W32.heap.size = k38 at *
        clear G32
        refine rdF (rs := [7]) (by kernel_rfl) (by simp) ?_
        refine cF1 rfl fun K hK => ?_
        obtain ⟨g39, c39, W39, hr, ho, hg, hq⟩ := app_srcL (P := Tryz.prog) W38 W0.heap.size 29 29 44 ii _ 16 224 Tryz.underlying29 hi hz0 hz1 hz2 rfl (by decide) k1 0 0 [] G38.out.o1 lv t.n newsL (HNW.out.up G38.out.bl) HNL.out HNO.out (by unfold maxLen; omega) (by omega) G38.out.bl.size t.n (by omega) newsL rfl
        rw [if_pos (by rfl)]
        refine Lib.wp_append_run _ (.tmp 19) (.tmp 23) 29 29 rfl _ _ rfl rfl _ _ hr ?_
        have G39 := Lib.hid (G38.out.a1 ho hg hq)
        refine hK.out _ _ (fun k _ _ => G39.out.s HS0.out k) ?_
        clear hK K hr ho hg hq G38
        try simp only[Act.put,zq]
        refine rdF (rs := [10]) (by kernel_rfl) (by simp) ?_
        refine cF1 rfl fun K hK => ?_
        obtain ⟨g40, c40, W40, hr, ho, hg, hq⟩ := app_srcL (P := Tryz.prog) W39 W0.heap.size 29 29 44 ii _ 16 224 Tryz.underlying29 hi hz0 hz1 hz2 rfl (by decide) g39 c39 t.n newsL G39.out.o1 (.slice (some ⟨k38, 0, none⟩) 1 1) 1 [y0, y1, y2, y3, y4, y5, y6, y7, y8, y9, y10, y11, y12, y13, y14, y15] (src_blk (G39.out.en _ rfl).1) rfl HY.out (by unfold maxLen; omega) (by omega) G39.out.bl.size (t.n + 1) rfl (newsL ++ [y0, y1, y2, y3, y4, y5, y6, y7, y8, y9, y10, y11, y12, y13, y14, y15]) rfl
        rw [if_pos (by rfl)]
        refine Lib.wp_append_run _ (.tmp 24) (.tmp 26) 29 29 rfl _ _ rfl rfl _ _ hr ?_
        have G40 := Lib.hid (G39.out.a1 ho hg hq)
        refine hK.out _ _ (fun k _ _ => G40.out.s HS0.out k) ?_
        clear hK K hr ho hg hq G39
        try simp only[Act.put,zq]
        refine rdF (rs := [16]) (by kernel_rfl) (by simp) ?_
        refine cF1 rfl fun K hK => ?_
        obtain ⟨g41, c41, W41, hr, ho, hg, hq⟩ := app_srcL (P := Tryz.prog) W40 W0.heap.size 36 36 5 iu _ 1 1 Tryz.underlying36 hiu hzu hyu hxu rfl (by decide) k32 0 0 [] G40.out.o2 av t.S.length (byteV t.S) (HSA.out.up G40.out.bl) (by simp [byteV]) (one_byteV _) (by unfold maxLen; omega) (by omega) G40.out.bl.size t.S.length (by omega) (byteV t.S) rfl
        rw [if_pos (by rfl)]
        refine Lib.wp_append_run _ (.tmp 28) (.tmp 32) 36 36 rfl _ _ rfl rfl _ _ hr ?_
        have G41 := Lib.hid (G40.out.a2 ho hg)
        refine hK.out _ _ (fun k _ _ => G41.out.s HS0.out k) ?_
        clear hK K hr ho hg hq G40
        try simp only[Act.put,zq]
        refine rdF (rs := [18]) (by kernel_rfl) (by simp) ?_
        refine cF1 rfl fun K hK => ?_
        obtain ⟨g42, c42, W42, hr, ho, hg, hq⟩ := app_srcL (P := Tryz.prog) W41 W0.heap.size 36 36 5 iu _ 1 1 Tryz.underlying36 hiu hzu hyu hxu rfl (by decide) g41 c41 t.S.length (byteV t.S) G41.out.o2 (.slice A L.length c) L.length (byteV L) (HSF.out.up G41.out.bl) (by simp [byteV]) (one_byteV _) (by unfold maxLen; omega) (by omega) G41.out.bl.size (t.S.length + L.length) rfl (byteV (t.S ++ L)) (by simp [byteV])
        rw [if_pos (by rfl)]
        refine Lib.wp_append_run _ (.tmp 33) (.tmp 34) 36 36 rfl _ _ rfl rfl _ _ hr ?_
        have G42 := Lib.hid (G41.out.a2 ho hg)
        refine hK.out _ _ (fun k _ _ => G42.out.s HS0.out k) ?_
        clear hK K hr ho hg hq G41
        try simp only[Act.put,zq]
        refine tF0 (i := 19) (v := ?_) rfl ?_ ?_
        rotate_left;(focus intro W _;go_simp;try with_reducible rfl);rotate_left;try simp only[Act.put,zq]
        refine tF0 (i := 20) (v := ?_) rfl ?_ ?_
        rotate_left;(focus intro W _;go_simp;try with_reducible rfl);rotate_left;try simp only[Act.put,zq]
        refine rdF (rs := [21]) (by kernel_rfl) (by simp) ?_
        refine cF1 rfl fun K hK => ?_
        have hq1 : W42.heap[q]? = some (.cells #[.pointer (some ⟨t.r, 0, none⟩), .int .i64 t.first, .int .i64 t.tiles, lv, av, .int .i64 t.steady] 61 (0, 0)) := G42.out.s HS0.out true
        have hca1 : W42.cell? ⟨q, 3, none⟩ = some lv := (c_o hq1 3).1
        have hca2 := frz hq1 3
        have HQ1 := Lib.hid hq1
        clear hq1
        go_simp
        refine hK.out _ _ (fun k hT _ => by
         cases k with
         | true => cases hT
         | false => exact GaS.st (G42.out.s HS0.out false) HQ1.out 3 _) ?_
        clear hK K hca1 hca2
        try simp only[Act.put,zq]
        refine tF0 (i := 22) (v := ?_) rfl ?_ ?_
        rotate_left;(focus intro W _;go_simp;try with_reducible rfl);rotate_left;try simp only[Act.put,zq]
        refine tF0 (i := 23) (v := ?_) rfl ?_ ?_
        rotate_left;(focus intro W _;go_simp;try with_reducible rfl);rotate_left;try simp only[Act.put,zq]
        refine rdF (rs := [24]) (by kernel_rfl) (by simp) ?_
        refine cF1 rfl fun K hK => ?_
        have HQ2 := Lib.hid (heap_setCell_same W42 q 3 _ _ (.slice (some ⟨g40, 0, none⟩) (t.n + 1) c40) HQ1.out)
        have hcb1 : (W42.setCell ⟨q, 3, none⟩ (.slice (some ⟨g40, 0, none⟩) (t.n + 1) c40)).cell? ⟨q, 4, none⟩ = some av := (c_o HQ2.out 4).1
        have hcb2 := frz HQ2.out 4
        go_simp
        refine hK.out _ _ (fun k hT _ => by
         cases k with
         | true => cases hT
         | false => exact GaS.st (qC := #[.pointer (some ⟨t.r, 0, none⟩), .int .i64 t.first, .int .i64 t.tiles, lv, av, .int .i64 t.steady].setIfInBounds 3 (.slice (some ⟨g40, 0, none⟩) (t.n + 1) c40)) (GaS.st (G42.out.s HS0.out false) HQ1.out 3 _) HQ2.out 4 _) ?_
        clear hK K hcb1 hcb2
        try simp only[Act.put,zq]
        refine wpAnyF_done (by kernel_rfl) ?_ _
        have hf := ga_fin G42.out HRd.out HOL.out (fun b hb => Nat.lt_of_lt_of_le (HPW.out b hb) HBd.out.size) HFit.out HNL.out HNO.out rfl HY.out
        have HFI := Lib.hid (And.intro hf.1 ((fr_of_below (S := fun b => b = q) HBd.out).trans hf.2 HBd.out.size (fun _ _ e => e)))
        clear hf
        go_wp2_with fail
        go_meet
        exact ⟨_, _, HFI.out⟩
     ·go_simp
      refine hK.out _ _ (fun k _ _ => G0.out.be.s HS0.out k) ?_
      clear hK K
      try simp only[Act.put,zq]
      have G43 := Lib.hid G0.out.be
      generalize W0.alloc (.cells #[y0, y1, y2, y3, y4, y5, y6, y7, y8, y9, y10, y11, y12, y13, y14, y15] 44) = W43 at *
      generalize W0.heap.size = k43 at *
      clear G0
      refine rdF (rs := [2, 11]) (by kernel_rfl) (by simp) ?_
      refine cF2 rfl (fun K hK => ?_) (AllReadyF.cons (o := ⟨_,_,_,_,_,_⟩) rfl (fun K hK => ?_) (AllReadyF.nil))
      ·go_simp
       refine hK.out _ _ (fun k _ _ => G43.out.b1.s HS0.out k) ?_
       clear hK K
       try simp only[Act.put,zq]
       have G44 := Lib.hid G43.out.b1
       generalize W43.alloc (.cells #[] 44) = W44 at *
       generalize W43.heap.size = k44 at *
       clear G43
       refine rdF (rs := [7, 11]) (by kernel_rfl) (by simp) ?_
       refine cF2 rfl (fun K hK => ?_) (AllReadyF.cons (o := ⟨_,_,_,_,_,_⟩) rfl (fun K hK => ?_) (AllReadyF.nil))
       ·obtain ⟨g45, c45, W45, hr, ho, hg, hq⟩ := app_srcL (P := Tryz.prog) W44 W0.heap.size 29 29 44 ii _ 16 224 Tryz.underlying29 hi hz0 hz1 hz2 rfl (by decide) k44 0 0 [] G44.out.o1 lv t.n newsL (HNW.out.up G44.out.bl) HNL.out HNO.out (by unfold maxLen; omega) (by omega) G44.out.bl.size t.n (by omega) newsL rfl
        rw [if_pos (by rfl)]
        refine Lib.wp_append_run _ (.tmp 19) (.tmp 23) 29 29 rfl _ _ rfl rfl _ _ hr ?_
        have G45 := Lib.hid (G44.out.a1 ho hg hq)
        refine hK.out _ _ (fun k _ _ => G45.out.s HS0.out k) ?_
        clear hK K hr ho hg hq G44
        try simp only[Act.put,zq]
        refine rdF (rs := [10, 11]) (by kernel_rfl) (by simp) ?_
        refine cF2 rfl (fun K hK => ?_) (AllReadyF.cons (o := ⟨_,_,_,_,_,_⟩) rfl (fun K hK => ?_) (AllReadyF.nil))
        ·obtain ⟨g46, c46, W46, hr, ho, hg, hq⟩ := app_srcL (P := Tryz.prog) W45 W0.heap.size 29 29 44 ii _ 16 224 Tryz.underlying29 hi hz0 hz1 hz2 rfl (by decide) g45 c45 t.n newsL G45.out.o1 (.slice (some ⟨k43, 0, none⟩) 1 1) 1 [y0, y1, y2, y3, y4, y5, y6, y7, y8, y9, y10, y11, y12, y13, y14, y15] (src_blk (G45.out.en _ rfl).1) rfl HY.out (by unfold maxLen; omega) (by omega) G45.out.bl.size (t.n + 1) rfl (newsL ++ [y0, y1, y2, y3, y4, y5, y6, y7, y8, y9, y10, y11, y12, y13, y14, y15]) rfl
         rw [if_pos (by rfl)]
         refine Lib.wp_append_run _ (.tmp 24) (.tmp 26) 29 29 rfl _ _ rfl rfl _ _ hr ?_
         have G46 := Lib.hid (G45.out.a1 ho hg hq)
         refine hK.out _ _ (fun k _ _ => G46.out.s HS0.out k) ?_
         clear hK K hr ho hg hq G45
         try simp only[Act.put,zq]
         refine rdF (rs := [11]) (by kernel_rfl) (by simp) ?_
         refine cF1 rfl fun K hK => ?_
         go_simp
         refine hK.out _ _ (fun k _ _ => G46.out.b2.s HS0.out k) ?_
         clear hK K
         try simp only[Act.put,zq]
         have G47 := Lib.hid G46.out.b2
         generalize W46.alloc (.cells #[] 5) = W47 at *
         generalize W46.heap.size = k47 at *
         clear G46
         refine rdF (rs := [16]) (by kernel_rfl) (by simp) ?_
         refine cF1 rfl fun K hK => ?_
         obtain ⟨g48, c48, W48, hr, ho, hg, hq⟩ := app_srcL (P := Tryz.prog) W47 W0.heap.size 36 36 5 iu _ 1 1 Tryz.underlying36 hiu hzu hyu hxu rfl (by decide) k47 0 0 [] G47.out.o2 av t.S.length (byteV t.S) (HSA.out.up G47.out.bl) (by simp [byteV]) (one_byteV _) (by unfold maxLen; omega) (by omega) G47.out.bl.size t.S.length (by omega) (byteV t.S) rfl
         rw [if_pos (by rfl)]
         refine Lib.wp_append_run _ (.tmp 28) (.tmp 32) 36 36 rfl _ _ rfl rfl _ _ hr ?_
         have G48 := Lib.hid (G47.out.a2 ho hg)
         refine hK.out _ _ (fun k _ _ => G48.out.s HS0.out k) ?_
         clear hK K hr ho hg hq G47
         try simp only[Act.put,zq]
         refine rdF (rs := [18]) (by kernel_rfl) (by simp) ?_
         refine cF1 rfl fun K hK => ?_
         obtain ⟨g49, c49, W49, hr, ho, hg, hq⟩ := app_srcL (P := Tryz.prog) W48 W0.heap.size 36 36 5 iu _ 1 1 Tryz.underlying36 hiu hzu hyu hxu rfl (by decide) g48 c48 t.S.length (byteV t.S) G48.out.o2 (.slice A L.length c) L.length (byteV L) (HSF.out.up G48.out.bl) (by simp [byteV]) (one_byteV _) (by unfold maxLen; omega) (by omega) G48.out.bl.size (t.S.length + L.length) rfl (byteV (t.S ++ L)) (by simp [byteV])
         rw [if_pos (by rfl)]
         refine Lib.wp_append_run _ (.tmp 33) (.tmp 34) 36 36 rfl _ _ rfl rfl _ _ hr ?_
         have G49 := Lib.hid (G48.out.a2 ho hg)
         refine hK.out _ _ (fun k _ _ => G49.out.s HS0.out k) ?_
         clear hK K hr ho hg hq G48
         try simp only[Act.put,zq]
         refine tF0 (i := 19) (v := ?_) rfl ?_ ?_
         rotate_left;(focus intro W _;go_simp;try with_reducible rfl);rotate_left;try simp only[Act.put,zq]
         refine tF0 (i := 20) (v := ?_) rfl ?_ ?_
         rotate_left;(focus intro W _;go_simp;try with_reducible rfl);rotate_left;try simp only[Act.put,zq]
         refine rdF (rs := [21]) (by kernel_rfl) (by simp) ?_
         refine cF1 rfl fun K hK => ?_
         have hq1 : W49.heap[q]? = some (.cells #[.pointer (some ⟨t.r, 0, none⟩), .int .i64 t.first, .int .i64 t.tiles, lv, av, .int .i64 t.steady] 61 (0, 0)) := G49.out.s HS0.out true
         have hca1 : W49.cell? ⟨q, 3, none⟩ = some lv := (c_o hq1 3).1
         have hca2 := frz hq1 3
         have HQ1 := Lib.hid hq1
         clear hq1
         go_simp
         refine hK.out _ _ (fun k hT _ => by
          cases k with
          | true => cases hT
          | false => exact GaS.st (G49.out.s HS0.out false) HQ1.out 3 _) ?_
         clear hK K hca1 hca2
         try simp only[Act.put,zq]
         refine tF0 (i := 22) (v := ?_) rfl ?_ ?_
         rotate_left;(focus intro W _;go_simp;try with_reducible rfl);rotate_left;try simp only[Act.put,zq]
         refine tF0 (i := 23) (v := ?_) rfl ?_ ?_
         rotate_left;(focus intro W _;go_simp;try with_reducible rfl);rotate_left;try simp only[Act.put,zq]
         refine rdF (rs := [24]) (by kernel_rfl) (by simp) ?_
         refine cF1 rfl fun K hK => ?_
         have HQ2 := Lib.hid (heap_setCell_same W49 q 3 _ _ (.slice (some ⟨g46, 0, none⟩) (t.n + 1) c46) HQ1.out)
         have hcb1 : (W49.setCell ⟨q, 3, none⟩ (.slice (some ⟨g46, 0, none⟩) (t.n + 1) c46)).cell? ⟨q, 4, none⟩ = some av := (c_o HQ2.out 4).1
         have hcb2 := frz HQ2.out 4
         go_simp
         refine hK.out _ _ (fun k hT _ => by
          cases k with
          | true => cases hT
          | false => exact GaS.st (qC := #[.pointer (some ⟨t.r, 0, none⟩), .int .i64 t.first, .int .i64 t.tiles, lv, av, .int .i64 t.steady].setIfInBounds 3 (.slice (some ⟨g46, 0, none⟩) (t.n + 1) c46)) (GaS.st (G49.out.s HS0.out false) HQ1.out 3 _) HQ2.out 4 _) ?_
         clear hK K hcb1 hcb2
         try simp only[Act.put,zq]
         refine wpAnyF_done (by kernel_rfl) ?_ _
         have hf := ga_fin G49.out HRd.out HOL.out (fun b hb => Nat.lt_of_lt_of_le (HPW.out b hb) HBd.out.size) HFit.out HNL.out HNO.out rfl HY.out
         have HFI := Lib.hid (And.intro hf.1 ((fr_of_below (S := fun b => b = q) HBd.out).trans hf.2 HBd.out.size (fun _ _ e => e)))
         clear hf
         go_wp2_with fail
         go_meet
         exact ⟨_, _, HFI.out⟩
        ·go_simp
         refine hK.out _ _ (fun k _ _ => G45.out.b2.s HS0.out k) ?_
         clear hK K
         try simp only[Act.put,zq]
         have G50 := Lib.hid G45.out.b2
         generalize W45.alloc (.cells #[] 5) = W50 at *
         generalize W45.heap.size = k50 at *
         clear G45
         refine rdF (rs := [10]) (by kernel_rfl) (by simp) ?_
         refine cF1 rfl fun K hK => ?_
         obtain ⟨g51, c51, W51, hr, ho, hg, hq⟩ := app_srcL (P := Tryz.prog) W50 W0.heap.size 29 29 44 ii _ 16 224 Tryz.underlying29 hi hz0 hz1 hz2 rfl (by decide) g45 c45 t.n newsL G50.out.o1 (.slice (some ⟨k43, 0, none⟩) 1 1) 1 [y0, y1, y2, y3, y4, y5, y6, y7, y8, y9, y10, y11, y12, y13, y14, y15] (src_blk (G50.out.en _ rfl).1) rfl HY.out (by unfold maxLen; omega) (by omega) G50.out.bl.size (t.n + 1) rfl (newsL ++ [y0, y1, y2, y3, y4, y5, y6, y7, y8, y9, y10, y11, y12, y13, y14, y15]) rfl
         rw [if_pos (by rfl)]
         refine Lib.wp_append_run _ (.tmp 24) (.tmp 26) 29 29 rfl _ _ rfl rfl _ _ hr ?_
         have G51 := Lib.hid (G50.out.a1 ho hg hq)
         refine hK.out _ _ (fun k _ _ => G51.out.s HS0.out k) ?_
         clear hK K hr ho hg hq G50
         try simp only[Act.put,zq]
         refine rdF (rs := [16]) (by kernel_rfl) (by simp) ?_
         refine cF1 rfl fun K hK => ?_
         obtain ⟨g52, c52, W52, hr, ho, hg, hq⟩ := app_srcL (P := Tryz.prog) W51 W0.heap.size 36 36 5 iu _ 1 1 Tryz.underlying36 hiu hzu hyu hxu rfl (by decide) k50 0 0 [] G51.out.o2 av t.S.length (byteV t.S) (HSA.out.up G51.out.bl) (by simp [byteV]) (one_byteV _) (by unfold maxLen; omega) (by omega) G51.out.bl.size t.S.length (by omega) (byteV t.S) rfl
         rw [if_pos (by rfl)]
         refine Lib.wp_append_run _ (.tmp 28) (.tmp 32) 36 36 rfl _ _ rfl rfl _ _ hr ?_
         have G52 := Lib.hid (G51.out.a2 ho hg)
         refine hK.out _ _ (fun k _ _ => G52.out.s HS0.out k) ?_
         clear hK K hr ho hg hq G51
         try simp only[Act.put,zq]
         refine rdF (rs := [18]) (by kernel_rfl) (by simp) ?_
         refine cF1 rfl fun K hK => ?_
         obtain ⟨g53, c53, W53, hr, ho, hg, hq⟩ := app_srcL (P := Tryz.prog) W52 W0.heap.size 36 36 5 iu _ 1 1 Tryz.underlying36 hiu hzu hyu hxu rfl (by decide) g52 c52 t.S.length (byteV t.S) G52.out.o2 (.slice A L.length c) L.length (byteV L) (HSF.out.up G52.out.bl) (by simp [byteV]) (one_byteV _) (by unfold maxLen; omega) (by omega) G52.out.bl.size (t.S.length + L.length) rfl (byteV (t.S ++ L)) (by simp [byteV])
         rw [if_pos (by rfl)]
         refine Lib.wp_append_run _ (.tmp 33) (.tmp 34) 36 36 rfl _ _ rfl rfl _ _ hr ?_
         have G53 := Lib.hid (G52.out.a2 ho hg)
         refine hK.out _ _ (fun k _ _ => G53.out.s HS0.out k) ?_
         clear hK K hr ho hg hq G52
         try simp only[Act.put,zq]
         refine tF0 (i := 19) (v := ?_) rfl ?_ ?_
         rotate_left;(focus intro W _;go_simp;try with_reducible rfl);rotate_left;try simp only[Act.put,zq]
         refine tF0 (i := 20) (v := ?_) rfl ?_ ?_
         rotate_left;(focus intro W _;go_simp;try with_reducible rfl);rotate_left;try simp only[Act.put,zq]
         refine rdF (rs := [21]) (by kernel_rfl) (by simp) ?_
         refine cF1 rfl fun K hK => ?_
         have hq1 : W53.heap[q]? = some (.cells #[.pointer (some ⟨t.r, 0, none⟩), .int .i64 t.first, .int .i64 t.tiles, lv, av, .int .i64 t.steady] 61 (0, 0)) := G53.out.s HS0.out true
         have hca1 : W53.cell? ⟨q, 3, none⟩ = some lv := (c_o hq1 3).1
         have hca2 := frz hq1 3
         have HQ1 := Lib.hid hq1
         clear hq1
         go_simp
         refine hK.out _ _ (fun k hT _ => by
          cases k with
          | true => cases hT
          | false => exact GaS.st (G53.out.s HS0.out false) HQ1.out 3 _) ?_
         clear hK K hca1 hca2
         try simp only[Act.put,zq]
         refine tF0 (i := 22) (v := ?_) rfl ?_ ?_
         rotate_left;(focus intro W _;go_simp;try with_reducible rfl);rotate_left;try simp only[Act.put,zq]
         refine tF0 (i := 23) (v := ?_) rfl ?_ ?_
         rotate_left;(focus intro W _;go_simp;try with_reducible rfl);rotate_left;try simp only[Act.put,zq]
         refine rdF (rs := [24]) (by kernel_rfl) (by simp) ?_
         refine cF1 rfl fun K hK => ?_
         have HQ2 := Lib.hid (heap_setCell_same W53 q 3 _ _ (.slice (some ⟨g51, 0, none⟩) (t.n + 1) c51) HQ1.out)
         have hcb1 : (W53.setCell ⟨q, 3, none⟩ (.slice (some ⟨g51, 0, none⟩) (t.n + 1) c51)).cell? ⟨q, 4, none⟩ = some av := (c_o HQ2.out 4).1
         have hcb2 := frz HQ2.out 4
         go_simp
         refine hK.out _ _ (fun k hT _ => by
          cases k with
          | true => cases hT
          | false => exact GaS.st (qC := #[.pointer (some ⟨t.r, 0, none⟩), .int .i64 t.first, .int .i64 t.tiles, lv, av, .int .i64 t.steady].setIfInBounds 3 (.slice (some ⟨g51, 0, none⟩) (t.n + 1) c51)) (GaS.st (G53.out.s HS0.out false) HQ1.out 3 _) HQ2.out 4 _) ?_
         clear hK K hcb1 hcb2
         try simp only[Act.put,zq]
         refine wpAnyF_done (by kernel_rfl) ?_ _
         have hf := ga_fin G53.out HRd.out HOL.out (fun b hb => Nat.lt_of_lt_of_le (HPW.out b hb) HBd.out.size) HFit.out HNL.out HNO.out rfl HY.out
         have HFI := Lib.hid (And.intro hf.1 ((fr_of_below (S := fun b => b = q) HBd.out).trans hf.2 HBd.out.size (fun _ _ e => e)))
         clear hf
         go_wp2_with fail
         go_meet
         exact ⟨_, _, HFI.out⟩
       ·go_simp
        refine hK.out _ _ (fun k _ _ => G44.out.b2.s HS0.out k) ?_
        clear hK K
        try simp only[Act.put,zq]
        have G54 := Lib.hid G44.out.b2
        generalize W44.alloc (.cells #[] 5) = W54 at *
        generalize W44.heap.size = k54 at *
        clear G44
        refine rdF (rs := [7]) (by kernel_rfl) (by simp) ?_
        refine cF1 rfl fun K hK => ?_
        obtain ⟨g55, c55, W55, hr, ho, hg, hq⟩ := app_srcL (P := Tryz.prog) W54 W0.heap.size 29 29 44 ii _ 16 224 Tryz.underlying29 hi hz0 hz1 hz2 rfl (by decide) k44 0 0 [] G54.out.o1 lv t.n newsL (HNW.out.up G54.out.bl) HNL.out HNO.out (by unfold maxLen; omega) (by omega) G54.out.bl.size t.n (by omega) newsL rfl
        rw [if_pos (by rfl)]
        refine Lib.wp_append_run _ (.tmp 19) (.tmp 23) 29 29 rfl _ _ rfl rfl _ _ hr ?_
        have G55 := Lib.hid (G54.out.a1 ho hg hq)
        refine hK.out _ _ (fun k _ _ => G55.out.s HS0.out k) ?_
        clear hK K hr ho hg hq G54
        try simp only[Act.put,zq]
        refine rdF (rs := [10]) (by kernel_rfl) (by simp) ?_
        refine cF1 rfl fun K hK => ?_
        obtain ⟨g56, c56, W56, hr, ho, hg, hq⟩ := app_srcL (P := Tryz.prog) W55 W0.heap.size 29 29 44 ii _ 16 224 Tryz.underlying29 hi hz0 hz1 hz2 rfl (by decide) g55 c55 t.n newsL G55.out.o1 (.slice (some ⟨k43, 0, none⟩) 1 1) 1 [y0, y1, y2, y3, y4, y5, y6, y7, y8, y9, y10, y11, y12, y13, y14, y15] (src_blk (G55.out.en _ rfl).1) rfl HY.out (by unfold maxLen; omega) (by omega) G55.out.bl.size (t.n + 1) rfl (newsL ++ [y0, y1, y2, y3, y4, y5, y6, y7, y8, y9, y10, y11, y12, y13, y14, y15]) rfl
        rw [if_pos (by rfl)]
        refine Lib.wp_append_run _ (.tmp 24) (.tmp 26) 29 29 rfl _ _ rfl rfl _ _ hr ?_
        have G56 := Lib.hid (G55.out.a1 ho hg hq)
        refine hK.out _ _ (fun k _ _ => G56.out.s HS0.out k) ?_
        clear hK K hr ho hg hq G55
        try simp only[Act.put,zq]
        refine rdF (rs := [16]) (by kernel_rfl) (by simp) ?_
        refine cF1 rfl fun K hK => ?_
        obtain ⟨g57, c57, W57, hr, ho, hg, hq⟩ := app_srcL (P := Tryz.prog) W56 W0.heap.size 36 36 5 iu _ 1 1 Tryz.underlying36 hiu hzu hyu hxu rfl (by decide) k54 0 0 [] G56.out.o2 av t.S.length (byteV t.S) (HSA.out.up G56.out.bl) (by simp [byteV]) (one_byteV _) (by unfold maxLen; omega) (by omega) G56.out.bl.size t.S.length (by omega) (byteV t.S) rfl
        rw [if_pos (by rfl)]
        refine Lib.wp_append_run _ (.tmp 28) (.tmp 32) 36 36 rfl _ _ rfl rfl _ _ hr ?_
        have G57 := Lib.hid (G56.out.a2 ho hg)
        refine hK.out _ _ (fun k _ _ => G57.out.s HS0.out k) ?_
        clear hK K hr ho hg hq G56
        try simp only[Act.put,zq]
        refine rdF (rs := [18]) (by kernel_rfl) (by simp) ?_
        refine cF1 rfl fun K hK => ?_
        obtain ⟨g58, c58, W58, hr, ho, hg, hq⟩ := app_srcL (P := Tryz.prog) W57 W0.heap.size 36 36 5 iu _ 1 1 Tryz.underlying36 hiu hzu hyu hxu rfl (by decide) g57 c57 t.S.length (byteV t.S) G57.out.o2 (.slice A L.length c) L.length (byteV L) (HSF.out.up G57.out.bl) (by simp [byteV]) (one_byteV _) (by unfold maxLen; omega) (by omega) G57.out.bl.size (t.S.length + L.length) rfl (byteV (t.S ++ L)) (by simp [byteV])
        rw [if_pos (by rfl)]
        refine Lib.wp_append_run _ (.tmp 33) (.tmp 34) 36 36 rfl _ _ rfl rfl _ _ hr ?_
        have G58 := Lib.hid (G57.out.a2 ho hg)
        refine hK.out _ _ (fun k _ _ => G58.out.s HS0.out k) ?_
        clear hK K hr ho hg hq G57
        try simp only[Act.put,zq]
        refine tF0 (i := 19) (v := ?_) rfl ?_ ?_
        rotate_left;(focus intro W _;go_simp;try with_reducible rfl);rotate_left;try simp only[Act.put,zq]
        refine tF0 (i := 20) (v := ?_) rfl ?_ ?_
        rotate_left;(focus intro W _;go_simp;try with_reducible rfl);rotate_left;try simp only[Act.put,zq]
        refine rdF (rs := [21]) (by kernel_rfl) (by simp) ?_
        refine cF1 rfl fun K hK => ?_
        have hq1 : W58.heap[q]? = some (.cells #[.pointer (some ⟨t.r, 0, none⟩), .int .i64 t.first, .int .i64 t.tiles, lv, av, .int .i64 t.steady] 61 (0, 0)) := G58.out.s HS0.out true
        have hca1 : W58.cell? ⟨q, 3, none⟩ = some lv := (c_o hq1 3).1
        have hca2 := frz hq1 3
        have HQ1 := Lib.hid hq1
        clear hq1
        go_simp
        refine hK.out _ _ (fun k hT _ => by
         cases k with
         | true => cases hT
         | false => exact GaS.st (G58.out.s HS0.out false) HQ1.out 3 _) ?_
        clear hK K hca1 hca2
        try simp only[Act.put,zq]
        refine tF0 (i := 22) (v := ?_) rfl ?_ ?_
        rotate_left;(focus intro W _;go_simp;try with_reducible rfl);rotate_left;try simp only[Act.put,zq]
        refine tF0 (i := 23) (v := ?_) rfl ?_ ?_
        rotate_left;(focus intro W _;go_simp;try with_reducible rfl);rotate_left;try simp only[Act.put,zq]
        refine rdF (rs := [24]) (by kernel_rfl) (by simp) ?_
        refine cF1 rfl fun K hK => ?_
        have HQ2 := Lib.hid (heap_setCell_same W58 q 3 _ _ (.slice (some ⟨g56, 0, none⟩) (t.n + 1) c56) HQ1.out)
        have hcb1 : (W58.setCell ⟨q, 3, none⟩ (.slice (some ⟨g56, 0, none⟩) (t.n + 1) c56)).cell? ⟨q, 4, none⟩ = some av := (c_o HQ2.out 4).1
        have hcb2 := frz HQ2.out 4
        go_simp
        refine hK.out _ _ (fun k hT _ => by
         cases k with
         | true => cases hT
         | false => exact GaS.st (qC := #[.pointer (some ⟨t.r, 0, none⟩), .int .i64 t.first, .int .i64 t.tiles, lv, av, .int .i64 t.steady].setIfInBounds 3 (.slice (some ⟨g56, 0, none⟩) (t.n + 1) c56)) (GaS.st (G58.out.s HS0.out false) HQ1.out 3 _) HQ2.out 4 _) ?_
        clear hK K hcb1 hcb2
        try simp only[Act.put,zq]
        refine wpAnyF_done (by kernel_rfl) ?_ _
        have hf := ga_fin G58.out HRd.out HOL.out (fun b hb => Nat.lt_of_lt_of_le (HPW.out b hb) HBd.out.size) HFit.out HNL.out HNO.out rfl HY.out
        have HFI := Lib.hid (And.intro hf.1 ((fr_of_below (S := fun b => b = q) HBd.out).trans hf.2 HBd.out.size (fun _ _ e => e)))
        clear hf
        go_wp2_with fail
        go_meet
        exact ⟨_, _, HFI.out⟩
      ·go_simp
       refine hK.out _ _ (fun k _ _ => G43.out.b2.s HS0.out k) ?_
       clear hK K
       try simp only[Act.put,zq]
       have G59 := Lib.hid G43.out.b2
       generalize W43.alloc (.cells #[] 5) = W59 at *
       generalize W43.heap.size = k59 at *
       clear G43
       refine rdF (rs := [2]) (by kernel_rfl) (by simp) ?_
       refine cF1 rfl fun K hK => ?_
       go_simp
       refine hK.out _ _ (fun k _ _ => G59.out.b1.s HS0.out k) ?_
       clear hK K
       try simp only[Act.put,zq]
       have G60 := Lib.hid G59.out.b1
       generalize W59.alloc (.cells #[] 44) = W60 at *
       generalize W59.heap.size = k60 at *
       clear G59
       refine rdF (rs := [7]) (by kernel_rfl) (by simp) ?_
       refine cF1 rfl fun K hK => ?_
       obtain ⟨g61, c61, W61, hr, ho, hg, hq⟩ := app_srcL (P := Tryz.prog) W60 W0.heap.size 29 29 44 ii _ 16 224 Tryz.underlying29 hi hz0 hz1 hz2 rfl (by decide) k60 0 0 [] G60.out.o1 lv t.n newsL (HNW.out.up G60.out.bl) HNL.out HNO.out (by unfold maxLen; omega) (by omega) G60.out.bl.size t.n (by omega) newsL rfl
       rw [if_pos (by rfl)]
       refine Lib.wp_append_run _ (.tmp 19) (.tmp 23) 29 29 rfl _ _ rfl rfl _ _ hr ?_
       have G61 := Lib.hid (G60.out.a1 ho hg hq)
       refine hK.out _ _ (fun k _ _ => G61.out.s HS0.out k) ?_
       clear hK K hr ho hg hq G60
       try simp only[Act.put,zq]
       refine rdF (rs := [10]) (by kernel_rfl) (by simp) ?_
       refine cF1 rfl fun K hK => ?_
       obtain ⟨g62, c62, W62, hr, ho, hg, hq⟩ := app_srcL (P := Tryz.prog) W61 W0.heap.size 29 29 44 ii _ 16 224 Tryz.underlying29 hi hz0 hz1 hz2 rfl (by decide) g61 c61 t.n newsL G61.out.o1 (.slice (some ⟨k43, 0, none⟩) 1 1) 1 [y0, y1, y2, y3, y4, y5, y6, y7, y8, y9, y10, y11, y12, y13, y14, y15] (src_blk (G61.out.en _ rfl).1) rfl HY.out (by unfold maxLen; omega) (by omega) G61.out.bl.size (t.n + 1) rfl (newsL ++ [y0, y1, y2, y3, y4, y5, y6, y7, y8, y9, y10, y11, y12, y13, y14, y15]) rfl
       rw [if_pos (by rfl)]
       refine Lib.wp_append_run _ (.tmp 24) (.tmp 26) 29 29 rfl _ _ rfl rfl _ _ hr ?_
       have G62 := Lib.hid (G61.out.a1 ho hg hq)
       refine hK.out _ _ (fun k _ _ => G62.out.s HS0.out k) ?_
       clear hK K hr ho hg hq G61
       try simp only[Act.put,zq]
       refine rdF (rs := [16]) (by kernel_rfl) (by simp) ?_
       refine cF1 rfl fun K hK => ?_
       obtain ⟨g63, c63, W63, hr, ho, hg, hq⟩ := app_srcL (P := Tryz.prog) W62 W0.heap.size 36 36 5 iu _ 1 1 Tryz.underlying36 hiu hzu hyu hxu rfl (by decide) k59 0 0 [] G62.out.o2 av t.S.length (byteV t.S) (HSA.out.up G62.out.bl) (by simp [byteV]) (one_byteV _) (by unfold maxLen; omega) (by omega) G62.out.bl.size t.S.length (by omega) (byteV t.S) rfl
       rw [if_pos (by rfl)]
       refine Lib.wp_append_run _ (.tmp 28) (.tmp 32) 36 36 rfl _ _ rfl rfl _ _ hr ?_
       have G63 := Lib.hid (G62.out.a2 ho hg)
       refine hK.out _ _ (fun k _ _ => G63.out.s HS0.out k) ?_
       clear hK K hr ho hg hq G62
       try simp only[Act.put,zq]
       refine rdF (rs := [18]) (by kernel_rfl) (by simp) ?_
       refine cF1 rfl fun K hK => ?_
       obtain ⟨g64, c64, W64, hr, ho, hg, hq⟩ := app_srcL (P := Tryz.prog) W63 W0.heap.size 36 36 5 iu _ 1 1 Tryz.underlying36 hiu hzu hyu hxu rfl (by decide) g63 c63 t.S.length (byteV t.S) G63.out.o2 (.slice A L.length c) L.length (byteV L) (HSF.out.up G63.out.bl) (by simp [byteV]) (one_byteV _) (by unfold maxLen; omega) (by omega) G63.out.bl.size (t.S.length + L.length) rfl (byteV (t.S ++ L)) (by simp [byteV])
       rw [if_pos (by rfl)]
       refine Lib.wp_append_run _ (.tmp 33) (.tmp 34) 36 36 rfl _ _ rfl rfl _ _ hr ?_
       have G64 := Lib.hid (G63.out.a2 ho hg)
       refine hK.out _ _ (fun k _ _ => G64.out.s HS0.out k) ?_
       clear hK K hr ho hg hq G63
       try simp only[Act.put,zq]
       refine tF0 (i := 19) (v := ?_) rfl ?_ ?_
       rotate_left;(focus intro W _;go_simp;try with_reducible rfl);rotate_left;try simp only[Act.put,zq]
       refine tF0 (i := 20) (v := ?_) rfl ?_ ?_
       rotate_left;(focus intro W _;go_simp;try with_reducible rfl);rotate_left;try simp only[Act.put,zq]
       refine rdF (rs := [21]) (by kernel_rfl) (by simp) ?_
       refine cF1 rfl fun K hK => ?_
       have hq1 : W64.heap[q]? = some (.cells #[.pointer (some ⟨t.r, 0, none⟩), .int .i64 t.first, .int .i64 t.tiles, lv, av, .int .i64 t.steady] 61 (0, 0)) := G64.out.s HS0.out true
       have hca1 : W64.cell? ⟨q, 3, none⟩ = some lv := (c_o hq1 3).1
       have hca2 := frz hq1 3
       have HQ1 := Lib.hid hq1
       clear hq1
       go_simp
       refine hK.out _ _ (fun k hT _ => by
        cases k with
        | true => cases hT
        | false => exact GaS.st (G64.out.s HS0.out false) HQ1.out 3 _) ?_
       clear hK K hca1 hca2
       try simp only[Act.put,zq]
       refine tF0 (i := 22) (v := ?_) rfl ?_ ?_
       rotate_left;(focus intro W _;go_simp;try with_reducible rfl);rotate_left;try simp only[Act.put,zq]
       refine tF0 (i := 23) (v := ?_) rfl ?_ ?_
       rotate_left;(focus intro W _;go_simp;try with_reducible rfl);rotate_left;try simp only[Act.put,zq]
       refine rdF (rs := [24]) (by kernel_rfl) (by simp) ?_
       refine cF1 rfl fun K hK => ?_
       have HQ2 := Lib.hid (heap_setCell_same W64 q 3 _ _ (.slice (some ⟨g62, 0, none⟩) (t.n + 1) c62) HQ1.out)
       have hcb1 : (W64.setCell ⟨q, 3, none⟩ (.slice (some ⟨g62, 0, none⟩) (t.n + 1) c62)).cell? ⟨q, 4, none⟩ = some av := (c_o HQ2.out 4).1
       have hcb2 := frz HQ2.out 4
       go_simp
       refine hK.out _ _ (fun k hT _ => by
        cases k with
        | true => cases hT
        | false => exact GaS.st (qC := #[.pointer (some ⟨t.r, 0, none⟩), .int .i64 t.first, .int .i64 t.tiles, lv, av, .int .i64 t.steady].setIfInBounds 3 (.slice (some ⟨g62, 0, none⟩) (t.n + 1) c62)) (GaS.st (G64.out.s HS0.out false) HQ1.out 3 _) HQ2.out 4 _) ?_
       clear hK K hcb1 hcb2
       try simp only[Act.put,zq]
       refine wpAnyF_done (by kernel_rfl) ?_ _
       have hf := ga_fin G64.out HRd.out HOL.out (fun b hb => Nat.lt_of_lt_of_le (HPW.out b hb) HBd.out.size) HFit.out HNL.out HNO.out rfl HY.out
       have HFI := Lib.hid (And.intro hf.1 ((fr_of_below (S := fun b => b = q) HBd.out).trans hf.2 HBd.out.size (fun _ _ e => e)))
       clear hf
       go_wp2_with fail
       go_meet
       exact ⟨_, _, HFI.out⟩
     ·go_simp
      refine hK.out _ _ (fun k _ _ => G0.out.b2.s HS0.out k) ?_
      clear hK K
      try simp only[Act.put,zq]
      have G65 := Lib.hid G0.out.b2
      generalize W0.alloc (.cells #[] 5) = W65 at *
      generalize W0.heap.size = k65 at *
      clear G0
      refine rdF (rs := [2, 9]) (by kernel_rfl) (by simp) ?_
      refine cF2 rfl (fun K hK => ?_) (AllReadyF.cons (o := ⟨_,_,_,_,_,_⟩) rfl (fun K hK => ?_) (AllReadyF.nil))
      ·go_simp
       refine hK.out _ _ (fun k _ _ => G65.out.b1.s HS0.out k) ?_
       clear hK K
       try simp only[Act.put,zq]
       have G66 := Lib.hid G65.out.b1
       generalize W65.alloc (.cells #[] 44) = W66 at *
       generalize W65.heap.size = k66 at *
       clear G65
       refine rdF (rs := [7, 9]) (by kernel_rfl) (by simp) ?_
       refine cF2 rfl (fun K hK => ?_) (AllReadyF.cons (o := ⟨_,_,_,_,_,_⟩) rfl (fun K hK => ?_) (AllReadyF.nil))
       ·obtain ⟨g67, c67, W67, hr, ho, hg, hq⟩ := app_srcL (P := Tryz.prog) W66 W0.heap.size 29 29 44 ii _ 16 224 Tryz.underlying29 hi hz0 hz1 hz2 rfl (by decide) k66 0 0 [] G66.out.o1 lv t.n newsL (HNW.out.up G66.out.bl) HNL.out HNO.out (by unfold maxLen; omega) (by omega) G66.out.bl.size t.n (by omega) newsL rfl
        rw [if_pos (by rfl)]
        refine Lib.wp_append_run _ (.tmp 19) (.tmp 23) 29 29 rfl _ _ rfl rfl _ _ hr ?_
        have G67 := Lib.hid (G66.out.a1 ho hg hq)
        refine hK.out _ _ (fun k _ _ => G67.out.s HS0.out k) ?_
        clear hK K hr ho hg hq G66
        try simp only[Act.put,zq]
        refine rdF (rs := [9]) (by kernel_rfl) (by simp) ?_
        refine cF1 rfl fun K hK => ?_
        go_simp
        refine hK.out _ _ (fun k _ _ => G67.out.be.s HS0.out k) ?_
        clear hK K
        try simp only[Act.put,zq]
        have G68 := Lib.hid G67.out.be
        generalize W67.alloc (.cells #[y0, y1, y2, y3, y4, y5, y6, y7, y8, y9, y10, y11, y12, y13, y14, y15] 44) = W68 at *
        generalize W67.heap.size = k68 at *
        clear G67
        refine rdF (rs := [10]) (by kernel_rfl) (by simp) ?_
        refine cF1 rfl fun K hK => ?_
        obtain ⟨g69, c69, W69, hr, ho, hg, hq⟩ := app_srcL (P := Tryz.prog) W68 W0.heap.size 29 29 44 ii _ 16 224 Tryz.underlying29 hi hz0 hz1 hz2 rfl (by decide) g67 c67 t.n newsL G68.out.o1 (.slice (some ⟨k68, 0, none⟩) 1 1) 1 [y0, y1, y2, y3, y4, y5, y6, y7, y8, y9, y10, y11, y12, y13, y14, y15] (src_blk (G68.out.en _ rfl).1) rfl HY.out (by unfold maxLen; omega) (by omega) G68.out.bl.size (t.n + 1) rfl (newsL ++ [y0, y1, y2, y3, y4, y5, y6, y7, y8, y9, y10, y11, y12, y13, y14, y15]) rfl
        rw [if_pos (by rfl)]
        refine Lib.wp_append_run _ (.tmp 24) (.tmp 26) 29 29 rfl _ _ rfl rfl _ _ hr ?_
        have G69 := Lib.hid (G68.out.a1 ho hg hq)
        refine hK.out _ _ (fun k _ _ => G69.out.s HS0.out k) ?_
        clear hK K hr ho hg hq G68
        try simp only[Act.put,zq]
        refine rdF (rs := [16]) (by kernel_rfl) (by simp) ?_
        refine cF1 rfl fun K hK => ?_
        obtain ⟨g70, c70, W70, hr, ho, hg, hq⟩ := app_srcL (P := Tryz.prog) W69 W0.heap.size 36 36 5 iu _ 1 1 Tryz.underlying36 hiu hzu hyu hxu rfl (by decide) k65 0 0 [] G69.out.o2 av t.S.length (byteV t.S) (HSA.out.up G69.out.bl) (by simp [byteV]) (one_byteV _) (by unfold maxLen; omega) (by omega) G69.out.bl.size t.S.length (by omega) (byteV t.S) rfl
        rw [if_pos (by rfl)]
        refine Lib.wp_append_run _ (.tmp 28) (.tmp 32) 36 36 rfl _ _ rfl rfl _ _ hr ?_
        have G70 := Lib.hid (G69.out.a2 ho hg)
        refine hK.out _ _ (fun k _ _ => G70.out.s HS0.out k) ?_
        clear hK K hr ho hg hq G69
        try simp only[Act.put,zq]
        refine rdF (rs := [18]) (by kernel_rfl) (by simp) ?_
        refine cF1 rfl fun K hK => ?_
        obtain ⟨g71, c71, W71, hr, ho, hg, hq⟩ := app_srcL (P := Tryz.prog) W70 W0.heap.size 36 36 5 iu _ 1 1 Tryz.underlying36 hiu hzu hyu hxu rfl (by decide) g70 c70 t.S.length (byteV t.S) G70.out.o2 (.slice A L.length c) L.length (byteV L) (HSF.out.up G70.out.bl) (by simp [byteV]) (one_byteV _) (by unfold maxLen; omega) (by omega) G70.out.bl.size (t.S.length + L.length) rfl (byteV (t.S ++ L)) (by simp [byteV])
        rw [if_pos (by rfl)]
        refine Lib.wp_append_run _ (.tmp 33) (.tmp 34) 36 36 rfl _ _ rfl rfl _ _ hr ?_
        have G71 := Lib.hid (G70.out.a2 ho hg)
        refine hK.out _ _ (fun k _ _ => G71.out.s HS0.out k) ?_
        clear hK K hr ho hg hq G70
        try simp only[Act.put,zq]
        refine tF0 (i := 19) (v := ?_) rfl ?_ ?_
        rotate_left;(focus intro W _;go_simp;try with_reducible rfl);rotate_left;try simp only[Act.put,zq]
        refine tF0 (i := 20) (v := ?_) rfl ?_ ?_
        rotate_left;(focus intro W _;go_simp;try with_reducible rfl);rotate_left;try simp only[Act.put,zq]
        refine rdF (rs := [21]) (by kernel_rfl) (by simp) ?_
        refine cF1 rfl fun K hK => ?_
        have hq1 : W71.heap[q]? = some (.cells #[.pointer (some ⟨t.r, 0, none⟩), .int .i64 t.first, .int .i64 t.tiles, lv, av, .int .i64 t.steady] 61 (0, 0)) := G71.out.s HS0.out true
        have hca1 : W71.cell? ⟨q, 3, none⟩ = some lv := (c_o hq1 3).1
        have hca2 := frz hq1 3
        have HQ1 := Lib.hid hq1
        clear hq1
        go_simp
        refine hK.out _ _ (fun k hT _ => by
         cases k with
         | true => cases hT
         | false => exact GaS.st (G71.out.s HS0.out false) HQ1.out 3 _) ?_
        clear hK K hca1 hca2
        try simp only[Act.put,zq]
        refine tF0 (i := 22) (v := ?_) rfl ?_ ?_
        rotate_left;(focus intro W _;go_simp;try with_reducible rfl);rotate_left;try simp only[Act.put,zq]
        refine tF0 (i := 23) (v := ?_) rfl ?_ ?_
        rotate_left;(focus intro W _;go_simp;try with_reducible rfl);rotate_left;try simp only[Act.put,zq]
        refine rdF (rs := [24]) (by kernel_rfl) (by simp) ?_
        refine cF1 rfl fun K hK => ?_
        have HQ2 := Lib.hid (heap_setCell_same W71 q 3 _ _ (.slice (some ⟨g69, 0, none⟩) (t.n + 1) c69) HQ1.out)
        have hcb1 : (W71.setCell ⟨q, 3, none⟩ (.slice (some ⟨g69, 0, none⟩) (t.n + 1) c69)).cell? ⟨q, 4, none⟩ = some av := (c_o HQ2.out 4).1
        have hcb2 := frz HQ2.out 4
        go_simp
        refine hK.out _ _ (fun k hT _ => by
         cases k with
         | true => cases hT
         | false => exact GaS.st (qC := #[.pointer (some ⟨t.r, 0, none⟩), .int .i64 t.first, .int .i64 t.tiles, lv, av, .int .i64 t.steady].setIfInBounds 3 (.slice (some ⟨g69, 0, none⟩) (t.n + 1) c69)) (GaS.st (G71.out.s HS0.out false) HQ1.out 3 _) HQ2.out 4 _) ?_
        clear hK K hcb1 hcb2
        try simp only[Act.put,zq]
        refine wpAnyF_done (by kernel_rfl) ?_ _
        have hf := ga_fin G71.out HRd.out HOL.out (fun b hb => Nat.lt_of_lt_of_le (HPW.out b hb) HBd.out.size) HFit.out HNL.out HNO.out rfl HY.out
        have HFI := Lib.hid (And.intro hf.1 ((fr_of_below (S := fun b => b = q) HBd.out).trans hf.2 HBd.out.size (fun _ _ e => e)))
        clear hf
        go_wp2_with fail
        go_meet
        exact ⟨_, _, HFI.out⟩
       ·go_simp
        refine hK.out _ _ (fun k _ _ => G66.out.be.s HS0.out k) ?_
        clear hK K
        try simp only[Act.put,zq]
        have G72 := Lib.hid G66.out.be
        generalize W66.alloc (.cells #[y0, y1, y2, y3, y4, y5, y6, y7, y8, y9, y10, y11, y12, y13, y14, y15] 44) = W72 at *
        generalize W66.heap.size = k72 at *
        clear G66
        refine rdF (rs := [7]) (by kernel_rfl) (by simp) ?_
        refine cF1 rfl fun K hK => ?_
        obtain ⟨g73, c73, W73, hr, ho, hg, hq⟩ := app_srcL (P := Tryz.prog) W72 W0.heap.size 29 29 44 ii _ 16 224 Tryz.underlying29 hi hz0 hz1 hz2 rfl (by decide) k66 0 0 [] G72.out.o1 lv t.n newsL (HNW.out.up G72.out.bl) HNL.out HNO.out (by unfold maxLen; omega) (by omega) G72.out.bl.size t.n (by omega) newsL rfl
        rw [if_pos (by rfl)]
        refine Lib.wp_append_run _ (.tmp 19) (.tmp 23) 29 29 rfl _ _ rfl rfl _ _ hr ?_
        have G73 := Lib.hid (G72.out.a1 ho hg hq)
        refine hK.out _ _ (fun k _ _ => G73.out.s HS0.out k) ?_
        clear hK K hr ho hg hq G72
        try simp only[Act.put,zq]
        refine rdF (rs := [10]) (by kernel_rfl) (by simp) ?_
        refine cF1 rfl fun K hK => ?_
        obtain ⟨g74, c74, W74, hr, ho, hg, hq⟩ := app_srcL (P := Tryz.prog) W73 W0.heap.size 29 29 44 ii _ 16 224 Tryz.underlying29 hi hz0 hz1 hz2 rfl (by decide) g73 c73 t.n newsL G73.out.o1 (.slice (some ⟨k72, 0, none⟩) 1 1) 1 [y0, y1, y2, y3, y4, y5, y6, y7, y8, y9, y10, y11, y12, y13, y14, y15] (src_blk (G73.out.en _ rfl).1) rfl HY.out (by unfold maxLen; omega) (by omega) G73.out.bl.size (t.n + 1) rfl (newsL ++ [y0, y1, y2, y3, y4, y5, y6, y7, y8, y9, y10, y11, y12, y13, y14, y15]) rfl
        rw [if_pos (by rfl)]
        refine Lib.wp_append_run _ (.tmp 24) (.tmp 26) 29 29 rfl _ _ rfl rfl _ _ hr ?_
        have G74 := Lib.hid (G73.out.a1 ho hg hq)
        refine hK.out _ _ (fun k _ _ => G74.out.s HS0.out k) ?_
        clear hK K hr ho hg hq G73
        try simp only[Act.put,zq]
        refine rdF (rs := [16]) (by kernel_rfl) (by simp) ?_
        refine cF1 rfl fun K hK => ?_
        obtain ⟨g75, c75, W75, hr, ho, hg, hq⟩ := app_srcL (P := Tryz.prog) W74 W0.heap.size 36 36 5 iu _ 1 1 Tryz.underlying36 hiu hzu hyu hxu rfl (by decide) k65 0 0 [] G74.out.o2 av t.S.length (byteV t.S) (HSA.out.up G74.out.bl) (by simp [byteV]) (one_byteV _) (by unfold maxLen; omega) (by omega) G74.out.bl.size t.S.length (by omega) (byteV t.S) rfl
        rw [if_pos (by rfl)]
        refine Lib.wp_append_run _ (.tmp 28) (.tmp 32) 36 36 rfl _ _ rfl rfl _ _ hr ?_
        have G75 := Lib.hid (G74.out.a2 ho hg)
        refine hK.out _ _ (fun k _ _ => G75.out.s HS0.out k) ?_
        clear hK K hr ho hg hq G74
        try simp only[Act.put,zq]
        refine rdF (rs := [18]) (by kernel_rfl) (by simp) ?_
        refine cF1 rfl fun K hK => ?_
        obtain ⟨g76, c76, W76, hr, ho, hg, hq⟩ := app_srcL (P := Tryz.prog) W75 W0.heap.size 36 36 5 iu _ 1 1 Tryz.underlying36 hiu hzu hyu hxu rfl (by decide) g75 c75 t.S.length (byteV t.S) G75.out.o2 (.slice A L.length c) L.length (byteV L) (HSF.out.up G75.out.bl) (by simp [byteV]) (one_byteV _) (by unfold maxLen; omega) (by omega) G75.out.bl.size (t.S.length + L.length) rfl (byteV (t.S ++ L)) (by simp [byteV])
        rw [if_pos (by rfl)]
        refine Lib.wp_append_run _ (.tmp 33) (.tmp 34) 36 36 rfl _ _ rfl rfl _ _ hr ?_
        have G76 := Lib.hid (G75.out.a2 ho hg)
        refine hK.out _ _ (fun k _ _ => G76.out.s HS0.out k) ?_
        clear hK K hr ho hg hq G75
        try simp only[Act.put,zq]
        refine tF0 (i := 19) (v := ?_) rfl ?_ ?_
        rotate_left;(focus intro W _;go_simp;try with_reducible rfl);rotate_left;try simp only[Act.put,zq]
        refine tF0 (i := 20) (v := ?_) rfl ?_ ?_
        rotate_left;(focus intro W _;go_simp;try with_reducible rfl);rotate_left;try simp only[Act.put,zq]
        refine rdF (rs := [21]) (by kernel_rfl) (by simp) ?_
        refine cF1 rfl fun K hK => ?_
        have hq1 : W76.heap[q]? = some (.cells #[.pointer (some ⟨t.r, 0, none⟩), .int .i64 t.first, .int .i64 t.tiles, lv, av, .int .i64 t.steady] 61 (0, 0)) := G76.out.s HS0.out true
        have hca1 : W76.cell? ⟨q, 3, none⟩ = some lv := (c_o hq1 3).1
        have hca2 := frz hq1 3
        have HQ1 := Lib.hid hq1
        clear hq1
        go_simp
        refine hK.out _ _ (fun k hT _ => by
         cases k with
         | true => cases hT
         | false => exact GaS.st (G76.out.s HS0.out false) HQ1.out 3 _) ?_
        clear hK K hca1 hca2
        try simp only[Act.put,zq]
        refine tF0 (i := 22) (v := ?_) rfl ?_ ?_
        rotate_left;(focus intro W _;go_simp;try with_reducible rfl);rotate_left;try simp only[Act.put,zq]
        refine tF0 (i := 23) (v := ?_) rfl ?_ ?_
        rotate_left;(focus intro W _;go_simp;try with_reducible rfl);rotate_left;try simp only[Act.put,zq]
        refine rdF (rs := [24]) (by kernel_rfl) (by simp) ?_
        refine cF1 rfl fun K hK => ?_
        have HQ2 := Lib.hid (heap_setCell_same W76 q 3 _ _ (.slice (some ⟨g74, 0, none⟩) (t.n + 1) c74) HQ1.out)
        have hcb1 : (W76.setCell ⟨q, 3, none⟩ (.slice (some ⟨g74, 0, none⟩) (t.n + 1) c74)).cell? ⟨q, 4, none⟩ = some av := (c_o HQ2.out 4).1
        have hcb2 := frz HQ2.out 4
        go_simp
        refine hK.out _ _ (fun k hT _ => by
         cases k with
         | true => cases hT
         | false => exact GaS.st (qC := #[.pointer (some ⟨t.r, 0, none⟩), .int .i64 t.first, .int .i64 t.tiles, lv, av, .int .i64 t.steady].setIfInBounds 3 (.slice (some ⟨g74, 0, none⟩) (t.n + 1) c74)) (GaS.st (G76.out.s HS0.out false) HQ1.out 3 _) HQ2.out 4 _) ?_
        clear hK K hcb1 hcb2
        try simp only[Act.put,zq]
        refine wpAnyF_done (by kernel_rfl) ?_ _
        have hf := ga_fin G76.out HRd.out HOL.out (fun b hb => Nat.lt_of_lt_of_le (HPW.out b hb) HBd.out.size) HFit.out HNL.out HNO.out rfl HY.out
        have HFI := Lib.hid (And.intro hf.1 ((fr_of_below (S := fun b => b = q) HBd.out).trans hf.2 HBd.out.size (fun _ _ e => e)))
        clear hf
        go_wp2_with fail
        go_meet
        exact ⟨_, _, HFI.out⟩
      ·go_simp
       refine hK.out _ _ (fun k _ _ => G65.out.be.s HS0.out k) ?_
       clear hK K
       try simp only[Act.put,zq]
       have G77 := Lib.hid G65.out.be
       generalize W65.alloc (.cells #[y0, y1, y2, y3, y4, y5, y6, y7, y8, y9, y10, y11, y12, y13, y14, y15] 44) = W77 at *
       generalize W65.heap.size = k77 at *
       clear G65
       refine rdF (rs := [2]) (by kernel_rfl) (by simp) ?_
       refine cF1 rfl fun K hK => ?_
       go_simp
       refine hK.out _ _ (fun k _ _ => G77.out.b1.s HS0.out k) ?_
       clear hK K
       try simp only[Act.put,zq]
       have G78 := Lib.hid G77.out.b1
       generalize W77.alloc (.cells #[] 44) = W78 at *
       generalize W77.heap.size = k78 at *
       clear G77
       refine rdF (rs := [7]) (by kernel_rfl) (by simp) ?_
       refine cF1 rfl fun K hK => ?_
       obtain ⟨g79, c79, W79, hr, ho, hg, hq⟩ := app_srcL (P := Tryz.prog) W78 W0.heap.size 29 29 44 ii _ 16 224 Tryz.underlying29 hi hz0 hz1 hz2 rfl (by decide) k78 0 0 [] G78.out.o1 lv t.n newsL (HNW.out.up G78.out.bl) HNL.out HNO.out (by unfold maxLen; omega) (by omega) G78.out.bl.size t.n (by omega) newsL rfl
       rw [if_pos (by rfl)]
       refine Lib.wp_append_run _ (.tmp 19) (.tmp 23) 29 29 rfl _ _ rfl rfl _ _ hr ?_
       have G79 := Lib.hid (G78.out.a1 ho hg hq)
       refine hK.out _ _ (fun k _ _ => G79.out.s HS0.out k) ?_
       clear hK K hr ho hg hq G78
       try simp only[Act.put,zq]
       refine rdF (rs := [10]) (by kernel_rfl) (by simp) ?_
       refine cF1 rfl fun K hK => ?_
       obtain ⟨g80, c80, W80, hr, ho, hg, hq⟩ := app_srcL (P := Tryz.prog) W79 W0.heap.size 29 29 44 ii _ 16 224 Tryz.underlying29 hi hz0 hz1 hz2 rfl (by decide) g79 c79 t.n newsL G79.out.o1 (.slice (some ⟨k77, 0, none⟩) 1 1) 1 [y0, y1, y2, y3, y4, y5, y6, y7, y8, y9, y10, y11, y12, y13, y14, y15] (src_blk (G79.out.en _ rfl).1) rfl HY.out (by unfold maxLen; omega) (by omega) G79.out.bl.size (t.n + 1) rfl (newsL ++ [y0, y1, y2, y3, y4, y5, y6, y7, y8, y9, y10, y11, y12, y13, y14, y15]) rfl
       rw [if_pos (by rfl)]
       refine Lib.wp_append_run _ (.tmp 24) (.tmp 26) 29 29 rfl _ _ rfl rfl _ _ hr ?_
       have G80 := Lib.hid (G79.out.a1 ho hg hq)
       refine hK.out _ _ (fun k _ _ => G80.out.s HS0.out k) ?_
       clear hK K hr ho hg hq G79
       try simp only[Act.put,zq]
       refine rdF (rs := [16]) (by kernel_rfl) (by simp) ?_
       refine cF1 rfl fun K hK => ?_
       obtain ⟨g81, c81, W81, hr, ho, hg, hq⟩ := app_srcL (P := Tryz.prog) W80 W0.heap.size 36 36 5 iu _ 1 1 Tryz.underlying36 hiu hzu hyu hxu rfl (by decide) k65 0 0 [] G80.out.o2 av t.S.length (byteV t.S) (HSA.out.up G80.out.bl) (by simp [byteV]) (one_byteV _) (by unfold maxLen; omega) (by omega) G80.out.bl.size t.S.length (by omega) (byteV t.S) rfl
       rw [if_pos (by rfl)]
       refine Lib.wp_append_run _ (.tmp 28) (.tmp 32) 36 36 rfl _ _ rfl rfl _ _ hr ?_
       have G81 := Lib.hid (G80.out.a2 ho hg)
       refine hK.out _ _ (fun k _ _ => G81.out.s HS0.out k) ?_
       clear hK K hr ho hg hq G80
       try simp only[Act.put,zq]
       refine rdF (rs := [18]) (by kernel_rfl) (by simp) ?_
       refine cF1 rfl fun K hK => ?_
       obtain ⟨g82, c82, W82, hr, ho, hg, hq⟩ := app_srcL (P := Tryz.prog) W81 W0.heap.size 36 36 5 iu _ 1 1 Tryz.underlying36 hiu hzu hyu hxu rfl (by decide) g81 c81 t.S.length (byteV t.S) G81.out.o2 (.slice A L.length c) L.length (byteV L) (HSF.out.up G81.out.bl) (by simp [byteV]) (one_byteV _) (by unfold maxLen; omega) (by omega) G81.out.bl.size (t.S.length + L.length) rfl (byteV (t.S ++ L)) (by simp [byteV])
       rw [if_pos (by rfl)]
       refine Lib.wp_append_run _ (.tmp 33) (.tmp 34) 36 36 rfl _ _ rfl rfl _ _ hr ?_
       have G82 := Lib.hid (G81.out.a2 ho hg)
       refine hK.out _ _ (fun k _ _ => G82.out.s HS0.out k) ?_
       clear hK K hr ho hg hq G81
       try simp only[Act.put,zq]
       refine tF0 (i := 19) (v := ?_) rfl ?_ ?_
       rotate_left;(focus intro W _;go_simp;try with_reducible rfl);rotate_left;try simp only[Act.put,zq]
       refine tF0 (i := 20) (v := ?_) rfl ?_ ?_
       rotate_left;(focus intro W _;go_simp;try with_reducible rfl);rotate_left;try simp only[Act.put,zq]
       refine rdF (rs := [21]) (by kernel_rfl) (by simp) ?_
       refine cF1 rfl fun K hK => ?_
       have hq1 : W82.heap[q]? = some (.cells #[.pointer (some ⟨t.r, 0, none⟩), .int .i64 t.first, .int .i64 t.tiles, lv, av, .int .i64 t.steady] 61 (0, 0)) := G82.out.s HS0.out true
       have hca1 : W82.cell? ⟨q, 3, none⟩ = some lv := (c_o hq1 3).1
       have hca2 := frz hq1 3
       have HQ1 := Lib.hid hq1
       clear hq1
       go_simp
       refine hK.out _ _ (fun k hT _ => by
        cases k with
        | true => cases hT
        | false => exact GaS.st (G82.out.s HS0.out false) HQ1.out 3 _) ?_
       clear hK K hca1 hca2
       try simp only[Act.put,zq]
       refine tF0 (i := 22) (v := ?_) rfl ?_ ?_
       rotate_left;(focus intro W _;go_simp;try with_reducible rfl);rotate_left;try simp only[Act.put,zq]
       refine tF0 (i := 23) (v := ?_) rfl ?_ ?_
       rotate_left;(focus intro W _;go_simp;try with_reducible rfl);rotate_left;try simp only[Act.put,zq]
       refine rdF (rs := [24]) (by kernel_rfl) (by simp) ?_
       refine cF1 rfl fun K hK => ?_
       have HQ2 := Lib.hid (heap_setCell_same W82 q 3 _ _ (.slice (some ⟨g80, 0, none⟩) (t.n + 1) c80) HQ1.out)
       have hcb1 : (W82.setCell ⟨q, 3, none⟩ (.slice (some ⟨g80, 0, none⟩) (t.n + 1) c80)).cell? ⟨q, 4, none⟩ = some av := (c_o HQ2.out 4).1
       have hcb2 := frz HQ2.out 4
       go_simp
       refine hK.out _ _ (fun k hT _ => by
        cases k with
        | true => cases hT
        | false => exact GaS.st (qC := #[.pointer (some ⟨t.r, 0, none⟩), .int .i64 t.first, .int .i64 t.tiles, lv, av, .int .i64 t.steady].setIfInBounds 3 (.slice (some ⟨g80, 0, none⟩) (t.n + 1) c80)) (GaS.st (G82.out.s HS0.out false) HQ1.out 3 _) HQ2.out 4 _) ?_
       clear hK K hcb1 hcb2
       try simp only[Act.put,zq]
       refine wpAnyF_done (by kernel_rfl) ?_ _
       have hf := ga_fin G82.out HRd.out HOL.out (fun b hb => Nat.lt_of_lt_of_le (HPW.out b hb) HBd.out.size) HFit.out HNL.out HNO.out rfl HY.out
       have HFI := Lib.hid (And.intro hf.1 ((fr_of_below (S := fun b => b = q) HBd.out).trans hf.2 HBd.out.size (fun _ _ e => e)))
       clear hf
       go_wp2_with fail
       go_meet
       exact ⟨_, _, HFI.out⟩
theorem rappend_any (w : World) {q : Nat} {lv av : Value} {P : Nat → Prop} {t : Rt} {e : Ent} {s1 s2 s3 s4 s5 s6 : Value} (h : RtAt w q lv av P t) (hn : t.n ≤ 2000) (hPw : ∀ b, P b → b < w.heap.size) (hs : EntS w s1 s2 s3 s4 s5 s6 e) (hi : EntI e) :
  Calls Tryz.prog 13 #[.pointer (some ⟨q, 0, none⟩), .agg (entC e s1 s2 s3 s4 s5 s6)] w (RapPost w q lv av P t (frL e)) := by
 refine rapp_core w h hn hPw (frL_ok hs.old.ok hs.new.ok) ?_ fun W hW => (rframe_any W e (hs.below hW (Nat.le_refl _)) hi)
 obtain ⟨A1, c1, A2, c2, A3, c3, A4, c4, A5, c5, A6, c6, h1, h2, h3, h4, h5, h6⟩ := hs.form
 subst h1 h2 h3 h4 h5 h6
 intro u hu
 simp only [List.mem_cons, List.not_mem_nil, or_false] at hu
 rcases hu with rfl | rfl | rfl | rfl | rfl | rfl | rfl | rfl | rfl | rfl | rfl | rfl | rfl | rfl | rfl | rfl <;> rfl
end Go.Proofs.YthmgafcnoedmjaaGreat
