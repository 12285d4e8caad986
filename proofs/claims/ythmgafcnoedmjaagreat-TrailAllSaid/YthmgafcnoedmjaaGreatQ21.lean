/- TrailAll, a part. -/
import Derived.Test.YthmgafcnoedmjaaGreatQ8
import Derived.OwnWalk
import Derived.Test.YthmgafcnoedmjaaGreatQ20
import Derived.Test.YthmgafcnoedmjaaGreatQ17
import Derived.Laws.AppendOwnNone
import Derived.Test.YthmgafcnoedmjaaGreatQ19
import Derived.Deep.DeepCutAuto
import Derived.Deep.OwnRows
namespace Go.Proofs.YthmgafcnoedmjaaGreat
set_option maxRecDepth 100000
open Go.RowKit Go.Maps
theorem clone_nil (w : World) : Calls Tryz.prog 43 #[.slice none 0 0] w fun e w' => e = .returned (.slice none 0 0) ∧ w' = w := by
 have hn : ∀ W, (binOp .eql 36 (.slice none 0 0) (.slice none 0 0)).run Tryz.prog W = .ok (.bool true) W := fun W => Lib.run_eql_slice_nil W 36 5 none 0 0 0 0 Tryz.underlying36
 go_enter Tryz.func43, Tryz.ntmps43
 go_wp2
 go_ret
 exact ⟨rfl, rfl⟩
theorem slB_own {w : World} {B : Nat} {v : Value} {l : List Int} (h : w.ownsRow B 5 1 v l.length (byteV l)) (hl : l.length ≤ 1000000) : ∃ g, B ≤ g ∧ SlB w v l g := by
 obtain ⟨h1, ⟨rfl, h0⟩ | ⟨g, cap, cur, rfl, hB, hg, hle, _, _, htake⟩⟩ := h
 ·exact ⟨B, Nat.le_refl _, none, 0, 0, rfl, h0.symm, Nat.le_refl _, by omega, (fun _ => List.eq_nil_of_length_eq_zero h0), (fun a e => by cases e)⟩
 ·refine ⟨g, hB, some ⟨g, 0, none⟩, _, cap, rfl, rfl, hle, hl, (fun e => by cases e), fun a e _ => ?_⟩
  cases e
  refine ⟨rfl, rfl, fun j hj => ?_⟩
  have h2 := (c_o hg (0 + j)).1
  rw [h2, Nat.zero_add]
  have e1 : (cur.toList.take (l.length * 1))[j]? = some (.int .u8 l[j]) := by rw [htake]; simp [byteV, hj]
  rw [List.getElem?_take, if_pos (by omega)] at e1
  simpa using e1
theorem clone_some (w : World) (gb ao : Nat) (asp : Option _) (cap : Nat) (l : List Int) (hl : l.length ≤ 1000000) (hsp : l ≠ [] → asp = none) (hc : ∀ j (h : j < l.length), w.cell? ⟨gb, ao + j, none⟩ = some (.int .u8 l[j])) : Calls Tryz.prog 43 #[.slice (some ⟨gb, ao, asp⟩) l.length cap] w fun e w' => ∃ v, e = .returned v ∧ w'.ownsRow w.heap.size 5 1 v l.length (byteV l) ∧ Below w.heap.size w w' := by
 have hn : ∀ W n c, (binOp .eql 36 (.slice (some ⟨gb, ao, asp⟩) n c) (.slice none 0 0)).run Tryz.prog W = .ok (.bool false) W := fun W n c => Lib.run_eql_slice_nil W 36 5 (some ⟨gb, ao, asp⟩) n c 0 0 Tryz.underlying36
 obtain ⟨i, hi, hz0, hz1, hz2⟩ := info_parts infoU8
 have hgb : 0 < l.length → gb < w.heap.size := fun h => block_lt_of_cell (hc 0 h)
 have HC := Lib.hid hc
 have HSP := Lib.hid hsp
 clear hc hsp
 go_enter Tryz.func43, Tryz.ntmps43
 go_wp2_with (at_builtin; refine wpList_append_own _ rfl _ _ 36 rfl w.heap.size 5 i (.int .u8 0) 1 1 Tryz.underlying36 hi hz0 hz1 hz2 rfl (by decide) _ 0 [] rfl ?c1 ⟨gb, ao, asp⟩ l.length cap (byteV l) rfl ?c2 ?c3 ?c4 ?c5 ?c6 ?c7 ?_)
 case c1 => exact ⟨rfl, Or.inr ⟨w.heap.size, 0, #[], rfl, Nat.le_refl _, heap_alloc_new w _, Nat.le_refl _, by unfold maxLen; omega, rfl, rfl⟩⟩
 case c2 => simp [byteV]
 case c3 =>
  intro j u hu
  have hj : j < l.length := by have := (List.getElem?_eq_some_iff.1 hu).1; simpa [byteV] using this
  have h1 := HC.out j hj
  have h2 : (⟨gb, ao, asp⟩ : Addr).add j = ⟨gb, ao + j, none⟩ := by rw [HSP.out (by intro e; rw [e] at hj; cases hj)]; unfold Addr.add; split <;> simp_all
  have h3 := hgb (by omega)
  rw [h2, World.cell?_of_block (Below.heap_alloc w _ gb h3), h1]
  simp [byteV] at hu
  obtain ⟨x, hx, rfl⟩ := hu
  rw [List.getElem?_eq_getElem hj] at hx
  cases hx
  rfl
 case c4 => exact byteV_one l
 case c5 => unfold maxLen; omega
 case c6 => omega
 case c7 => simp
 intro v' w1 hown hgrow _
 go_wp2
 go_ret
 exact ⟨v', rfl, by simpa using hown, ((Below.refl _ w).alloc (Nat.le_refl _) _).grown hgrow (by simp) (fun k hk => by cases hk; exact Nat.le_refl _)⟩
def Dk.unarmed (d : Dk) : Dk := { d with set := false, left := 0, mv := .slice none 0 0, mask := [] }
def Dk.armed (d : Dk) (n : Int) (mv : Value) (ms : List Int) : Dk := { d with set := true, left := n, mv := mv, mask := ms }
theorem put_armed {w : World} {p bn bo g : Nat} {d : Dk} (h : DiskAt w p bn bo g d) (s : Bool) {n : Int} (n0 : 0 ≤ n) (n1 : n ≤ 9223372036854775807) {mv : Value} {ms : List Int} {g' : Nat} (hg : g' ≠ p) (hm : SlB w mv ms g') (hb : bytesOk ms) :
  DiskAt (((w.setCell ⟨p, 4, none⟩ (.bool s)).setCell ⟨p, 5, none⟩ (.int .i64 n)).setCell ⟨p, 6, none⟩ mv) p bn bo g' { d with set := s, left := n, mv := mv, mask := ms } := by
 have ok := h.ok
 have h1 := h.poke (d' := { d with set := s }) 4 (.bool s) rfl rfl rfl h.mask ⟨ok.lo, ok.hi, ok.now, ok.old, ok.llo, ok.lhi, ok.mok⟩
 have h2 := h1.poke (d' := { d with set := s, left := n }) 5 (.int .i64 n) rfl rfl rfl h1.mask ⟨ok.lo, ok.hi, ok.now, ok.old, n0, n1, ok.mok⟩
 have hm2 : SlB ((w.setCell ⟨p, 4, none⟩ (.bool s)).setCell ⟨p, 5, none⟩ (.int .i64 n)) mv ms g' := (hm.poke hg).poke hg
 refine ⟨?_, ?_, ?_, hm2.poke hg, ⟨h2.ne.1, h2.ne.2.1, h2.ne.2.2.1, hg⟩, ⟨ok.lo, ok.hi, ok.now, ok.old, n0, n1, hb⟩⟩
 ·rw [heap_setCell_same _ p 6 _ _ mv h2.cells]
  rfl
 ·exact h2.now.of_block (Below.heap_setCell _ _ _ _ h2.ne.2.1.symm)
 ·exact h2.old.of_block (Below.heap_setCell _ _ _ _ h2.ne.2.2.1.symm)
theorem arm_neg (w : World) {p bn bo g : Nat} {d : Dk} (h : DiskAt w p bn bo g d) (n : Int) (hn : n < 0) (sv : Value) :
  Calls Tryz.prog 18 #[.pointer (some ⟨p, 0, none⟩), .int .i64 n, sv] w fun e w' => e = .returned (.tuple #[]) ∧ DiskAt w' p bn bo g d.unarmed ∧ Fr w.heap.size (Three p bn bo) w w' := by
 have c4 := h.c4
 have c5 := h.c5
 have c6 := h.c6
 have f4 := h.fz 4
 have f5 := h.fz 5
 have f6 := h.fz 6
 go_enter Tryz.func18, Tryz.ntmps18
 go_wp2
 go_end0
 exact ⟨rfl, put_armed h false (by omega) (by omega) h.ne.2.2.2 (nil_SlB _ _) (by unfold bytesOk; simp), (((Fr.refl _ _ w).setCell (p := ⟨p, 4, none⟩) (Or.inl (Or.inl rfl)) _).setCell (p := ⟨p, 5, none⟩) (Or.inl (Or.inl rfl)) _).setCell (p := ⟨p, 6, none⟩) (Or.inl (Or.inl rfl)) _⟩
theorem fr_armed {B : Nat} {a w : World} {p bn bo : Nat} {v1 v2 v3 : Value} (h : Fr B (Three p bn bo) a w) : Fr B (Three p bn bo) a (((w.setCell ⟨p, 4, none⟩ v1).setCell ⟨p, 5, none⟩ v2).setCell ⟨p, 6, none⟩ v3) :=
 ((h.setCell (p := ⟨p, 4, none⟩) (Or.inl (Or.inl rfl)) _).setCell (p := ⟨p, 5, none⟩) (Or.inl (Or.inl rfl)) _).setCell (p := ⟨p, 6, none⟩) (Or.inl (Or.inl rfl)) _
theorem below_frA {B : Nat} {S : Nat → Prop} {w w' : World} (h : Below B w w') : Fr B S w w' := ⟨h.os, h.tape, h.output, h.size, fun k hk _ => h.block k hk⟩
set_option maxRecDepth 100000
open Go.RowKit Go.Maps
def Rf.armed (d : Rf) (n : Int) (mv : Value) (ms : List Int) : Rf := { d with on := decide (0 ≤ n), at_ := n, mv := mv, mask := ms }
section
variable {w : World} {r gn gw gt gm : Nat} {vn vw vt : Value} {d : Rf}
theorem rarm_end {W : World} (h : RfAt W r gn gw gt gm vn vw vt d) {n : Int} (n1 : n ≤ 9223372036854775807) {mv : Value} {ms : List Int} {g' : Nat} (hm : SlB W mv ms g') (hmok : bytesOk ms) (hne : g' ≠ r ∧ g' ≠ gn ∧ g' ≠ gw ∧ g' ≠ gt) :
  RfAt (((W.setCell ⟨r, 4, none⟩ (.bool (decide (0 ≤ n)))).setCell ⟨r, 5, none⟩ (.int .i64 n)).setCell ⟨r, 6, none⟩ mv) r gn gw gt g' vn vw vt (d.armed n mv ms) := by
 obtain ⟨m1, m2, m3, m4, m5, m6, m7, m8, m9, m10⟩ := h.ne
 have o1 := fun k (hk : k ≠ r) => Below.heap_setCell W ⟨r, 4, none⟩ (.bool (decide (0 ≤ n))) k hk
 have o2 := fun k (hk : k ≠ r) => (Below.heap_setCell (W.setCell ⟨r, 4, none⟩ (.bool (decide (0 ≤ n)))) ⟨r, 5, none⟩ (.int .i64 n) k hk).trans (o1 k hk)
 have o3 := fun k (hk : k ≠ r) => (Below.heap_setCell ((W.setCell ⟨r, 4, none⟩ (.bool (decide (0 ≤ n)))).setCell ⟨r, 5, none⟩ (.int .i64 n)) ⟨r, 6, none⟩ mv k hk).trans (o2 k hk)
 refine ⟨?_, h.sn, h.sw, h.st, fun k => (h.now k).of_block (o3 _ m1.symm), fun k => (h.was k).of_block (o3 _ m2.symm), fun k => (h.wet k).of_block (o3 _ m3.symm), hm.keep (o3 _ hne.1), ⟨m1, m2, m3, m4, m5, m6, hne⟩, h.kle, ?_, hmok, h.nil0⟩
 ·have e1 := heap_setCell_same W r 4 _ _ (.bool (decide (0 ≤ n))) h.cells
  have e2 := heap_setCell_same _ r 5 _ _ (.int .i64 n) e1
  exact heap_setCell_same _ r 6 _ _ mv e2
 ·intro e
  have : 0 ≤ n := of_decide_eq_true e
  exact ⟨show (-1 : Int) ≤ n by omega, n1⟩
theorem RowF.lt {W : World} {g k : Nat} {t : TypeId} {f : Nat → Value} (h : RowF W g t k f) : g < W.heap.size := by
 obtain ⟨cur, h1, _⟩ := h
 exact (Array.getElem?_eq_some_iff.1 h1).1
theorem RfAt.grow {w' : World} (h : RfAt w r gn gw gt gm vn vw vt d) (hb : ∀ k, k < w.heap.size → w'.heap[k]? = w.heap[k]?) : RfAt w' r gn gw gt gm vn vw vt d :=
 ⟨(hb r (Array.getElem?_eq_some_iff.1 h.cells).1).trans h.cells, h.sn, h.sw, h.st, fun k => (h.now k).of_block (hb _ (h.now k).lt), fun k => (h.was k).of_block (hb _ (h.was k).lt), fun k => (h.wet k).of_block (hb _ (h.wet k).lt), h.mask.kept hb, h.ne, h.kle, h.ok, h.mok, h.nil0⟩
theorem RfAt.anew (h : RfAt w r gn gw gt gm vn vw vt d) (hk : d.k = 0) {a b c m : Nat} (hm : SlB w d.mv d.mask m) (hne : r ≠ a ∧ r ≠ b ∧ r ≠ c ∧ a ≠ b ∧ a ≠ c ∧ b ≠ c ∧ m ≠ r ∧ m ≠ a ∧ m ≠ b ∧ m ≠ c) : RfAt w r a b c m vn vw vt d := by
 have q := h.nil0 hk
 exact ⟨h.cells, (q a).1, (q b).2.1, (q c).2.2, fun e => by omega, fun e => by omega, fun e => by omega, hm, hne, h.kle, h.ok, h.mok, h.nil0⟩
set_option maxHeartbeats 2000000 in
theorem rarm_some (h : RfAt w r gn gw gt gm vn vw vt d) (n : Int) (n1 : n ≤ 9223372036854775807) (gb ao : Nat) (asp : Option _) (cap : Nat) (ms : List Int) (hl : ms.length ≤ 1000000) (hmok : bytesOk ms) (hsp : ms ≠ [] → asp = none) (hc : ∀ j (h : j < ms.length), w.cell? ⟨gb, ao + j, none⟩ = some (.int .u8 ms[j])) :
  Calls Tryz.prog 19 #[.pointer (some ⟨r, 0, none⟩), .int .i64 n, .slice (some ⟨gb, ao, asp⟩) ms.length cap] w fun e w' => ∃ mv a b c g', e = .returned (.tuple #[]) ∧ RfAt w' r a b c g' vn vw vt (d.armed n mv ms) ∧ (a = gn ∨ w.heap.size ≤ a) ∧ (b = gw ∨ w.heap.size ≤ b) ∧ (c = gt ∨ w.heap.size ≤ c) ∧ w.heap.size ≤ g' ∧ Fr w.heap.size (Four r gn gw gt) w w' := by
 obtain ⟨i, hi, hz0, hz1, hz2⟩ := info_parts infoU8
 have HGB := Lib.hid (fun h : 0 < ms.length => block_lt_of_cell (hc 0 h))
 have HSP := Lib.hid hsp
 have HC := Lib.hid hc
 have HR := Lib.hid h
 clear hsp
 have hrl := (Array.getElem?_eq_some_iff.1 h.cells).1
 have f4 := h.fz 4
 have f5 := h.fz 5
 have f6 := h.fz 6
 clear hc h
 go_enter Tryz.func19, Tryz.ntmps19
 go_wp2_with (at_builtin; refine wpList_append_own _ rfl _ _ 36 rfl w.heap.size 5 i (.int .u8 0) 1 1 Tryz.underlying36 hi hz0 hz1 hz2 rfl (by decide) _ 0 [] rfl ?c1 ⟨gb, ao, asp⟩ ms.length cap (byteV ms) rfl ?c2 ?c3 ?c4 ?c5 ?c6 (by simp) ?_)
 case c1 => exact World.ownsRow_made w #[] 0 (Nat.le_refl _) (by unfold maxLen; omega) rfl
 case c2 => simp [byteV]
 case c3 =>
  intro j u hu
  have hj : j < ms.length := by have := (List.getElem?_eq_some_iff.1 hu).1; simpa [byteV] using this
  have h1 := HC.out j hj
  have h2 : (⟨gb, ao, asp⟩ : Addr).add j = ⟨gb, ao + j, none⟩ := by rw [HSP.out (by intro e; rw [e] at hj; cases hj)]; unfold Addr.add; split <;> simp_all
  rw [h2, World.cell?_of_block (Below.heap_alloc w _ gb (HGB.out (by omega))), h1]
  simp [byteV] at hu
  obtain ⟨x, hx, rfl⟩ := hu
  rw [List.getElem?_eq_getElem hj] at hx
  cases hx
  rfl
 case c4 => exact byteV_one _
 case c5 => unfold maxLen; omega
 case c6 => omega
 intro v' w2 hown hgrow _
 have hb2 : Below w.heap.size w w2 := ((Below.refl _ w).alloc (Nat.le_refl _) _).grown hgrow (by simp) (fun k hk => by cases hk; exact Nat.le_refl _)
 have hR2 := HR.out.grow hb2.block
 have k4 := hR2.c4
 have k5 := hR2.c5
 have k6 := hR2.c6
 have e4 := hR2.fz 4
 have e5 := hR2.fz 5
 have e6 := hR2.fz 6
 obtain ⟨g', hg', hsl⟩ := slB_own hown hl
 obtain ⟨p1, n1', c1', rfl, rfl, hs1, hs2, hs3, hs4⟩ := id hsl
 have HS := Lib.hid hsl
 have H2 := Lib.hid hR2
 have HB := Lib.hid hb2
 clear f4 f5 f6 hown hgrow hR2 hsl hs4 hb2
 go_wp2
 go_end0
 have hf : Fr w.heap.size (Four r gn gw gt) w (((w2.setCell ⟨r, 4, none⟩ (.bool (decide (0 ≤ n)))).setCell ⟨r, 5, none⟩ (.int .i64 n)).setCell ⟨r, 6, none⟩ (.slice p1 ms.length c1')) :=
  (((⟨HB.out.os, HB.out.tape, HB.out.output, HB.out.size, fun k hk _ => HB.out.block k hk⟩ : Fr w.heap.size (Four r gn gw gt) w w2).setCell (Or.inl (Or.inl rfl)) _).setCell (Or.inl (Or.inl rfl)) _).setCell (Or.inl (Or.inl rfl)) _
 rcases Nat.eq_zero_or_pos d.k with hk | hk
 ·have n7 := HR.out.ne.2.2.2.2.2.2.1
  have h0 := H2.out.anew hk (a := g' + gm + r + 1) (b := g' + gm + r + 2) (c := g' + gm + r + 3) H2.out.mask ⟨by omega, by omega, by omega, by omega, by omega, by omega, n7, by omega, by omega, by omega⟩
  exact ⟨_, _, _, _, g', rfl, rarm_end h0 n1 HS.out hmok ⟨by omega, by omega, by omega, by omega⟩, Or.inr (by omega), Or.inr (by omega), Or.inr (by omega), hg', hf⟩
 ·have z1 := (HR.out.now hk).lt
  have z2 := (HR.out.was hk).lt
  have z3 := (HR.out.wet hk).lt
  exact ⟨_, gn, gw, gt, g', rfl, rarm_end H2.out n1 HS.out hmok ⟨by omega, by omega, by omega, by omega⟩, Or.inl rfl, Or.inl rfl, Or.inl rfl, hg', hf⟩
end
open Go.RowKit Go.Maps
theorem sorted_ext {a b : List Int} (ha : a.Pairwise (· < ·)) (hb : b.Pairwise (· < ·)) (h : ∀ x, x ∈ a ↔ x ∈ b) : a = b := by
 have na : a.Nodup := ha.imp (fun {x y} h => by omega)
 have nb : b.Nodup := hb.imp (fun {x y} h => by omega)
 refine List.Perm.eq_of_pairwise (le := (· < ·)) (fun x y _ _ h1 h2 => by omega) ha hb ((List.perm_ext_iff_of_nodup na nb).2 h)
theorem store_old_at (d : Dk) (i : Int) (v : Value) (j : Int) : (d.store i v).old j = if (d.old j).isSome = true then d.old j else if j = i then some ((d.now i).getD zb) else none := by
 unfold Dk.store
 by_cases hs : (d.old i).isSome = true
 ·rw [if_pos hs]
  by_cases hj : (d.old j).isSome = true
  ·rw [if_pos hj]
  ·rw [if_neg hj, if_neg (by rintro rfl; exact hj hs)]
   simpa using hj
 ·rw [if_neg hs]
  by_cases hj : (d.old j).isSome = true
  ·rw [if_pos hj]
   exact upd_other _ (by rintro rfl; exact hs hj) _
  ·rw [if_neg hj]
   by_cases e : j = i
   ·subst e; rw [if_pos rfl]; exact upd_same _ _ _
   ·rw [if_neg e]
    show upd d.old i _ j = none
    rw [upd_other _ e]
    simpa using hj
theorem store_old_some (d : Dk) (i : Int) (v : Value) (j : Int) : ((d.store i v).old j).isSome = (decide (j = i) || (d.old j).isSome) := by
 rw [store_old_at]
 by_cases hj : (d.old j).isSome = true
 ·rw [if_pos hj, hj]; simp
 ·rw [if_neg hj]
  by_cases e : j = i
  ·simp [e]
  ·simp [e, hj]
theorem zb_of : zb = blkOf (List.replicate 64 0) := by
 unfold zb blkOf byteV
 rw [List.map_replicate]
 rfl
open Go.RowKit Go.Maps
theorem SlB.fr {W W' : World} {v : Value} {l : List Int} {g : Nat} {S : Nat → Prop} (h : SlB W v l g) (hf : Fr W.heap.size S W W') (hg : ¬ S g) : SlB W' v l g := by
 obtain ⟨p0, len, cap, e, e2, hle, hcap, hn, ha⟩ := h
 refine ⟨p0, len, cap, e, e2, hle, hcap, hn, fun a hpa hne => ?_⟩
 obtain ⟨h1, h2, h3⟩ := ha a hpa hne
 refine ⟨h1, h2, fun j hj => ?_⟩
 have h4 := h3 j hj
 rw [← h4]
 exact World.cell?_of_block (hf.block g (block_lt_of_cell h4) hg)
structure Own (B p bn bo : Nat) : Prop where
 p : B ≤ p
 bn : B ≤ bn
 bo : B ≤ bo
theorem Own.fr {B p bn bo : Nat} (h : Own B p bn bo) {w W W' : World} (hb : Below B w W) (hB : B ≤ W.heap.size) (hf : Fr W.heap.size (Three p bn bo) W W') : Below B w W' :=
 ⟨hf.os.trans hb.os, hf.tape.trans hb.tape, hf.output.trans hb.output, Nat.le_trans hb.size hf.size, fun k hk => (hf.block k (by omega) (by have := h.p; have := h.bn; have := h.bo; rintro (e | e | e) <;> omega)).trans (hb.block k hk)⟩
theorem slB_new (w : World) (l : List Int) (t : TypeId) (hl : l.length ≤ 1000000) : SlB (w.alloc (.cells (byteV l).toArray t)) (.slice (some ⟨w.heap.size, 0, none⟩) l.length l.length) l w.heap.size :=
 ⟨_, _, _, rfl, rfl, Nat.le_refl _, hl, (fun e => by cases e), fun a e _ => by
  cases e
  refine ⟨rfl, rfl, fun j hj => ?_⟩
  have h2 := (c_o (heap_alloc_new w (.cells (byteV l).toArray t)) (0 + j)).1
  rw [h2]
  simp [byteV, hj]⟩
open Go.RowKit Go.Maps
def Like (d : Dk) (f : Rf) : Prop :=
 d.tiles = f.k ∧ d.dead = f.off ∧ d.set = f.on ∧ (d.set = true → d.left = f.at_ ∧ d.mask = f.mask) ∧
 ∀ i : Nat, i < f.k → (∃ l : List Int, l.length = 64 ∧ bytesOk l ∧ (d.now i).getD zb = blkOf l ∧ f.now i = bstr l) ∧ (d.old (i : Int)).isSome = f.wet i ∧
  (f.wet i = true → ∃ l : List Int, l.length = 64 ∧ bytesOk l ∧ d.old (i : Int) = some (blkOf l) ∧ f.was i = bstr l) ∧ (f.wet i = false → f.was i = f.now i)
theorem like_loose {d : Dk} {f : Rf} (h : Like d f) (hok : d.Ok) {ls : List Int} (hl : IsLoose d ls) : ls = wetL f.wet f.k := by
 obtain ⟨h1, _, _, _, h5⟩ := h
 refine sorted_ext hl.1 (wetL_sorted _ _) fun x => ?_
 rw [hl.2 x, wetL_mem]
 constructor
 ·intro hx
  obtain ⟨v, hv⟩ := Option.isSome_iff_exists.1 hx
  obtain ⟨x0, x1, _⟩ := hok.old x v hv
  obtain ⟨j, rfl⟩ := Int.eq_ofNat_of_zero_le x0
  exact ⟨j, by omega, by rw [← (h5 j (by omega)).2.1]; exact hx, rfl⟩
 ·rintro ⟨j, hj, hw, rfl⟩
  rw [(h5 j hj).2.1]; exact hw
section
variable {w : World} {p bn bo g r gn gw gt gm : Nat} {vn vw vt : Value} {d : Dk} {f : Rf}
end
open Go.RowKit Go.Maps
theorem like_put {d : Dk} {f : Rf} (h : Like d f) {i : Nat} (hi : i < f.k) {l : List Int} (hl : l.length = 64) (hb : bytesOk l) : Like (d.store i (blkOf l)) (f.put i (bstr l)) := by
 obtain ⟨h1, h2, h3, h4, h5⟩ := h
 refine ⟨h1, h2, h3, h4, fun j hj => ?_⟩
 obtain ⟨a1, a2, a3, a4⟩ := h5 j hj
 have hn : (d.store i (blkOf l)).now = upd d.now (i : Int) (some (blkOf l)) := rfl
 have ho := store_old_at d (i : Int) (blkOf l) (j : Int)
 by_cases e : j = i
 ·subst e
  refine ⟨⟨l, hl, hb, by rw [hn, upd_same]; rfl, by simp [Rf.put, updN]⟩, ?_, ?_, ?_⟩
  ·rw [store_old_some]; simp [Rf.put, updN]
  ·intro _
   rw [ho]
   by_cases hw : (d.old (j : Int)).isSome = true
   ·rw [if_pos hw]
    exact a3 (by rw [← a2]; exact hw)
   ·rw [if_neg hw, if_pos rfl]
    have hwf : f.wet j = false := by rw [← a2]; simpa using hw
    obtain ⟨l0, b1, b2, b3, b4⟩ := a1
    exact ⟨l0, b1, b2, by rw [b3], by show f.was j = _; rw [a4 hwf, b4]⟩
  ·intro hw; simp [Rf.put, updN] at hw
 ·have e' : (j : Int) ≠ (i : Int) := by omega
  have k1 : (f.put i (bstr l)).now j = f.now j := by simp [Rf.put, updN, e]
  have k2 : (f.put i (bstr l)).wet j = f.wet j := by simp [Rf.put, updN, e]
  have k3 : (d.store i (blkOf l)).old (j : Int) = d.old (j : Int) := by
   rw [ho, if_neg e']
   by_cases hw : (d.old (j : Int)).isSome = true
   ·rw [if_pos hw]
   ·rw [if_neg hw]
    cases hx : d.old (j : Int) with
    | none => rfl
    | some v => rw [hx] at hw; simp at hw
  refine ⟨?_, ?_, ?_, ?_⟩
  ·rw [hn, upd_other _ e', k1]; exact a1
  ·rw [k3, k2]; exact a2
  ·rw [k2, k3]; exact a3
  ·rw [k2, k1]; exact a4
theorem like_less {d : Dk} {f : Rf} (h : Like d f) : Like d.later f.less := by
 obtain ⟨h1, h2, h3, h4, h5⟩ := h
 exact ⟨h1, h2, h3, fun e => ⟨by have := (h4 e).1; show d.left - 1 = f.at_ - 1; omega, (h4 e).2⟩, h5⟩
theorem like_sync {d : Dk} {f : Rf} (h : Like d f) : Like d.synced (f.sy f.k) := by
 obtain ⟨h1, h2, h3, h4, h5⟩ := h
 refine ⟨h1, h2, h3, h4, fun j hj => ?_⟩
 have hj' : j < f.k := hj
 refine ⟨(h5 j hj').1, ?_, ?_, ?_⟩
 ·simp [Dk.synced, Rf.sy, hj']
 ·intro e; simp [Rf.sy, hj'] at e
 ·intro _; simp [Rf.sy, hj']
theorem like_arm {d : Dk} {f : Rf} (h : Like d f) {n : Int} (hn : 0 ≤ n) (mv mv' : Value) (ms : List Int) : Like (d.armed n mv ms) (f.armed n mv' ms) := by
 obtain ⟨h1, h2, h3, h4, h5⟩ := h
 exact ⟨h1, h2, by simp [Dk.armed, Rf.armed, hn], fun _ => ⟨rfl, rfl⟩, h5⟩
theorem like_unarm {d : Dk} {f : Rf} (h : Like d f) {n : Int} (hn : n < 0) (mv' : Value) (ms : List Int) : Like d.unarmed (f.armed n mv' ms) := by
 obtain ⟨h1, h2, h3, h4, h5⟩ := h
 exact ⟨h1, h2, by simp [Dk.unarmed, Rf.armed]; omega, fun e => by simp [Dk.unarmed] at e, h5⟩
theorem like_power {d : Dk} {f : Rf} (h : Like d f) : Like { d with dead := false } { f with off := false } := by
 obtain ⟨h1, h2, h3, h4, h5⟩ := h
 exact ⟨h1, rfl, h3, h4, h5⟩
def Rf.fresh (k : Nat) (mv : Value) : Rf := { k := k, now := fun _ => bstr (List.replicate 64 0), was := fun _ => bstr (List.replicate 64 0), wet := fun _ => false, off := false, on := false, at_ := 0, mv := mv, mask := [] }
theorem like_fresh (k : Nat) (mv : Value) : Like (Dk.fresh k) (Rf.fresh k mv) := by
 refine ⟨rfl, rfl, rfl, ?_, ?_⟩
 ·intro e; cases e
 ·intro j _
  refine ⟨⟨List.replicate 64 0, by simp, by intro x hx; rw [List.mem_replicate] at hx; omega, zb_of, rfl⟩, rfl, ?_, fun _ => rfl⟩
  intro e; cases e
theorem wetL_K (f : Nat → Bool) (i : Nat) : (wetL f i).length = wetK f i := by
 induction i with
 | zero => rfl
 | succ i ih => unfold wetL wetK; split <;> simp [ih]
theorem wetL_at (f : Nat → Bool) {i : Nat} (hi : f i = true) : ∀ k, i < k → (wetL f k)[wetK f i]? = some (i : Int)
 | 0, h => by omega
 | k + 1, h => by
  unfold wetL
  by_cases e : i = k
  ·subst e
   rw [if_pos hi, List.getElem?_append_right (by rw [wetL_K]; exact Nat.le_refl _), wetL_K, Nat.sub_self]
   rfl
  ·have hk := wetL_at f hi k (by omega)
   split
   ·rw [List.getElem?_append_left (List.getElem?_eq_some_iff.1 hk).1]; exact hk
   ·exact hk
theorem crash_at (d : Dk) (f : Nat → Bool) (ms : List Int) (k : Nat) : ∀ i, i ≤ k → ∀ j : Nat, crashNow d ms (wetL f k) (wetK f i) (j : Int) = if j < i ∧ f j = true ∧ bitR ms (wetK f j) = false then some ((d.old (j : Int)).getD zb) else d.now (j : Int)
 | 0, _, j => by simp [wetK, crashNow]
 | i + 1, hi, j => by
  have ih := crash_at d f ms k i (by omega) j
  by_cases hw : f i = true
  ·have h1 := wetL_at f hw k (by omega)
   rw [wetK, if_pos hw]
   show (match (wetL f k)[wetK f i]? with
    | some q => if bitOf ms (wetK f i) = true then crashNow d ms (wetL f k) (wetK f i) else upd (crashNow d ms (wetL f k) (wetK f i)) q (some ((d.old q).getD zb))
    | none => crashNow d ms (wetL f k) (wetK f i)) (j : Int) = _
   rw [h1]
   simp only
   by_cases e : j = i
   ·subst e
    by_cases hb : bitOf ms (wetK f j) = true
    ·have hb' : bitR ms (wetK f j) = true := hb
     rw [if_pos hb, ih, if_neg (by omega), if_neg (by rw [hb']; simp)]
    ·have hb0 : bitOf ms (wetK f j) = false := by simpa using hb
     have hb' : bitR ms (wetK f j) = false := hb0
     rw [if_neg hb, upd_same, if_pos ⟨by omega, hw, hb'⟩]
   ·have e2 : (j : Int) ≠ (i : Int) := by omega
    have e1 : j < i + 1 ↔ j < i := by omega
    simp only [e1]
    rw [← ih]
    split
    ·rfl
    ·rw [upd_other _ e2]
  ·have e1 : (j < i + 1 ∧ f j = true ∧ bitR ms (wetK f j) = false) ↔ (j < i ∧ f j = true ∧ bitR ms (wetK f j) = false) := by
    constructor
    ·rintro ⟨a, b, c⟩
     by_cases e : j = i
     ·subst e; exact absurd b hw
     ·exact ⟨by omega, b, c⟩
    ·rintro ⟨a, b, c⟩; exact ⟨by omega, b, c⟩
   rw [wetK, if_neg hw, ih]
   simp only [e1]
theorem like_crash {d d' : Dk} {f : Rf} (h : Like d f) (hok : d.Ok) {ms : List Int} (hc : Crashes d ms d') : Like d' (f.crashed ms) := by
 obtain ⟨ls, hls, rfl⟩ := hc
 have hq := like_loose h hok hls
 subst hq
 obtain ⟨h1, h2, h3, h4, h5⟩ := h
 refine ⟨h1, rfl, rfl, ?_, ?_⟩
 ·intro e; cases e
 ·intro j hj
  have hj' : j < f.k := hj
  obtain ⟨a1, a2, a3, a4⟩ := h5 j hj'
  have hc := crash_at d f.wet ms f.k f.k (Nat.le_refl _) j
  rw [← wetL_K] at hc
  have hnow : (d.crashed (crashNow d ms (wetL f.wet f.k) (wetL f.wet f.k).length)).now (j : Int) = _ := hc
  refine ⟨?_, ?_, ?_, ?_⟩
  ·rw [hnow]
   show ∃ l, _ ∧ _ ∧ _ ∧ (if j < f.k ∧ f.wet j = true ∧ bitR ms (wetK f.wet j) = false then f.was j else f.now j) = _
   by_cases hb : j < f.k ∧ f.wet j = true ∧ bitR ms (wetK f.wet j) = false
   ·rw [if_pos hb, if_pos hb]
    obtain ⟨l, b1, b2, b3, b4⟩ := a3 hb.2.1
    exact ⟨l, b1, b2, by rw [b3]; rfl, b4⟩
   ·rw [if_neg hb, if_neg hb]; exact a1
  ·show false = (if j < f.k then false else f.wet j); rw [if_pos hj']
  ·intro e
   have : (if j < f.k then false else f.wet j) = true := e
   rw [if_pos hj'] at this; cases this
  ·intro _
   show (if j < f.k ∧ f.wet j = true then (if bitR ms (wetK f.wet j) = false then f.was j else f.now j) else f.was j) = (if j < f.k ∧ f.wet j = true ∧ bitR ms (wetK f.wet j) = false then f.was j else f.now j)
   by_cases hw : f.wet j = true
   ·simp only [hj', hw, true_and, if_true]
   ·have hw' : f.wet j = false := by simpa using hw
    simp only [hw', Bool.false_eq_true, false_and, and_false, if_false]
    exact a4 hw'
set_option maxRecDepth 100000
open Go.RowKit Go.Maps
def tlF (S : List Int) (k j : Nat) : List Int := ((partL S k).length : Int) :: ((partL S k).take j ++ List.replicate (63 - j) 0)
theorem tlF_end (S : List Int) (k : Nat) : tlF S k (partL S k).length = tileL S k := by
 unfold tlF tileL
 rw [List.take_length]
theorem tlF_len (S : List Int) (k j : Nat) (hj : j ≤ (partL S k).length) : (tlF S k j).length = 64 := by
 have := partL_le S k
 simp only [tlF, List.length_cons, List.length_append, List.length_take, List.length_replicate]
 omega
theorem tlF_set (S : List Int) (k j : Nat) (hj : j < (partL S k).length) : (byteV (tlF S k j)).toArray.setIfInBounds (1 + j) (.int .u8 (partL S k)[j]) = (byteV (tlF S k (j + 1))).toArray := by
 have hle := partL_le S k
 apply Array.ext_getElem?
 intro m
 rw [Array.getElem?_setIfInBounds]
 simp only [List.getElem?_toArray, byteV, List.getElem?_map, List.size_toArray, List.length_map, tlF_len S k j (by omega)]
 unfold tlF
 cases m with
 | zero => rw [if_neg (by omega)]; rfl
 | succ m =>
  simp only [List.getElem?_cons_succ]
  by_cases e : m = j
  ·subst e
   rw [if_pos (by omega), if_pos (by omega), List.getElem?_append_left (by rw [List.length_take]; omega), List.getElem?_take, if_pos (by omega), List.getElem?_eq_getElem hj]
   rfl
  ·rw [if_neg (by omega)]
   by_cases h1 : m < j
   ·rw [List.getElem?_append_left (by rw [List.length_take]; omega), List.getElem?_append_left (by rw [List.length_take]; omega), List.getElem?_take, List.getElem?_take, if_pos h1, if_pos (by omega)]
   ·rw [List.getElem?_append_right (by rw [List.length_take]; omega), List.getElem?_append_right (by rw [List.length_take]; omega), List.length_take, List.length_take, Nat.min_eq_left (by omega), Nat.min_eq_left (by omega), List.getElem?_replicate, List.getElem?_replicate]
    by_cases h2 : m < 63
    ·rw [if_pos (by omega), if_pos (by omega)]
    ·rw [if_neg (by omega), if_neg (by omega)]
theorem tlF_zero (S : List Int) (k : Nat) : (byteV (List.replicate 64 0)).toArray.setIfInBounds 0 (.int .u8 ((partL S k).length : Int)) = (byteV (tlF S k 0)).toArray := by
 have e : List.replicate 64 (0 : Int) = 0 :: List.replicate 63 0 := rfl
 rw [e]
 simp [byteV, tlF]
def TlRel (w : World) (g : Nat) (S : List Int) (k j : Nat) (wr : World) : Prop := wr.heap[g]? = some (.cells (byteV (tlF S k j)).toArray 5 (0, 0)) ∧ Below w.heap.size w wr
set_option maxHeartbeats 1000000 in
theorem rtile_any (w : World) {sv : Value} {S : List Int} (h : SlK .u8 w sv S) (hl : S.length ≤ 126000) (k : Nat) (hk : k ≤ 2000) : Calls Tryz.prog 61 #[sv, .int .i64 k] w fun e w' => e = .returned (.string (bstr (tileL S k))) ∧ Below w.heap.size w w' := by
 obtain ⟨A, c, rfl, hform⟩ := h.form
 obtain ⟨iu, hiu, hzu, hyu, hxu⟩ := info_parts infoU8
 have HMK := Lib.hid (show iu.bytes * 64 ≤ 281474976710656 by omega)
 have HS := Lib.hid h
 have hpl := partL_len S k
 have hple := partL_le S k
 obtain ⟨N, hN⟩ : ∃ N, N = (partL S k).length := ⟨_, rfl⟩
 clear h
 go_enter Tryz.func61, Tryz.ntmps61
 go_upto_region 2 with (at_make; go_loud (refine wpList_make_row _ rfl _ _ 36 rfl 5 iu (.int .u8 0) Tryz.underlying36 hiu hzu hyu rfl .i64 .i64 64 rfl rfl HMK.out (by decide) ?_))
 obtain ⟨g, hg⟩ : ∃ g, g = w.heap.size := ⟨_, rfl⟩
 obtain ⟨w1, hw1⟩ : ∃ W, W = w.alloc (.cells (madeCells #[.int .u8 0] 64) 5) := ⟨_, rfl⟩
 have hb1 : Below w.heap.size w w1 := by rw [hw1]; exact (Below.refl _ _).alloc (Nat.le_refl _) _
 have hc1 : w1.heap[g]? = some (.cells (byteV (List.replicate 64 0)).toArray 5 (0, 0)) := by
  rw [hw1, hg, show (byteV (List.replicate 64 0)).toArray = madeCells #[.int .u8 0] 64 from by kernel_rfl]
  exact heap_alloc_new _ _
 have hgle : w.heap.size ≤ g := by omega
 rw [← hw1, ← hg]
 clear hw1 hg
 have hq : min (max ((S.length : Int) - (k : Int) * 63) 0) 63 = (N : Int) := by rw [hN]; omega
 have hNle : N ≤ 63 := by omega
 have HN := Lib.hid hN
 have hbx : Below w.heap.size w w1 := hb1
 have HC1 := Lib.hid hc1
 have HB1 := Lib.hid hb1
 have HPL := Lib.hid hpl
 have x0 := (c_o hc1 0).1
 have z0 := (c_o hc1 0).2
 rw [show (byteV (List.replicate 64 0)).toArray[0]? = some (.int .u8 0) by simp [byteV]] at x0
 clear hpl hple hN hc1 hb1 hbx HMK hzu hyu hxu hiu
 go_upto_region 3 with (fail)
 clear hq
 have hNi : (N : Int) ≤ 63 := by omega
 go_upto_region 4 with (fail)
 have hc2 : TlRel w g S k 0 (w1.setCell ⟨g, 0, none⟩ (.int .u8 (N : Int))) := by
  refine ⟨?_, HB1.out.setCell hgle _⟩
  rw [heap_setCell_same w1 g 0 _ _ _ HC1.out, HN.out, tlF_zero]
 have H0 := Lib.hid hc2
 clear hc2 x0 z0 HC1 HB1
 generalize w1.setCell ⟨g, 0, none⟩ (.int .u8 (N : Int)) = w2 at *
 go_wp2
 go_loopw [7] (fun i wr => ∃ j : Nat, j ≤ N ∧ i = .int .i64 j ∧ Hid (TlRel w g S k j wr)) (fun i _ => N - ivT i)
 case atStart => exact ⟨0, Nat.zero_le _, rfl, H0⟩
 case round =>
  obtain ⟨j, hj, rfl, HR⟩ := hrel
  obtain ⟨hc, hb⟩ := HR.out
  by_cases hlt : j < N
  ·have hjp : j < (partL S k).length := by rw [← HN.out]; exact hlt
   obtain ⟨X, hX⟩ : ∃ X : Nat, X = k * 63 + j := ⟨_, rfl⟩
   have hXl : X < S.length := by have := HPL.out; omega
   have hSX : S[X] = (partL S k)[j] := by
    have : (partL S k)[j]? = some S[X] := by
     unfold partL
     rw [List.getElem?_take, if_pos (by omega), List.getElem?_drop, List.getElem?_eq_getElem (by omega)]
     congr 2
     omega
    rw [List.getElem?_eq_getElem hjp] at this
    injection this with this
    exact this.symm
   obtain ⟨b', o', cap', e, hle', hlt', h3⟩ := HS.out.pt (by intro e; rw [e] at hXl; cases hXl)
   injection e with e1 e2 e3
   subst e1
   have hcl : wr.cell? ⟨b', o' + X, none⟩ = some (.int .u8 S[X]) := (World.cell?_of_block (hb.block b' hlt')).trans (h3 X hXl)
   rw [hSX] at hcl
   obtain ⟨x, hx⟩ : ∃ x, x = (partL S k)[j] := ⟨_, rfl⟩
   rw [← hx] at hcl
   obtain ⟨J, hJ⟩ : ∃ J : Nat, J = 1 + j := ⟨_, rfl⟩
   have q1 : (1 : Int) + (j : Int) = (J : Int) := by omega
   have q2 : (k : Int) * 63 + (j : Int) = (X : Int) := by omega
   have hJ64 : J < 64 := by omega
   have y0 := (c_o hc J).1
   have z0 := (c_o hc J).2
   have hlen := tlF_len S k j (by omega)
   obtain ⟨y, hy⟩ : ∃ y, (byteV (tlF S k j)).toArray[J]? = some y := ⟨_, Array.getElem?_eq_getElem (by simp [byteV, hlen]; omega)⟩
   rw [hy] at y0
   have HR2 : Hid (TlRel w g S k (j + 1) (wr.setCell ⟨g, J, none⟩ (.int .u8 x))) := Lib.hid (by
    refine ⟨?_, hb.setCell hgle _⟩
    rw [heap_setCell_same wr g J _ _ _ hc, hx, hJ, tlF_set S k j hjp])
   have hlt2 : (j : Int) < (N : Int) := by omega
   have hXi : (X : Int) < (S.length : Int) := by omega
   have hJi : (J : Int) < 64 := by omega
   clear hc hb HR H0 hX hSX h3 hx hJ hy hlen hjp
   go_wp2
   go_roundw
   all_goals first
    | exact ⟨j + 1, by omega, by go_num, HR2⟩
    | (simp [ivT]; omega)
  ·obtain rfl : j = N := by omega
   have hjN : j = (partL S k).length := HN.out
   rw [hjN, tlF_end] at hc
   have hcv : (convert 36 9 (.slice (some ⟨g, 0, none⟩) 64 64)).run Tryz.prog wr = .ok (.string (bstr (tileL S k))) wr := conv_slK ((pt_row hc (tileL_len _ _)).slK (tileL_ok HS.out.ok k))
   have HB := Lib.hid hb
   clear hc HR hb H0 hjN HPL
   go_wp2
   go_ret
   exact ⟨rfl, HB.out⟩
end Go.Proofs.YthmgafcnoedmjaaGreat
