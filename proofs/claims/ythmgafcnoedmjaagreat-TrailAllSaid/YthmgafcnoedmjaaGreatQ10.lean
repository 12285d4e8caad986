/- TrailAll, a part. -/
import Derived.Test.YthmgafcnoedmjaaGreatQ1
import Derived.Test.YthmgafcnoedmjaaGreatQ9
namespace Go.Proofs.YthmgafcnoedmjaaGreat
set_option maxRecDepth 100000
open Go.RowKit
set_option maxHeartbeats 400000 in
theorem grow_nil (w : World) (n : Nat) (hn : n ≤ 1000000) : Calls Tryz.prog 75 #[.slice none 0 0, .int .i64 n] w fun e w' => ∃ v, e = .returned v ∧ w'.ownsRow w.heap.size 5 1 v 0 [] ∧ Below w.heap.size w w' := by
 obtain ⟨i, hi, hz0, hz1, hz2⟩ := info_parts infoU8
 rcases Nat.eq_zero_or_pos n with rfl | h0
 ·go_enter Tryz.func75, Tryz.ntmps75
  go_wp2
  go_ret
  exact ⟨_, rfl, World.ownsRow_nil _ _ _ _, Below.refl _ _⟩
 ·have hrz : ∀ ty, (Builtin.append_ #[36, 3] ty #[.slice none 0 0, .int .i64 n]).run Tryz.prog w = _ := fun ty => Lib.run_append_nil_zeros w 36 3 ty 5 i (.int .u8 0) .i64 .i64 Tryz.underlying36 Tryz.underlying3 hi hz0 n h0 (by omega) (by omega) (by rw [hz2]; omega)
  have hG := grownCap_ge w n 0 5
  have hM := grownCap_le_maxLen w n 0 5 (by unfold maxLen; omega)
  obtain ⟨C, hC⟩ : ∃ C, C = Builtin.zeroCells (Value.int .u8 0).cells n ++ Builtin.zeroCells (Value.int .u8 0).cells (grownCap w n 0 5 - n) := ⟨_, rfl⟩
  have hs : C.size = grownCap w n 0 5 * 1 := by rw [hC]; simp [size_zeroCells, Value.cells]; omega
  rw [← hC] at hrz
  generalize grownCap w n 0 5 = G at *
  have hG63 : G ≤ 9223372036854775807 := by unfold maxLen at hM; omega
  clear hC
  go_enter Tryz.func75, Tryz.ntmps75
  go_wp2_with (at_builtin; refine Lib.wpList_append_run _ rfl _ _ _ _ rfl _ _ rfl rfl _ _ (hrz _) ?_)
  go_ret
  exact ⟨_, rfl, World.ownsRow_made w.drew C G (Nat.le_refl _) hM hs, ((Below.refl _ w).drew).alloc (Nat.le_refl _) _⟩
theorem take_flat {ls : List (List Int)} {k : Nat} (h : k < ls.length) : (ls.take (k + 1)).flatten = (ls.take k).flatten ++ ls[k] := by
 rw [← List.take_append_getElem h, List.flatten_append]; simp only [List.flatten_cons, List.flatten_nil, List.append_nil]
theorem flat_le {ls : List (List Int)} (k : Nat) : (ls.take k).flatten.length ≤ ls.flatten.length := by
 conv => rhs; rw [← List.take_append_drop k ls]
 rw [List.flatten_append, List.length_append]; omega
def fl (ls : List (List Int)) (k : Nat) : Nat := (ls.take k).flatten.length
def fb (ls : List (List Int)) (k : Nat) : List Value := byteV (ls.take k).flatten
theorem fl_succ {ls : List (List Int)} {k : Nat} (h : k < ls.length) : fl ls (k + 1) = fl ls k + ls[k].length := by unfold fl; rw [take_flat h, List.length_append]
theorem fb_succ {ls : List (List Int)} {k : Nat} (h : k < ls.length) : fb ls (k + 1) = fb ls k ++ byteV ls[k] := by unfold fb; rw [take_flat h]; simp [byteV]
set_option maxHeartbeats 1000000 in
theorem concat_any (w : World) (g : Nat) (t : TypeId) (vs : List Value) (ls : List (List Int)) (hg : w.heap[g]? = some (.cells vs.toArray t (0, 0))) (hlen : vs.length = ls.length) (hp : ∀ j (h : j < vs.length) (h' : j < ls.length), Pt w vs[j] ls[j])
  (hs : ls.flatten.length ≤ 1000000) (hn : vs.length ≤ 1000000) : Calls Tryz.prog 53 #[.slice (some ⟨g, 0, none⟩) vs.length vs.length] w fun e w' => ∃ v, e = .returned v ∧ w'.ownsRow w.heap.size 5 1 v ls.flatten.length (byteV ls.flatten) ∧ Below w.heap.size w w' := by
 obtain ⟨i, hi, hz0, hz1, hz2⟩ := info_parts infoU8
 have HP := Lib.hid hp
 have HL := Lib.hid hlen
 have hfl : ∀ k, fl ls k ≤ 1000000 := fun k => by have := flat_le (ls := ls) k; unfold fl; omega
 have HF := Lib.hid hfl
 have HG := Lib.hid hg
 have hgl : g < w.heap.size := (Array.getElem?_eq_some_iff.1 hg).1
 obtain ⟨n, hN⟩ : ∃ n, vs.length = n := ⟨_, rfl⟩
 rw [hN] at hn ⊢
 have e0 : ls.take n = ls := List.take_of_length_le (by omega)
 have f0 : fl ls n = ls.flatten.length := by unfold fl; rw [e0]
 have f1 : fb ls n = byteV ls.flatten := by unfold fb; rw [e0]
 rw [← f0, ← f1]
 have HN := Lib.hid hN
 clear hp hlen hs hg hN e0 f0 f1 hfl
 go_enter Tryz.func53, Tryz.ntmps53
 go_wp2
 go_loopw [3, 11] (fun s i wr => ∃ k : Nat, k ≤ n ∧ i = .int .i64 k ∧ s = .int .i64 (fl ls k) ∧ w = wr) (fun s i _ => n - (RowKit.intOf i).toNat)
 case atStart => exact ⟨0, by omega, rfl, rfl, rfl⟩
 case round =>
  obtain ⟨k, hk, rfl, rfl, rfl⟩ := hrel
  by_cases hlt : k < n
  ·have hkv : k < vs.length := by have := HN.out; omega
   have hkl : k < ls.length := by have := HL.out; omega
   obtain ⟨b, off, cap, hv, h1, h2, h3⟩ := HP.out k hkv hkl
   have c0 := (c_o HG.out (0 + k)).1
   rw [show vs.toArray[0 + k]? = some (.slice (some ⟨b, off, none⟩) ls[k].length cap) by rw [← hv]; simp [hkv]] at c0
   simp only [Nat.zero_add] at c0
   have e1 := fl_succ hkl
   have e2 := HF.out (k + 1)
   obtain ⟨D, hD⟩ : ∃ D, ls[k].length = D := ⟨_, rfl⟩
   rw [hD] at c0 e1
   rw [e1] at e2
   clear h3 hv
   go_wp2
   go_roundw
   case rel => exact ⟨k + 1, by omega, by go_num, by rw [e1]; go_num, trivial⟩
   case measure => simp [RowKit.intOf]; omega
  ·obtain rfl : k = n := by omega
   have hfk := HF.out k
   go_wp2_with fail
   refine (grow_nil w _ hfk).mono ?_
   rintro e w1 ⟨v1, rfl, ho1, hb1⟩
   go_wp2
   go_loopw [6, 27] (fun s i wr => ∃ j : Nat, j ≤ k ∧ i = .int .i64 j ∧ wr.ownsRow w.heap.size 5 1 s (fl ls j) (fb ls j) ∧ Below w.heap.size w wr) (fun s i _ => k - (RowKit.intOf i).toNat)
   case atStart => exact ⟨0, by omega, rfl, ho1, hb1⟩
   case round =>
    obtain ⟨j, hj, rfl, ho, hbl⟩ := hrel
    by_cases hjt : j < k
    ·have hkv : j < vs.length := by have := HN.out; omega
     have hkl : j < ls.length := by have := HL.out; omega
     have hpt := (HP.out j hkv hkl).below hbl (Nat.le_refl _)
     obtain ⟨b, off, cap, hv, h1, h2, h3⟩ := hpt
     have hg2 := (hbl.block g hgl).trans HG.out
     have c0 := (c_o hg2 (0 + j)).1
     rw [show vs.toArray[0 + j]? = some (.slice (some ⟨b, off, none⟩) ls[j].length cap) by rw [← hv]; simp [hkv]] at c0
     simp only [Nat.zero_add] at c0
     have e1 := fl_succ hkl
     have e2 := HF.out (j + 1)
     have E3 := Lib.hid (fb_succ hkl)
     rw [e1] at e2
     have HC := Lib.hid h3
     have HO := Lib.hid ho
     have hzs := hbl.size
     have E1 := Lib.hid e1
     clear h3 hv ho hg2 e1
     go_wp2_with (at_builtin; refine wpList_append_own _ rfl _ _ 36 rfl w.heap.size 5 i (.int .u8 0) 1 1 Tryz.underlying36 hi hz0 hz1 hz2 rfl (by decide) _ _ _ rfl HO.out ⟨b, off, none⟩ ls[j].length cap (byteV ls[j]) rfl ?c2 ?c3 ?c4 ?c5 ?c6 hzs ?_)
     case c2 => simp [byteV]
     case c3 =>
      intro q u hu
      have hj : q < ls[j].length := by have := (List.getElem?_eq_some_iff.1 hu).1; simpa [byteV] using this
      have h1 := HC.out q hj
      have h2 : (⟨b, off, none⟩ : Addr).add q = ⟨b, off + q, none⟩ := by unfold Addr.add; split <;> simp_all
      rw [h2, h1]
      simp [byteV] at hu
      obtain ⟨x, hx, rfl⟩ := hu
      rw [List.getElem?_eq_getElem hj] at hx
      cases hx
      rfl
     case c4 => exact byteV_one _
     case c5 => unfold maxLen; omega
     case c6 => omega
     intro v' w2 hown hgrow _
     have hb2 : Below w.heap.size w w2 := hbl.grown hgrow hzs (fun q hq => (HO.out.lt q hq).1)
     rw [← E1.out, ← E3.out] at hown
     go_wp2
     go_roundw
     case rel => exact ⟨j + 1, by omega, by go_num, hown, hb2⟩
     case measure => simp [RowKit.intOf]; omega
    ·obtain rfl : j = k := by omega
     go_wp2
     go_ret
     exact ⟨_, rfl, ho, hbl⟩
set_option maxRecDepth 100000
open Go.RowKit
def frB (b : List Int) : List Int := [((b.length / 256 : Nat) : Int), ((b.length % 256 : Nat) : Int)] ++ b ++ [(sumP b).1, (sumP b).2]
def frL (e : Ent) : List Int := if entB e = true then frB (entL e) else []
theorem frB_len (b : List Int) : (frB b).length = b.length + 4 := by unfold frB; simp
theorem frB_ok {b : List Int} (h : bytesOk b) (hl : b.length < 65536) : bytesOk (frB b) := by
 intro x hx
 unfold frB at hx
 have hp := sumP_bd b
 rcases List.mem_append.1 hx with hx | hx
 ·rcases List.mem_append.1 hx with hx | hx
  ·simp at hx
   rcases hx with rfl | rfl <;> omega
  ·exact h x hx
 ·simp at hx
  rcases hx with rfl | rfl <;> omega
theorem frL_yes {e : Ent} (h : entB e = true) : frL e = frB (entL e) := if_pos h
theorem frL_no {e : Ent} (h : entB e = false) : frL e = [] := by unfold frL; rw [h]; rfl
set_option maxHeartbeats 1000000 in
theorem frame_any (w : World) (e : Ent) {s1 s2 s3 s4 s5 s6 : Value} (hs : EntS w s1 s2 s3 s4 s5 s6 e) (hi : EntI e) :
  Calls Tryz.prog 29 #[.agg (entC e s1 s2 s3 s4 s5 s6)] w fun r w' => ∃ A m c, r = .returned (.slice A m c) ∧ w'.ownsRow w.heap.size 5 1 (.slice A m c) (frL e).length (byteV (frL e)) ∧ Below w.heap.size w w' := by
 obtain ⟨A1, c1, A2, c2, A3, c3, A4, c4, A5, c5, A6, c6, rfl, rfl, rfl, rfl, rfl, rfl⟩ := hs.form
 obtain ⟨W, hW⟩ : ∃ W, W = w.alloc (entO e (.slice A1 e.old.length c1) (.slice A2 e.new.length c2) (.slice A3 e.moves.length c3) (.slice A4 e.lives.length c4) (.slice A5 e.dirty.length c5) (.slice A6 e.opens.length c6)) := ⟨_, rfl⟩
 have hb0 : Below w.heap.size w W := by rw [hW]; exact (Below.refl _ _).alloc (Nat.le_refl _) _
 have hsz : w.heap.size ≤ W.heap.size := hb0.size
 have HBX : Hid (W.heap[w.heap.size]? = some (.cells (entC e (.slice A1 e.old.length c1) (.slice A2 e.new.length c2) (.slice A3 e.moves.length c3) (.slice A4 e.lives.length c4) (.slice A5 e.dirty.length c5) (.slice A6 e.opens.length c6)) 44 (0, 0))) := by
  rw [hW]; exact heap_alloc_new w _
 have HZI := Lib.hid (infoEntC e (.slice A1 e.old.length c1) (.slice A2 e.new.length c2) (.slice A3 e.moves.length c3) (.slice A4 e.lives.length c4) (.slice A5 e.dirty.length c5) (.slice A6 e.opens.length c6))
 have HP := Lib.hid (put_any W e (hs.below hb0 (Nat.le_refl _)) hi)
 have HOK := Lib.hid (fun h : entB e = true => (show bytesOk (putL e) by rw [putL_yes h]; exact entL_okE hs.old.ok hs.new.ok))
 have HB0 := Lib.hid hb0
 have HSZ := Lib.hid hsz
 show Calls _ _ #[.agg #[.int .i64 e.kind, .int .i64 e.txn, .int .i64 e.unit, .int .i64 e.half, .int .i64 e.prev, .int .i64 e.next, .int .i64 e.ap, .int .i64 e.ac, .int .i64 e.tp, .int .i64 e.tc, _, _, _, _, _, _]] _ _
 clear hs hi hb0 hsz
 go_enter Tryz.func29, Tryz.ntmps29
 go_upto_region 1 with (fail)
 show Code.wp _ _ _ _ (w.alloc (entO e (.slice A1 e.old.length c1) (.slice A2 e.new.length c2) (.slice A3 e.moves.length c3) (.slice A4 e.lives.length c4) (.slice A5 e.dirty.length c5) (.slice A6 e.opens.length c6)))
 rw [← hW]
 clear hW
 go_wp2_with (with_reducible refine wpList_load_row rfl 44 (.tmp 1) rfl w.heap.size rfl 44 _ (0, 0) _ HBX.out Tryz.underlying44 rfl HZI.out ?_)
 refine HP.out.mono ?_
 rintro r w2 ⟨A, m, c, rfl, ho, hb2⟩
 have hm := own_n ho
 cases hB : entB e with
 | false =>
  rw [putL_no hB] at hm
  have HFR := Lib.hid (frL_no hB)
  have hb := HB0.out.trans (hb2.mono HSZ.out)
  have HB2 := Lib.hid hb
  subst hm
  clear ho hb hb2
  go_wp2
  go_ret
  exact ⟨none, 0, 0, rfl, by rw [HFR.out]; exact World.ownsRow_nil _ _ _ _, HB2.out⟩
 | true =>
  have hok := HOK.out hB
  have hfr := frL_yes hB
  rw [putL_yes hB] at ho hok hm
  have hge := t_entL_ge hB
  have hle := t_entL_le hB
  obtain ⟨L, hL⟩ : ∃ L, L = entL e := ⟨_, rfl⟩
  rw [← hL] at ho hok hge hle hm hfr
  have HFR := Lib.hid hfr
  clear hfr
  subst hm
  have hsl : SlK .u8 w2 (.slice A L.length c) L := own_slK ho hok
  have HSL := Lib.hid hsl
  have HB2 := Lib.hid (HB0.out.trans (hb2.mono HSZ.out))
  have HS := Lib.hid (sums_any w2 hsl (by omega))
  have hb := sumP_bd L
  clear ho hok hsl hL hb2 hB HOK HP HBX HZI
  go_upto_region 4 with (fail)
  go_wp2_with fail
  refine HS.out.mono ?_
  rintro r w3 ⟨rfl, hw3⟩
  obtain rfl := hw3.symm
  clear hw3
  obtain ⟨P, hP⟩ : ∃ P, P = (sumP L).1 := ⟨_, rfl⟩
  obtain ⟨Q, hQ⟩ : ∃ Q, Q = (sumP L).2 := ⟨_, rfl⟩
  rw [← hP, ← hQ] at hb ⊢
  have HPQ := Lib.hid (And.intro hP hQ)
  clear hP hQ HS
  have hC : Calls Tryz.prog 53 #[.slice (some ⟨w2.heap.size + 1 + 1, 0, none⟩) 3 3] (((w2.alloc (.cells #[.int .u8 ((L.length : Int) / 256), .int .u8 ((L.length : Int) % 256)] 5)).alloc (.cells #[.int .u8 P, .int .u8 Q] 5)).alloc (.cells #[.slice (some ⟨w2.heap.size, 0, none⟩) 2 2, .slice A L.length c, .slice (some ⟨w2.heap.size + 1, 0, none⟩) 2 2] 36)) fun r w' => ∃ A m c, r = .returned (.slice A m c) ∧ w'.ownsRow w.heap.size 5 1 (.slice A m c) (frB L).length (byteV (frB L)) ∧ Below w.heap.size w w' := by
   obtain ⟨O1, hO1⟩ : ∃ O, O = Obj.cells #[.int .u8 ((L.length : Int) / 256), .int .u8 ((L.length : Int) % 256)] 5 := ⟨_, rfl⟩
   obtain ⟨O2, hO2⟩ : ∃ O, O = Obj.cells #[.int .u8 P, .int .u8 Q] 5 := ⟨_, rfl⟩
   obtain ⟨O3, hO3⟩ : ∃ O, O = Obj.cells #[.slice (some ⟨w2.heap.size, 0, none⟩) 2 2, .slice A L.length c, .slice (some ⟨w2.heap.size + 1, 0, none⟩) 2 2] 36 := ⟨_, rfl⟩
   rw [← hO1, ← hO2, ← hO3]
   have hs1 : (w2.alloc O1).heap.size = w2.heap.size + 1 := by simp
   have hs2 : ((w2.alloc O1).alloc O2).heap.size = w2.heap.size + 1 + 1 := by simp
   have hB : Below w2.heap.size w2 (((w2.alloc O1).alloc O2).alloc O3) := (((Below.refl _ _).alloc (Nat.le_refl _) _).alloc (by omega) _).alloc (by omega) _
   have g3 : (((w2.alloc O1).alloc O2).alloc O3).heap[w2.heap.size + 1 + 1]? = some O3 := by rw [← hs2]; exact heap_alloc_new _ _
   have g2 : (((w2.alloc O1).alloc O2).alloc O3).heap[w2.heap.size + 1]? = some O2 := by
    rw [Below.heap_alloc _ _ _ (by omega)]
    rw [← hs1]; exact heap_alloc_new _ _
   have g1 : (((w2.alloc O1).alloc O2).alloc O3).heap[w2.heap.size]? = some O1 := by
    rw [Below.heap_alloc _ _ _ (by omega), Below.heap_alloc _ _ _ (by omega)]
    exact heap_alloc_new _ _
   generalize ((w2.alloc O1).alloc O2).alloc O3 = W3 at *
   have e0 : [[(L.length : Int) / 256, (L.length : Int) % 256], L, [P, Q]].flatten = frB L := by
    unfold frB
    rw [← HPQ.out.1, ← HPQ.out.2]
    simp
   rw [hO3] at g3
   have q : Pt W3 (.slice A L.length c) L := (HSL.out.below hB (Nat.le_refl _)).pt (fun e => by rw [e] at hge; simp at hge)
   have q1 : Pt W3 (.slice (some ⟨w2.heap.size, 0, none⟩) 2 2) [(L.length : Int) / 256, (L.length : Int) % 256] := by
    rw [hO1] at g1
    exact Blk.pt (l := [(L.length : Int) / 256, (L.length : Int) % 256]) g1 rfl (Nat.le_refl _)
   have q2 : Pt W3 (.slice (some ⟨w2.heap.size + 1, 0, none⟩) 2 2) [P, Q] := by
    rw [hO2] at g2
    exact Blk.pt (l := [P, Q]) g2 rfl (Nat.le_refl _)
   refine (concat_any W3 (w2.heap.size + 1 + 1) 36 [_, _, _] [[(L.length : Int) / 256, (L.length : Int) % 256], L, [P, Q]] g3 rfl ?_ (by rw [e0, frB_len]; omega) (by simp)).mono ?_
   ·intro j h h'
    match j, h with
    | 0, _ => exact q1
    | 1, _ => exact q
    | 2, _ => exact q2
   ·rintro r w' ⟨v, rfl, ho, hb⟩
    rw [e0] at ho
    obtain ⟨A9, m9, c9, rfl⟩ := own_shape ho
    have hw : Below w.heap.size w W3 := HB2.out.trans (hB.mono HB2.out.size)
    exact ⟨A9, m9, c9, rfl, ⟨ho.1, ho.2.imp id (fun ⟨g, cap, cur, r1, r2, r⟩ => ⟨g, cap, cur, r1, Nat.le_trans hw.size r2, r⟩)⟩, hw.trans (hb.mono hw.size)⟩
  have HC := Lib.hid hC
  clear hC
  go_upto_region 5 with (fail)
  go_wp2_with fail
  refine HC.out.mono ?_
  rintro r w4 ⟨A4, m4, c4, rfl, ho, hb4⟩
  have HO := Lib.hid ho
  have HB4 := Lib.hid hb4
  clear ho hb4 HC
  go_wp2
  go_ret
  exact ⟨A4, m4, c4, rfl, by rw [HFR.out]; exact HO.out, HB4.out⟩
set_option maxRecDepth 100000
open Go.RowKit Go.Maps
def apE (t : Tr) (e : Ent) : Int := if entB e = false then 1 else if 63 * t.tiles < ((t.S.length + (frL e).length : Nat) : Int) then 5 else 0
def apN (t : Tr) (e : Ent) : Int := if apE t e = 0 then t.count + 1 else 0
def apT (t : Tr) (e : Ent) : Tr := if apE t e = 0 then { t with S := t.S ++ frL e, count := t.count + 1 } else t
theorem below_fr {B : Nat} {S : Nat → Prop} {w w' : World} (h : Below B w w') : Fr B S w w' := ⟨h.os, h.tape, h.output, h.size, fun k hk _ => h.block k hk⟩
theorem frL_ok {e : Ent} (h1 : bytesOk e.old) (h2 : bytesOk e.new) : bytesOk (frL e) := by
 cases hB : entB e with
 | true =>
  rw [frL_yes hB]
  exact frB_ok (entL_okE h1 h2) (by have := t_entL_le hB; omega)
 | false => rw [frL_no hB]; exact fun x hx => by cases hx
def ApPost (w : World) (p bm : Nat) (t : Tr) (e : Ent) (r : Ending) (w' : World) : Prop := r = .returned (.tuple #[.int .i64 (apN t e), .int .i64 (apE t e)]) ∧ TrAt w' p bm (apT t e) ∧ Fr w.heap.size (Two p bm) w w'
set_option maxHeartbeats 1000000 in
theorem append_any (w : World) {p bm : Nat} {t : Tr} (h : TrAt w p bm t) (e : Ent) {s1 s2 s3 s4 s5 s6 : Value} (hs : EntS w s1 s2 s3 s4 s5 s6 e) (hi : EntI e) :
  Calls Tryz.prog 12 #[.pointer (some ⟨p, 0, none⟩), .agg (entC e s1 s2 s3 s4 s5 s6)] w (ApPost w p bm t e) := by
 obtain ⟨A1, c1, A2, c2, A3, c3, A4, c4, A5, c5, A6, c6, rfl, rfl, rfl, rfl, rfl, rfl⟩ := hs.form
 obtain ⟨W, hW⟩ : ∃ W, W = w.alloc (entO e (.slice A1 e.old.length c1) (.slice A2 e.new.length c2) (.slice A3 e.moves.length c3) (.slice A4 e.lives.length c4) (.slice A5 e.dirty.length c5) (.slice A6 e.opens.length c6)) := ⟨_, rfl⟩
 have hb0 : Below w.heap.size w W := by rw [hW]; exact (Below.refl _ _).alloc (Nat.le_refl _) _
 have hsz : w.heap.size ≤ W.heap.size := hb0.size
 have HBX : Hid (W.heap[w.heap.size]? = some (.cells (entC e (.slice A1 e.old.length c1) (.slice A2 e.new.length c2) (.slice A3 e.moves.length c3) (.slice A4 e.lives.length c4) (.slice A5 e.dirty.length c5) (.slice A6 e.opens.length c6)) 44 (0, 0))) := by
  rw [hW]; exact heap_alloc_new w _
 have HZI := Lib.hid (infoEntC e (.slice A1 e.old.length c1) (.slice A2 e.new.length c2) (.slice A3 e.moves.length c3) (.slice A4 e.lives.length c4) (.slice A5 e.dirty.length c5) (.slice A6 e.opens.length c6))
 have HP := Lib.hid (frame_any W e (hs.below hb0 (Nat.le_refl _)) hi)
 have HOK := Lib.hid (frL_ok hs.old.ok hs.new.ok)
 have HB0 := Lib.hid hb0
 have HSZ := Lib.hid hsz
 have HT := Lib.hid h
 show Calls _ _ #[_, .agg #[.int .i64 e.kind, .int .i64 e.txn, .int .i64 e.unit, .int .i64 e.half, .int .i64 e.prev, .int .i64 e.next, .int .i64 e.ap, .int .i64 e.ac, .int .i64 e.tp, .int .i64 e.tc, _, _, _, _, _, _]] _ _
 clear hs hi hb0 hsz h
 go_enter Tryz.func12, Tryz.ntmps12
 go_upto_region 1 with (fail)
 show Code.wp _ _ _ _ (w.alloc (entO e (.slice A1 e.old.length c1) (.slice A2 e.new.length c2) (.slice A3 e.moves.length c3) (.slice A4 e.lives.length c4) (.slice A5 e.dirty.length c5) (.slice A6 e.opens.length c6)))
 rw [← hW]
 clear hW
 go_wp2_with (with_reducible refine wpList_load_row rfl 44 (.tmp 3) rfl w.heap.size rfl 44 _ (0, 0) _ HBX.out Tryz.underlying44 rfl HZI.out ?_)
 refine HP.out.mono ?_
 rintro r w2 ⟨A, m, c, rfl, ho, hb2⟩
 have hm := own_n ho
 have hbw : Below w.heap.size w w2 := HB0.out.trans (hb2.mono HSZ.out)
 have HB2 := Lib.hid hbw
 have ht2 : TrAt w2 p bm t := HT.out.kept fun k hk => hbw.block k hk
 cases hB : entB e with
 | false =>
  have e1 : apE t e = 1 := if_pos hB
  have e2 : apN t e = 0 := by unfold apN; rw [e1]; rfl
  have e3 : apT t e = t := by unfold apT; rw [e1]; rfl
  have HE := Lib.hid (And.intro e1 (And.intro e2 e3))
  have HT2 := Lib.hid ht2
  rw [frL_no hB] at hm
  subst hm
  clear ho hb2 hbw ht2 hB e1 e2 e3 HP HOK
  go_wp2
  go_ret2
  obtain ⟨e1, e2, e3⟩ := HE.out
  exact ⟨by rw [e1, e2]; rfl, by rw [e3]; exact HT2.out, below_fr HB2.out⟩
 | true =>
  have hfl : (frL e).length = (entL e).length + 4 := by rw [frL_yes hB, frB_len]
  have hge := t_entL_ge hB
  have hle := t_entL_le hB
  have HSL := Lib.hid (own_slK ho HOK.out)
  have HL := Lib.hid (left_any w2 ht2)
  have h1 := ht2.ok.t1
  have h0 := ht2.ok.t0
  have h2 := ht2.ok.len
  have h3 := ht2.ok.c0
  have h4 := ht2.ok.c1
  have HBT := Lib.hid hB
  have HT2 := Lib.hid ht2
  obtain ⟨N, hN⟩ : ∃ N, N = (frL e).length := ⟨_, rfl⟩
  obtain ⟨K, hK⟩ : ∃ K, K = t.tiles * 63 - t.S.length := ⟨_, rfl⟩
  have hN0 : 0 < N := by omega
  rw [← hK] at HL
  rw [← hN] at hm
  subst hm
  have HN := Lib.hid hN
  have HK := Lib.hid hK
  clear ho hb2 hbw ht2 hB hfl hge hle hN hK HP HBX HZI
  by_cases hfit : K < (m : Int)
  ·have e1 : apE t e = 5 := by
    unfold apE
    rw [if_neg (by rw [HBT.out]; decide), if_pos (by rw [← HN.out]; have := HK.out; omega)]
   have e2 : apN t e = 0 := by unfold apN; rw [e1]; rfl
   have e3 : apT t e = t := by unfold apT; rw [e1]; rfl
   have HE := Lib.hid (And.intro e1 (And.intro e2 e3))
   clear e1 e2 e3
   go_wp2_with fail
   refine HL.out.mono ?_
   rintro r w3 ⟨rfl, hb3⟩
   have HT3 := Lib.hid (HT2.out.kept fun k hk => hb3.block k hk)
   have HB3 := Lib.hid (HB2.out.trans (hb3.mono HB2.out.size))
   clear hb3 HL
   go_wp2
   go_ret2
   obtain ⟨e1, e2, e3⟩ := HE.out
   exact ⟨by rw [e1, e2]; rfl, by rw [e3]; exact HT3.out, below_fr HB3.out⟩
  ·have e1 : apE t e = 0 := by
    unfold apE
    rw [if_neg (by rw [HBT.out]; decide), if_neg (by rw [← HN.out]; have := HK.out; omega)]
   have e2 : apN t e = t.count + 1 := by unfold apN; rw [e1]; rfl
   have e3 : apT t e = { t with S := t.S ++ frL e, count := t.count + 1 } := by unfold apT; rw [e1]; rfl
   have HE := Lib.hid (And.intro e1 (And.intro e2 e3))
   have HFIT : Hid (((t.S.length + (frL e).length : Nat) : Int) ≤ 63 * t.tiles) := Lib.hid (by rw [← HN.out]; have := HK.out; omega)
   clear e1 e2 e3
   go_wp2_with fail
   refine HL.out.mono ?_
   rintro r w3 ⟨rfl, hb3⟩
   have HT3 := Lib.hid (HT2.out.kept fun k hk => hb3.block k hk)
   have HB3 := Lib.hid (HB2.out.trans (hb3.mono HB2.out.size))
   have HA := Lib.hid (add_any w3 HT3.out (HSL.out.below hb3 (Nat.le_refl _)) HFIT.out)
   have hcb : t.count ≤ 126000 := by omega
   clear hb3 HL h0 h1 h2 h4
   go_upto_region 6 with (fail)
   go_wp2_with fail
   refine HA.out.mono ?_
   rintro r w4 ⟨rfl, ht4, hf4⟩
   have x5 : w4.cell? ⟨p, 5, none⟩ = some (.int .i64 t.count) := ht4.c 5
   have z5 := ht4.fz 5
   have x5' : (w4.setCell ⟨p, 5, none⟩ (.int .i64 (t.count + 1))).cell? ⟨p, 5, none⟩ = some (.int .i64 (t.count + 1)) := by
    rw [(c_o (heap_setCell_same w4 p 5 _ _ _ ht4.bx) 5).1]
    rfl
   have t1 : IntKind.i64.wrap (t.count + 1) = t.count + 1 := IntWalk.i64_in _ (by omega)
   have ht5 : TrAt (w4.setCell ⟨p, 5, none⟩ (.int .i64 (t.count + 1))) p bm { t with S := t.S ++ frL e, count := t.count + 1 } := by
    refine ⟨?_, ht4.mp.of_block (setCell_far _ _ _ _ (fun e => ht4.ne e.symm)), ⟨ht4.ok.ok, ht4.ok.f0, ht4.ok.f1, ht4.ok.t0, ht4.ok.t1, ht4.ok.len, by show 0 ≤ t.count + 1; omega, ?_⟩, ht4.ne⟩
    ·rw [heap_setCell_same w4 p 5 _ _ _ ht4.bx]
     rfl
    ·show t.count + 1 ≤ ((t.S ++ frL e).length : Int)
     have := HT3.out.ok.c1
     rw [List.length_append, ← HN.out]
     omega
   have hf5 : Fr w.heap.size (Two p bm) w (w4.setCell ⟨p, 5, none⟩ (.int .i64 (t.count + 1))) := ((below_fr HB3.out).trans hf4 HB3.out.size (fun x _ h => h)).setCell (Or.inl (Or.inl rfl)) _
   have HT5 := Lib.hid ht5
   have HF5 := Lib.hid hf5
   clear ht4 hf4 ht5 hf5 HA
   go_wp2
   go_ret2
   obtain ⟨e1, e2, e3⟩ := HE.out
   exact ⟨by rw [e1, e2]; rfl, by rw [e3]; exact HT5.out, HF5.out⟩
end Go.Proofs.YthmgafcnoedmjaaGreat
namespace Go.Proofs.YthmgafcnoedmjaaGreat
open Go.RowKit Go.Maps
structure DkAt (w : World) (p bn bo g : Nat) (d : Dk) : Prop where
 dk : DiskAt w p bn bo g d
 dead : d.dead = false
 set : d.set = false
 mv : d.mv = .slice none 0 0
 mask : d.mask = []
theorem DkAt.on {w w' : World} {p bn bo g : Nat} {d : Dk} (h : DkAt w p bn bo g d) (hb : ∀ k, Three p bn bo k → w'.heap[k]? = w.heap[k]?) : DkAt w' p bn bo g d := by
 refine ⟨⟨(hb p (Or.inl rfl)).trans h.dk.cells, h.dk.now.of_block (hb bn (Or.inr (Or.inl rfl))), h.dk.old.of_block (hb bo (Or.inr (Or.inr rfl))), ?_, h.dk.ne, h.dk.ok⟩, h.dead, h.set, h.mv, h.mask⟩
 rw [h.mv, h.mask]
 exact nil_SlB w' g
theorem DkAt.lt {w : World} {p bn bo g k : Nat} {d : Dk} (h : DkAt w p bn bo g d) (hk : Three p bn bo k) : k < w.heap.size := by
 obtain ⟨h1, h2, h3⟩ := h.dk.lt
 rcases hk with rfl | rfl | rfl
 ·exact h1
 ·exact h2
 ·exact h3
structure LogAt (w : World) (p bm : Nat) (t : Tr) (bn bo g : Nat) (d : Dk) : Prop where
 tr : TrAt w p bm t
 dk : DkAt w t.dp bn bo g d
 sep : ∀ k, Three t.dp bn bo k → ¬ Two p bm k
 fit : t.first + t.tiles ≤ d.tiles
def Five (p bm dp bn bo : Nat) : Nat → Prop := fun k => Two p bm k ∨ Three dp bn bo k
section
variable {w w' : World} {p bm bn bo g : Nat} {t : Tr} {d d' : Dk}
theorem LogAt.kept (h : LogAt w p bm t bn bo g d) (hb : ∀ k, k < w.heap.size → w'.heap[k]? = w.heap[k]?) : LogAt w' p bm t bn bo g d :=
 ⟨h.tr.kept hb, h.dk.on fun k hk => hb k (h.dk.lt hk), h.sep, h.fit⟩
def Dk.has (d : Dk) (i : Int) (l : List Int) : Prop := (d.now i).getD zb = blkOf l ∧ l.length = 64 ∧ bytesOk l
theorem Dk.has_any (d : Dk) (h : d.Ok) (i : Int) : ∃ l, d.has i l := by
 obtain ⟨l, h1, h2, h3⟩ := now_blk h i
 exact ⟨l, h3, h1, h2⟩
theorem blkOf_inj {a b : List Int} (h : blkOf a = blkOf b) : a = b := by
 unfold blkOf at h
 injection h with h
 have h2 := congrArg Array.toList h
 simp only [byteV] at h2
 have hi : ∀ (a b : List Int), a.map (Value.int .u8) = b.map (Value.int .u8) → a = b := by
  intro a
  induction a with
  | nil => intro b h; cases b with
   | nil => rfl
   | cons => cases h
  | cons x a ih => intro b h; cases b with
   | nil => cases h
   | cons y b =>
    simp only [List.map_cons] at h
    injection h with h1 h2
    injection h1 with _ h1
    rw [h1, ih b h2]
 exact hi a b h2
theorem Dk.has_det {d : Dk} {i : Int} {a b : List Int} (h1 : d.has i a) (h2 : d.has i b) : a = b := blkOf_inj (h1.1.symm.trans h2.1)
theorem Dk.has_store {d : Dk} {i j : Int} {l m : List Int} (hl : l.length = 64) (hok : bytesOk l) (h : if j = i then m = l else d.has j m) : (d.store i (blkOf l)).has j m := by
 unfold Dk.has Dk.store
 show ((upd d.now i (some (blkOf l)) j).getD zb) = _ ∧ _
 by_cases e : j = i
 ·rw [if_pos e] at h
  subst h e
  rw [upd_same]
  exact ⟨rfl, hl, hok⟩
 ·rw [if_neg e] at h
  rw [upd_other _ e]
  exact h
structure Done (t : Tr) (d d' : Dk) (n : Nat) : Prop where
 tiles : d'.tiles = d.tiles
 own : ∀ k : Nat, k < n → d'.has (t.first + k) (tileL t.S k)
 far : ∀ j l, (∀ k : Nat, k < n → j ≠ t.first + k) → d.has j l → d'.has j l
theorem Done.zero (t : Tr) (d : Dk) : Done t d d 0 := ⟨rfl, fun k hk => absurd hk (Nat.not_lt_zero k), fun _ _ _ h => h⟩
theorem Done.keep {n : Nat} (h : Done t d d' n) (hh : d'.has (t.first + n) (tileL t.S n)) : Done t d d' (n + 1) := by
 refine ⟨h.tiles, fun k hk => ?_, fun _ _ hj hl => h.far _ _ (fun k hk => hj k (by omega)) hl⟩
 by_cases e : k = n
 ·subst e; exact hh
 ·exact h.own k (by omega)
theorem Done.store {n : Nat} (h : Done t d d' n) (hok : bytesOk t.S) : Done t d (d'.store (t.first + n) (blkOf (tileL t.S n))) (n + 1) := by
 refine ⟨h.tiles, fun k hk => ?_, fun j l hj hl => ?_⟩
 ·refine Dk.has_store (tileL_len _ _) (tileL_ok hok _) ?_
  by_cases e : k = n
  ·subst e; rw [if_pos rfl]
  ·rw [if_neg (by omega)]; exact h.own k (by omega)
 ·refine Dk.has_store (tileL_len _ _) (tileL_ok hok _) ?_
  rw [if_neg (hj n (by omega))]
  exact h.far j l (fun k hk => hj k (by omega)) hl
end
end Go.Proofs.YthmgafcnoedmjaaGreat
namespace Go.Proofs.YthmgafcnoedmjaaGreat
open Go.RowKit Go.Maps
theorem pt_row {W : World} {g : Nat} {L : List Int} {t : TypeId} (h : W.heap[g]? = some (.cells (byteV L).toArray t (0, 0))) {n : Nat} (hn : L.length = n) : Pt W (.slice (some ⟨g, 0, none⟩) n n) L := by
 subst hn
 refine ⟨g, 0, L.length, rfl, Nat.le_refl _, (Array.getElem?_eq_some_iff.1 h).1, fun j hj => ?_⟩
 rw [Nat.zero_add, (c_o h j).1]
 simp [byteV, hj]
theorem slB_row {W : World} {g : Nat} {L : List Int} {t : TypeId} (h : W.heap[g]? = some (.cells (byteV L).toArray t (0, 0))) (hn : L.length = 64) : SlB W (.slice (some ⟨g, 0, none⟩) 64 64) L g := by
 refine ⟨_, _, _, rfl, hn.symm, Nat.le_refl _, by omega, (fun e => by cases e), fun a e _ => ?_⟩
 cases e
 refine ⟨rfl, rfl, fun j hj => ?_⟩
 rw [Nat.zero_add, (c_o h j).1]
 simp [byteV, hj]
def ivT : Value → Nat
 | .int _ x => x.toNat
 | _ => 0
def StRel (w : World) (p bm : Nat) (t : Tr) (bn bo g : Nat) (d : Dk) (k : Nat) (wr : World) : Prop := ∃ d', LogAt wr p bm t bn bo g d' ∧ Done t d d' k ∧ Fr w.heap.size (Five p bm t.dp bn bo) w wr
def StPost (w : World) (p bm : Nat) (t : Tr) (bn bo g : Nat) (d : Dk) (e : Ending) (w' : World) : Prop := e = .returned (.int .i64 0) ∧ ∃ d', LogAt w' p bm { t with stable := t.count } bn bo g d' ∧ Done t d d' t.tiles.toNat ∧ Fr w.heap.size (Five p bm t.dp bn bo) w w'
theorem below_five {w w1 w2 : World} {S : Nat → Prop} (h : Fr w.heap.size S w w1) (hb : Below w1.heap.size w1 w2) : Fr w.heap.size S w w2 :=
 h.trans (below_fr (S := S) hb) h.size (fun _ _ h => h)
theorem settle_end {w wr : World} {p bm bn bo g : Nat} {t : Tr} {d d' : Dk} (h : LogAt wr p bm t bn bo g d') (hd : Done t d d' t.tiles.toNat) (hf : Fr w.heap.size (Five p bm t.dp bn bo) w wr) : StPost w p bm t bn bo g d (.returned (.int .i64 0)) (wr.setCell ⟨p, 6, none⟩ (.int .i64 t.count)) := by
 refine ⟨rfl, d', ⟨⟨?_, h.tr.mp.of_block (setCell_far _ _ _ _ (fun e => h.tr.ne e.symm)), ⟨h.tr.ok.ok, h.tr.ok.f0, h.tr.ok.f1, h.tr.ok.t0, h.tr.ok.t1, h.tr.ok.len, h.tr.ok.c0, h.tr.ok.c1⟩, h.tr.ne⟩, h.dk.on fun k hk => setCell_far _ _ _ _ (fun e => h.sep k hk (Or.inl e)), h.sep, h.fit⟩, ⟨hd.tiles, hd.own, hd.far⟩, hf.setCell (Or.inl (Or.inl (Or.inl rfl))) _⟩
 rw [heap_setCell_same wr p 6 _ _ _ h.tr.bx]
 rfl
set_option maxHeartbeats 1000000 in
theorem settle_any (w : World) {p bm bn bo g : Nat} {t : Tr} {d : Dk} (h : LogAt w p bm t bn bo g d) : Calls Tryz.prog 38 #[.pointer (some ⟨p, 0, none⟩)] w (StPost w p bm t bn bo g d) := by
 have t0 := h.tr.ok.t0
 have t1 := h.tr.ok.t1
 have t2 := h.tr.ok.f0
 have t3 := h.tr.ok.f1
 have x2 : w.cell? ⟨p, 2, none⟩ = some (.int .i64 t.tiles) := h.tr.c 2
 obtain ⟨K, hK⟩ : ∃ K : Nat, t.tiles = (K : Int) := ⟨t.tiles.toNat, by omega⟩
 have H1 : Hid (StRel w p bm t bn bo g d 0 w) := Lib.hid ⟨d, h, Done.zero t d, Fr.refl _ _ _⟩
 have HK := Lib.hid hK
 rw [hK] at x2
 have hK0 : K ≤ 2000 := by omega
 clear h t0 t1 hK
 go_enter Tryz.func38, Tryz.ntmps38
 go_wp2
 go_loopw [3, 14] (fun b i wr => ∃ (q : Bool) (n : Nat), n ≤ K ∧ i = .int .i64 n ∧ b = .bool q ∧ Hid (StRel w p bm t bn bo g d n wr)) (fun _ i _ => K - ivT i)
 case atStart => exact ⟨false, 0, Nat.zero_le _, rfl, rfl, H1⟩
 case round =>
  obtain ⟨q, n, hn, rfl, rfl, HR⟩ := hrel
  obtain ⟨d', hl, hd, hf⟩ := HR.out
  clear x2 H1
  by_cases hlt : n < K
  ·have x0 : wr.drew.cell? ⟨p, 0, none⟩ = some (.pointer (some ⟨t.dp, 0, none⟩)) := hl.tr.c 0
   have x1 : wr.drew.cell? ⟨p, 1, none⟩ = some (.int .i64 t.first) := hl.tr.c 1
   have q1 : IntKind.i64.wrap (t.first + (n : Int)) = t.first + (n : Int) := IntWalk.i64_in _ (by omega)
   obtain ⟨l, hh⟩ := d'.has_any hl.dk.dk.ok (t.first + n)
   have hlt2 : (n : Int) < (K : Int) := by omega
   have hin : t.first + (n : Int) < d'.tiles := by have := hl.fit; have := HK.out; omega
   have HRd : Hid (∀ W, Below wr.heap.size wr W → Calls Tryz.prog 58 #[.pointer (some ⟨t.dp, 0, none⟩), .int .i64 (t.first + n)] W fun e w' => ∃ g1, e = .returned (.tuple #[.slice (some ⟨g1, 0, none⟩) 64 64, .int .i64 0]) ∧ SlK .u8 w' (.slice (some ⟨g1, 0, none⟩) 64 64) l ∧ Below wr.heap.size wr w') := Lib.hid fun W hW =>
    (read_ok W (hl.kept fun k hk => hW.block k hk).dk.dk hl.dk.dead _ (by omega) hin l hh.1 hh.2.1).mono fun e w' ⟨h1, h2⟩ => ⟨_, h1, by rw [h2]; exact (pt_row (heap_alloc_new W _) hh.2.1).slK hh.2.2, by rw [h2]; exact hW.alloc hW.size _⟩
   have HL := Lib.hid hl
   have HD := Lib.hid hd
   have HF := Lib.hid hf
   have HH := Lib.hid hh
   have HIN := Lib.hid hin
   have D0 := (Below.refl wr.heap.size wr).drew
   clear hl hd hf hh hin HR
   go_upto_region 5 with (fail)
   go_cut [5, 6] (fun u v wx => ∃ g1, u = .slice (some ⟨g1, 0, none⟩) 64 64 ∧ v = .int .i64 0 ∧ SlK .u8 wx (.slice (some ⟨g1, 0, none⟩) 64 64) l ∧ Below wr.heap.size wr wx)
   case first =>
    go_region_with (go_at_call 58; refine (HRd.out _ D0).mono ?_; rintro e w1 ⟨g1, rfl, hs1, hb1⟩; have HQ := Lib.hid (And.intro hs1 hb1); clear hs1 hb1)
    all_goals go_wp2
    all_goals go_meet
    all_goals exact ⟨g1, rfl, rfl, HQ.out.1, HQ.out.2⟩
   case rest =>
    obtain ⟨g1, rfl, rfl, hs1, hb1⟩ := hcut
    generalize wc = w1 at *
    have hl1 := HL.out.kept (w' := w1) fun k hk => hb1.block k hk
    have x3 : w1.cell? ⟨p, 3, none⟩ = some (.map (some bm)) := hl1.tr.c 3
    have wi : (Lit.int .i64 (n : Int)).wf = true := WalkArith.wf_i64 (by omega)
    have k4 := hl1.tr.mp.look law3 Tryz.underlying77 Tryz.underlying3 (zeroT w1) wi
    rw [zb_eq, blkM_get] at k4
    have hsz : (byteV (tileL t.S n)).toArray.size = 64 := by simp [byteV, tileL_len]
    have k2 := st_newT w1 (byteV (tileL t.S n)).toArray hsz (by simpa using byteV_one (tileL t.S n))
    obtain ⟨co, hco⟩ : ∃ co, co = (byteV (tileL t.S n)).toArray := ⟨_, rfl⟩
    rw [← hco] at k4 k2 hsz
    have HCO := Lib.hid hco
    have HS1 := Lib.hid hs1
    have HB1 := Lib.hid hb1
    clear hco hs1 hb1 hl1 x0 x1 D0 HRd
    go_upto_region 9 with (fail)
    obtain ⟨w2, HW2, hc2, hb2⟩ : ∃ W, Hid (w1.alloc (.cells co 105) = W) ∧ W.heap[w1.heap.size]? = some (.cells co 105 (0, 0)) ∧ Below w1.heap.size w1 W := ⟨_, Lib.hid rfl, heap_alloc_new w1 _, (Below.refl _ _).alloc (Nat.le_refl _) _⟩
    rw [HW2.out]
    obtain ⟨gc, hgc⟩ : ∃ g, g = w1.heap.size := ⟨_, rfl⟩
    rw [← hgc] at hc2 ⊢
    have hb12 : Below wr.heap.size wr w2 := HB1.out.trans (hb2.mono HB1.out.size)
    have hl2 := HL.out.kept (w' := w2) fun k hk => hb12.block k hk
    rw [HCO.out] at hc2
    have hs2 : SlK .u8 w2 (.slice (some ⟨gc, 0, none⟩) 64 64) (tileL t.S n) := (pt_row hc2 (tileL_len _ _)).slK (tileL_ok hl2.tr.ok.ok n)
    have HE := Lib.hid (equalE_any w2 _ _ _ _ (HS1.out.below hb2 (Nat.le_refl _)) hs2)
    have HC2 := Lib.hid hc2
    have HL2 := Lib.hid hl2
    have HB2 := Lib.hid hb12
    clear hc2 hb2 hb12 hl2 hs2 hgc k4 k2 HCO HW2 x3 hsz HS1 HB1
    cases hq : decide (l = tileL t.S n) with
    | true =>
     rw [hq] at HE
     have hle : l = tileL t.S n := of_decide_eq_true hq
     have HR2 : Hid (StRel w p bm t bn bo g d (n + 1) w2) := Lib.hid ⟨d', HL2.out, HD.out.keep (by rw [← hle]; exact HH.out), below_five HF.out HB2.out⟩
     clear hq hle
     go_wp2_with (go_at_call 59; refine HE.out.mono ?_; rintro e w3 ⟨rfl, rfl⟩)
     go_roundw
     all_goals first
      | exact ⟨q, n + 1, hlt, by go_num, rfl, HR2⟩
      | (simp [ivT]; omega)
    | false =>
     rw [hq] at HE
     have x0 : w2.drew.cell? ⟨p, 0, none⟩ = some (.pointer (some ⟨t.dp, 0, none⟩)) := HL2.out.tr.c 0
     have x1 : w2.drew.cell? ⟨p, 1, none⟩ = some (.int .i64 t.first) := HL2.out.tr.c 1
     have HWr : Hid (∀ W, Below w2.heap.size w2 W → Calls Tryz.prog 20 #[.pointer (some ⟨t.dp, 0, none⟩), .int .i64 (t.first + n), .slice (some ⟨gc, 0, none⟩) 64 64] W fun e w' => e = .returned (.int .i64 0) ∧ StRel w p bm t bn bo g d (n + 1) w') := Lib.hid fun W hW => by
      have hlW := HL2.out.kept fun k hk => hW.block k hk
      have hcW := (hW.block gc (Array.getElem?_eq_some_iff.1 HC2.out).1).trans HC2.out
      refine (write_plain W hlW.dk.dk hlW.dk.dead _ (by omega) HIN.out _ (tileL t.S n) (slB_row hcW (tileL_len _ _)) (tileL_len _ _) (tileL_ok hlW.tr.ok.ok n) hlW.dk.set).mono ?_
      rintro e w' ⟨h1, h2, h3⟩
      refine ⟨h1, _, ⟨?_, ⟨h2, hlW.dk.dead, hlW.dk.set, hlW.dk.mv, hlW.dk.mask⟩, hlW.sep, hlW.fit⟩, HD.out.store hlW.tr.ok.ok, ?_⟩
      ·have hk : ∀ k, k < W.heap.size → Two p bm k → w'.heap[k]? = W.heap[k]? := fun k hk h => h3.block k hk (fun e => hlW.sep k e h)
       exact ⟨(hk p hlW.tr.lt.1 (Or.inl rfl)).trans hlW.tr.bx, hlW.tr.mp.of_block (hk bm hlW.tr.lt.2 (Or.inr rfl)), hlW.tr.ok, hlW.tr.ne⟩
      ·have f2 := below_five HF.out (HB2.out.trans (hW.mono HB2.out.size))
       exact f2.trans h3 f2.size (fun x _ h => Or.inr h)
     have D0 := (Below.refl w2.heap.size w2).drew
     clear hq HL2 HC2 HH HD HIN
     go_upto_region 10 with (go_at_call 59; refine HE.out.mono ?_; rintro e w3 ⟨rfl, rfl⟩)
     go_region_with (go_at_call 20; refine (HWr.out _ D0).mono ?_; rintro e w4 ⟨rfl, hr4⟩; have HR4 := Lib.hid hr4; clear hr4)
     all_goals
      clear x0 x1 D0 HWr
      go_wp2
      go_roundw
      all_goals first
       | exact ⟨true, n + 1, hlt, by go_num, rfl, HR4⟩
       | (simp [ivT]; omega)
  ·obtain rfl : n = K := by omega
   have hkt : n = t.tiles.toNat := by have := HK.out; omega
   rw [hkt] at hd
   cases q with
   | false =>
    have x5 : wr.cell? ⟨p, 5, none⟩ = some (.int .i64 t.count) := hl.tr.c 5
    have y6 : wr.cell? ⟨p, 6, none⟩ = some (.int .i64 t.stable) := hl.tr.c 6
    have z6 := hl.tr.fz 6
    have HE := Lib.hid (settle_end hl hd hf)
    clear hl hd hf HR hkt
    go_wp2
    go_ret
    exact HE.out
   | true =>
    have x0 : wr.cell? ⟨p, 0, none⟩ = some (.pointer (some ⟨t.dp, 0, none⟩)) := hl.tr.c 0
    have HY := Lib.hid (sync_plain wr hl.dk.dk hl.dk.dead hl.dk.set)
    have HL := Lib.hid hl
    have HD := Lib.hid hd
    have HF := Lib.hid hf
    clear hl hd hf HR hkt
    go_wp2_with fail
    refine HY.out.mono ?_
    rintro e w2 ⟨rfl, h2, h3⟩
    have hl2 : LogAt w2 p bm t bn bo g d'.synced := by
     have hlW := HL.out
     have hk : ∀ k, k < wr.heap.size → Two p bm k → w2.heap[k]? = wr.heap[k]? := fun k hk h => h3.block k hk (fun e => hlW.sep k e h)
     exact ⟨⟨(hk p hlW.tr.lt.1 (Or.inl rfl)).trans hlW.tr.bx, hlW.tr.mp.of_block (hk bm hlW.tr.lt.2 (Or.inr rfl)), hlW.tr.ok, hlW.tr.ne⟩, ⟨h2, hlW.dk.dead, hlW.dk.set, hlW.dk.mv, hlW.dk.mask⟩, hlW.sep, hlW.fit⟩
    have hf2 : Fr w.heap.size (Five p bm t.dp bn bo) w w2 := HF.out.trans h3 HF.out.size (fun x _ h => Or.inr h)
    have hd2 : Done t d d'.synced t.tiles.toNat := ⟨HD.out.tiles, HD.out.own, HD.out.far⟩
    have x5 : w2.cell? ⟨p, 5, none⟩ = some (.int .i64 t.count) := hl2.tr.c 5
    have y6 : w2.cell? ⟨p, 6, none⟩ = some (.int .i64 t.stable) := hl2.tr.c 6
    have z6 := hl2.tr.fz 6
    have HE := Lib.hid (settle_end hl2 hd2 hf2)
    clear h2 h3 hl2 hf2 hd2 HL HD HF HY x0
    go_wp2
    go_ret
    exact HE.out
end Go.Proofs.YthmgafcnoedmjaaGreat
