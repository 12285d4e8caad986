/- TrailAll, a part. -/
import Derived.Test.YthmgafcnoedmjaaGreatQ37
import Derived.Test.YthmgafcnoedmjaaGreatQ33
namespace Go.Proofs.YthmgafcnoedmjaaGreat
set_option maxRecDepth 100000
open Go.RowKit
structure Pz (w3 : World) (p : Nat) (W : World) (v : Value) (L : List Int) (n : Nat) : Prop where
 z : WZ W p v L
 b : Below p w3 W
 n : L.length ≤ n
theorem Pz.step {w3 W W' : World} {p n n' : Nat} {v v' : Value} {L L' : List Int} (h : Pz w3 p W v L n) (h' : WZ W' p v' L') (g : Wr p W v W' v') (hn : L'.length ≤ n') : Pz w3 p W' v' L' n' := ⟨h', h.b.trans (h.z.below g), hn⟩
theorem Pz.bz {w3 W : World} {p n g : Nat} {v : Value} {L : List Int} {e : Ent} {s1 s2 s3 s4 s5 s6 : Value} (h : Pz w3 p W v L n) (hz : Bz g e s1 s2 s3 s4 s5 s6 w3) (hp : w3.heap.size ≤ p) : Bz g e s1 s2 s3 s4 s5 s6 W :=
 ⟨(h.b.block g (Nat.lt_of_lt_of_le (Array.getElem?_eq_some_iff.1 hz.bx).1 hp)).trans hz.bx, hz.s.below h.b hp⟩
def RputPost (w : World) (e : Ent) (r : Ending) (w' : World) : Prop := ∃ A m c, r = .returned (.slice A m c) ∧ w'.ownsRow w.heap.size 5 1 (.slice A m c) (putL e).length (byteV (putL e)) ∧ Below w.heap.size w w'
theorem celL_le {c : List Int} (h : celOk c = true) : (celL c).length ≤ 27 := by
 unfold celL
 rw [if_pos h, List.length_append, numL_len]
 simp only [celOk, Bool.or_eq_true, decide_eq_true_eq] at h
 omega
structure EntQ2 (e : Ent) : Prop where
 q0 : fitB e.kind 1 = true
 q1 : fitB e.txn 1 = true
 q2 : fitB e.unit 2 = true
 q3 : fitB e.half 1 = true
 q4 : fitB e.prev 3 = true
 q5 : fitB e.next 3 = true
 q6 : fitB e.ap 1 = true ∧ fitB e.ac 1 = true
 q7 : fitB e.tp 1 = true ∧ fitB e.tc 1 = true
 ho : celOk e.old = true
 hn : celOk e.new = true
 hm : lstB mvB e.moves = true
 hl : lstB lvB e.lives = true
 hd : lstB dtB e.dirty = true
 hp : lstB opB e.opens = true
theorem entB_q {e : Ent} (h : entB e = true) : EntQ2 e := by
 simp only [entB, plB, Bool.and_eq_true] at h
 obtain ⟨⟨⟨⟨⟨⟨⟨⟨⟨⟨⟨⟨⟨⟨-, q0⟩, q1⟩, q2⟩, q3⟩, q4⟩, q5⟩, q6⟩, q7⟩, ho⟩, hn⟩, hm⟩, hl⟩, hd⟩, hp⟩ := h
 exact ⟨q0, q1, q2, q3, q4, q5, q6, q7, ho, hn, hm, hl, hd, hp⟩
set_option maxHeartbeats 4000000 in
theorem rput_any (w : World) (e : Ent) {s1 s2 s3 s4 s5 s6 : Value} (hs : EntS w s1 s2 s3 s4 s5 s6 e) (hi : EntI e) :
  Calls Tryz.prog 40 #[.agg (entC e s1 s2 s3 s4 s5 s6)] w (RputPost w e) := by
 obtain ⟨A1, c1, A2, c2, A3, c3, A4, c4, A5, c5, A6, c6, rfl, rfl, rfl, rfl, rfl, rfl⟩ := hs.form
 obtain ⟨n1, hn1⟩ : ∃ n, n = e.old.length := ⟨_, rfl⟩
 rw [← hn1] at hs ⊢
 have HN1 := Lib.hid hn1
 obtain ⟨n2, hn2⟩ : ∃ n, n = e.new.length := ⟨_, rfl⟩
 rw [← hn2] at hs ⊢
 have HN2 := Lib.hid hn2
 obtain ⟨n3, hn3⟩ : ∃ n, n = e.moves.length := ⟨_, rfl⟩
 rw [← hn3] at hs ⊢
 have HN3 := Lib.hid hn3
 obtain ⟨n4, hn4⟩ : ∃ n, n = e.lives.length := ⟨_, rfl⟩
 rw [← hn4] at hs ⊢
 have HN4 := Lib.hid hn4
 obtain ⟨n5, hn5⟩ : ∃ n, n = e.dirty.length := ⟨_, rfl⟩
 rw [← hn5] at hs ⊢
 have HN5 := Lib.hid hn5
 obtain ⟨n6, hn6⟩ : ∃ n, n = e.opens.length := ⟨_, rfl⟩
 rw [← hn6] at hs ⊢
 have HN6 := Lib.hid hn6
 clear hn1 hn2 hn3 hn4 hn5 hn6
 have HI := Lib.hid hi
 obtain ⟨W, hW⟩ : ∃ W, W = w.alloc (entO e (.slice A1 n1 c1) (.slice A2 n2 c2) (.slice A3 n3 c3) (.slice A4 n4 c4) (.slice A5 n5 c5) (.slice A6 n6 c6)) := ⟨_, rfl⟩
 have hB0 : Below w.heap.size w W := by rw [hW]; exact (Below.refl _ _).alloc (Nat.le_refl _) _
 have hZ0 : Bz w.heap.size e (.slice A1 n1 c1) (.slice A2 n2 c2) (.slice A3 n3 c3) (.slice A4 n4 c4) (.slice A5 n5 c5) (.slice A6 n6 c6) W := ⟨by rw [hW]; exact heap_alloc_new w _, hs.below hB0 (Nat.le_refl _)⟩
 have HBW := Lib.hid hB0
 have HZW := Lib.hid hZ0
 have HZI := Lib.hid (infoEntC e (.slice A1 n1 c1) (.slice A2 n2 c2) (.slice A3 n3 c3) (.slice A4 n4 c4) (.slice A5 n5 c5) (.slice A6 n6 c6))
 have HM := Lib.hid (rmay_any W e hZ0.s hi)
 clear hs hi hB0 hZ0
 show Calls _ _ #[.agg #[.int .i64 e.kind, .int .i64 e.txn, .int .i64 e.unit, .int .i64 e.half, .int .i64 e.prev, .int .i64 e.next, .int .i64 e.ap, .int .i64 e.ac, .int .i64 e.tp, .int .i64 e.tc, _, _, _, _, _, _]] _ _
 go_enter Tryz.func40, Tryz.ntmps40
 go_upto_region 1 with (fail)
 show Code.wp _ _ _ _ (w.alloc (entO e (.slice A1 n1 c1) (.slice A2 n2 c2) (.slice A3 n3 c3) (.slice A4 n4 c4) (.slice A5 n5 c5) (.slice A6 n6 c6)))
 rw [← hW]
 clear hW
 go_wp2_with (with_reducible refine wpList_load_row rfl 44 (.tmp 1) rfl w.heap.size rfl 44 _ (0, 0) _ HZW.out.bx Tryz.underlying44 rfl HZI.out ?_)
 refine HM.out.mono ?_
 rintro r w3 ⟨rfl, hb3⟩
 have HB3 := Lib.hid (below_on HBW.out hb3)
 have HZ3 := Lib.hid (HZW.out.on hb3)
 clear hb3 HM HBW HZW
 cases hB : entB e with
 | false =>
  have HF := Lib.hid (putL_no hB)
  clear hB
  go_wp2
  go_ret
  exact ⟨none, 0, 0, rfl, by rw [HF.out]; exact World.ownsRow_nil _ _ _ _, HB3.out⟩
 | true =>
  have HQ := Lib.hid (entB_q hB)
  have HPL := Lib.hid (putL_yes hB)
  clear hB
  have hp0 : Pz w3 w3.heap.size (w3.alloc (.cells #[.slice none 0 0] 110)) (.slice none 0 0) [] 0 := ⟨⟨heap_alloc_new w3 _, World.ownsRow_nil _ _ _ _⟩, (Below.refl _ _).alloc (Nat.le_refl _) _, Nat.le_refl _⟩
  have HP0 := Lib.hid hp0
  clear hp0
  go_upto_region 4 with (fail)
  generalize w3.alloc (.cells #[.slice none 0 0] 110) = w4 at *
  obtain ⟨p, hp⟩ : ∃ p, p = w3.heap.size := ⟨_, rfl⟩
  rw [← hp] at HP0 ⊢
  have HLE := Lib.hid (Nat.le_of_eq hp.symm)
  clear hp
  have x : w4.cell? ⟨w.heap.size, 0, none⟩ = some (.int .i64 e.kind) := (c_o (HP0.out.bz HZ3.out HLE.out).bx 0).1
  go_wp2_with fail
  refine (znum_1 HP0.out.z e.kind (fit_pos HQ.out.q0) HI.out.kind.2 (by have := HP0.out.n; omega)).mono ?_
  rintro r w5 ⟨rfl, v1, h, g⟩
  have HP1 : Hid (Pz w3 p w5 v1 ([] ++ numL e.kind 1) 1) := Lib.hid (HP0.out.step h g (by have := HP0.out.n; rw [List.length_append, numL_len]; omega))
  clear h g x HP0
  have x : w5.cell? ⟨w.heap.size, 1, none⟩ = some (.int .i64 e.txn) := (c_o (HP1.out.bz HZ3.out HLE.out).bx 1).1
  go_wp2_with fail
  refine (znum_1 HP1.out.z e.txn (fit_pos HQ.out.q1) HI.out.txn.2 (by have := HP1.out.n; omega)).mono ?_
  rintro r w6 ⟨rfl, v2, h, g⟩
  have HP2 : Hid (Pz w3 p w6 v2 ([] ++ numL e.kind 1 ++ numL e.txn 1) 2) := Lib.hid (HP1.out.step h g (by have := HP1.out.n; rw [List.length_append, numL_len]; omega))
  clear h g x HP1
  have x : w6.cell? ⟨w.heap.size, 2, none⟩ = some (.int .i64 e.unit) := (c_o (HP2.out.bz HZ3.out HLE.out).bx 2).1
  go_wp2_with fail
  refine (znum_2 HP2.out.z e.unit (fit_pos HQ.out.q2) HI.out.unit.2 (by have := HP2.out.n; omega)).mono ?_
  rintro r w7 ⟨rfl, v3, h, g⟩
  have HP3 : Hid (Pz w3 p w7 v3 ([] ++ numL e.kind 1 ++ numL e.txn 1 ++ numL e.unit 2) 4) := Lib.hid (HP2.out.step h g (by have := HP2.out.n; rw [List.length_append, numL_len]; omega))
  clear h g x HP2
  have x : w7.cell? ⟨w.heap.size, 3, none⟩ = some (.int .i64 e.half) := (c_o (HP3.out.bz HZ3.out HLE.out).bx 3).1
  go_wp2_with fail
  refine (znum_1 HP3.out.z e.half (fit_pos HQ.out.q3) HI.out.half.2 (by have := HP3.out.n; omega)).mono ?_
  rintro r w8 ⟨rfl, v4, h, g⟩
  have HP4 : Hid (Pz w3 p w8 v4 ([] ++ numL e.kind 1 ++ numL e.txn 1 ++ numL e.unit 2 ++ numL e.half 1) 5) := Lib.hid (HP3.out.step h g (by have := HP3.out.n; rw [List.length_append, numL_len]; omega))
  clear h g x HP3
  have x : w8.cell? ⟨w.heap.size, 4, none⟩ = some (.int .i64 e.prev) := (c_o (HP4.out.bz HZ3.out HLE.out).bx 4).1
  go_wp2_with fail
  refine (znum_3 HP4.out.z e.prev (fit_pos HQ.out.q4) HI.out.prev.2 (by have := HP4.out.n; omega)).mono ?_
  rintro r w9 ⟨rfl, v5, h, g⟩
  have HP5 : Hid (Pz w3 p w9 v5 ([] ++ numL e.kind 1 ++ numL e.txn 1 ++ numL e.unit 2 ++ numL e.half 1 ++ numL e.prev 3) 8) := Lib.hid (HP4.out.step h g (by have := HP4.out.n; rw [List.length_append, numL_len]; omega))
  clear h g x HP4
  have x : w9.cell? ⟨w.heap.size, 5, none⟩ = some (.int .i64 e.next) := (c_o (HP5.out.bz HZ3.out HLE.out).bx 5).1
  go_wp2_with fail
  refine (znum_3 HP5.out.z e.next (fit_pos HQ.out.q5) HI.out.next.2 (by have := HP5.out.n; omega)).mono ?_
  rintro r w10 ⟨rfl, v6, h, g⟩
  have HP6 : Hid (Pz w3 p w10 v6 ([] ++ numL e.kind 1 ++ numL e.txn 1 ++ numL e.unit 2 ++ numL e.half 1 ++ numL e.prev 3 ++ numL e.next 3) 11) := Lib.hid (HP5.out.step h g (by have := HP5.out.n; rw [List.length_append, numL_len]; omega))
  clear h g x HP5
  have x0 : w10.cell? ⟨w.heap.size, 6, none⟩ = some (.int .i64 e.ap) := (c_o (HP6.out.bz HZ3.out HLE.out).bx 6).1
  have x : w10.cell? ⟨w.heap.size, 7, none⟩ = some (.int .i64 e.ac) := (c_o (HP6.out.bz HZ3.out HLE.out).bx 7).1
  go_wp2_with fail
  refine (zrid_any HP6.out.z e.ap e.ac HI.out.ap HI.out.ac (fit_pos HQ.out.q6.1) (fit_pos HQ.out.q6.2) (by have := HP6.out.n; omega)).mono ?_
  rintro r w11 ⟨rfl, v7, h, g⟩
  have HP7 : Hid (Pz w3 p w11 v7 ([] ++ numL e.kind 1 ++ numL e.txn 1 ++ numL e.unit 2 ++ numL e.half 1 ++ numL e.prev 3 ++ numL e.next 3 ++ plL e.ap e.ac) 13) := Lib.hid (HP6.out.step h g (by have := HP6.out.n; rw [List.length_append, plL_len]; omega))
  clear h g x x0 HP6
  have x0 : w11.cell? ⟨w.heap.size, 8, none⟩ = some (.int .i64 e.tp) := (c_o (HP7.out.bz HZ3.out HLE.out).bx 8).1
  have x : w11.cell? ⟨w.heap.size, 9, none⟩ = some (.int .i64 e.tc) := (c_o (HP7.out.bz HZ3.out HLE.out).bx 9).1
  go_wp2_with fail
  refine (zrid_any HP7.out.z e.tp e.tc HI.out.tp HI.out.tc (fit_pos HQ.out.q7.1) (fit_pos HQ.out.q7.2) (by have := HP7.out.n; omega)).mono ?_
  rintro r w12 ⟨rfl, v8, h, g⟩
  have HP8 : Hid (Pz w3 p w12 v8 ([] ++ numL e.kind 1 ++ numL e.txn 1 ++ numL e.unit 2 ++ numL e.half 1 ++ numL e.prev 3 ++ numL e.next 3 ++ plL e.ap e.ac ++ plL e.tp e.tc) 15) := Lib.hid (HP7.out.step h g (by have := HP7.out.n; rw [List.length_append, plL_len]; omega))
  clear h g x x0 HP7
  have x : w12.cell? ⟨w.heap.size, 10, none⟩ = some (.slice A1 n1 c1) := (c_o (HP8.out.bz HZ3.out HLE.out).bx 10).1
  go_wp2_with fail
  refine (zcell_any HP8.out.z HP8.out.b HLE.out HZ3.out.s.old HQ.out.ho (by have := HP8.out.n; omega)).mono ?_
  rintro r w13 ⟨rfl, v9, h, g⟩
  have HP9 : Hid (Pz w3 p w13 v9 ([] ++ numL e.kind 1 ++ numL e.txn 1 ++ numL e.unit 2 ++ numL e.half 1 ++ numL e.prev 3 ++ numL e.next 3 ++ plL e.ap e.ac ++ plL e.tp e.tc ++ celL e.old) 42) := Lib.hid (HP8.out.step h g (by have := HP8.out.n; rw [List.length_append]; have := celL_le HQ.out.ho; omega))
  clear h g x HP8
  have x : w13.cell? ⟨w.heap.size, 11, none⟩ = some (.slice A2 n2 c2) := (c_o (HP9.out.bz HZ3.out HLE.out).bx 11).1
  go_wp2_with fail
  refine (zcell_any HP9.out.z HP9.out.b HLE.out HZ3.out.s.new HQ.out.hn (by have := HP9.out.n; omega)).mono ?_
  rintro r w14 ⟨rfl, v10, h, g⟩
  have HP10 : Hid (Pz w3 p w14 v10 ([] ++ numL e.kind 1 ++ numL e.txn 1 ++ numL e.unit 2 ++ numL e.half 1 ++ numL e.prev 3 ++ numL e.next 3 ++ plL e.ap e.ac ++ plL e.tp e.tc ++ celL e.old ++ celL e.new) 69) := Lib.hid (HP9.out.step h g (by have := HP9.out.n; rw [List.length_append]; have := celL_le HQ.out.hn; omega))
  clear h g x HP9
  have x : w14.cell? ⟨w.heap.size, 12, none⟩ = some (.slice A3 n3 c3) := (c_o (HP10.out.bz HZ3.out HLE.out).bx 12).1
  go_wp2_with fail
  refine (zmoves_any HP10.out.z HP10.out.b HLE.out HZ3.out.s.moves HI.out.moves HQ.out.hm (by have := HP10.out.n; omega)).mono ?_
  rintro r w15 ⟨rfl, v11, h, g⟩
  have HP11 : Hid (Pz w3 p w15 v11 ([] ++ numL e.kind 1 ++ numL e.txn 1 ++ numL e.unit 2 ++ numL e.half 1 ++ numL e.prev 3 ++ numL e.next 3 ++ plL e.ap e.ac ++ plL e.tp e.tc ++ celL e.old ++ celL e.new ++ lstL mvL e.moves) 230) := Lib.hid (HP10.out.step h g (by have := HP10.out.n; rw [List.length_append]; have := lst_le (f := mvL) (N := 4) HQ.out.hm (fun x _ => by rw [mvL_len]; exact Nat.le_refl _); omega))
  clear h g x HP10
  have i4 : (n4 : Int) ≤ 40 := by have := lst_40 HQ.out.hl; rw [HN4.out]; omega
  have i5 : (n5 : Int) ≤ 40 := by have := lst_40 HQ.out.hd; rw [HN5.out]; omega
  have i6 : (n6 : Int) ≤ 40 := by have := lst_40 HQ.out.hp; rw [HN6.out]; omega
  obtain ⟨M0, hM0⟩ : ∃ M, M = [] ++ numL e.kind 1 ++ numL e.txn 1 ++ numL e.unit 2 ++ numL e.half 1 ++ numL e.prev 3 ++ numL e.next 3 ++ plL e.ap e.ac ++ plL e.tp e.tc ++ celL e.old ++ celL e.new ++ lstL mvL e.moves := ⟨_, rfl⟩
  rw [← hM0] at HP11
  have HM0 := Lib.hid hM0
  clear hM0
  have x : w15.cell? ⟨w.heap.size, 13, none⟩ = some (.slice A4 n4 c4) := (c_o (HP11.out.bz HZ3.out HLE.out).bx 13).1
  go_wp2_with fail
  refine (znum_1 HP11.out.z n4 (by omega) (by omega) (by have := HP11.out.n; omega)).mono ?_
  rintro r w16 ⟨rfl, v12, h, g⟩
  have HP12 : Hid (Pz w3 p w16 v12 (M0 ++ numL n4 1) 231) := Lib.hid (HP11.out.step h g (by have := HP11.out.n; rw [List.length_append, numL_len]; omega))
  clear h g x HP11
  obtain ⟨M1, hM1⟩ : ∃ M, M = M0 ++ numL n4 1 := ⟨_, rfl⟩
  rw [← hM1] at HP12
  have HM1 := Lib.hid hM1
  clear hM1
  go_wp2
  go_loopw [4] (fun i wr => ∃ (k : Nat) (v : Value), k ≤ n4 ∧ i = .int .i64 k ∧ Pz w3 p wr v (M1 ++ (e.lives.take k).flatMap lvL) (231 + k * 8)) (fun i _ => n4 - (RowKit.intOf i).toNat)
  case atStart => exact ⟨0, _, Nat.zero_le _, rfl, by simpa using HP12.out⟩
  case round =>
   obtain ⟨k, v, hk, rfl, hpz⟩ := hrel
   have HW := Lib.hid hpz
   clear hpz
   have HX : Hid (∀ W, Below p w3 W → W.cell? ⟨w.heap.size, 13, none⟩ = some (.slice A4 n4 c4)) := fun W h => (c_o ((h.block _ (Nat.lt_of_lt_of_le (Array.getElem?_eq_some_iff.1 HZ3.out.bx).1 HLE.out)).trans HZ3.out.bx) 13).1
   have x0 := HX.out _ HW.out.b
   by_cases hlt' : k < n4
   ·have hlt : k < e.lives.length := by rw [← HN4.out]; exact hlt'
    have z1 : (0 : Int) ≤ (k : Int) := by omega
    have z2 : (k : Int) < (n4 : Int) := by omega
    obtain ⟨b, off, rfl, hbl, hc⟩ := HZ3.out.s.lives.one (i := k) (by simpa using hlt)
    have HC0 : Hid (∀ W, Below p w3 W → W.cell? ⟨b, off + k * 4, none⟩ = some (.int .i64 e.lives[k].1)) := fun W h => (World.cell?_of_block (h.block b (Nat.lt_of_lt_of_le hbl HLE.out))).trans (by simpa [lvV] using hc 0 (by omega))
    have HC1 : Hid (∀ W, Below p w3 W → W.cell? ⟨b, off + k * 4 + 1, none⟩ = some (.int .i64 e.lives[k].2.1)) := fun W h => (World.cell?_of_block (h.block b (Nat.lt_of_lt_of_le hbl HLE.out))).trans (by simpa [lvV] using hc 1 (by omega))
    have HC2 : Hid (∀ W, Below p w3 W → W.cell? ⟨b, off + k * 4 + 2, none⟩ = some (.int .i64 e.lives[k].2.2.1)) := fun W h => (World.cell?_of_block (h.block b (Nat.lt_of_lt_of_le hbl HLE.out))).trans (by simpa [lvV] using hc 2 (by omega))
    have HC3 : Hid (∀ W, Below p w3 W → W.cell? ⟨b, off + k * 4 + 3, none⟩ = some (.bool e.lives[k].2.2.2)) := fun W h => (World.cell?_of_block (h.block b (Nat.lt_of_lt_of_le hbl HLE.out))).trans (by simpa [lvV] using hc 3 (by omega))
    clear hc
    have hm : lvB e.lives[k] = true := by have := HQ.out.hl; simp only [lstB, Bool.and_eq_true, List.all_eq_true] at this; exact this.2 _ (List.getElem_mem _)
    simp only [lvB, Bool.and_eq_true] at hm
    have HM := Lib.hid hm
    have HMI := Lib.hid (HI.out.lives e.lives[k] (List.getElem_mem _))
    clear hm x0
    have ya := HC0.out _ HW.out.b
    have xa := HX.out _ HW.out.b
    go_wp2_with fail
    refine (znum_1 HW.out.z e.lives[k].1 (fit_pos HM.out.1.1) HMI.out.1.2 (by have := HW.out.n; omega)).mono ?_
    rintro r wa ⟨rfl, wav, h, g⟩
    have HA : Hid (Pz w3 p wa wav (M1 ++ (e.lives.take k).flatMap lvL ++ numL e.lives[k].1 1) (231 + k * 8 + 1)) := Lib.hid (HW.out.step h g (by have := HW.out.n; rw [List.length_append, numL_len]; omega))
    clear h g ya xa
    have yb := HC1.out _ HA.out.b
    have xb := HX.out _ HA.out.b
    go_wp2_with fail
    refine (znum_3 HA.out.z e.lives[k].2.1 (fit_pos HM.out.1.2) HMI.out.2.1.2 (by have := HA.out.n; omega)).mono ?_
    rintro r wb ⟨rfl, wbv, h, g⟩
    have HB : Hid (Pz w3 p wb wbv (M1 ++ (e.lives.take k).flatMap lvL ++ numL e.lives[k].1 1 ++ numL e.lives[k].2.1 3) (231 + k * 8 + 4)) := Lib.hid (HA.out.step h g (by have := HA.out.n; rw [List.length_append, numL_len]; omega))
    clear h g yb xb
    have yc := HC2.out _ HB.out.b
    have xc := HX.out _ HB.out.b
    go_wp2_with fail
    refine (znum_3 HB.out.z e.lives[k].2.2.1 (fit_pos HM.out.2) HMI.out.2.2.2 (by have := HB.out.n; omega)).mono ?_
    rintro r wc ⟨rfl, wcv, h, g⟩
    have HC : Hid (Pz w3 p wc wcv (M1 ++ (e.lives.take k).flatMap lvL ++ numL e.lives[k].1 1 ++ numL e.lives[k].2.1 3 ++ numL e.lives[k].2.2.1 3) (231 + k * 8 + 7)) := Lib.hid (HB.out.step h g (by have := HB.out.n; rw [List.length_append, numL_len]; omega))
    clear h g yc xc
    have yb := HC3.out _ HC.out.b
    have xb := HX.out _ HC.out.b
    have HEQ := Lib.hid (flat_snoc (f := lvL) e.lives k hlt)
    cases hb : e.lives[k].2.2.2
    all_goals
     rw [hb] at yb
     have HBB := Lib.hid hb
     clear hb
     go_wp2_with fail
     refine (znum_1 HC.out.z _ (by omega) (by omega) (by have := HC.out.n; omega)).mono ?_
     rintro r wd ⟨rfl, wdv, h, g⟩
     have hend := HC.out.step (n' := 231 + (k + 1) * 8) h g (by have := HC.out.n; rw [List.length_append, numL_len]; omega)
     have HEND : Hid (Pz w3 p wd wdv (M1 ++ (e.lives.take (k + 1)).flatMap lvL) (231 + (k + 1) * 8)) := by
      show Pz _ _ _ _ _ _
      rw [HEQ.out]
      unfold lvL
      rw [HBB.out]
      simp only [List.append_assoc] at hend ⊢
      exact hend
     clear h g hend yb xb
     go_wp2
     go_roundw
     all_goals first
      | exact ⟨k + 1, _, by omega, rfl, HEND.out⟩
      | (simp [RowKit.intOf]; omega)
   ·obtain rfl : n4 = k := by omega
    have hLf := HW.out
    rw [HN4.out, List.take_length, ← HN4.out] at hLf
    have HL4 : Hid (Pz w3 p wr v (M1 ++ e.lives.flatMap lvL) 551) := ⟨hLf.z, hLf.b, Nat.le_trans hLf.n (by omega)⟩
    clear hLf HW hlt' hk HX
    obtain ⟨M2, hM2⟩ : ∃ M, M = M1 ++ e.lives.flatMap lvL := ⟨_, rfl⟩
    rw [← hM2] at HL4
    have HM2 := Lib.hid hM2
    clear hM2
    have x : wr.cell? ⟨w.heap.size, 14, none⟩ = some (.slice A5 n5 c5) := (c_o (HL4.out.bz HZ3.out HLE.out).bx 14).1
    go_wp2_with fail
    refine (znum_1 HL4.out.z n5 (by omega) (by omega) (by have := HL4.out.n; omega)).mono ?_
    rintro r w17 ⟨rfl, v13, h, g⟩
    have HP13 : Hid (Pz w3 p w17 v13 (M2 ++ numL n5 1) 552) := Lib.hid (HL4.out.step h g (by have := HL4.out.n; rw [List.length_append, numL_len]; omega))
    clear h g x x0 HL4
    obtain ⟨M3, hM3⟩ : ∃ M, M = M2 ++ numL n5 1 := ⟨_, rfl⟩
    rw [← hM3] at HP13
    have HM3 := Lib.hid hM3
    clear hM3
    go_wp2
    go_loopw [5] (fun i wr => ∃ (k : Nat) (v : Value), k ≤ n5 ∧ i = .int .i64 k ∧ Pz w3 p wr v (M3 ++ (e.dirty.take k).flatMap dtL) (552 + k * 4)) (fun i _ => n5 - (RowKit.intOf i).toNat)
    case atStart => exact ⟨0, _, Nat.zero_le _, rfl, by simpa using HP13.out⟩
    case round =>
     obtain ⟨k, v, hk, rfl, hpz⟩ := hrel
     have HW := Lib.hid hpz
     clear hpz
     have HX : Hid (∀ W, Below p w3 W → W.cell? ⟨w.heap.size, 14, none⟩ = some (.slice A5 n5 c5)) := fun W h => (c_o ((h.block _ (Nat.lt_of_lt_of_le (Array.getElem?_eq_some_iff.1 HZ3.out.bx).1 HLE.out)).trans HZ3.out.bx) 14).1
     have x0 := HX.out _ HW.out.b
     by_cases hlt' : k < n5
     ·have hlt : k < e.dirty.length := by rw [← HN5.out]; exact hlt'
      have z1 : (0 : Int) ≤ (k : Int) := by omega
      have z2 : (k : Int) < (n5 : Int) := by omega
      obtain ⟨b, off, rfl, hbl, hc⟩ := HZ3.out.s.dirty.one (i := k) (by simpa using hlt)
      have HC0 : Hid (∀ W, Below p w3 W → W.cell? ⟨b, off + k * 2, none⟩ = some (.int .i64 e.dirty[k].1)) := fun W h => (World.cell?_of_block (h.block b (Nat.lt_of_lt_of_le hbl HLE.out))).trans (by simpa [dtV] using hc 0 (by omega))
      have HC1 : Hid (∀ W, Below p w3 W → W.cell? ⟨b, off + k * 2 + 1, none⟩ = some (.int .i64 e.dirty[k].2)) := fun W h => (World.cell?_of_block (h.block b (Nat.lt_of_lt_of_le hbl HLE.out))).trans (by simpa [dtV] using hc 1 (by omega))
      clear hc
      have hm : dtB e.dirty[k] = true := by have := HQ.out.hd; simp only [lstB, Bool.and_eq_true, List.all_eq_true] at this; exact this.2 _ (List.getElem_mem _)
      simp only [dtB, Bool.and_eq_true] at hm
      have HM := Lib.hid hm
      have HMI := Lib.hid (HI.out.dirty e.dirty[k] (List.getElem_mem _))
      clear hm x0
      have ya := HC0.out _ HW.out.b
      have xa := HX.out _ HW.out.b
      go_wp2_with fail
      refine (znum_1 HW.out.z e.dirty[k].1 (fit_pos HM.out.1) HMI.out.1.2 (by have := HW.out.n; omega)).mono ?_
      rintro r wa ⟨rfl, wav, h, g⟩
      have HA : Hid (Pz w3 p wa wav (M3 ++ (e.dirty.take k).flatMap dtL ++ numL e.dirty[k].1 1) (552 + k * 4 + 1)) := Lib.hid (HW.out.step h g (by have := HW.out.n; rw [List.length_append, numL_len]; omega))
      clear h g ya xa
      have yb := HC1.out _ HA.out.b
      have xb := HX.out _ HA.out.b
      go_wp2_with fail
      refine (znum_3 HA.out.z e.dirty[k].2 (fit_pos HM.out.2) HMI.out.2.2 (by have := HA.out.n; omega)).mono ?_
      rintro r wb ⟨rfl, wbv, h, g⟩
      have HB : Hid (Pz w3 p wb wbv (M3 ++ (e.dirty.take k).flatMap dtL ++ numL e.dirty[k].1 1 ++ numL e.dirty[k].2 3) (552 + k * 4 + 4)) := Lib.hid (HA.out.step h g (by have := HA.out.n; rw [List.length_append, numL_len]; omega))
      clear h g yb xb
      have HEQ := Lib.hid (flat_snoc (f := dtL) e.dirty k hlt)
      have hend := HB.out
      have HEND : Hid (Pz w3 p wb wbv (M3 ++ (e.dirty.take (k + 1)).flatMap dtL) (552 + (k + 1) * 4)) := by
       show Pz _ _ _ _ _ _
       rw [HEQ.out]
       unfold dtL
       simp only [List.append_assoc] at hend ⊢
       exact ⟨hend.z, hend.b, Nat.le_trans hend.n (by omega)⟩
      clear hend
      go_wp2
      go_roundw
      all_goals first
       | exact ⟨k + 1, _, by omega, rfl, HEND.out⟩
       | (simp [RowKit.intOf]; omega)
     ·obtain rfl : n5 = k := by omega
      have hLf := HW.out
      rw [HN5.out, List.take_length, ← HN5.out] at hLf
      have HL5 : Hid (Pz w3 p wr v (M3 ++ e.dirty.flatMap dtL) 712) := ⟨hLf.z, hLf.b, Nat.le_trans hLf.n (by omega)⟩
      clear hLf HW hlt' hk HX
      obtain ⟨M4, hM4⟩ : ∃ M, M = M3 ++ e.dirty.flatMap dtL := ⟨_, rfl⟩
      rw [← hM4] at HL5
      have HM4 := Lib.hid hM4
      clear hM4
      have x : wr.cell? ⟨w.heap.size, 15, none⟩ = some (.slice A6 n6 c6) := (c_o (HL5.out.bz HZ3.out HLE.out).bx 15).1
      go_wp2_with fail
      refine (znum_1 HL5.out.z n6 (by omega) (by omega) (by have := HL5.out.n; omega)).mono ?_
      rintro r w18 ⟨rfl, v14, h, g⟩
      have HP14 : Hid (Pz w3 p w18 v14 (M4 ++ numL n6 1) 713) := Lib.hid (HL5.out.step h g (by have := HL5.out.n; rw [List.length_append, numL_len]; omega))
      clear h g x x0 HL5
      obtain ⟨M5, hM5⟩ : ∃ M, M = M4 ++ numL n6 1 := ⟨_, rfl⟩
      rw [← hM5] at HP14
      have HM5 := Lib.hid hM5
      clear hM5
      go_wp2
      go_loopw [6] (fun i wr => ∃ (k : Nat) (v : Value), k ≤ n6 ∧ i = .int .i64 k ∧ Pz w3 p wr v (M5 ++ (e.opens.take k).flatMap opL) (713 + k * 164)) (fun i _ => n6 - (RowKit.intOf i).toNat)
      case atStart => exact ⟨0, _, Nat.zero_le _, rfl, by simpa using HP14.out⟩
      case round =>
       obtain ⟨k, v, hk, rfl, hpz⟩ := hrel
       have HW := Lib.hid hpz
       clear hpz
       have HX : Hid (∀ W, Below p w3 W → W.cell? ⟨w.heap.size, 15, none⟩ = some (.slice A6 n6 c6)) := fun W h => (c_o ((h.block _ (Nat.lt_of_lt_of_le (Array.getElem?_eq_some_iff.1 HZ3.out.bx).1 HLE.out)).trans HZ3.out.bx) 15).1
       have x0 := HX.out _ HW.out.b
       by_cases hlt' : k < n6
       ·have hlt : k < e.opens.length := by rw [← HN6.out]; exact hlt'
        have z1 : (0 : Int) ≤ (k : Int) := by omega
        have z2 : (k : Int) < (n6 : Int) := by omega
        obtain ⟨os, hos, hE, hIn⟩ := HZ3.out.s.opens
        have hlo : k < os.length := by rw [hos, List.length_map] at hlt; exact hlt
        obtain ⟨b, off, rfl, hbl, hc⟩ := hE.one (i := k) (by simpa using hlo)
        have hok : e.opens[k] = os[k].1 := by simp [hos]
        have HC0 : Hid (∀ W, Below p w3 W → W.cell? ⟨b, off + k * 3, none⟩ = some (.int .i64 e.opens[k].1)) := fun W h => (World.cell?_of_block (h.block b (Nat.lt_of_lt_of_le hbl HLE.out))).trans (by rw [hok]; simpa [opV] using hc 0 (by omega))
        have HC1 : Hid (∀ W, Below p w3 W → W.cell? ⟨b, off + k * 3 + 1, none⟩ = some os[k].2) := fun W h => (World.cell?_of_block (h.block b (Nat.lt_of_lt_of_le hbl HLE.out))).trans (by simpa [opV] using hc 1 (by omega))
        have HC2 : Hid (∀ W, Below p w3 W → W.cell? ⟨b, off + k * 3 + 2, none⟩ = some (.int .i64 e.opens[k].2.1)) := fun W h => (World.cell?_of_block (h.block b (Nat.lt_of_lt_of_le hbl HLE.out))).trans (by rw [hok]; simpa [opV] using hc 2 (by omega))
        have hms := hIn os[k] (List.getElem_mem _)
        rw [← hok] at hms
        have HMS := Lib.hid hms
        have hm : opB e.opens[k] = true := by have := HQ.out.hp; simp only [lstB, Bool.and_eq_true, List.all_eq_true] at this; exact this.2 _ (List.getElem_mem _)
        simp only [opB, Bool.and_eq_true] at hm
        have HM := Lib.hid hm
        have HMI := Lib.hid (HI.out.opens e.opens[k] (List.getElem_mem _))
        generalize os[k].2 = sv at *
        clear hm x0 hms hc hE hIn hok hlo hos
        have ya := HC0.out _ HW.out.b
        have xa := HX.out _ HW.out.b
        go_wp2_with fail
        refine (znum_2 HW.out.z e.opens[k].1 (fit_pos HM.out.1.1) HMI.out.1.2 (by have := HW.out.n; omega)).mono ?_
        rintro r wa ⟨rfl, wav, h, g⟩
        have HA : Hid (Pz w3 p wa wav (M5 ++ (e.opens.take k).flatMap opL ++ numL e.opens[k].1 2) (713 + k * 164 + 2)) := Lib.hid (HW.out.step h g (by have := HW.out.n; rw [List.length_append, numL_len]; omega))
        clear h g ya xa
        have yb := HC2.out _ HA.out.b
        have xb := HX.out _ HA.out.b
        go_wp2_with fail
        refine (znum_1 HA.out.z e.opens[k].2.1 (fit_pos HM.out.1.2) HMI.out.2.1.2 (by have := HA.out.n; omega)).mono ?_
        rintro r wb ⟨rfl, wbv, h, g⟩
        have HB : Hid (Pz w3 p wb wbv (M5 ++ (e.opens.take k).flatMap opL ++ numL e.opens[k].1 2 ++ numL e.opens[k].2.1 1) (713 + k * 164 + 3)) := Lib.hid (HA.out.step h g (by have := HA.out.n; rw [List.length_append, numL_len]; omega))
        clear h g yb xb
        have yb := HC1.out _ HB.out.b
        have xb := HX.out _ HB.out.b
        have HEQ := Lib.hid (flat_snoc (f := opL) e.opens k hlt)
        go_wp2_with fail
        refine (zmoves_any HB.out.z HB.out.b HLE.out HMS.out HMI.out.2.2 HM.out.2 (by have := HB.out.n; omega)).mono ?_
        rintro r wd ⟨rfl, wdv, h, g⟩
        have hend := HB.out.step (n' := 713 + (k + 1) * 164) h g (by have := HB.out.n; have := lst_le (f := mvL) (N := 4) HM.out.2 (fun x _ => by rw [mvL_len]; exact Nat.le_refl _); rw [List.length_append]; omega)
        have HEND : Hid (Pz w3 p wd wdv (M5 ++ (e.opens.take (k + 1)).flatMap opL) (713 + (k + 1) * 164)) := by
         show Pz _ _ _ _ _ _
         rw [HEQ.out]
         unfold opL
         simp only [List.append_assoc] at hend ⊢
         exact hend
        clear h g hend yb xb
        go_wp2
        go_roundw
        all_goals first
         | exact ⟨k + 1, _, by omega, rfl, HEND.out⟩
         | (simp [RowKit.intOf]; omega)
       ·obtain rfl : n6 = k := by omega
        have hLf := HW.out
        rw [HN6.out, List.take_length, ← HN6.out] at hLf
        have HL6 : Hid (Pz w3 p wr v (M5 ++ e.opens.flatMap opL) 7273) := ⟨hLf.z, hLf.b, Nat.le_trans hLf.n (by omega)⟩
        clear hLf HW hlt' hk HX
        have HEL : Hid (M5 ++ e.opens.flatMap opL = entL e) := by
         show _ = _
         have a3 := lst_40 HQ.out.hl
         have a4 := lst_40 HQ.out.hd
         have a5 := lst_40 HQ.out.hp
         rw [HM5.out, HM4.out, HM3.out, HM2.out, HM1.out, HM0.out, HN4.out, HN5.out, HN6.out]
         unfold entL
         rw [show lstL lvL e.lives = numL e.lives.length 1 ++ e.lives.flatMap lvL from if_pos a3, show lstL dtL e.dirty = numL e.dirty.length 1 ++ e.dirty.flatMap dtL from if_pos a4, show lstL opL e.opens = numL e.opens.length 1 ++ e.opens.flatMap opL from if_pos a5]
         simp only [List.nil_append, List.append_assoc]
        have hfin := HL6.out
        rw [HEL.out, ← HPL.out] at hfin
        obtain ⟨A, m, c, rfl⟩ := own_shape hfin.z.2
        have y := hfin.z.c0
        have HFIN := Lib.hid hfin
        clear hfin HL6
        go_wp2
        go_ret
        exact ⟨A, m, c, rfl, HFIN.out.z.2.mono (by have := HB3.out.size; have := HLE.out; omega), HB3.out.trans (HFIN.out.b.mono (Nat.le_trans HB3.out.size HLE.out))⟩
end Go.Proofs.YthmgafcnoedmjaaGreat
