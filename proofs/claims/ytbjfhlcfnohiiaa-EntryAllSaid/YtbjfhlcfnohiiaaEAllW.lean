/- EntryAll: its walk. -/
import Derived.Test.YtbjfhlcfnohiiaaEntTz
import Derived.Test.YtbjfhlcfnohiiaaEntPu
import Derived.Test.YtbjfhlcfnohiiaaEntRe
import Derived.Test.YtbjfhlcfnohiiaaEntBx
import Derived.Test.YtbjfhlcfnohiiaaEntLn
import Derived.Test.YtbjfhlcfnohiiaaLent2
import Derived.Test.YtbjfhlcfnohiiaaPtF
namespace Go.Proofs.Ytbjfhlcfnohiiaa.entryAll
open Go.ChangeShapes Go.WideShapes Go.ChangeAt Go.RowKit

def Fin (w : World) (e : Ending) (w' : World) : Prop := e = .returned (.bool true) ∧ Below w.heap.size w w'
theorem putL_ok {e : Ent} {w : World} {s1 s2 s3 s4 s5 s6 : Value} (h : EntS w s1 s2 s3 s4 s5 s6 e) : bytesOk (putL e) := by
  cases hB : entB e with
  | true => rw [putL_yes hB]; exact entL_okE h.old.ok h.new.ok
  | false => rw [putL_no hB]; exact fun x hx => by cases hx
theorem tk_len {l : List Int} (h : bytesOk l) : EntLen (tkE l) := by
  cases htk : tkB l with
  | true => rw [(tk_yes htk).1]; exact (entR_I h).2.1
  | false => rw [(tk_no htk).1]; exact ⟨by decide, by decide, by decide, by decide, fun o ho => by cases ho⟩

set_option maxRecDepth 100000 in
set_option maxHeartbeats 4000000 in
theorem walk (w : World) (e f : Ent) {s1 s2 s3 s4 s5 s6 t1 t2 t3 t4 t5 t6 : Value} (hs : EntS w s1 s2 s3 s4 s5 s6 e) (hi : EntI e) (hle : EntLen e) (ht : EntS w t1 t2 t3 t4 t5 t6 f) (hj : EntI f) (vb : Value) (l : List Int) (hb : SlK .u8 w vb l) :
    Calls Try.prog 3 #[.agg (entC e s1 s2 s3 s4 s5 s6), .agg (entC f t1 t2 t3 t4 t5 t6), vb] w (Fin w) := by
  obtain ⟨A1, c1, A2, c2, A3, c3, A4, c4, A5, c5, A6, c6, rfl, rfl, rfl, rfl, rfl, rfl⟩ := hs.form
  obtain ⟨n1, hn1⟩ : ∃ n, n = e.old.length := ⟨_, rfl⟩
  rw [← hn1] at hs ⊢
  obtain ⟨n2, hn2⟩ : ∃ n, n = e.new.length := ⟨_, rfl⟩
  rw [← hn2] at hs ⊢
  obtain ⟨n3, hn3⟩ : ∃ n, n = e.moves.length := ⟨_, rfl⟩
  rw [← hn3] at hs ⊢
  obtain ⟨n4, hn4⟩ : ∃ n, n = e.lives.length := ⟨_, rfl⟩
  rw [← hn4] at hs ⊢
  obtain ⟨n5, hn5⟩ : ∃ n, n = e.dirty.length := ⟨_, rfl⟩
  rw [← hn5] at hs ⊢
  obtain ⟨n6, hn6⟩ : ∃ n, n = e.opens.length := ⟨_, rfl⟩
  rw [← hn6] at hs ⊢
  clear hn1 hn2 hn3 hn4 hn5 hn6
  obtain ⟨T1, d1, T2, d2, T3, d3, T4, d4, T5, d5, T6, d6, rfl, rfl, rfl, rfl, rfl, rfl⟩ := ht.form
  obtain ⟨k1, hk1⟩ : ∃ n, n = f.old.length := ⟨_, rfl⟩
  rw [← hk1] at ht ⊢
  obtain ⟨k2, hk2⟩ : ∃ n, n = f.new.length := ⟨_, rfl⟩
  rw [← hk2] at ht ⊢
  obtain ⟨k3, hk3⟩ : ∃ n, n = f.moves.length := ⟨_, rfl⟩
  rw [← hk3] at ht ⊢
  obtain ⟨k4, hk4⟩ : ∃ n, n = f.lives.length := ⟨_, rfl⟩
  rw [← hk4] at ht ⊢
  obtain ⟨k5, hk5⟩ : ∃ n, n = f.dirty.length := ⟨_, rfl⟩
  rw [← hk5] at ht ⊢
  obtain ⟨k6, hk6⟩ : ∃ n, n = f.opens.length := ⟨_, rfl⟩
  rw [← hk6] at ht ⊢
  clear hk1 hk2 hk3 hk4 hk5 hk6
  have HI := Lib.hid hi
  have HJ := Lib.hid hj
  have HLE := Lib.hid hle
  obtain ⟨Ab, cb, rfl, -⟩ := hb.form
  obtain ⟨W, hW⟩ : ∃ W, W = (w.alloc (entO e (.slice A1 n1 c1) (.slice A2 n2 c2) (.slice A3 n3 c3) (.slice A4 n4 c4) (.slice A5 n5 c5) (.slice A6 n6 c6))).alloc (entO f (.slice T1 k1 d1) (.slice T2 k2 d2) (.slice T3 k3 d3) (.slice T4 k4 d4) (.slice T5 k5 d5) (.slice T6 k6 d6)) := ⟨_, rfl⟩
  have hB0 : Below w.heap.size w W := by rw [hW]; exact ((Below.refl _ _).alloc (Nat.le_refl _) _).alloc (by simp) _
  have hZ0 : Bz w.heap.size e (.slice A1 n1 c1) (.slice A2 n2 c2) (.slice A3 n3 c3) (.slice A4 n4 c4) (.slice A5 n5 c5) (.slice A6 n6 c6) W := ⟨by rw [hW]; exact (Below.heap_alloc _ _ _ (by simp)).trans (heap_alloc_new w _), hs.below hB0 (Nat.le_refl _)⟩
  have hF0 : Bz (w.heap.size + 1) f (.slice T1 k1 d1) (.slice T2 k2 d2) (.slice T3 k3 d3) (.slice T4 k4 d4) (.slice T5 k5 d5) (.slice T6 k6 d6) W := ⟨by rw [hW]; have h := heap_alloc_new (w.alloc (entO e (.slice A1 n1 c1) (.slice A2 n2 c2) (.slice A3 n3 c3) (.slice A4 n4 c4) (.slice A5 n5 c5) (.slice A6 n6 c6))) (entO f (.slice T1 k1 d1) (.slice T2 k2 d2) (.slice T3 k3 d3) (.slice T4 k4 d4) (.slice T5 k5 d5) (.slice T6 k6 d6)); rw [show (w.alloc (entO e (.slice A1 n1 c1) (.slice A2 n2 c2) (.slice A3 n3 c3) (.slice A4 n4 c4) (.slice A5 n5 c5) (.slice A6 n6 c6))).heap.size = w.heap.size + 1 by simp] at h; exact h, ht.below hB0 (Nat.le_refl _)⟩
  have HB0 := Lib.hid hB0
  have HZ0 := Lib.hid hZ0
  have HF0 := Lib.hid hF0
  have HSb := Lib.hid (hb.below hB0 (Nat.le_refl _))
  clear hs hi ht hj hb hB0 hZ0 hF0 hle
  show Calls _ _ #[.agg #[.int .i64 e.kind, .int .i64 e.txn, .int .i64 e.unit, .int .i64 e.half, .int .i64 e.prev, .int .i64 e.next, .int .i64 e.ap, .int .i64 e.ac, .int .i64 e.tp, .int .i64 e.tc, _, _, _, _, _, _], .agg #[.int .i64 f.kind, .int .i64 f.txn, .int .i64 f.unit, .int .i64 f.half, .int .i64 f.prev, .int .i64 f.next, .int .i64 f.ap, .int .i64 f.ac, .int .i64 f.tp, .int .i64 f.tc, _, _, _, _, _, _], _] _ _
  go_enter Try.func3, Try.ntmps3
  go_upto_region 1 with (fail)
  show Code.wp _ _ _ _ ((w.alloc (entO e (.slice A1 n1 c1) (.slice A2 n2 c2) (.slice A3 n3 c3) (.slice A4 n4 c4) (.slice A5 n5 c5) (.slice A6 n6 c6))).alloc (entO f (.slice T1 k1 d1) (.slice T2 k2 d2) (.slice T3 k3 d3) (.slice T4 k4 d4) (.slice T5 k5 d5) (.slice T6 k6 d6)))
  rw [← hW]
  clear hW
  go_wp2_with fail
  refine (begun_any W).mono ?_
  rintro r w2 ⟨rfl, hb2⟩
  have HB2 := Lib.hid (below_on HB0.out hb2)
  have HZ2 := Lib.hid (HZ0.out.on hb2)
  have HF2 := Lib.hid (HF0.out.on hb2)
  have HSb2 := Lib.hid (HSb.out.below hb2 (Nat.le_refl _))
  clear HB0 HZ0 HF0 HSb hb2
  have HZI := Lib.hid (infoEntC e (.slice A1 n1 c1) (.slice A2 n2 c2) (.slice A3 n3 c3) (.slice A4 n4 c4) (.slice A5 n5 c5) (.slice A6 n6 c6))
  have HZF := Lib.hid (infoEntC f (.slice T1 k1 d1) (.slice T2 k2 d2) (.slice T3 k3 d3) (.slice T4 k4 d4) (.slice T5 k5 d5) (.slice T6 k6 d6))
  have HL := Lib.hid (light_any w2 e HZ2.out.2)
  go_wp2_with (with_reducible refine wpList_load_row rfl 30 (.tmp 3) rfl w.heap.size rfl 30 _ (0, 0) _ HZ2.out.bx Try.underlying30 rfl HZI.out ?_)
  refine HL.out.mono ?_
  rintro r w3 ⟨b, rfl, hb3, -⟩
  have HB3 := Lib.hid (below_on HB2.out hb3)
  have HZ3 := Lib.hid (HZ2.out.on hb3)
  have HF3 := Lib.hid (HF2.out.on hb3)
  have HSb3 := Lib.hid (HSb2.out.below hb3 (Nat.le_refl _))
  clear HB2 HZ2 HF2 HSb2 hb3 HL
  cases b with
  | false =>
    have HF : Hid (Fin w (.returned (.bool true)) w3) := ⟨rfl, HB3.out⟩
    go_wp2
    go_ret
    exact HF.out
  | true =>
    have HL := Lib.hid (light_any w3 f HF3.out.2)
    go_wp2_with ((with_reducible refine wpList_load_rowG ?_ 30 (.tmp 4) rfl (w.heap.size + 1) rfl 30 _ (0, 0) _ HF3.out.bx Try.underlying30 rfl HZF.out ?_); · rfl)
    refine HL.out.mono ?_
    rintro r w4 ⟨b, rfl, hb4, -⟩
    have HB4 := Lib.hid (below_on HB3.out hb4)
    have HZ4 := Lib.hid (HZ3.out.on hb4)
    have HF4 := Lib.hid (HF3.out.on hb4)
    have HSb4 := Lib.hid (HSb3.out.below hb4 (Nat.le_refl _))
    clear HB3 HZ3 HF3 HSb3 hb4 HL
    have HF : Hid (Fin w (.returned (.bool true)) w4) := ⟨rfl, HB4.out⟩
    cases b with
    | false =>
      go_wp2
      go_ret
      exact HF.out
    | true =>
      by_cases hl : 200 < l.length
      · have hl2 : (200 : Int) < (l.length : Int) := by omega
        go_wp2
        go_ret
        exact HF.out
      · have hl2 : ¬ (200 : Int) < (l.length : Int) := by omega
        clear HF
        go_upto_region 5 with (fail)
        have HLn := Lib.hid (lent_any w4 _ l HSb4.out (by omega))
        have HL100 : Hid (l.length ≤ 100000) := (by omega : l.length ≤ 100000)
        clear hl hl2
        go_wp2_with fail
        refine HLn.out.mono ?_
        rintro r w5 ⟨g5, rfl, hg5, hblk, hb5⟩
        have HB5 := Lib.hid (below_on HB4.out hb5)
        have HZ5 := Lib.hid (HZ4.out.on hb5)
        have HF5 := Lib.hid (HF4.out.on hb5)
        have HSb5 := Lib.hid (HSb4.out.below hb5 (Nat.le_refl _))
        have HK5 := Lib.hid hblk
        have HOK := Lib.hid HSb5.out.ok
        have HSn5 := Lib.hid (show SlK .u8 w5 (.slice (some ⟨g5, 0, none⟩) l.length (l.length + 4)) l from by
          have := (HK5.out.pt (n := (l ++ [7, 7, 7, 7]).length) (c := l.length + 4) rfl (by simp)).first (k := l.length) (c' := l.length + 4) (by simp) (by omega)
          rw [List.take_left'] at this
          · exact this.slK HOK.out
          · rfl)
        clear HB4 HZ4 HF4 HSb4 hb5 hblk HLn
        have HT := Lib.hid (take_ok w5 HSn5.out)
        go_upto_region 6 with (fail)
        go_wp2_with fail
        refine HT.out.mono ?_
        rintro r w6 ⟨B1, m1, o1, B2, m2, o2, B3, m3, o3, B4, m4, o4, B5, m5, o5, B6, m6, o6, hr, hE, hb6⟩
        subst hr
        obtain ⟨x, hx⟩ : ∃ x, x = tkE l := ⟨_, rfl⟩
        obtain ⟨q, hq⟩ : ∃ q, q = tkN l := ⟨_, rfl⟩
        have HXE := Lib.hid hx
        have HQE := Lib.hid hq
        rw [← hx] at hE
        rw [← hx, ← hq]
        have HB6 := Lib.hid (below_on HB5.out hb6)
        have HZ6 := Lib.hid (HZ5.out.on hb6)
        have HF6 := Lib.hid (HF5.out.on hb6)
        have HSb6 := Lib.hid (HSb5.out.below hb6 (Nat.le_refl _))
        have HK6 := Lib.hid (HK5.out.old hb6 HK5.out.lt)
        have HE6 := Lib.hid hE.entS
        clear HB5 HZ5 HF5 HSb5 HK5 hE hb6 HT hx hq HSn5
        have HBoy := Lib.hid (heap_alloc_new w6 (.cells #[.int .i64 0, .int .i64 0, .int .i64 0, .int .i64 0, .int .i64 0, .int .i64 0, .int .i64 0, .int .i64 0, .int .i64 0, .int .i64 0, .slice none 0 0, .slice none 0 0, .slice none 0 0, .slice none 0 0, .slice none 0 0, .slice none 0 0] 30))
        have HZIy := Lib.hid (infoEntC x (.slice B1 m1 o1) (.slice B2 m2 o2) (.slice B3 m3 o3) (.slice B4 m4 o4) (.slice B5 m5 o5) (.slice B6 m6 o6))
        have HZAy := Lib.hid (entC_all x B1 B2 B3 B4 B5 B6 m1 o1 m2 o2 m3 o3 m4 o4 m5 o5 m6 o6)
        have HZNy := Lib.hid (show (#[.int .i64 0, .int .i64 0, .int .i64 0, .int .i64 0, .int .i64 0, .int .i64 0, .int .i64 0, .int .i64 0, .int .i64 0, .int .i64 0, .slice none 0 0, .slice none 0 0, .slice none 0 0, .slice none 0 0, .slice none 0 0, .slice none 0 0] : Array Value).size = (entC x (.slice B1 m1 o1) (.slice B2 m2 o2) (.slice B3 m3 o3) (.slice B4 m4 o4) (.slice B5 m5 o5) (.slice B6 m6 o6)).size from rfl)
        have HSAy := Lib.hid (setRow_alloc w6 #[.int .i64 0, .int .i64 0, .int .i64 0, .int .i64 0, .int .i64 0, .int .i64 0, .int .i64 0, .int .i64 0, .int .i64 0, .int .i64 0, .slice none 0 0, .slice none 0 0, .slice none 0 0, .slice none 0 0, .slice none 0 0, .slice none 0 0] (entC x (.slice B1 m1 o1) (.slice B2 m2 o2) (.slice B3 m3 o3) (.slice B4 m4 o4) (.slice B5 m5 o5) (.slice B6 m6 o6)) 30)
        go_upto_region 7 with (with_reducible refine wpList_store_row rfl 30 (.tmp 8) (.tmp 32) rfl w6.heap.size _ rfl rfl 30 _ HBoy.out HZIy.out HZNy.out HZAy.out ?_)
        rw [HSAy.out]
        obtain ⟨w7, HWy, hxy, hbxy⟩ : ∃ W, Hid (w6.alloc (.cells (entC x (.slice B1 m1 o1) (.slice B2 m2 o2) (.slice B3 m3 o3) (.slice B4 m4 o4) (.slice B5 m5 o5) (.slice B6 m6 o6)) 30) = W) ∧ W.heap[w6.heap.size]? = some (.cells (entC x (.slice B1 m1 o1) (.slice B2 m2 o2) (.slice B3 m3 o3) (.slice B4 m4 o4) (.slice B5 m5 o5) (.slice B6 m6 o6)) 30 (0, 0)) ∧ Below w6.heap.size w6 W := ⟨_, Lib.hid rfl, heap_alloc_new w6 _, (Below.refl _ _).alloc (Nat.le_refl _) _⟩
        rw [HWy.out]
        clear HBoy HZAy HZNy HSAy HWy
        have HB7 := Lib.hid (below_on HB6.out hbxy)
        have HZ7 := Lib.hid (HZ6.out.on hbxy)
        have HF7 := Lib.hid (HF6.out.on hbxy)
        have HSb7 := Lib.hid (HSb6.out.below hbxy (Nat.le_refl _))
        have HK7 := Lib.hid (HK6.out.old hbxy HK6.out.lt)
        have HX7 : Hid (Bz w6.heap.size x (.slice B1 m1 o1) (.slice B2 m2 o2) (.slice B3 m3 o3) (.slice B4 m4 o4) (.slice B5 m5 o5) (.slice B6 m6 o6) w7) := ⟨hxy, HE6.out.below hbxy (Nat.le_refl _)⟩
        clear HB6 HZ6 HF6 HSb6 HK6 HE6 hxy hbxy
        generalize w6.heap.size = gx at *
        have HT2 := Lib.hid (rtake_any w7 HSb7.out)
        go_wp2_with fail
        refine HT2.out.mono ?_
        rintro r w8 ⟨C1, l1, f1, C2, l2, f2, C3, l3, f3, C4, l4, f4, C5, l5, f5, C6, l6, f6, hr, hE, hb8⟩
        subst hr
        rw [← HXE.out] at hE
        rw [← HXE.out, ← HQE.out]
        have HB8 := Lib.hid (below_on HB7.out hb8)
        have HZ8 := Lib.hid (HZ7.out.on hb8)
        have HF8 := Lib.hid (HF7.out.on hb8)
        have HX8 := Lib.hid (HX7.out.on hb8)
        have HSb8 := Lib.hid (HSb7.out.below hb8 (Nat.le_refl _))
        have HK8 := Lib.hid (HK7.out.old hb8 HK7.out.lt)
        have HE8 := Lib.hid hE.entS
        clear HB7 HZ7 HF7 HX7 HSb7 HK7 hE hb8 HT2
        have HBoz := Lib.hid (heap_alloc_new w8 (.cells #[.int .i64 0, .int .i64 0, .int .i64 0, .int .i64 0, .int .i64 0, .int .i64 0, .int .i64 0, .int .i64 0, .int .i64 0, .int .i64 0, .slice none 0 0, .slice none 0 0, .slice none 0 0, .slice none 0 0, .slice none 0 0, .slice none 0 0] 30))
        have HZIz := Lib.hid (infoEntC x (.slice C1 l1 f1) (.slice C2 l2 f2) (.slice C3 l3 f3) (.slice C4 l4 f4) (.slice C5 l5 f5) (.slice C6 l6 f6))
        have HZAz := Lib.hid (entC_all x C1 C2 C3 C4 C5 C6 l1 f1 l2 f2 l3 f3 l4 f4 l5 f5 l6 f6)
        have HZNz := Lib.hid (show (#[.int .i64 0, .int .i64 0, .int .i64 0, .int .i64 0, .int .i64 0, .int .i64 0, .int .i64 0, .int .i64 0, .int .i64 0, .int .i64 0, .slice none 0 0, .slice none 0 0, .slice none 0 0, .slice none 0 0, .slice none 0 0, .slice none 0 0] : Array Value).size = (entC x (.slice C1 l1 f1) (.slice C2 l2 f2) (.slice C3 l3 f3) (.slice C4 l4 f4) (.slice C5 l5 f5) (.slice C6 l6 f6)).size from rfl)
        have HSAz := Lib.hid (setRow_alloc w8 #[.int .i64 0, .int .i64 0, .int .i64 0, .int .i64 0, .int .i64 0, .int .i64 0, .int .i64 0, .int .i64 0, .int .i64 0, .int .i64 0, .slice none 0 0, .slice none 0 0, .slice none 0 0, .slice none 0 0, .slice none 0 0, .slice none 0 0] (entC x (.slice C1 l1 f1) (.slice C2 l2 f2) (.slice C3 l3 f3) (.slice C4 l4 f4) (.slice C5 l5 f5) (.slice C6 l6 f6)) 30)
        go_upto_region 8 with (with_reducible refine wpList_store_row rfl 30 (.tmp 10) (.tmp 37) rfl w8.heap.size _ rfl rfl 30 _ HBoz.out HZIz.out HZNz.out HZAz.out ?_)
        rw [HSAz.out]
        obtain ⟨w9, HWz, hxz, hbxz⟩ : ∃ W, Hid (w8.alloc (.cells (entC x (.slice C1 l1 f1) (.slice C2 l2 f2) (.slice C3 l3 f3) (.slice C4 l4 f4) (.slice C5 l5 f5) (.slice C6 l6 f6)) 30) = W) ∧ W.heap[w8.heap.size]? = some (.cells (entC x (.slice C1 l1 f1) (.slice C2 l2 f2) (.slice C3 l3 f3) (.slice C4 l4 f4) (.slice C5 l5 f5) (.slice C6 l6 f6)) 30 (0, 0)) ∧ Below w8.heap.size w8 W := ⟨_, Lib.hid rfl, heap_alloc_new w8 _, (Below.refl _ _).alloc (Nat.le_refl _) _⟩
        rw [HWz.out]
        clear HBoz HZAz HZNz HSAz HWz
        have HB9 := Lib.hid (below_on HB8.out hbxz)
        have HZ9 := Lib.hid (HZ8.out.on hbxz)
        have HF9 := Lib.hid (HF8.out.on hbxz)
        have HX9 := Lib.hid (HX8.out.on hbxz)
        have HSb9 := Lib.hid (HSb8.out.below hbxz (Nat.le_refl _))
        have HK9 := Lib.hid (HK8.out.old hbxz HK8.out.lt)
        have HY9 : Hid (Bz w8.heap.size x (.slice C1 l1 f1) (.slice C2 l2 f2) (.slice C3 l3 f3) (.slice C4 l4 f4) (.slice C5 l5 f5) (.slice C6 l6 f6) w9) := ⟨hxz, HE8.out.below hbxz (Nat.le_refl _)⟩
        clear HB8 HZ8 HF8 HX8 HSb8 HK8 HE8 hxz hbxz
        generalize w8.heap.size = gy at *
        have HZX := HZIy
        have HZY := HZIz
        clear HZIy HZIz
        have HXL : Hid (EntLen x) := Lib.hid (by rw [HXE.out]; exact tk_len HOK.out)
        have HPO := Lib.hid (putL_ok HZ9.out.s)
        have HS0 : Hid (∀ W, Below w9.heap.size w9 W → Below w9.heap.size w9 W ∧ W.heap[w.heap.size]? = some (.cells (entC e (.slice A1 n1 c1) (.slice A2 n2 c2) (.slice A3 n3 c3) (.slice A4 n4 c4) (.slice A5 n5 c5) (.slice A6 n6 c6)) 30 (0, 0)) ∧ W.heap[w.heap.size + 1]? = some (.cells (entC f (.slice T1 k1 d1) (.slice T2 k2 d2) (.slice T3 k3 d3) (.slice T4 k4 d4) (.slice T5 k5 d5) (.slice T6 k6 d6)) 30 (0, 0)) ∧ W.heap[gx]? = some (.cells (entC x (.slice B1 m1 o1) (.slice B2 m2 o2) (.slice B3 m3 o3) (.slice B4 m4 o4) (.slice B5 m5 o5) (.slice B6 m6 o6)) 30 (0, 0)) ∧ W.heap[gy]? = some (.cells (entC x (.slice C1 l1 f1) (.slice C2 l2 f2) (.slice C3 l3 f3) (.slice C4 l4 f4) (.slice C5 l5 f5) (.slice C6 l6 f6)) 30 (0, 0))) := fun W h => ⟨h, (HZ9.out.on h).bx, (HF9.out.on h).bx, (HX9.out.on h).bx, (HY9.out.on h).bx⟩
        obtain ⟨b0, hb0⟩ : ∃ b, b = entB e := ⟨_, rfl⟩
        have HMY : Hid (∀ W, Below w9.heap.size w9 W → Calls Try.prog 14 #[.agg (entC e (.slice A1 n1 c1) (.slice A2 n2 c2) (.slice A3 n3 c3) (.slice A4 n4 c4) (.slice A5 n5 c5) (.slice A6 n6 c6))] W fun r w' => r = .returned (.bool b0) ∧ Below W.heap.size W w') := fun W h => by
          rw [hb0]
          exact may_any W e (HZ9.out.on h).s HI.out
        have HMR : Hid (∀ W, Below w9.heap.size w9 W → Calls Try.prog 15 #[.agg (entC e (.slice A1 n1 c1) (.slice A2 n2 c2) (.slice A3 n3 c3) (.slice A4 n4 c4) (.slice A5 n5 c5) (.slice A6 n6 c6))] W fun r w' => r = .returned (.bool b0) ∧ Below W.heap.size W w') := fun W h => by
          rw [hb0]
          exact rmay_any W e (HZ9.out.on h).s HI.out
        have HP1 : Hid (∀ W, Below w9.heap.size w9 W → Calls Try.prog 16 #[.agg (entC e (.slice A1 n1 c1) (.slice A2 n2 c2) (.slice A3 n3 c3) (.slice A4 n4 c4) (.slice A5 n5 c5) (.slice A6 n6 c6))] W fun r w' => ∃ A m c, r = .returned (.slice A m c) ∧ SlK .u8 w' (.slice A m c) (putL e) ∧ Below W.heap.size W w') := fun W h => (put_any W e (HZ9.out.on h).s HI.out).mono fun r w' ⟨A, m, c, h1, h2, h3⟩ => ⟨A, m, c, h1, own_slK h2 HPO.out, h3⟩
        have HP2 : Hid (∀ W, Below w9.heap.size w9 W → Calls Try.prog 17 #[.agg (entC e (.slice A1 n1 c1) (.slice A2 n2 c2) (.slice A3 n3 c3) (.slice A4 n4 c4) (.slice A5 n5 c5) (.slice A6 n6 c6))] W fun r w' => ∃ A m c, r = .returned (.slice A m c) ∧ SlK .u8 w' (.slice A m c) (putL e) ∧ Below W.heap.size W w') := fun W h => (rput_any W e (HZ9.out.on h).s HI.out).mono fun r w' ⟨A, m, c, h1, h2, h3⟩ => ⟨A, m, c, h1, own_slK h2 HPO.out, h3⟩
        have HS1 : Hid (∀ W, Below w9.heap.size w9 W → Calls Try.prog 18 #[.agg (entC x (.slice B1 m1 o1) (.slice B2 m2 o2) (.slice B3 m3 o3) (.slice B4 m4 o4) (.slice B5 m5 o5) (.slice B6 m6 o6)), .agg (entC x (.slice C1 l1 f1) (.slice C2 l2 f2) (.slice C3 l3 f3) (.slice C4 l4 f4) (.slice C5 l5 f5) (.slice C6 l6 f6))] W fun r w' => r = .returned (.bool true) ∧ Below W.heap.size W w') := fun W h => by
          have := rsame_any W x x (HX9.out.on h).s (HY9.out.on h).s HXL.out
          rw [(sameE_iff x x).2 rfl] at this
          exact this
        obtain ⟨b1, hb1⟩ : ∃ b, b = sameE e f := ⟨_, rfl⟩
        have HS2 : Hid (∀ W, Below w9.heap.size w9 W → Calls Try.prog 19 #[.agg (entC e (.slice A1 n1 c1) (.slice A2 n2 c2) (.slice A3 n3 c3) (.slice A4 n4 c4) (.slice A5 n5 c5) (.slice A6 n6 c6)), .agg (entC f (.slice T1 k1 d1) (.slice T2 k2 d2) (.slice T3 k3 d3) (.slice T4 k4 d4) (.slice T5 k5 d5) (.slice T6 k6 d6))] W fun r w' => r = .returned (.bool b1) ∧ Below W.heap.size W w') := fun W h => by
          rw [hb1]
          exact same_any W e f (HZ9.out.on h).s (HF9.out.on h).s HLE.out
        have HS3 : Hid (∀ W, Below w9.heap.size w9 W → Calls Try.prog 18 #[.agg (entC e (.slice A1 n1 c1) (.slice A2 n2 c2) (.slice A3 n3 c3) (.slice A4 n4 c4) (.slice A5 n5 c5) (.slice A6 n6 c6)), .agg (entC f (.slice T1 k1 d1) (.slice T2 k2 d2) (.slice T3 k3 d3) (.slice T4 k4 d4) (.slice T5 k5 d5) (.slice T6 k6 d6))] W fun r w' => r = .returned (.bool b1) ∧ Below W.heap.size W w') := fun W h => by
          rw [hb1]
          exact rsame_any W e f (HZ9.out.on h).s (HF9.out.on h).s HLE.out
        have HBK : Hid (∀ W, Below w9.heap.size w9 W → Calls Try.prog 20 #[.slice (some ⟨g5, 0, none⟩) l.length (l.length + 4), .slice Ab l.length cb] W fun r w' => r = .returned (.bool true) ∧ w' = W) := fun W h => back_true W g5 _ l (HK9.out.old h HK9.out.lt) (HSb9.out.below h (Nat.le_refl _)) HL100.out
        clear hb0 hb1 HPO HXL HXE HQE HZ9 HF9 HX9 HY9 HSb9 HK9 HOK HI HJ HLE hg5
        generalize putL e = Le at *
        have D0 := (Below.refl w9.heap.size w9).drew
        go_upto_region 8 with (fail)
        refine wp_region_held_drew (S := (fun W : World => Below w9.heap.size w9 W ∧ W.heap[w.heap.size]? = some (.cells (entC e (.slice A1 n1 c1) (.slice A2 n2 c2) (.slice A3 n3 c3) (.slice A4 n4 c4) (.slice A5 n5 c5) (.slice A6 n6 c6)) 30 (0, 0)) ∧ W.heap[w.heap.size + 1]? = some (.cells (entC f (.slice T1 k1 d1) (.slice T2 k2 d2) (.slice T3 k3 d3) (.slice T4 k4 d4) (.slice T5 k5 d5) (.slice T6 k6 d6)) 30 (0, 0)) ∧ W.heap[gx]? = some (.cells (entC x (.slice B1 m1 o1) (.slice B2 m2 o2) (.slice B3 m3 o3) (.slice B4 m4 o4) (.slice B5 m5 o5) (.slice B6 m6 o6)) 30 (0, 0)) ∧ W.heap[gy]? = some (.cells (entC x (.slice C1 l1 f1) (.slice C2 l2 f2) (.slice C3 l3 f3) (.slice C4 l4 f4) (.slice C5 l5 f5) (.slice C6 l6 f6)) 30 (0, 0)))) (by kernel_rfl) (HS0.out _ D0) (fun hHeld => ?_)
        refine wpAnyH_take (i := 0) (oi := ⟨_, _, _, _, _, _⟩) (v := .agg (entC e (.slice A1 n1 c1) (.slice A2 n2 c2) (.slice A3 n3 c3) (.slice A4 n4 c4) (.slice A5 n5 c5) (.slice A6 n6 c6))) rfl (by kernel_rfl) (by kernel_rfl) (by kernel_rfl) (fun _ _ _ h => h) (Or.inl ⟨by rfl, fun W hSW => ?_⟩) (by assumption) ?_
        · exact held_row 30 (.tmp 3) (by rfl) w.heap.size (by rfl) 30 _ (0, 0) _ hSW.2.1 Try.underlying30 rfl HZI.out
        try simp only [Act.put, List.setIfInBounds_toArray, List.set_cons_zero, List.set_cons_succ]
        refine wpAnyH_take (i := 2) (oi := ⟨_, _, _, _, _, _⟩) (v := .agg (entC e (.slice A1 n1 c1) (.slice A2 n2 c2) (.slice A3 n3 c3) (.slice A4 n4 c4) (.slice A5 n5 c5) (.slice A6 n6 c6))) rfl (by kernel_rfl) (by kernel_rfl) (by kernel_rfl) (fun _ _ _ h => h) (Or.inl ⟨by rfl, fun W hSW => ?_⟩) (by assumption) ?_
        · exact held_row 30 (.tmp 3) (by rfl) w.heap.size (by rfl) 30 _ (0, 0) _ hSW.2.1 Try.underlying30 rfl HZI.out
        try simp only [Act.put, List.setIfInBounds_toArray, List.set_cons_zero, List.set_cons_succ]
        refine wpAnyH_ready (rs := [1]) (by kernel_rfl) (by simp) ?_
        refine AllReadyH.cons (o := ⟨_, _, _, _, _, _⟩) rfl (fun K hK => ?_) AllReadyH.nil
        rw [if_pos (by rfl)]
        go_simp
        go_at_call 14
        refine (HMY.out _ D0).mono ?_
        rintro r w10 ⟨rfl, hb0⟩
        have D1 := D0.trans (hb0.mono D0.size)
        go_wp2_with fail
        refine hK.out _ _ (HS0.out _ D1) (fun hHeld => ?_)
        clear hK K
        try simp only [Act.put, List.setIfInBounds_toArray, List.set_cons_zero, List.set_cons_succ]
        refine wpAnyH_ready (rs := [3]) (by kernel_rfl) (by simp) ?_
        refine AllReadyH.cons (o := ⟨_, _, _, _, _, _⟩) rfl (fun K hK => ?_) AllReadyH.nil
        rw [if_pos (by rfl)]
        go_simp
        go_at_call 15
        refine (HMR.out _ D1).mono ?_
        rintro r w11 ⟨rfl, hb0⟩
        have D2 := D1.trans (hb0.mono D1.size)
        go_wp2_with fail
        refine hK.out _ _ (HS0.out _ D2) (fun hHeld => ?_)
        clear hK K
        try simp only [Act.put, List.setIfInBounds_toArray, List.set_cons_zero, List.set_cons_succ]
        refine wpAnyH_take (i := 4) (oi := ⟨_, _, _, _, _, _⟩) (v := ?_) rfl (by kernel_rfl) (by kernel_rfl) (by kernel_rfl) (fun _ _ _ h => h) (Or.inl ⟨by rfl, ?_⟩) (by assumption) ?_
        rotate_left
        · intro W hSW
          try dsimp only at hSW
          go_simp
          try with_reducible rfl
        rotate_left
        try simp only [Act.put, List.setIfInBounds_toArray, List.set_cons_zero, List.set_cons_succ]
        refine wpAnyH_take (i := 5) (oi := ⟨_, _, _, _, _, _⟩) (v := ?_) rfl (by kernel_rfl) (by kernel_rfl) (by kernel_rfl) (fun _ _ _ h => h) (Or.inl ⟨by rfl, ?_⟩) (by assumption) ?_
        rotate_left
        · intro W hSW
          try dsimp only at hSW
          go_simp
          try with_reducible rfl
        rotate_left
        try simp only [Act.put, List.setIfInBounds_toArray, List.set_cons_zero, List.set_cons_succ]
        refine wpAnyH_take (i := 6) (oi := ⟨_, _, _, _, _, _⟩) (v := .agg (entC e (.slice A1 n1 c1) (.slice A2 n2 c2) (.slice A3 n3 c3) (.slice A4 n4 c4) (.slice A5 n5 c5) (.slice A6 n6 c6))) rfl (by kernel_rfl) (by kernel_rfl) (by kernel_rfl) (fun _ _ _ h => h) (Or.inl ⟨by rfl, fun W hSW => ?_⟩) (by assumption) ?_
        · exact held_row 30 (.tmp 3) (by rfl) w.heap.size (by rfl) 30 _ (0, 0) _ hSW.2.1 Try.underlying30 rfl HZI.out
        try simp only [Act.put, List.setIfInBounds_toArray, List.set_cons_zero, List.set_cons_succ]
        refine wpAnyH_take (i := 9) (oi := ⟨_, _, _, _, _, _⟩) (v := .agg (entC e (.slice A1 n1 c1) (.slice A2 n2 c2) (.slice A3 n3 c3) (.slice A4 n4 c4) (.slice A5 n5 c5) (.slice A6 n6 c6))) rfl (by kernel_rfl) (by kernel_rfl) (by kernel_rfl) (fun _ _ _ h => h) (Or.inl ⟨by rfl, fun W hSW => ?_⟩) (by assumption) ?_
        · exact held_row 30 (.tmp 3) (by rfl) w.heap.size (by rfl) 30 _ (0, 0) _ hSW.2.1 Try.underlying30 rfl HZI.out
        try simp only [Act.put, List.setIfInBounds_toArray, List.set_cons_zero, List.set_cons_succ]
        refine wpAnyH_ready (rs := [7]) (by kernel_rfl) (by simp) ?_
        refine AllReadyH.cons (o := ⟨_, _, _, _, _, _⟩) rfl (fun K hK => ?_) AllReadyH.nil
        rw [if_pos (by rfl)]
        go_simp
        go_at_call 16
        refine (HP1.out _ D2).mono ?_
        rintro r w12 ⟨Ap, mp, cp, rfl, hsl, hb0⟩
        have D3 := D2.trans (hb0.mono D2.size)
        go_wp2_with fail
        refine hK.out _ _ (HS0.out _ D3) (fun hHeld => ?_)
        clear hK K
        try simp only [Act.put, List.setIfInBounds_toArray, List.set_cons_zero, List.set_cons_succ]
        have HSL := Lib.hid hsl
        have hMore : (Below w9.heap.size w9 w12 ∧ w12.heap[w.heap.size]? = some (.cells (entC e (.slice A1 n1 c1) (.slice A2 n2 c2) (.slice A3 n3 c3) (.slice A4 n4 c4) (.slice A5 n5 c5) (.slice A6 n6 c6)) 30 (0, 0)) ∧ w12.heap[w.heap.size + 1]? = some (.cells (entC f (.slice T1 k1 d1) (.slice T2 k2 d2) (.slice T3 k3 d3) (.slice T4 k4 d4) (.slice T5 k5 d5) (.slice T6 k6 d6)) 30 (0, 0)) ∧ w12.heap[gx]? = some (.cells (entC x (.slice B1 m1 o1) (.slice B2 m2 o2) (.slice B3 m3 o3) (.slice B4 m4 o4) (.slice B5 m5 o5) (.slice B6 m6 o6)) 30 (0, 0)) ∧ w12.heap[gy]? = some (.cells (entC x (.slice C1 l1 f1) (.slice C2 l2 f2) (.slice C3 l3 f3) (.slice C4 l4 f4) (.slice C5 l5 f5) (.slice C6 l6 f6)) 30 (0, 0))) ∧ Below w12.heap.size w12 w12 ∧ (convert 24 9 (.slice Ap mp cp)).run Try.prog w12 = .ok (.string (bstr Le)) w12 := ⟨HS0.out _ D3, Below.refl _ _, conv_slK hsl⟩
        refine wpAnyH_more (S' := fun W : World => (Below w9.heap.size w9 W ∧ W.heap[w.heap.size]? = some (.cells (entC e (.slice A1 n1 c1) (.slice A2 n2 c2) (.slice A3 n3 c3) (.slice A4 n4 c4) (.slice A5 n5 c5) (.slice A6 n6 c6)) 30 (0, 0)) ∧ W.heap[w.heap.size + 1]? = some (.cells (entC f (.slice T1 k1 d1) (.slice T2 k2 d2) (.slice T3 k3 d3) (.slice T4 k4 d4) (.slice T5 k5 d5) (.slice T6 k6 d6)) 30 (0, 0)) ∧ W.heap[gx]? = some (.cells (entC x (.slice B1 m1 o1) (.slice B2 m2 o2) (.slice B3 m3 o3) (.slice B4 m4 o4) (.slice B5 m5 o5) (.slice B6 m6 o6)) 30 (0, 0)) ∧ W.heap[gy]? = some (.cells (entC x (.slice C1 l1 f1) (.slice C2 l2 f2) (.slice C3 l3 f3) (.slice C4 l4 f4) (.slice C5 l5 f5) (.slice C6 l6 f6)) 30 (0, 0))) ∧ Below w12.heap.size w12 W ∧ (convert 24 9 (.slice Ap mp cp)).run Try.prog W = .ok (.string (bstr Le)) W) (fun W h => h.1) _ _ _ _ ?_
        clear hsl
        refine wpAnyH_take (i := 8) (oi := ⟨_, _, _, _, _, _⟩) (v := ?_) rfl (by kernel_rfl) (by kernel_rfl) (by kernel_rfl) (fun _ _ _ h => h) (Or.inl ⟨by rfl, ?_⟩) (by assumption) ?_
        rotate_left
        · intro W hSW
          try dsimp only at hSW
          go_simp
          try with_reducible rfl
        rotate_left
        try simp only [Act.put, List.setIfInBounds_toArray, List.set_cons_zero, List.set_cons_succ]
        refine wpAnyH_ready (rs := [10]) (by kernel_rfl) (by simp) ?_
        refine AllReadyH.cons (o := ⟨_, _, _, _, _, _⟩) rfl (fun K hK => ?_) AllReadyH.nil
        rw [if_pos (by rfl)]
        go_simp
        go_at_call 17
        refine (HP2.out _ D3).mono ?_
        rintro r w13 ⟨Aq, mq, cq, rfl, hsl2, hb0⟩
        have D4 := D3.trans (hb0.mono D3.size)
        go_wp2_with fail
        refine hK.out _ _ ⟨HS0.out _ D4, hb0, conv_slK (HSL.out.below hb0 (Nat.le_refl _))⟩ (fun hHeld => ?_)
        clear hK K
        try simp only [Act.put, List.setIfInBounds_toArray, List.set_cons_zero, List.set_cons_succ]
        have B13 := hb0
        have v11 := conv_slK hsl2
        refine wpAnyH_ready (rs := [11]) (by kernel_rfl) (by simp) ?_
        refine AllReadyH.cons (o := ⟨_, _, _, _, _, _⟩) rfl (fun K hK => ?_) AllReadyH.nil
        rw [if_pos (by rfl)]
        go_simp
        refine hK.out _ _ hHeld (fun hHeld => ?_)
        clear hK K
        try simp only [Act.put, List.setIfInBounds_toArray, List.set_cons_zero, List.set_cons_succ]
        clear v11
        refine wpAnyH_take (i := 12) (oi := ⟨_, _, _, _, _, _⟩) (v := ?_) rfl (by kernel_rfl) (by kernel_rfl) (by kernel_rfl) (fun _ _ _ h => h) (Or.inl ⟨by rfl, ?_⟩) (by assumption) ?_
        rotate_left
        · intro W hSW
          try dsimp only at hSW
          go_simp
          try with_reducible rfl
        rotate_left
        try simp only [Act.put, List.setIfInBounds_toArray, List.set_cons_zero, List.set_cons_succ]
        refine wpAnyH_take (i := 13) (oi := ⟨_, _, _, _, _, _⟩) (v := ?_) rfl (by kernel_rfl) (by kernel_rfl) (by kernel_rfl) (fun _ _ _ h => h) (Or.inl ⟨by rfl, ?_⟩) (by assumption) ?_
        rotate_left
        · intro W hSW
          try dsimp only at hSW
          go_simp
          try with_reducible rfl
        rotate_left
        try simp only [Act.put, List.setIfInBounds_toArray, List.set_cons_zero, List.set_cons_succ]
        refine wpAnyH_take (i := 14) (oi := ⟨_, _, _, _, _, _⟩) (v := ?_) rfl (by kernel_rfl) (by kernel_rfl) (by kernel_rfl) (fun _ _ _ h => h) (Or.inl ⟨by rfl, ?_⟩) (by assumption) ?_
        rotate_left
        · intro W hSW
          try dsimp only at hSW
          go_simp
          try with_reducible rfl
        rotate_left
        try simp only [Act.put, List.setIfInBounds_toArray, List.set_cons_zero, List.set_cons_succ]
        refine wpAnyH_take (i := 15) (oi := ⟨_, _, _, _, _, _⟩) (v := ?_) rfl (by kernel_rfl) (by kernel_rfl) (by kernel_rfl) (fun _ _ _ h => h) (Or.inl ⟨by rfl, ?_⟩) (by assumption) ?_
        rotate_left
        · intro W hSW
          try dsimp only at hSW
          go_simp
          try with_reducible rfl
        rotate_left
        try simp only [Act.put, List.setIfInBounds_toArray, List.set_cons_zero, List.set_cons_succ]
        refine wpAnyH_take (i := 16) (oi := ⟨_, _, _, _, _, _⟩) (v := ?_) rfl (by kernel_rfl) (by kernel_rfl) (by kernel_rfl) (fun _ _ _ h => h) (Or.inl ⟨by rfl, ?_⟩) (by assumption) ?_
        rotate_left
        · intro W hSW
          try dsimp only at hSW
          go_simp
          try with_reducible rfl
        rotate_left
        try simp only [Act.put, List.setIfInBounds_toArray, List.set_cons_zero, List.set_cons_succ]
        refine wpAnyH_take (i := 17) (oi := ⟨_, _, _, _, _, _⟩) (v := ?_) rfl (by kernel_rfl) (by kernel_rfl) (by kernel_rfl) (fun _ _ _ h => h) (Or.inl ⟨by rfl, ?_⟩) (by assumption) ?_
        rotate_left
        · intro W hSW
          try dsimp only at hSW
          go_simp
          try with_reducible rfl
        rotate_left
        try simp only [Act.put, List.setIfInBounds_toArray, List.set_cons_zero, List.set_cons_succ]
        refine wpAnyH_take (i := 18) (oi := ⟨_, _, _, _, _, _⟩) (v := ?_) rfl (by kernel_rfl) (by kernel_rfl) (by kernel_rfl) (fun _ _ _ h => h) (Or.inl ⟨by rfl, ?_⟩) (by assumption) ?_
        rotate_left
        · intro W hSW
          try dsimp only at hSW
          go_simp
          try with_reducible rfl
        rotate_left
        try simp only [Act.put, List.setIfInBounds_toArray, List.set_cons_zero, List.set_cons_succ]
        refine wpAnyH_take (i := 19) (oi := ⟨_, _, _, _, _, _⟩) (v := ?_) rfl (by kernel_rfl) (by kernel_rfl) (by kernel_rfl) (fun _ _ _ h => h) (Or.inl ⟨by rfl, ?_⟩) (by assumption) ?_
        rotate_left
        · intro W hSW
          try dsimp only at hSW
          go_simp
          try with_reducible rfl
        rotate_left
        try simp only [Act.put, List.setIfInBounds_toArray, List.set_cons_zero, List.set_cons_succ]
        refine wpAnyH_take (i := 20) (oi := ⟨_, _, _, _, _, _⟩) (v := .agg (entC x (.slice B1 m1 o1) (.slice B2 m2 o2) (.slice B3 m3 o3) (.slice B4 m4 o4) (.slice B5 m5 o5) (.slice B6 m6 o6))) rfl (by kernel_rfl) (by kernel_rfl) (by kernel_rfl) (fun _ _ _ h => h) (Or.inl ⟨by rfl, fun W hSW => ?_⟩) (by assumption) ?_
        · exact held_row 30 (.tmp 8) (by rfl) gx (by rfl) 30 _ (0, 0) _ hSW.1.2.2.2.1 Try.underlying30 rfl HZX.out
        try simp only [Act.put, List.setIfInBounds_toArray, List.set_cons_zero, List.set_cons_succ]
        refine wpAnyH_take (i := 21) (oi := ⟨_, _, _, _, _, _⟩) (v := .agg (entC x (.slice C1 l1 f1) (.slice C2 l2 f2) (.slice C3 l3 f3) (.slice C4 l4 f4) (.slice C5 l5 f5) (.slice C6 l6 f6))) rfl (by kernel_rfl) (by kernel_rfl) (by kernel_rfl) (fun _ _ _ h => h) (Or.inl ⟨by rfl, fun W hSW => ?_⟩) (by assumption) ?_
        · exact held_row 30 (.tmp 10) (by rfl) gy (by rfl) 30 _ (0, 0) _ hSW.1.2.2.2.2 Try.underlying30 rfl HZY.out
        try simp only [Act.put, List.setIfInBounds_toArray, List.set_cons_zero, List.set_cons_succ]
        refine wpAnyH_ready (rs := [22]) (by kernel_rfl) (by simp) ?_
        refine AllReadyH.cons (o := ⟨_, _, _, _, _, _⟩) rfl (fun K hK => ?_) AllReadyH.nil
        rw [if_pos (by rfl)]
        go_simp
        go_at_call 18
        refine (HS1.out _ D4).mono ?_
        rintro r w14 ⟨rfl, hb0⟩
        have D5 := D4.trans (hb0.mono D4.size)
        go_wp2_with fail
        refine hK.out _ _ ⟨HS0.out _ D5, (B13.trans (hb0.mono B13.size)), conv_slK (HSL.out.below (B13.trans (hb0.mono B13.size)) (Nat.le_refl _))⟩ (fun hHeld => ?_)
        clear hK K
        try simp only [Act.put, List.setIfInBounds_toArray, List.set_cons_zero, List.set_cons_succ]
        have B14 := B13.trans (hb0.mono B13.size)
        refine wpAnyH_take (i := 23) (oi := ⟨_, _, _, _, _, _⟩) (v := ?_) rfl (by kernel_rfl) (by kernel_rfl) (by kernel_rfl) (fun _ _ _ h => h) (Or.inl ⟨by rfl, ?_⟩) (by assumption) ?_
        rotate_left
        · intro W hSW
          try dsimp only at hSW
          go_simp
          try with_reducible rfl
        rotate_left
        try simp only [Act.put, List.setIfInBounds_toArray, List.set_cons_zero, List.set_cons_succ]
        refine wpAnyH_take (i := 24) (oi := ⟨_, _, _, _, _, _⟩) (v := ?_) rfl (by kernel_rfl) (by kernel_rfl) (by kernel_rfl) (fun _ _ _ h => h) (Or.inl ⟨by rfl, ?_⟩) (by assumption) ?_
        rotate_left
        · intro W hSW
          try dsimp only at hSW
          go_simp
          try with_reducible rfl
        rotate_left
        try simp only [Act.put, List.setIfInBounds_toArray, List.set_cons_zero, List.set_cons_succ]
        refine wpAnyH_take (i := 25) (oi := ⟨_, _, _, _, _, _⟩) (v := .agg (entC e (.slice A1 n1 c1) (.slice A2 n2 c2) (.slice A3 n3 c3) (.slice A4 n4 c4) (.slice A5 n5 c5) (.slice A6 n6 c6))) rfl (by kernel_rfl) (by kernel_rfl) (by kernel_rfl) (fun _ _ _ h => h) (Or.inl ⟨by rfl, fun W hSW => ?_⟩) (by assumption) ?_
        · exact held_row 30 (.tmp 3) (by rfl) w.heap.size (by rfl) 30 _ (0, 0) _ hSW.1.2.1 Try.underlying30 rfl HZI.out
        try simp only [Act.put, List.setIfInBounds_toArray, List.set_cons_zero, List.set_cons_succ]
        refine wpAnyH_take (i := 26) (oi := ⟨_, _, _, _, _, _⟩) (v := .agg (entC f (.slice T1 k1 d1) (.slice T2 k2 d2) (.slice T3 k3 d3) (.slice T4 k4 d4) (.slice T5 k5 d5) (.slice T6 k6 d6))) rfl (by kernel_rfl) (by kernel_rfl) (by kernel_rfl) (fun _ _ _ h => h) (Or.inl ⟨by rfl, fun W hSW => ?_⟩) (by assumption) ?_
        · exact held_row 30 (.tmp 4) (by rfl) (w.heap.size + 1) (by rfl) 30 _ (0, 0) _ hSW.1.2.2.1 Try.underlying30 rfl HZF.out
        try simp only [Act.put, List.setIfInBounds_toArray, List.set_cons_zero, List.set_cons_succ]
        refine wpAnyH_take (i := 28) (oi := ⟨_, _, _, _, _, _⟩) (v := .agg (entC e (.slice A1 n1 c1) (.slice A2 n2 c2) (.slice A3 n3 c3) (.slice A4 n4 c4) (.slice A5 n5 c5) (.slice A6 n6 c6))) rfl (by kernel_rfl) (by kernel_rfl) (by kernel_rfl) (fun _ _ _ h => h) (Or.inl ⟨by rfl, fun W hSW => ?_⟩) (by assumption) ?_
        · exact held_row 30 (.tmp 3) (by rfl) w.heap.size (by rfl) 30 _ (0, 0) _ hSW.1.2.1 Try.underlying30 rfl HZI.out
        try simp only [Act.put, List.setIfInBounds_toArray, List.set_cons_zero, List.set_cons_succ]
        refine wpAnyH_take (i := 29) (oi := ⟨_, _, _, _, _, _⟩) (v := .agg (entC f (.slice T1 k1 d1) (.slice T2 k2 d2) (.slice T3 k3 d3) (.slice T4 k4 d4) (.slice T5 k5 d5) (.slice T6 k6 d6))) rfl (by kernel_rfl) (by kernel_rfl) (by kernel_rfl) (fun _ _ _ h => h) (Or.inl ⟨by rfl, fun W hSW => ?_⟩) (by assumption) ?_
        · exact held_row 30 (.tmp 4) (by rfl) (w.heap.size + 1) (by rfl) 30 _ (0, 0) _ hSW.1.2.2.1 Try.underlying30 rfl HZF.out
        try simp only [Act.put, List.setIfInBounds_toArray, List.set_cons_zero, List.set_cons_succ]
        refine wpAnyH_ready (rs := [27]) (by kernel_rfl) (by simp) ?_
        refine AllReadyH.cons (o := ⟨_, _, _, _, _, _⟩) rfl (fun K hK => ?_) AllReadyH.nil
        rw [if_pos (by rfl)]
        go_simp
        go_at_call 19
        refine (HS2.out _ D5).mono ?_
        rintro r w15 ⟨rfl, hb0⟩
        have D6 := D5.trans (hb0.mono D5.size)
        go_wp2_with fail
        refine hK.out _ _ ⟨HS0.out _ D6, (B14.trans (hb0.mono B14.size)), conv_slK (HSL.out.below (B14.trans (hb0.mono B14.size)) (Nat.le_refl _))⟩ (fun hHeld => ?_)
        clear hK K
        try simp only [Act.put, List.setIfInBounds_toArray, List.set_cons_zero, List.set_cons_succ]
        have B15 := B14.trans (hb0.mono B14.size)
        refine wpAnyH_ready (rs := [30]) (by kernel_rfl) (by simp) ?_
        refine AllReadyH.cons (o := ⟨_, _, _, _, _, _⟩) rfl (fun K hK => ?_) AllReadyH.nil
        rw [if_pos (by rfl)]
        go_simp
        go_at_call 18
        refine (HS3.out _ D6).mono ?_
        rintro r w16 ⟨rfl, hb0⟩
        have D7 := D6.trans (hb0.mono D6.size)
        go_wp2_with fail
        refine hK.out _ _ ⟨HS0.out _ D7, (B15.trans (hb0.mono B15.size)), conv_slK (HSL.out.below (B15.trans (hb0.mono B15.size)) (Nat.le_refl _))⟩ (fun hHeld => ?_)
        clear hK K
        try simp only [Act.put, List.setIfInBounds_toArray, List.set_cons_zero, List.set_cons_succ]
        have B16 := B15.trans (hb0.mono B15.size)
        refine wpAnyH_take (i := 31) (oi := ⟨_, _, _, _, _, _⟩) (v := ?_) rfl (by kernel_rfl) (by kernel_rfl) (by kernel_rfl) (fun _ _ _ h => h) (Or.inl ⟨by rfl, ?_⟩) (by assumption) ?_
        rotate_left
        · intro W hSW
          try dsimp only at hSW
          go_simp
          try with_reducible rfl
        rotate_left
        try simp only [Act.put, List.setIfInBounds_toArray, List.set_cons_zero, List.set_cons_succ]
        refine wpAnyH_take (i := 32) (oi := ⟨_, _, _, _, _, _⟩) (v := ?_) rfl (by kernel_rfl) (by kernel_rfl) (by kernel_rfl) (fun _ _ _ h => h) (Or.inl ⟨by rfl, ?_⟩) (by assumption) ?_
        rotate_left
        · intro W hSW
          try dsimp only at hSW
          go_simp
          try with_reducible rfl
        rotate_left
        try simp only [Act.put, List.setIfInBounds_toArray, List.set_cons_zero, List.set_cons_succ]
        refine wpAnyH_take (i := 33) (oi := ⟨_, _, _, _, _, _⟩) (v := ?_) rfl (by kernel_rfl) (by kernel_rfl) (by kernel_rfl) (fun _ _ _ h => h) (Or.inl ⟨by rfl, ?_⟩) (by assumption) ?_
        rotate_left
        · intro W hSW
          try dsimp only at hSW
          go_simp
          try with_reducible rfl
        rotate_left
        try simp only [Act.put, List.setIfInBounds_toArray, List.set_cons_zero, List.set_cons_succ]
        refine wpAnyH_take (i := 34) (oi := ⟨_, _, _, _, _, _⟩) (v := ?_) rfl (by kernel_rfl) (by kernel_rfl) (by kernel_rfl) (fun _ _ _ h => h) (Or.inl ⟨by rfl, ?_⟩) (by assumption) ?_
        rotate_left
        · intro W hSW
          try dsimp only at hSW
          go_simp
          try with_reducible rfl
        rotate_left
        try simp only [Act.put, List.setIfInBounds_toArray, List.set_cons_zero, List.set_cons_succ]
        refine wpAnyH_take (i := 35) (oi := ⟨_, _, _, _, _, _⟩) (v := ?_) rfl (by kernel_rfl) (by kernel_rfl) (by kernel_rfl) (fun _ _ _ h => h) (Or.inl ⟨by rfl, ?_⟩) (by assumption) ?_
        rotate_left
        · intro W hSW
          try dsimp only at hSW
          go_simp
          try with_reducible rfl
        rotate_left
        try simp only [Act.put, List.setIfInBounds_toArray, List.set_cons_zero, List.set_cons_succ]
        refine wpAnyH_ready (rs := [36]) (by kernel_rfl) (by simp) ?_
        refine AllReadyH.cons (o := ⟨_, _, _, _, _, _⟩) rfl (fun K hK => ?_) AllReadyH.nil
        rw [if_pos (by rfl)]
        go_simp
        go_at_call 20
        refine (HBK.out _ D7).mono ?_
        rintro r w17 ⟨rfl, hw17⟩
        obtain rfl := hw17.symm
        clear hw17
        have hb0 := Below.refl w16.heap.size w16
        have D8 := D7.trans (hb0.mono D7.size)
        go_wp2_with fail
        refine hK.out _ _ ⟨HS0.out _ D8, (B16.trans (hb0.mono B16.size)), conv_slK (HSL.out.below (B16.trans (hb0.mono B16.size)) (Nat.le_refl _))⟩ (fun hHeld => ?_)
        clear hK K
        try simp only [Act.put, List.setIfInBounds_toArray, List.set_cons_zero, List.set_cons_succ]
        refine wpAnyH_take (i := 37) (oi := ⟨_, _, _, _, _, _⟩) (v := ?_) rfl (by kernel_rfl) (by kernel_rfl) (by kernel_rfl) (fun _ _ _ h => h) (Or.inl ⟨by rfl, ?_⟩) (by assumption) ?_
        rotate_left
        · intro W hSW
          try dsimp only at hSW
          go_simp
          try with_reducible rfl
        rotate_left
        try simp only [Act.put, List.setIfInBounds_toArray, List.set_cons_zero, List.set_cons_succ]
        refine wpAnyH_take (i := 38) (oi := ⟨_, _, _, _, _, _⟩) (v := ?_) rfl (by kernel_rfl) (by kernel_rfl) (by kernel_rfl) (fun _ _ _ h => h) (Or.inl ⟨by rfl, ?_⟩) (by assumption) ?_
        rotate_left
        · intro W hSW
          try dsimp only at hSW
          go_simp
          try with_reducible rfl
        rotate_left
        try simp only [Act.put, List.setIfInBounds_toArray, List.set_cons_zero, List.set_cons_succ]
        refine wpAnyH_done (by kernel_rfl) ?_ _
        go_wp2
        go_ret
        exact ⟨rfl, below_on HB9.out D8⟩
end Go.Proofs.Ytbjfhlcfnohiiaa.entryAll
