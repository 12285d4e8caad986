/- TrailAll, a part. -/
import Derived.Test.YthmgafcnoedmjaaGreatQ2
import Derived.Laws.AppendOwnNone
import Derived.Maps.AppendAt
namespace Go.Proofs.YthmgafcnoedmjaaGreat
set_option maxRecDepth 100000
open Go.RowKit
def I64 (n : Int) : Prop := -9223372036854775808 ≤ n ∧ n ≤ 9223372036854775807
def WPost (p : Nat) (w : World) (v : Value) (L : List Int) (b : Bool) (e : Ending) (w' : World) : Prop := e = .returned (.tuple #[]) ∧ ∃ v', WS w' p v' L b ∧ Wr p w v w' v'
structure Hd (w0 : World) (p : Nat) (v0 : Value) (q : Nat) (o : Obj) (w : World) (v : Value) (l : List Int) (bad : Bool) : Prop where
 ws : WS w p v l bad
 wr : Wr p w0 v0 w v
 bx : w.heap[q]? = some o
 qp : q ≠ p
 qv : v.ownBlock ≠ some q
theorem Hd.init {w : World} {p : Nat} {v : Value} {l : List Int} {bad : Bool} (h : WS w p v l bad) (o : Obj) : Hd w p v w.heap.size o (w.alloc o) v l bad :=
 ⟨h.alloc o, Wr.alloc p w v o, heap_alloc_new w o, by have := h.lt; omega, fun e => by have := h.2.lt _ e; omega⟩
theorem Hd.step {w0 w w' : World} {p q : Nat} {v0 v v' : Value} {o : Obj} {l l' : List Int} {bad bad' : Bool} (H : Hd w0 p v0 q o w v l bad) (h : WS w' p v' l' bad') (g : Wr p w v w' v') : Hd w0 p v0 q o w' v' l' bad' := by
 have hq : q < w.heap.size := (Array.getElem?_eq_some_iff.1 H.bx).1
 obtain ⟨a, b⟩ := g.block q hq H.qp H.qv
 exact ⟨h, H.wr.trans g, a.trans H.bx, H.qp, b⟩
theorem Hd.post {w0 w : World} {p q : Nat} {v0 v : Value} {o : Obj} {l : List Int} {bad : Bool} (H : Hd w0 p v0 q o w v l bad) {L : List Int} {b : Bool} (e1 : l = L) (e2 : bad = b) : WPost p w0 v0 L b (.returned (.tuple #[])) w := by
 subst e1 e2
 exact ⟨rfl, v, H.ws, H.wr⟩
theorem Hd.c {w0 w : World} {p q : Nat} {v0 v : Value} {cs : Array Value} {t : TypeId} {l : List Int} {bad : Bool} (H : Hd w0 p v0 q (.cells cs t (0, 0)) w v l bad) (i : Nat) : w.cell? ⟨q, i, none⟩ = cs[i]? := (c_o H.bx i).1
theorem or_not2 (a b c : Bool) : ((a || !b) || !c) = (a || !(b && c)) := by cases a <;> cases b <;> cases c <;> rfl
theorem plL_len (a c : Int) : (plL a c).length = 2 := by simp [plL, numL_len]
set_option maxHeartbeats 400000 in
theorem place_any {w : World} {p : Nat} {v : Value} {l : List Int} {bad : Bool} (h : WS w p v l bad) (a c : Int) (ha : I64 a) (hc : I64 c) (hl : l.length ≤ 99990) :
  Calls Tryz.prog 100 #[.pointer (some ⟨p, 0, none⟩), .agg #[.int .i64 a, .int .i64 c]] w (WPost p w v (l ++ plL a c) (bad || !plB a c)) := by
 have H0 : Hd w p v w.heap.size (.cells #[.int .i64 a, .int .i64 c] 38) (w.alloc (.cells #[.int .i64 a, .int .i64 c] 38)) v l bad := Hd.init h _
 have HH := Lib.hid H0
 clear h H0
 go_enter Tryz.func100, Tryz.ntmps100
 go_wp2_with fail
 refine (number_1 HH.out.ws a ha.1 ha.2 (by omega)).mono ?_
 rintro e w1 ⟨rfl, v1, h1, g1⟩
 have H1 := HH.out.step h1 g1
 have k1 := H1.c 1
 have HH1 := Lib.hid H1
 clear H1 h1 g1
 go_wp2_with fail
 refine (number_1 HH1.out.ws c hc.1 hc.2 (by simp [numL_len]; omega)).mono ?_
 rintro e w2 ⟨rfl, v2, h2, g2⟩
 have HH2 := Lib.hid (HH1.out.step h2 g2)
 clear k1 h2 g2
 go_wp2
 go_end0
 exact HH2.out.post (by simp [plL]) (or_not2 _ _ _)
theorem run_append_sl {W : World} {B n : Nat} {v sv : Value} {xs l : List Int} (hown : W.ownsRow B 5 1 v n (byteV xs)) (hs : SlW W sv l) (hn : n + l.length ≤ 200000) (hB : B ≤ W.heap.size) :
  ∃ v' w', (∀ ty, (Builtin.append_ #[36, 36] ty #[v, sv]).run Tryz.prog W = .ok v' w') ∧ w'.ownsRow B 5 1 v' (n + l.length) (byteV (xs ++ l)) ∧ W.grownBy w' v.ownBlock ∧ (v'.ownBlock = v.ownBlock ∨ ∀ k, v'.ownBlock = some k → W.heap.size ≤ k) := by
 obtain ⟨i, hi, hz0, hz1, hz2⟩ := info_parts infoU8
 obtain ⟨⟨p, cap, rfl, h1, h3⟩, h2, hk⟩ := hs
 cases p with
 | none =>
  obtain ⟨rfl, rfl⟩ := h3 rfl
  refine ⟨v, W, fun ty => run_append_owned_none W B 36 ty 5 i 1 Tryz.underlying36 hi v n _ hown, by simpa using hown, ⟨rfl, rfl, rfl, Nat.le_refl _, fun _ _ _ => rfl⟩, .inl rfl⟩
 | some a =>
  have hnews : ∀ j u, (byteV l)[j]? = some u → W.cell? (a.add j) = some u := fun j u hu => by
   have hne : l ≠ [] := fun e => by rw [e] at hu; simp [byteV] at hu
   obtain ⟨q, c', hva, _, _, _, h4⟩ := hk hne
   have hqa : q = some a := (Value.slice.inj hva).1.symm
   obtain ⟨hsp, hbl, hc⟩ := h4 a hqa
   obtain ⟨ab, ao, asp⟩ := a
   cases hsp
   have hj : j < l.length := by have := (List.getElem?_eq_some_iff.1 hu).1; simpa [byteV] using this
   have e2 : (⟨ab, ao, none⟩ : Addr).add j = ⟨ab, ao + j, none⟩ := by unfold Addr.add; split <;> simp_all
   rw [e2, hc j hj]
   simp [byteV] at hu
   obtain ⟨x, hx, rfl⟩ := hu
   rw [List.getElem?_eq_getElem hj] at hx
   cases hx
   rfl
  have hR := fun ty => run_append_own_at (P := Tryz.prog) W B 36 ty 5 i (.int .u8 0) 1 1 Tryz.underlying36 hi hz0 hz1 hz2 rfl (by decide) v n (byteV xs) hown a l.length cap (byteV l) (by simp [byteV]) hnews (byteV_one _) (by unfold maxLen; omega) (by omega) hB
  obtain ⟨v', w', hr, k2, k3, _, k5⟩ := hR 0
  refine ⟨v', w', fun ty => hr, by rw [show byteV (xs ++ l) = byteV xs ++ byteV l by simp [byteV]]; exact k2, k3, ?_⟩
  rcases k5 with e | e
  ·exact .inl e
  ·refine .inr fun k hk => ?_
   rw [e] at hk; cases hk; exact Nat.le_refl _
theorem own_shape {w : World} {B sz n : Nat} {e : TypeId} {v : Value} {xs : List Value} (h : w.ownsRow B e sz v n xs) : ∃ A m cp, v = .slice A m cp := by
 rcases h.2 with ⟨rfl, _⟩ | ⟨g, cap, cur, rfl, _⟩
 ·exact ⟨_, _, _, rfl⟩
 ·exact ⟨_, _, _, rfl⟩
theorem celB_no {c : List Int} (h : celOk c = false) : celL c = [] := by unfold celL; rw [h]; rfl
theorem celB_yes {c : List Int} (h : celOk c = true) : celL c = numL c.length 1 ++ c := by unfold celL; rw [if_pos h]
set_option maxHeartbeats 400000 in
theorem cell_any {w0 w : World} {p : Nat} {v sv : Value} {l c : List Int} {bad : Bool} (h : WS w p v l bad) (hb : Below p w0 w) (hB : w0.heap.size ≤ p) (hs : SlW w0 sv c) (hl : l.length ≤ 90000) :
  Calls Tryz.prog 101 #[.pointer (some ⟨p, 0, none⟩), sv] w (WPost p w v (l ++ celL c) (bad || !celOk c)) := by
 have HS := Lib.hid hs
 have HH := Lib.hid h
 have HB := Lib.hid hb
 obtain ⟨⟨a, cap, rfl, q1, q3⟩, q2, q4⟩ := hs
 clear h hb q2 q3 q4
 have hcase : (c.length = 0 ∨ c.length = 26) ∨ (¬ c.length = 0 ∧ ¬ c.length = 26) := by omega
 rcases hcase with hcase | ⟨n0, n26⟩
 ·have ho : celOk c = true := by simp only [celOk, Bool.or_eq_true, decide_eq_true_eq]; exact hcase
  have HO := Lib.hid ho
  have hc : c.length ≤ 26 := by omega
  clear ho
  have fin : ∀ (w1 : World), WS w1 p v l bad → Wr p w v w1 v → ∀ (w2 : World) (v2 : Value), WS w2 p v2 (l ++ numL c.length 1) (bad || !fitB c.length 1) → Wr p w1 v w2 v2 → ∃ A3 m3 p3 w3, (∀ ty, (Builtin.append_ #[36, 36] ty #[v2, .slice a c.length cap]).run Tryz.prog w2 = .ok (.slice A3 m3 p3) w3) ∧ w2.cell? ⟨p, 0, none⟩ = some v2 ∧ w3.cell? ⟨p, 0, none⟩ = some v2 ∧ w3.frozen? ⟨p, 0, none⟩ = false ∧ WPost p w v (l ++ celL c) (bad || !true) (.returned (.tuple #[])) (w3.setCell ⟨p, 0, none⟩ (.slice A3 m3 p3)) := by
   intro w1 h1 g1 w2 v2 h2 g2
   have h2' : WS w2 p v2 (l ++ numL c.length 1) bad := by
    rw [fit_iff.2 (show 0 ≤ (c.length : Int) ∧ (c.length : Int) < 256 ^ 1 by omega)] at h2
    simpa using h2
   have hb2 : Below p w0 w2 := (HB.out.trans (g1.below HH.out)).trans (g2.below h1)
   obtain ⟨v3, w3, hr3, ho3, hg3, hv3⟩ := run_append_sl h2'.2 (HS.out.below hb2 hB) (by simp [numL_len]; omega) h2'.lt
   have hne : some p ≠ v2.ownBlock := fun e => h2'.far (Nat.le_refl p) e.symm
   have HP := h2'.put (xs := c) (by rw [List.length_append]; exact ho3) hg3 hv3
   obtain ⟨A3, m3, p3, rfl⟩ := own_shape ho3
   refine ⟨A3, m3, p3, w3, hr3, h2'.c0, hg3.cell h2'.c0 hne, (hg3.frozen_far ⟨p, 0, none⟩ h2'.lt hne).trans (h2'.f 0), rfl, _, ?_, (g1.trans g2).trans HP.2⟩
   rw [celB_yes HO.out, ← List.append_assoc]
   simpa using HP.1
  have FIN := Lib.hid fin
  have HO2 : Hid ((bad || !celOk c) = (bad || !true)) := by rw [HO.out]; rfl
  rw [HO2.out]
  clear fin HB HO
  rcases hcase with hcase | hcase
  ·obtain rfl := List.length_eq_zero_iff.1 hcase
   clear hcase
   simp only [List.length_nil] at FIN HS
   have hfq : fitB (((0 : Nat) : Int)) 1 = fitB 0 1 := rfl
   go_enter Tryz.func101, Tryz.ntmps101
   go_wp2_with fail
   refine (need_any HH.out _).mono ?_
   rintro e w1 ⟨rfl, h1, g1⟩
   have h1' : WS w1 p v l bad := by simpa using h1
   have H1 := Lib.hid h1'
   clear h1'
   have G1 := Lib.hid g1
   clear h1 g1
   go_wp2_with fail
   refine (number_1 H1.out _ (by omega) (by omega) (by omega)).mono ?_
   rintro e w2 ⟨rfl, v2, h2, g2⟩
   obtain ⟨A3, m3, p3, w3, hr3, c0, c3, f3, hp⟩ := FIN.out w1 H1.out G1.out w2 v2 h2 g2
   have HR := Lib.hid hr3
   have HP := Lib.hid hp
   clear h2 g2 hr3 hp FIN hfq
   go_wp2_with (at_builtin; refine Lib.wpList_append_run _ rfl _ _ _ _ rfl _ _ rfl rfl _ _ (HR.out _) ?_)
   go_end0
   exact HP.out
  ·have e0 : ((c.length : Int) == 0) = false := beq_eq_false_iff_ne.2 (by omega)
   have e26 : ((c.length : Int) == 26) = true := beq_iff_eq.2 (by omega)
   have E := Lib.hid hcase
   clear hcase
   go_enter Tryz.func101, Tryz.ntmps101
   go_wp2_with fail
   refine (need_any HH.out _).mono ?_
   rintro e w1 ⟨rfl, h1, g1⟩
   have h1' : WS w1 p v l bad := by simpa using h1
   have H1 := Lib.hid h1'
   clear h1'
   have G1 := Lib.hid g1
   clear h1 g1 e0 e26
   go_wp2_with fail
   refine (number_1 H1.out _ (by omega) (by omega) (by omega)).mono ?_
   rintro e w2 ⟨rfl, v2, h2, g2⟩
   obtain ⟨A3, m3, p3, w3, hr3, c0, c3, f3, hp⟩ := FIN.out w1 H1.out G1.out w2 v2 h2 g2
   have HR := Lib.hid hr3
   have HP := Lib.hid hp
   clear h2 g2 hr3 hp FIN
   go_wp2_with (at_builtin; refine Lib.wpList_append_run _ rfl _ _ _ _ rfl _ _ rfl rfl _ _ (HR.out _) ?_)
   go_end0
   exact HP.out
 ·have ho : celOk c = false := by simp only [celOk, Bool.or_eq_false_iff, decide_eq_false_iff_not]; exact ⟨n0, n26⟩
  have e0 : ((c.length : Int) == 0) = false := beq_eq_false_iff_ne.2 (by omega)
  have e26 : ((c.length : Int) == 26) = false := beq_eq_false_iff_ne.2 (by omega)
  have HO := Lib.hid ho
  clear ho n0 n26
  go_enter Tryz.func101, Tryz.ntmps101
  go_wp2_with fail
  refine (need_any HH.out _).mono ?_
  rintro e w1 ⟨rfl, h1, g1⟩
  have H1 := Lib.hid h1
  have G1 := Lib.hid g1
  clear h1 g1
  go_wp2
  go_end0
  exact ⟨rfl, v, by rw [celB_no HO.out, List.append_nil, HO.out]; exact H1.out, G1.out⟩
end Go.Proofs.YthmgafcnoedmjaaGreat
namespace Go.Proofs.YthmgafcnoedmjaaGreat
open Go.RowKit
def mvI (m : Mv) : Prop := I64 m.1 ∧ I64 m.2.1 ∧ I64 m.2.2.1 ∧ I64 m.2.2.2
def lvI (m : Lv) : Prop := I64 m.1 ∧ I64 m.2.1 ∧ I64 m.2.2.1
def dtI (m : Dt) : Prop := I64 m.1 ∧ I64 m.2
def mvV (m : Mv) : List Value := [.int .i64 m.1, .int .i64 m.2.1, .int .i64 m.2.2.1, .int .i64 m.2.2.2]
def lvV (m : Lv) : List Value := [.int .i64 m.1, .int .i64 m.2.1, .int .i64 m.2.2.1, .bool m.2.2.2]
def dtV (m : Dt) : List Value := [.int .i64 m.1, .int .i64 m.2]
theorem mvL_len (m : Mv) : (mvL m).length = 4 := by simp [mvL, plL_len]
theorem lvL_len (m : Lv) : (lvL m).length = 8 := by simp [lvL, numL_len]
theorem dtL_len (m : Dt) : (dtL m).length = 4 := by simp [dtL, numL_len]
set_option maxHeartbeats 400000 in
theorem move_any {w : World} {p : Nat} {v : Value} {l : List Int} {bad : Bool} (h : WS w p v l bad) (m : Mv) (hm : mvI m) (hl : l.length ≤ 90000) :
  Calls Tryz.prog 103 #[.pointer (some ⟨p, 0, none⟩), .agg (mvV m).toArray] w (WPost p w v (l ++ mvL m) (bad || !mvB m)) := by
 obtain ⟨a, b, c, d⟩ := m
 obtain ⟨ia, ib, ic, id⟩ := hm
 simp only at ia ib ic id
 have H0 : Hd w p v w.heap.size (.cells #[.int .i64 a, .int .i64 b, .int .i64 c, .int .i64 d] 147) (w.alloc (.cells #[.int .i64 a, .int .i64 b, .int .i64 c, .int .i64 d] 147)) v l bad := Hd.init h _
 have HH := Lib.hid H0
 clear h H0
 show Calls _ _ #[_, .agg #[.int .i64 a, .int .i64 b, .int .i64 c, .int .i64 d]] _ _
 go_enter Tryz.func103, Tryz.ntmps103
 go_wp2_with fail
 refine (place_any HH.out.ws a b ia ib (by omega)).mono ?_
 rintro e w1 ⟨rfl, v1, h1, g1⟩
 have H1 := HH.out.step h1 g1
 have k2 := H1.c 2
 have k3 := H1.c 3
 have HH1 := Lib.hid H1
 clear H1 h1 g1
 go_wp2_with fail
 refine (place_any HH1.out.ws c d ic id (by simp [plL_len]; omega)).mono ?_
 rintro e w2 ⟨rfl, v2, h2, g2⟩
 have HH2 := Lib.hid (HH1.out.step h2 g2)
 clear k2 k3 h2 g2
 go_wp2
 go_end0
 exact HH2.out.post (by simp [mvL]) (or_not2 _ _ _)
set_option maxHeartbeats 400000 in
theorem flag_any {w : World} {p : Nat} {v : Value} {l : List Int} {bad : Bool} (h : WS w p v l bad) (f : Bool) (hl : l.length ≤ 95000) :
  Calls Tryz.prog 122 #[.pointer (some ⟨p, 0, none⟩), .bool f] w (WPost p w v (l ++ numL (b01 f) 1) bad) := by
 have HH := Lib.hid h
 clear h
 cases f
 all_goals
  go_enter Tryz.func122, Tryz.ntmps122
  go_wp2_with fail
  refine (number_1 HH.out _ (by omega) (by omega) (by omega)).mono ?_
  rintro e w1 ⟨rfl, v1, h1, g1⟩
  have H1 : Hid (WS w1 p v1 _ bad) := Lib.hid (by simpa [fitB] using h1)
  have G1 := Lib.hid g1
  clear h1 g1
  go_wp2
  go_end0
  exact ⟨rfl, v1, H1.out, G1.out⟩
set_option maxHeartbeats 400000 in
theorem live_any {w : World} {p : Nat} {v : Value} {l : List Int} {bad : Bool} (h : WS w p v l bad) (m : Lv) (hm : lvI m) (hl : l.length ≤ 90000) :
  Calls Tryz.prog 105 #[.pointer (some ⟨p, 0, none⟩), .agg (lvV m).toArray] w (WPost p w v (l ++ lvL m) (bad || !lvB m)) := by
 obtain ⟨a, b, c, d⟩ := m
 obtain ⟨ia, ib, ic⟩ := hm
 simp only at ia ib ic
 have H0 : Hd w p v w.heap.size (.cells #[.int .i64 a, .int .i64 b, .int .i64 c, .bool d] 115) (w.alloc (.cells #[.int .i64 a, .int .i64 b, .int .i64 c, .bool d] 115)) v l bad := Hd.init h _
 have HH := Lib.hid H0
 clear h H0
 show Calls _ _ #[_, .agg #[.int .i64 a, .int .i64 b, .int .i64 c, .bool d]] _ _
 go_enter Tryz.func105, Tryz.ntmps105
 go_wp2_with fail
 refine (number_1 HH.out.ws a ia.1 ia.2 (by omega)).mono ?_
 rintro e w1 ⟨rfl, v1, h1, g1⟩
 have H1 := HH.out.step h1 g1
 have k1 := H1.c 1
 have HH1 := Lib.hid H1
 clear H1 h1 g1
 go_wp2_with fail
 refine (number_3 HH1.out.ws b ib.1 ib.2 (by simp [numL_len]; omega)).mono ?_
 rintro e w2 ⟨rfl, v2, h2, g2⟩
 have H2 := HH1.out.step h2 g2
 have k2 := H2.c 2
 have HH2 := Lib.hid H2
 clear H2 h2 g2 k1
 go_wp2_with fail
 refine (number_3 HH2.out.ws c ic.1 ic.2 (by simp [numL_len]; omega)).mono ?_
 rintro e w3 ⟨rfl, v3, h3, g3⟩
 have H3 := HH2.out.step h3 g3
 have k3 := H3.c 3
 have HH3 := Lib.hid H3
 clear H3 h3 g3 k2
 go_wp2_with fail
 refine (flag_any HH3.out.ws d (by simp [numL_len]; omega)).mono ?_
 rintro e w4 ⟨rfl, v4, h4, g4⟩
 have HH4 := Lib.hid (HH3.out.step h4 g4)
 clear k3 h4 g4
 go_wp2
 go_end0
 exact HH4.out.post (by simp [lvL]) (by rw [or_not2, or_not2]; simp [lvB, Bool.and_assoc])
set_option maxHeartbeats 400000 in
theorem dirty_any {w : World} {p : Nat} {v : Value} {l : List Int} {bad : Bool} (h : WS w p v l bad) (m : Dt) (hm : dtI m) (hl : l.length ≤ 90000) :
  Calls Tryz.prog 107 #[.pointer (some ⟨p, 0, none⟩), .agg (dtV m).toArray] w (WPost p w v (l ++ dtL m) (bad || !dtB m)) := by
 obtain ⟨a, b⟩ := m
 obtain ⟨ia, ib⟩ := hm
 simp only at ia ib
 have H0 : Hd w p v w.heap.size (.cells #[.int .i64 a, .int .i64 b] 117) (w.alloc (.cells #[.int .i64 a, .int .i64 b] 117)) v l bad := Hd.init h _
 have HH := Lib.hid H0
 clear h H0
 show Calls _ _ #[_, .agg #[.int .i64 a, .int .i64 b]] _ _
 go_enter Tryz.func107, Tryz.ntmps107
 go_wp2_with fail
 refine (number_1 HH.out.ws a ia.1 ia.2 (by omega)).mono ?_
 rintro e w1 ⟨rfl, v1, h1, g1⟩
 have H1 := HH.out.step h1 g1
 have k1 := H1.c 1
 have HH1 := Lib.hid H1
 clear H1 h1 g1
 go_wp2_with fail
 refine (number_3 HH1.out.ws b ib.1 ib.2 (by simp [numL_len]; omega)).mono ?_
 rintro e w2 ⟨rfl, v2, h2, g2⟩
 have HH2 := Lib.hid (HH1.out.step h2 g2)
 clear k1 h2 g2
 go_wp2
 go_end0
 exact HH2.out.post (by simp [dtL]) (or_not2 _ _ _)
end Go.Proofs.YthmgafcnoedmjaaGreat
namespace Go.Proofs.YthmgafcnoedmjaaGreat
set_option maxRecDepth 100000
open Go.RowKit
def Els (w : World) (sv : Value) (k : Nat) (xs : List (List Value)) : Prop := ∃ A cap, sv = .slice A xs.length cap ∧ xs.length ≤ cap ∧ (A = none → xs = []) ∧ ∀ a, A = some a → xs ≠ [] →
 a.spot = none ∧ a.block < w.heap.size ∧ ∀ i j, i < xs.length → j < k → w.cell? ⟨a.block, a.off + i * k + j, none⟩ = (xs[i]?.bind fun c => c[j]?)
theorem Els.below {B k : Nat} {w w' : World} {v : Value} {xs : List (List Value)} (h : Els w v k xs) (hb : Below B w w') (hB : w.heap.size ≤ B) : Els w' v k xs := by
 obtain ⟨A, cap, rfl, h1, h2, h3⟩ := h
 refine ⟨A, cap, rfl, h1, h2, fun a ha hne => ?_⟩
 obtain ⟨h5, h6, h7⟩ := h3 a ha hne
 refine ⟨h5, Nat.lt_of_lt_of_le h6 hb.size, fun i j hi hj => ?_⟩
 rw [← h7 i j hi hj]
 exact World.cell?_of_block (hb.block a.block (by omega))
theorem Els.one {w : World} {A : Option Addr} {n cap k : Nat} {xs : List (List Value)} (h : Els w (.slice A n cap) k xs) {i : Nat} (hi : i < xs.length) : ∃ b off, A = some ⟨b, off, none⟩ ∧ b < w.heap.size ∧ ∀ j, j < k → w.cell? ⟨b, off + i * k + j, none⟩ = xs[i][j]? := by
 obtain ⟨A', cap', e, h1, h2, h3⟩ := h
 cases e
 have hne : xs ≠ [] := fun e => by rw [e] at hi; cases hi
 cases A with
 | none => exact absurd (h2 rfl) hne
 | some a =>
  obtain ⟨h5, h6, h7⟩ := h3 a rfl hne
  obtain ⟨b, off, sp⟩ := a
  cases h5
  refine ⟨b, off, rfl, h6, fun j hj => ?_⟩
  rw [h7 i j hi hj, List.getElem?_eq_getElem hi]
  rfl
def LRel {α : Type} (w : World) (p : Nat) (v : Value) (bad : Bool) (l : List Int) (xs : List α) (f : α → List Int) (g : α → Bool) (i : Value) (wr : World) : Prop :=
 ∃ (k : Nat) (v' : Value), k ≤ xs.length ∧ i = .int .i64 k ∧ WS wr p v' (l ++ (numL xs.length 1 ++ (xs.take k).flatMap f)) (bad || !(xs.take k).all g) ∧ Wr p w v wr v'
theorem flat_snoc {α : Type} (f : α → List Int) (xs : List α) (k : Nat) (h : k < xs.length) : (xs.take (k + 1)).flatMap f = (xs.take k).flatMap f ++ f xs[k] := by
 rw [List.take_succ_eq_append_getElem h, List.flatMap_append, List.flatMap_singleton]
theorem all_snoc {α : Type} (g : α → Bool) (xs : List α) (k : Nat) (h : k < xs.length) : (xs.take (k + 1)).all g = ((xs.take k).all g && g xs[k]) := by
 rw [List.take_succ_eq_append_getElem h, List.all_append]; simp
theorem flat_len {α : Type} (f : α → List Int) {n : Nat} (hf : ∀ x, (f x).length ≤ n) (xs : List α) : (xs.flatMap f).length ≤ n * xs.length := by
 induction xs with
 | nil => simp
 | cons a t ih =>
  have := hf a
  rw [List.flatMap_cons, List.length_append, List.length_cons, Nat.mul_succ]
  omega
theorem flat_pre {α : Type} (f : α → List Int) {n : Nat} (hf : ∀ x, (f x).length ≤ n) (xs : List α) (k : Nat) (h : xs.length ≤ 40) : ((xs.take k).flatMap f).length ≤ n * 40 := by
 refine Nat.le_trans (flat_len f hf _) (Nat.mul_le_mul_left _ ?_)
 rw [List.length_take]; omega
theorem lst_many {α : Type} (f : α → List Int) (g : α → Bool) {xs : List α} (h : ¬ xs.length ≤ 40) : lstL f xs = [] ∧ lstB g xs = false := by
 refine ⟨by unfold lstL; rw [if_neg h], by unfold lstB; rw [decide_eq_false h]; rfl⟩
theorem lst_few {α : Type} (f : α → List Int) (g : α → Bool) {xs : List α} (h : xs.length ≤ 40) : lstL f xs = numL xs.length 1 ++ xs.flatMap f ∧ lstB g xs = xs.all g := by
 refine ⟨by unfold lstL; rw [if_pos h], by unfold lstB; rw [decide_eq_true h]; rfl⟩
set_option maxHeartbeats 1000000 in
theorem wmoves_any {w0 w : World} {p : Nat} {v sv : Value} {l : List Int} {bad : Bool} {ms : List Mv} (h : WS w p v l bad) (hb : Below p w0 w) (hB : w0.heap.size ≤ p) (hs : Els w0 sv 4 (ms.map mvV)) (hi : ∀ m ∈ ms, mvI m) (hl : l.length ≤ 80000) :
  Calls Tryz.prog 102 #[.pointer (some ⟨p, 0, none⟩), sv, .func (.func 103) #[] #[]] w (WPost p w v (l ++ lstL mvL ms) (bad || !lstB mvB ms)) := by
 have HS := Lib.hid hs
 have HH := Lib.hid h
 have HB := Lib.hid hb
 have HI := Lib.hid hi
 obtain ⟨A, cap, rfl, q1, q2, q3⟩ := hs
 rw [List.length_map] at q1 HS ⊢
 clear h hb q2 q3 hi
 by_cases h40 : ms.length ≤ 40
 ·have hd : decide ((ms.length : Int) ≤ 40) = true := decide_eq_true (by omega)
  have HF := Lib.hid (lst_few mvL mvB h40)
  go_enter Tryz.func102, Tryz.ntmps102
  go_wp2_with fail
  refine (need_any HH.out _).mono ?_
  rintro e w1 ⟨rfl, h1, g1⟩
  have h1' : WS w1 p v l bad := by simpa using h1
  have H1 := Lib.hid h1'
  have G1 := Lib.hid g1
  clear h1 h1' g1
  go_wp2_with fail
  refine (number_1 H1.out _ (by omega) (by omega) (by omega)).mono ?_
  rintro e w2 ⟨rfl, v2, h2, g2⟩
  have h2' : LRel w p v bad l ms mvL mvB (.int .i64 0) w2 := ⟨0, v2, Nat.zero_le _, rfl, by
   rw [fit_iff.2 (show 0 ≤ (ms.length : Int) ∧ (ms.length : Int) < 256 ^ 1 by omega)] at h2
   simpa using h2, G1.out.trans g2⟩
  have H2 := Lib.hid h2'
  clear h2 h2' g2 G1 H1
  go_wp2
  go_loopw [20] (fun i wr => LRel w p v bad l ms mvL mvB i wr) (fun i _ => ms.length - (RowKit.intOf i).toNat)
  case atStart => exact H2.out
  case round =>
   obtain ⟨k, v3, hk, rfl, H3, G3⟩ := hrel
   have HW := Lib.hid H3
   have HG := Lib.hid G3
   clear H3 G3
   by_cases hlt : k < ms.length
   ·have HB3 := Lib.hid (HB.out.trans (HG.out.below HH.out))
    obtain ⟨b, off, rfl, hbl, hc⟩ := (HS.out.below HB3.out hB).one (i := k) (by simpa using hlt)
    have hpl : (l ++ (numL ms.length 1 ++ (ms.take k).flatMap mvL)).length ≤ 88000 := by
     have := flat_pre mvL (n := 4) (fun x => by rw [mvL_len]; exact Nat.le_refl _) ms k h40
     rw [List.length_append, List.length_append, numL_len]
     omega
    have k0 : wr.cell? ⟨b, off + k * 4, none⟩ = some (.int .i64 ms[k].1) := by simpa [mvV] using hc 0 (by omega)
    have k1 : wr.cell? ⟨b, off + k * 4 + 1, none⟩ = some (.int .i64 ms[k].2.1) := by simpa [mvV] using hc 1 (by omega)
    have k2 : wr.cell? ⟨b, off + k * 4 + 2, none⟩ = some (.int .i64 ms[k].2.2.1) := by simpa [mvV] using hc 2 (by omega)
    have k3 : wr.cell? ⟨b, off + k * 4 + 3, none⟩ = some (.int .i64 ms[k].2.2.2) := by simpa [mvV] using hc 3 (by omega)
    clear hc
    go_wp2_with fail
    refine (move_any (HW.out.alloc _) ms[k] (HI.out _ (List.getElem_mem _)) (by omega)).mono ?_
    rintro e w4 ⟨rfl, v4, h4, g4⟩
    have h5 : LRel w p v bad l ms mvL mvB (.int .i64 (k + 1)) w4 := ⟨k + 1, v4, hlt, rfl, by
     rw [flat_snoc _ _ _ hlt, all_snoc _ _ _ hlt, ← or_not2, ← List.append_assoc (numL _ _), ← List.append_assoc l]
     exact h4, (HG.out.trans (Wr.alloc p wr v3 _)).trans g4⟩
    have H5 := Lib.hid h5
    clear h4 g4 h5 k0 k1 k2 k3
    go_wp2
    go_roundw
    all_goals first
     | exact H5.out
     | (simp [RowKit.intOf]; omega)
   ·obtain rfl : k = ms.length := by omega
    go_wp2
    go_end0
    rw [HF.out.1, HF.out.2]
    have := HW.out
    rw [List.take_length] at this
    exact ⟨rfl, v3, this, HG.out⟩
 ·have hd : decide ((ms.length : Int) ≤ 40) = false := decide_eq_false (by omega)
  have HF := Lib.hid (lst_many mvL mvB h40)
  clear h40
  go_enter Tryz.func102, Tryz.ntmps102
  go_wp2_with fail
  refine (need_any HH.out _).mono ?_
  rintro e w1 ⟨rfl, h1, g1⟩
  have H1 := Lib.hid h1
  have G1 := Lib.hid g1
  clear h1 g1
  go_wp2
  go_end0
  rw [HF.out.1, HF.out.2, List.append_nil]
  exact ⟨rfl, v, H1.out, G1.out⟩
set_option maxHeartbeats 1000000 in
theorem wlives_any {w0 w : World} {p : Nat} {v sv : Value} {l : List Int} {bad : Bool} {ms : List Lv} (h : WS w p v l bad) (hb : Below p w0 w) (hB : w0.heap.size ≤ p) (hs : Els w0 sv 4 (ms.map lvV)) (hi : ∀ m ∈ ms, lvI m) (hl : l.length ≤ 80000) :
  Calls Tryz.prog 104 #[.pointer (some ⟨p, 0, none⟩), sv, .func (.func 105) #[] #[]] w (WPost p w v (l ++ lstL lvL ms) (bad || !lstB lvB ms)) := by
 have HS := Lib.hid hs
 have HH := Lib.hid h
 have HB := Lib.hid hb
 have HI := Lib.hid hi
 obtain ⟨A, cap, rfl, q1, q2, q3⟩ := hs
 rw [List.length_map] at q1 HS ⊢
 clear h hb q2 q3 hi
 by_cases h40 : ms.length ≤ 40
 ·have hd : decide ((ms.length : Int) ≤ 40) = true := decide_eq_true (by omega)
  have HF := Lib.hid (lst_few lvL lvB h40)
  go_enter Tryz.func104, Tryz.ntmps104
  go_wp2_with fail
  refine (need_any HH.out _).mono ?_
  rintro e w1 ⟨rfl, h1, g1⟩
  have h1' : WS w1 p v l bad := by simpa using h1
  have H1 := Lib.hid h1'
  have G1 := Lib.hid g1
  clear h1 h1' g1
  go_wp2_with fail
  refine (number_1 H1.out _ (by omega) (by omega) (by omega)).mono ?_
  rintro e w2 ⟨rfl, v2, h2, g2⟩
  have h2' : LRel w p v bad l ms lvL lvB (.int .i64 0) w2 := ⟨0, v2, Nat.zero_le _, rfl, by
   rw [fit_iff.2 (show 0 ≤ (ms.length : Int) ∧ (ms.length : Int) < 256 ^ 1 by omega)] at h2
   simpa using h2, G1.out.trans g2⟩
  have H2 := Lib.hid h2'
  clear h2 h2' g2 G1 H1
  go_wp2
  go_loopw [20] (fun i wr => LRel w p v bad l ms lvL lvB i wr) (fun i _ => ms.length - (RowKit.intOf i).toNat)
  case atStart => exact H2.out
  case round =>
   obtain ⟨k, v3, hk, rfl, H3, G3⟩ := hrel
   have HW := Lib.hid H3
   have HG := Lib.hid G3
   clear H3 G3
   by_cases hlt : k < ms.length
   ·have HB3 := Lib.hid (HB.out.trans (HG.out.below HH.out))
    obtain ⟨b, off, rfl, hbl, hc⟩ := (HS.out.below HB3.out hB).one (i := k) (by simpa using hlt)
    have hpl : (l ++ (numL ms.length 1 ++ (ms.take k).flatMap lvL)).length ≤ 88000 := by
     have := flat_pre lvL (n := 8) (fun x => by rw [lvL_len]; exact Nat.le_refl _) ms k h40
     rw [List.length_append, List.length_append, numL_len]
     omega
    have k0 : wr.cell? ⟨b, off + k * 4, none⟩ = some (.int .i64 ms[k].1) := by simpa [lvV] using hc 0 (by omega)
    have k1 : wr.cell? ⟨b, off + k * 4 + 1, none⟩ = some (.int .i64 ms[k].2.1) := by simpa [lvV] using hc 1 (by omega)
    have k2 : wr.cell? ⟨b, off + k * 4 + 2, none⟩ = some (.int .i64 ms[k].2.2.1) := by simpa [lvV] using hc 2 (by omega)
    have k3 : wr.cell? ⟨b, off + k * 4 + 3, none⟩ = some (.bool ms[k].2.2.2) := by simpa [lvV] using hc 3 (by omega)
    clear hc
    go_wp2_with fail
    refine (live_any (HW.out.alloc _) ms[k] (HI.out _ (List.getElem_mem _)) (by omega)).mono ?_
    rintro e w4 ⟨rfl, v4, h4, g4⟩
    have h5 : LRel w p v bad l ms lvL lvB (.int .i64 (k + 1)) w4 := ⟨k + 1, v4, hlt, rfl, by
     rw [flat_snoc _ _ _ hlt, all_snoc _ _ _ hlt, ← or_not2, ← List.append_assoc (numL _ _), ← List.append_assoc l]
     exact h4, (HG.out.trans (Wr.alloc p wr v3 _)).trans g4⟩
    have H5 := Lib.hid h5
    clear h4 g4 h5 k0 k1 k2 k3
    go_wp2
    go_roundw
    all_goals first
     | exact H5.out
     | (simp [RowKit.intOf]; omega)
   ·obtain rfl : k = ms.length := by omega
    go_wp2
    go_end0
    rw [HF.out.1, HF.out.2]
    have := HW.out
    rw [List.take_length] at this
    exact ⟨rfl, v3, this, HG.out⟩
 ·have hd : decide ((ms.length : Int) ≤ 40) = false := decide_eq_false (by omega)
  have HF := Lib.hid (lst_many lvL lvB h40)
  clear h40
  go_enter Tryz.func104, Tryz.ntmps104
  go_wp2_with fail
  refine (need_any HH.out _).mono ?_
  rintro e w1 ⟨rfl, h1, g1⟩
  have H1 := Lib.hid h1
  have G1 := Lib.hid g1
  clear h1 g1
  go_wp2
  go_end0
  rw [HF.out.1, HF.out.2, List.append_nil]
  exact ⟨rfl, v, H1.out, G1.out⟩
set_option maxHeartbeats 1000000 in
theorem wdirty_any {w0 w : World} {p : Nat} {v sv : Value} {l : List Int} {bad : Bool} {ms : List Dt} (h : WS w p v l bad) (hb : Below p w0 w) (hB : w0.heap.size ≤ p) (hs : Els w0 sv 2 (ms.map dtV)) (hi : ∀ m ∈ ms, dtI m) (hl : l.length ≤ 80000) :
  Calls Tryz.prog 106 #[.pointer (some ⟨p, 0, none⟩), sv, .func (.func 107) #[] #[]] w (WPost p w v (l ++ lstL dtL ms) (bad || !lstB dtB ms)) := by
 have HS := Lib.hid hs
 have HH := Lib.hid h
 have HB := Lib.hid hb
 have HI := Lib.hid hi
 obtain ⟨A, cap, rfl, q1, q2, q3⟩ := hs
 rw [List.length_map] at q1 HS ⊢
 clear h hb q2 q3 hi
 by_cases h40 : ms.length ≤ 40
 ·have hd : decide ((ms.length : Int) ≤ 40) = true := decide_eq_true (by omega)
  have HF := Lib.hid (lst_few dtL dtB h40)
  go_enter Tryz.func106, Tryz.ntmps106
  go_wp2_with fail
  refine (need_any HH.out _).mono ?_
  rintro e w1 ⟨rfl, h1, g1⟩
  have h1' : WS w1 p v l bad := by simpa using h1
  have H1 := Lib.hid h1'
  have G1 := Lib.hid g1
  clear h1 h1' g1
  go_wp2_with fail
  refine (number_1 H1.out _ (by omega) (by omega) (by omega)).mono ?_
  rintro e w2 ⟨rfl, v2, h2, g2⟩
  have h2' : LRel w p v bad l ms dtL dtB (.int .i64 0) w2 := ⟨0, v2, Nat.zero_le _, rfl, by
   rw [fit_iff.2 (show 0 ≤ (ms.length : Int) ∧ (ms.length : Int) < 256 ^ 1 by omega)] at h2
   simpa using h2, G1.out.trans g2⟩
  have H2 := Lib.hid h2'
  clear h2 h2' g2 G1 H1
  go_wp2
  go_loopw [20] (fun i wr => LRel w p v bad l ms dtL dtB i wr) (fun i _ => ms.length - (RowKit.intOf i).toNat)
  case atStart => exact H2.out
  case round =>
   obtain ⟨k, v3, hk, rfl, H3, G3⟩ := hrel
   have HW := Lib.hid H3
   have HG := Lib.hid G3
   clear H3 G3
   by_cases hlt : k < ms.length
   ·have HB3 := Lib.hid (HB.out.trans (HG.out.below HH.out))
    obtain ⟨b, off, rfl, hbl, hc⟩ := (HS.out.below HB3.out hB).one (i := k) (by simpa using hlt)
    have hpl : (l ++ (numL ms.length 1 ++ (ms.take k).flatMap dtL)).length ≤ 88000 := by
     have := flat_pre dtL (n := 4) (fun x => by rw [dtL_len]; exact Nat.le_refl _) ms k h40
     rw [List.length_append, List.length_append, numL_len]
     omega
    have k0 : wr.cell? ⟨b, off + k * 2, none⟩ = some (.int .i64 ms[k].1) := by simpa [dtV] using hc 0 (by omega)
    have k1 : wr.cell? ⟨b, off + k * 2 + 1, none⟩ = some (.int .i64 ms[k].2) := by simpa [dtV] using hc 1 (by omega)
    clear hc
    go_wp2_with fail
    refine (dirty_any (HW.out.alloc _) ms[k] (HI.out _ (List.getElem_mem _)) (by omega)).mono ?_
    rintro e w4 ⟨rfl, v4, h4, g4⟩
    have h5 : LRel w p v bad l ms dtL dtB (.int .i64 (k + 1)) w4 := ⟨k + 1, v4, hlt, rfl, by
     rw [flat_snoc _ _ _ hlt, all_snoc _ _ _ hlt, ← or_not2, ← List.append_assoc (numL _ _), ← List.append_assoc l]
     exact h4, (HG.out.trans (Wr.alloc p wr v3 _)).trans g4⟩
    have H5 := Lib.hid h5
    clear h4 g4 h5 k0 k1
    go_wp2
    go_roundw
    all_goals first
     | exact H5.out
     | (simp [RowKit.intOf]; omega)
   ·obtain rfl : k = ms.length := by omega
    go_wp2
    go_end0
    rw [HF.out.1, HF.out.2]
    have := HW.out
    rw [List.take_length] at this
    exact ⟨rfl, v3, this, HG.out⟩
 ·have hd : decide ((ms.length : Int) ≤ 40) = false := decide_eq_false (by omega)
  have HF := Lib.hid (lst_many dtL dtB h40)
  clear h40
  go_enter Tryz.func106, Tryz.ntmps106
  go_wp2_with fail
  refine (need_any HH.out _).mono ?_
  rintro e w1 ⟨rfl, h1, g1⟩
  have H1 := Lib.hid h1
  have G1 := Lib.hid g1
  clear h1 g1
  go_wp2
  go_end0
  rw [HF.out.1, HF.out.2, List.append_nil]
  exact ⟨rfl, v, H1.out, G1.out⟩
end Go.Proofs.YthmgafcnoedmjaaGreat
