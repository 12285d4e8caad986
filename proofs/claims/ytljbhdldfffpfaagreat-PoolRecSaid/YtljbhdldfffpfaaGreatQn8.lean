/- PoolNone, a part. -/
import Derived.Test.YtljbhdldfffpfaaGreatQn7
import Derived.Laws.AppendOwnNone
import Derived.Maps.AppendAt
namespace Go.Proofs.YtljbhdldfffpfaaGreat
open Go.RowKit

def I64 (n : Int) : Prop := -9223372036854775808 ≤ n ∧ n ≤ 9223372036854775807

/-- What a call of the writer leaves. -/
def WPost (p : Nat) (w : World) (v : Value) (L : List Int) (b : Bool) (e : Ending) (w' : World) : Prop := e = .returned (.tuple #[]) ∧ ∃ v', WS w' p v' L b ∧ Wr p w v w' v'

/-- The writer, and the box of the one who calls. -/
structure Hd (w0 : World) (p : Nat) (v0 : Value) (q : Nat) (o : Obj) (w : World) (v : Value) (l : List Int) (bad : Bool) : Prop where
  ws : WS w p v l bad
  wr : Wr p w0 v0 w v
  bx : w.heap[q]? = some o
  qp : q ≠ p
  qv : v.ownBlock ≠ some q

theorem Hd.init {w : World} {p : Nat} {v : Value} {l : List Int} {bad : Bool} (h : WS w p v l bad) (o : Obj) : Hd w p v w.heap.size o (w.alloc o) v l bad :=
  ⟨h.alloc o, Wr.alloc p w v o, heap_alloc_new w o, by have := h.lt; omega, fun e => by have := h.2.lt _ e; omega⟩
theorem Hd.step {w0 w w' : World} {p q : Nat} {v0 v v' : Value} {o : Obj} {l l' : List Int} {bad bad' : Bool} (H : Hd w0 p v0 q o w v l bad) (h : WS w' p v' l' bad') (g : Wr p w v w' v') : Hd w0 p v0 q o w' v' l' bad' := by
  have hq : q < w.heap.size := (Array.getElem?_eq_some_iff.1 H.bx).1
  obtain ⟨a, b⟩ := g.block q hq H.qp H.qv
  exact ⟨h, H.wr.trans g, a.trans H.bx, H.qp, b⟩
theorem Hd.post {w0 w : World} {p q : Nat} {v0 v : Value} {o : Obj} {l : List Int} {bad : Bool} (H : Hd w0 p v0 q o w v l bad) {L : List Int} {b : Bool} (e1 : l = L) (e2 : bad = b) : WPost p w0 v0 L b (.returned (.tuple #[])) w := by
  subst e1 e2
  exact ⟨rfl, v, H.ws, H.wr⟩
theorem Hd.c {w0 w : World} {p q : Nat} {v0 v : Value} {cs : Array Value} {t : TypeId} {l : List Int} {bad : Bool} (H : Hd w0 p v0 q (.cells cs t (0, 0)) w v l bad) (i : Nat) : w.cell? ⟨q, i, none⟩ = cs[i]? := (cell_of H.bx i).1

theorem or_not2 (a b c : Bool) : ((a || !b) || !c) = (a || !(b && c)) := by cases a <;> cases b <;> cases c <;> rfl
theorem plL_len (a c : Int) : (plL a c).length = 2 := by simp [plL, numL_len]

set_option maxRecDepth 100000 in
set_option maxHeartbeats 400000 in
theorem place_any {w : World} {p : Nat} {v : Value} {l : List Int} {bad : Bool} (h : WS w p v l bad) (a c : Int) (ha : I64 a) (hc : I64 c) (hl : l.length ≤ 99990) :
    Calls Tryz.prog 133 #[.pointer (some ⟨p, 0, none⟩), .agg #[.int .i64 a, .int .i64 c]] w (WPost p w v (l ++ plL a c) (bad || !plB a c)) := by
  have H0 : Hd w p v w.heap.size (.cells #[.int .i64 a, .int .i64 c] 49) (w.alloc (.cells #[.int .i64 a, .int .i64 c] 49)) v l bad := Hd.init h _
  have HH := Lib.hid H0
  clear h H0
  go_enter Tryz.func133, Tryz.ntmps133
  go_wp2_with fail
  refine (number_1 HH.out.ws a ha.1 ha.2 (by omega)).mono ?_
  rintro e w1 ⟨rfl, v1, h1, g1⟩
  have H1 := HH.out.step h1 g1
  have k1 := H1.c 1
  have HH1 := Lib.hid H1
  clear H1 h1 g1
  go_wp2_with fail
  refine (number_1 HH1.out.ws c hc.1 hc.2 (by simp [numL_len]; omega)).mono ?_
  rintro e w2 ⟨rfl, v2, h2, g2⟩
  have HH2 := Lib.hid (HH1.out.step h2 g2)
  clear k1 h2 g2
  go_wp2
  go_end0
  exact HH2.out.post (by simp [plL]) (or_not2 _ _ _)

theorem run_append_sl {W : World} {B n : Nat} {v sv : Value} {xs l : List Int} (hown : W.ownsRow B 5 1 v n (byteV xs)) (hs : SlW W sv l) (hn : n + l.length ≤ 200000) (hB : B ≤ W.heap.size) :
    ∃ v' w', (∀ ty, (Builtin.append_ #[33, 33] ty #[v, sv]).run Tryz.prog W = .ok v' w') ∧ w'.ownsRow B 5 1 v' (n + l.length) (byteV (xs ++ l)) ∧ W.grownBy w' v.ownBlock ∧ (v'.ownBlock = v.ownBlock ∨ ∀ k, v'.ownBlock = some k → W.heap.size ≤ k) := by
  obtain ⟨i, hi, hz0, hz1, hz2⟩ := info_parts infoU8
  obtain ⟨⟨p, cap, rfl, h1, h3⟩, h2, hk⟩ := hs
  cases p with
  | none =>
    obtain ⟨rfl, rfl⟩ := h3 rfl
    refine ⟨v, W, fun ty => run_append_owned_none W B 33 ty 5 i 1 Tryz.underlying33 hi v n _ hown, by simpa using hown, ⟨rfl, rfl, rfl, Nat.le_refl _, fun _ _ _ => rfl⟩, .inl rfl⟩
  | some a =>
    have hnews : ∀ j u, (byteV l)[j]? = some u → W.cell? (a.add j) = some u := fun j u hu => by
      have hne : l ≠ [] := fun e => by rw [e] at hu; simp [byteV] at hu
      obtain ⟨q, c', hva, _, _, _, h4⟩ := hk hne
      have hqa : q = some a := (Value.slice.inj hva).1.symm
      obtain ⟨hsp, hbl, hc⟩ := h4 a hqa
      obtain ⟨ab, ao, asp⟩ := a
      cases hsp
      have hj : j < l.length := by have := (List.getElem?_eq_some_iff.1 hu).1; simpa [byteV] using this
      have e2 : (⟨ab, ao, none⟩ : Addr).add j = ⟨ab, ao + j, none⟩ := by unfold Addr.add; split <;> simp_all
      rw [e2, hc j hj]
      simp [byteV] at hu
      obtain ⟨x, hx, rfl⟩ := hu
      rw [List.getElem?_eq_getElem hj] at hx
      cases hx
      rfl
    have hR := fun ty => run_append_own_at (P := Tryz.prog) W B 33 ty 5 i (.int .u8 0) 1 1 Tryz.underlying33 hi hz0 hz1 hz2 rfl (by decide) v n (byteV xs) hown a l.length cap (byteV l) (by simp [byteV]) hnews (byteV_one _) (by unfold maxLen; omega) (by omega) hB
    obtain ⟨v', w', hr, k2, k3, _, k5⟩ := hR 0
    refine ⟨v', w', fun ty => hr, by rw [show byteV (xs ++ l) = byteV xs ++ byteV l by simp [byteV]]; exact k2, k3, ?_⟩
    rcases k5 with e | e
    · exact .inl e
    · refine .inr fun k hk => ?_
      rw [e] at hk; cases hk; exact Nat.le_refl _

theorem own_shape {w : World} {B sz n : Nat} {e : TypeId} {v : Value} {xs : List Value} (h : w.ownsRow B e sz v n xs) : ∃ A m cp, v = .slice A m cp := by
  rcases h.2 with ⟨rfl, _⟩ | ⟨g, cap, cur, rfl, _⟩
  · exact ⟨_, _, _, rfl⟩
  · exact ⟨_, _, _, rfl⟩

theorem celB_no {c : List Int} (h : celOk c = false) : celL c = [] := by unfold celL; rw [h]; rfl
theorem celB_yes {c : List Int} (h : celOk c = true) : celL c = numL c.length 1 ++ c := by unfold celL; rw [if_pos h]

set_option maxRecDepth 100000 in
set_option maxHeartbeats 400000 in
theorem cell_any {w0 w : World} {p : Nat} {v sv : Value} {l c : List Int} {bad : Bool} (h : WS w p v l bad) (hb : Below p w0 w) (hB : w0.heap.size ≤ p) (hs : SlW w0 sv c) (hl : l.length ≤ 90000) :
    Calls Tryz.prog 134 #[.pointer (some ⟨p, 0, none⟩), sv] w (WPost p w v (l ++ celL c) (bad || !celOk c)) := by
  have HS := Lib.hid hs
  have HH := Lib.hid h
  have HB := Lib.hid hb
  obtain ⟨⟨a, cap, rfl, q1, q3⟩, q2, q4⟩ := hs
  clear h hb q2 q3 q4
  have hcase : (c.length = 0 ∨ c.length = 26) ∨ (¬ c.length = 0 ∧ ¬ c.length = 26) := by omega
  rcases hcase with hcase | ⟨n0, n26⟩
  · have ho : celOk c = true := by simp only [celOk, Bool.or_eq_true, decide_eq_true_eq]; exact hcase
    have HO := Lib.hid ho
    have hc : c.length ≤ 26 := by omega
    clear ho
    have fin : ∀ (w1 : World), WS w1 p v l bad → Wr p w v w1 v → ∀ (w2 : World) (v2 : Value), WS w2 p v2 (l ++ numL c.length 1) (bad || !fitB c.length 1) → Wr p w1 v w2 v2 → ∃ A3 m3 p3 w3, (∀ ty, (Builtin.append_ #[33, 33] ty #[v2, .slice a c.length cap]).run Tryz.prog w2 = .ok (.slice A3 m3 p3) w3) ∧ w2.cell? ⟨p, 0, none⟩ = some v2 ∧ w3.cell? ⟨p, 0, none⟩ = some v2 ∧ w3.frozen? ⟨p, 0, none⟩ = false ∧ WPost p w v (l ++ celL c) (bad || !true) (.returned (.tuple #[])) (w3.setCell ⟨p, 0, none⟩ (.slice A3 m3 p3)) := by
      intro w1 h1 g1 w2 v2 h2 g2
      have h2' : WS w2 p v2 (l ++ numL c.length 1) bad := by
        rw [fit_iff.2 (show 0 ≤ (c.length : Int) ∧ (c.length : Int) < 256 ^ 1 by omega)] at h2
        simpa using h2
      have hb2 : Below p w0 w2 := (HB.out.trans (g1.below HH.out)).trans (g2.below h1)
      obtain ⟨v3, w3, hr3, ho3, hg3, hv3⟩ := run_append_sl h2'.2 (HS.out.below hb2 hB) (by simp [numL_len]; omega) h2'.lt
      have hne : some p ≠ v2.ownBlock := fun e => h2'.far (Nat.le_refl p) e.symm
      have HP := h2'.put (xs := c) (by rw [List.length_append]; exact ho3) hg3 hv3
      obtain ⟨A3, m3, p3, rfl⟩ := own_shape ho3
      refine ⟨A3, m3, p3, w3, hr3, h2'.c0, hg3.cell h2'.c0 hne, (hg3.frozen_far ⟨p, 0, none⟩ h2'.lt hne).trans (h2'.f 0), rfl, _, ?_, (g1.trans g2).trans HP.2⟩
      rw [celB_yes HO.out, ← List.append_assoc]
      simpa using HP.1
    have FIN := Lib.hid fin
    have HO2 : Hid ((bad || !celOk c) = (bad || !true)) := by rw [HO.out]; rfl
    rw [HO2.out]
    clear fin HB HO
    rcases hcase with hcase | hcase
    · obtain rfl := List.length_eq_zero_iff.1 hcase
      clear hcase
      simp only [List.length_nil] at FIN HS
      have hfq : fitB (((0 : Nat) : Int)) 1 = fitB 0 1 := rfl
      go_enter Tryz.func134, Tryz.ntmps134
      go_wp2_with fail
      refine (need_any HH.out _).mono ?_
      rintro e w1 ⟨rfl, h1, g1⟩
      have h1' : WS w1 p v l bad := by simpa using h1
      have H1 := Lib.hid h1'
      clear h1'
      have G1 := Lib.hid g1
      clear h1 g1
      go_wp2_with fail
      refine (number_1 H1.out _ (by omega) (by omega) (by omega)).mono ?_
      rintro e w2 ⟨rfl, v2, h2, g2⟩
      obtain ⟨A3, m3, p3, w3, hr3, c0, c3, f3, hp⟩ := FIN.out w1 H1.out G1.out w2 v2 h2 g2
      have HR := Lib.hid hr3
      have HP := Lib.hid hp
      clear h2 g2 hr3 hp FIN hfq
      go_wp2_with (at_builtin; refine Lib.wpList_append_run _ rfl _ _ _ _ rfl _ _ rfl rfl _ _ (HR.out _) ?_)
      go_end0
      exact HP.out
    · have e0 : ((c.length : Int) == 0) = false := beq_eq_false_iff_ne.2 (by omega)
      have e26 : ((c.length : Int) == 26) = true := beq_iff_eq.2 (by omega)
      have E := Lib.hid hcase
      clear hcase
      go_enter Tryz.func134, Tryz.ntmps134
      go_wp2_with fail
      refine (need_any HH.out _).mono ?_
      rintro e w1 ⟨rfl, h1, g1⟩
      have h1' : WS w1 p v l bad := by simpa using h1
      have H1 := Lib.hid h1'
      clear h1'
      have G1 := Lib.hid g1
      clear h1 g1 e0 e26
      go_wp2_with fail
      refine (number_1 H1.out _ (by omega) (by omega) (by omega)).mono ?_
      rintro e w2 ⟨rfl, v2, h2, g2⟩
      obtain ⟨A3, m3, p3, w3, hr3, c0, c3, f3, hp⟩ := FIN.out w1 H1.out G1.out w2 v2 h2 g2
      have HR := Lib.hid hr3
      have HP := Lib.hid hp
      clear h2 g2 hr3 hp FIN
      go_wp2_with (at_builtin; refine Lib.wpList_append_run _ rfl _ _ _ _ rfl _ _ rfl rfl _ _ (HR.out _) ?_)
      go_end0
      exact HP.out
  · have ho : celOk c = false := by simp only [celOk, Bool.or_eq_false_iff, decide_eq_false_iff_not]; exact ⟨n0, n26⟩
    have e0 : ((c.length : Int) == 0) = false := beq_eq_false_iff_ne.2 (by omega)
    have e26 : ((c.length : Int) == 26) = false := beq_eq_false_iff_ne.2 (by omega)
    have HO := Lib.hid ho
    clear ho n0 n26
    go_enter Tryz.func134, Tryz.ntmps134
    go_wp2_with fail
    refine (need_any HH.out _).mono ?_
    rintro e w1 ⟨rfl, h1, g1⟩
    have H1 := Lib.hid h1
    have G1 := Lib.hid g1
    clear h1 g1
    go_wp2
    go_end0
    exact ⟨rfl, v, by rw [celB_no HO.out, List.append_nil, HO.out]; exact H1.out, G1.out⟩

end Go.Proofs.YtljbhdldfffpfaaGreat
namespace Go.Proofs.YtljbhdldfffpfaaGreat
open Go.RowKit

def mvI (m : Mv) : Prop := I64 m.1 ∧ I64 m.2.1 ∧ I64 m.2.2.1 ∧ I64 m.2.2.2
def lvI (m : Lv) : Prop := I64 m.1 ∧ I64 m.2.1 ∧ I64 m.2.2.1
def dtI (m : Dt) : Prop := I64 m.1 ∧ I64 m.2
/-- The cells of an element. -/
def mvV (m : Mv) : List Value := [.int .i64 m.1, .int .i64 m.2.1, .int .i64 m.2.2.1, .int .i64 m.2.2.2]
def lvV (m : Lv) : List Value := [.int .i64 m.1, .int .i64 m.2.1, .int .i64 m.2.2.1, .bool m.2.2.2]
def dtV (m : Dt) : List Value := [.int .i64 m.1, .int .i64 m.2]
theorem mvL_len (m : Mv) : (mvL m).length = 4 := by simp [mvL, plL_len]
theorem lvL_len (m : Lv) : (lvL m).length = 8 := by simp [lvL, numL_len]
theorem dtL_len (m : Dt) : (dtL m).length = 4 := by simp [dtL, numL_len]

set_option maxRecDepth 100000 in
set_option maxHeartbeats 400000 in
theorem move_any {w : World} {p : Nat} {v : Value} {l : List Int} {bad : Bool} (h : WS w p v l bad) (m : Mv) (hm : mvI m) (hl : l.length ≤ 90000) :
    Calls Tryz.prog 136 #[.pointer (some ⟨p, 0, none⟩), .agg (mvV m).toArray] w (WPost p w v (l ++ mvL m) (bad || !mvB m)) := by
  obtain ⟨a, b, c, d⟩ := m
  obtain ⟨ia, ib, ic, id⟩ := hm
  simp only at ia ib ic id
  have H0 : Hd w p v w.heap.size (.cells #[.int .i64 a, .int .i64 b, .int .i64 c, .int .i64 d] 196) (w.alloc (.cells #[.int .i64 a, .int .i64 b, .int .i64 c, .int .i64 d] 196)) v l bad := Hd.init h _
  have HH := Lib.hid H0
  clear h H0
  show Calls _ _ #[_, .agg #[.int .i64 a, .int .i64 b, .int .i64 c, .int .i64 d]] _ _
  go_enter Tryz.func136, Tryz.ntmps136
  go_wp2_with fail
  refine (place_any HH.out.ws a b ia ib (by omega)).mono ?_
  rintro e w1 ⟨rfl, v1, h1, g1⟩
  have H1 := HH.out.step h1 g1
  have k2 := H1.c 2
  have k3 := H1.c 3
  have HH1 := Lib.hid H1
  clear H1 h1 g1
  go_wp2_with fail
  refine (place_any HH1.out.ws c d ic id (by simp [plL_len]; omega)).mono ?_
  rintro e w2 ⟨rfl, v2, h2, g2⟩
  have HH2 := Lib.hid (HH1.out.step h2 g2)
  clear k2 k3 h2 g2
  go_wp2
  go_end0
  exact HH2.out.post (by simp [mvL]) (or_not2 _ _ _)

set_option maxRecDepth 100000 in
set_option maxHeartbeats 400000 in
theorem flag_any {w : World} {p : Nat} {v : Value} {l : List Int} {bad : Bool} (h : WS w p v l bad) (f : Bool) (hl : l.length ≤ 95000) :
    Calls Tryz.prog 163 #[.pointer (some ⟨p, 0, none⟩), .bool f] w (WPost p w v (l ++ numL (b01 f) 1) bad) := by
  have HH := Lib.hid h
  clear h
  cases f
  all_goals
    go_enter Tryz.func163, Tryz.ntmps163
    go_wp2_with fail
    refine (number_1 HH.out _ (by omega) (by omega) (by omega)).mono ?_
    rintro e w1 ⟨rfl, v1, h1, g1⟩
    have H1 : Hid (WS w1 p v1 _ bad) := Lib.hid (by simpa [fitB] using h1)
    have G1 := Lib.hid g1
    clear h1 g1
    go_wp2
    go_end0
    exact ⟨rfl, v1, H1.out, G1.out⟩

set_option maxRecDepth 100000 in
set_option maxHeartbeats 400000 in
theorem live_any {w : World} {p : Nat} {v : Value} {l : List Int} {bad : Bool} (h : WS w p v l bad) (m : Lv) (hm : lvI m) (hl : l.length ≤ 90000) :
    Calls Tryz.prog 138 #[.pointer (some ⟨p, 0, none⟩), .agg (lvV m).toArray] w (WPost p w v (l ++ lvL m) (bad || !lvB m)) := by
  obtain ⟨a, b, c, d⟩ := m
  obtain ⟨ia, ib, ic⟩ := hm
  simp only at ia ib ic
  have H0 : Hd w p v w.heap.size (.cells #[.int .i64 a, .int .i64 b, .int .i64 c, .bool d] 201) (w.alloc (.cells #[.int .i64 a, .int .i64 b, .int .i64 c, .bool d] 201)) v l bad := Hd.init h _
  have HH := Lib.hid H0
  clear h H0
  show Calls _ _ #[_, .agg #[.int .i64 a, .int .i64 b, .int .i64 c, .bool d]] _ _
  go_enter Tryz.func138, Tryz.ntmps138
  go_wp2_with fail
  refine (number_1 HH.out.ws a ia.1 ia.2 (by omega)).mono ?_
  rintro e w1 ⟨rfl, v1, h1, g1⟩
  have H1 := HH.out.step h1 g1
  have k1 := H1.c 1
  have HH1 := Lib.hid H1
  clear H1 h1 g1
  go_wp2_with fail
  refine (number_3 HH1.out.ws b ib.1 ib.2 (by simp [numL_len]; omega)).mono ?_
  rintro e w2 ⟨rfl, v2, h2, g2⟩
  have H2 := HH1.out.step h2 g2
  have k2 := H2.c 2
  have HH2 := Lib.hid H2
  clear H2 h2 g2 k1
  go_wp2_with fail
  refine (number_3 HH2.out.ws c ic.1 ic.2 (by simp [numL_len]; omega)).mono ?_
  rintro e w3 ⟨rfl, v3, h3, g3⟩
  have H3 := HH2.out.step h3 g3
  have k3 := H3.c 3
  have HH3 := Lib.hid H3
  clear H3 h3 g3 k2
  go_wp2_with fail
  refine (flag_any HH3.out.ws d (by simp [numL_len]; omega)).mono ?_
  rintro e w4 ⟨rfl, v4, h4, g4⟩
  have HH4 := Lib.hid (HH3.out.step h4 g4)
  clear k3 h4 g4
  go_wp2
  go_end0
  exact HH4.out.post (by simp [lvL]) (by rw [or_not2, or_not2]; simp [lvB, Bool.and_assoc])

set_option maxRecDepth 100000 in
set_option maxHeartbeats 400000 in
theorem dirty_any {w : World} {p : Nat} {v : Value} {l : List Int} {bad : Bool} (h : WS w p v l bad) (m : Dt) (hm : dtI m) (hl : l.length ≤ 90000) :
    Calls Tryz.prog 140 #[.pointer (some ⟨p, 0, none⟩), .agg (dtV m).toArray] w (WPost p w v (l ++ dtL m) (bad || !dtB m)) := by
  obtain ⟨a, b⟩ := m
  obtain ⟨ia, ib⟩ := hm
  simp only at ia ib
  have H0 : Hd w p v w.heap.size (.cells #[.int .i64 a, .int .i64 b] 74) (w.alloc (.cells #[.int .i64 a, .int .i64 b] 74)) v l bad := Hd.init h _
  have HH := Lib.hid H0
  clear h H0
  show Calls _ _ #[_, .agg #[.int .i64 a, .int .i64 b]] _ _
  go_enter Tryz.func140, Tryz.ntmps140
  go_wp2_with fail
  refine (number_1 HH.out.ws a ia.1 ia.2 (by omega)).mono ?_
  rintro e w1 ⟨rfl, v1, h1, g1⟩
  have H1 := HH.out.step h1 g1
  have k1 := H1.c 1
  have HH1 := Lib.hid H1
  clear H1 h1 g1
  go_wp2_with fail
  refine (number_3 HH1.out.ws b ib.1 ib.2 (by simp [numL_len]; omega)).mono ?_
  rintro e w2 ⟨rfl, v2, h2, g2⟩
  have HH2 := Lib.hid (HH1.out.step h2 g2)
  clear k1 h2 g2
  go_wp2
  go_end0
  exact HH2.out.post (by simp [dtL]) (or_not2 _ _ _)

end Go.Proofs.YtljbhdldfffpfaaGreat
