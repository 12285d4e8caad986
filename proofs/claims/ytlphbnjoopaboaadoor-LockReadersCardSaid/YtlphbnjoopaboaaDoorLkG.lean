/- The lock table: give, Ask. -/
import Derived.Test.YtlphbnjoopaboaaDoorLkW
namespace Go.Proofs.YtlphbnjoopaboaaDoor
open Go.RowKit Go.Maps Go.WideMaps

theorem MM.isMap {w : World} {P : Program} {k1 k2 b n : Nat} {F : Lit → Lit → Option Value} {ob : Lit → Option Nat} (h : MM w P k1 k2 b n F ob) {c : Nat} (hc : MMb b ob c) {cs : Array Value} {t : TypeId} {f : Nat × Nat} (hp : w.heap[c]? = some (.cells cs t f)) : False := by
  rcases hc with rfl | ⟨l, hl⟩
  · obtain ⟨D, ⟨es, clock, h1, _⟩, _⟩ := h.out
    rw [hp] at h1; cases h1
  · obtain ⟨D, ⟨es, clock, h1, _⟩, _⟩ := h.inn l c hl
    rw [hp] at h1; cases h1

theorem way_any (w : World) {B p bm bn n : Nat} {M N : Lit → Lit → Option Value} {om on : Lit → Option Nat} (h : LkAt w B p bm bn n M N om on) {s : ByteArray} (hs : s.size ≤ maxLen) (i : Int) {m : Nat} (hm5 : m < 5) (hn : n ≤ 1000) :
    Calls Tryd.prog 12 #[.pointer (some ⟨p, 0, none⟩), .int .i64 i, .string s, .int .i64 (m : Int)] w fun e w' => ∃ v L, e = .returned v ∧ Ways M (sL s) i m L ∧ SlR w' w.heap.size v L ∧ Below w.heap.size w w' := by
  cases ho : om (sL s) with
  | none => exact (way_nil w h hs i m ho).mono fun e w' k => ⟨_, [], k.1, k.2.1, World.ownsRow_nil _ _ _ _, k.2.2⟩
  | some c => exact way_some w h hs i hm5 hn ho

theorem clone_any (w : World) {s : ByteArray} (hs : s.size ≤ 1000) : Calls Tryd.prog 18 #[.string s] w fun e w' => e = .returned (.string s) ∧ Below w.heap.size w w' := by
  have C := Tryd.stringslite_Clone s w (by omega)
  clear hs
  go_enter Tryd.func18, Tryd.ntmps18
  go_wp2_with (first | (go_at_call 29; refine C.mono ?_; rintro e w' ⟨rfl, hb⟩))
  go_ret
  exact ⟨rfl, hb⟩

theorem LkAt.putM {w w' : World} {B p bm bn n : Nat} {M N : Lit → Lit → Option Value} {om on om' : Lit → Option Nat} (h : LkAt w B p bm bn n M N om on) {l j : Lit} {m : Nat} (hm1 : 1 ≤ m) (hm5 : m < 5)
    (h1 : MM w' Tryd.prog 9 3 bm (n + 2) (upd2 M l j (.int .i64 (m : Int))) om') (h2 : ∀ c, MMb bm om' c → B ≤ c) (h3 : Fr w.heap.size (MMb bm om) w w') (h4 : ∀ c, MMb bm om' c → MMb bm om c ∨ w.heap.size ≤ c) :
    LkAt w' B p bm bn (n + 2) (upd2 M l j (.int .i64 (m : Int))) N om' on ∧ Below B w w' := by
  have hbel : Below B w w' := h3.below h.bw h.hm
  have hp : w'.heap[p]? = w.heap[p]? := h3.block p h.plt (fun e => h.m.isMap e h.hp)
  have hN : MM w' Tryd.prog 3 9 bn n N on := h.nn.kept fun c hc => h3.block c (h.nn.lt hc) (fun e => h.sep c e hc)
  refine ⟨⟨h.tb.below hbel h.b2, h.b2, Nat.le_trans h.bw h3.size, h.pb, hp.trans h.hp, h1, ⟨hN.out.mono (by omega), fun l c e => (hN.inn l c e).mono (by omega), hN.non, hN.inj, hN.ne⟩, h2, h.hn, fun c hc hc' => ?_, fun l' j' v hv => ?_⟩, hbel⟩
  · rcases h4 c hc with e | e
    · exact h.sep c e hc'
    · have := h.nn.lt hc'; omega
  · unfold upd2 at hv
    by_cases e : l' = l
    · subst e
      rw [updL_same] at hv
      by_cases e2 : j' = j
      · subst e2
        rw [updL_same] at hv
        exact ⟨m, hm1, hm5, (Option.some.inj hv).symm⟩
      · rw [updL_other _ e2] at hv
        exact h.mo _ _ _ hv
    · rw [updL_other _ e] at hv
      exact h.mo _ _ _ hv
theorem LkAt.putN {w w' : World} {B p bm bn n : Nat} {M N N' : Lit → Lit → Option Value} {om on on' : Lit → Option Nat} (h : LkAt w B p bm bn n M N om on)
    (h1 : MM w' Tryd.prog 3 9 bn (n + 2) N' on') (h2 : ∀ c, MMb bn on' c → B ≤ c) (h3 : Fr w.heap.size (MMb bn on) w w') (h4 : ∀ c, MMb bn on' c → MMb bn on c ∨ w.heap.size ≤ c) :
    LkAt w' B p bm bn (n + 2) M N' om on' ∧ Below B w w' := by
  have hbel : Below B w w' := h3.below h.bw h.hn
  have hp : w'.heap[p]? = w.heap[p]? := h3.block p h.plt (fun e => h.nn.isMap e h.hp)
  have hM : MM w' Tryd.prog 9 3 bm n M om := h.m.kept fun c hc => h3.block c (h.m.lt hc) (fun e => h.sep c hc e)
  refine ⟨⟨h.tb.below hbel h.b2, h.b2, Nat.le_trans h.bw h3.size, h.pb, hp.trans h.hp, ⟨hM.out.mono (by omega), fun l c e => (hM.inn l c e).mono (by omega), hM.non, hM.inj, hM.ne⟩, h1, h.hm, h2, fun c hc hc' => ?_, h.mo⟩, hbel⟩
  rcases h4 c hc' with e | e
  · exact h.sep c hc e
  · have := h.m.lt hc; omega

theorem give_any (w : World) {B p bm bn n : Nat} {M N : Lit → Lit → Option Value} {om on : Lit → Option Nat} (h : LkAt w B p bm bn n M N om on) {s : ByteArray} (hs : s.size ≤ 1000) {i : Int} (hi : (Lit.int .i64 i).wf = true) {m : Nat} (hm1 : 1 ≤ m) (hm5 : m < 5) (hn : n < 900) :
    Calls Tryd.prog 13 #[.pointer (some ⟨p, 0, none⟩), .int .i64 i, .string s, .int .i64 (m : Int)] w fun e w' => e = .returned (.tuple #[]) ∧ ∃ om' on', LkAt w' B p bm bn (n + 4) (upd2 M (sL s) (iL i) (.int .i64 (m : Int))) (upd2 N (iL i) (sL s) (.agg #[])) om' on' ∧ Below B w w' := by
  have hsm : s.size ≤ maxLen := by unfold maxLen; omega
  have c0 := h.c0
  have q1 := eqS 33 (Or.inr (Or.inr rfl)) bm
  have H := Lib.hid h
  clear h
  have hzb : ∀ w, (Instr.build 51 #[]).run Tryd.prog w = .ok (.agg #[]) w := fun w => by kernel_rfl
  go_enter Tryd.func13, Tryd.ntmps13
  go_upto_region 3 with (first | (go_at_call 18; refine (clone_any w hs).mono ?_; rintro e w1 ⟨rfl, hb1⟩))
  have h1 := H.out.on_ hb1
  have c1 := h1.c0
  have HB1 : Hid (Below B w w1) := hb1.mono H.out.bw
  have H1 := Lib.hid h1
  clear c0 q1 h1 hb1 H
  go_upto_region 4 with (first | (go_at_call 22; refine (putM_any w1 H1.out.m H1.out.hm H1.out.bw (by omega) hsm hi).mono ?_; rintro e w2 ⟨rfl, om', g1, g2, g3, g4⟩))
  obtain ⟨h2, hb2⟩ := H1.out.putM hm1 hm5 g1 g2 g3 g4
  have c2 := h2.c1
  have H2 := Lib.hid h2
  have HB2 : Hid (Below B w w2) := HB1.out.trans hb2
  clear c1 H1 HB1 g1 g2 g3 g4 h2 hb2
  go_wp2_with (first | (go_at_call 23; refine (putN_any w2 H2.out.nn H2.out.hn H2.out.bw (by omega) hsm hi).mono ?_; rintro e w3 ⟨rfl, on', g1, g2, g3, g4⟩))
  go_end0
  obtain ⟨h3, hb3⟩ := H2.out.putN g1 g2 g3 g4
  exact ⟨rfl, om', on', h3, HB2.out.trans hb3⟩

theorem jN5 {a b : Nat} (ha : a < 5) (hb : b < 5) : jN a b < 5 := jN_lt ⟨a, ha⟩ ⟨b, hb⟩
theorem jN1 {a b : Nat} (ha : a < 5) (ha1 : 1 ≤ a) (hb : b < 5) : 1 ≤ jN a b := by
  have : ∀ a : Fin 5, ∀ b : Fin 5, 1 ≤ a.1 → 1 ≤ jN a b := by decide
  exact this ⟨a, ha⟩ ⟨b, hb⟩ ha1

theorem ask_ok (w : World) {B p bm bn n : Nat} {M N : Lit → Lit → Option Value} {om on : Lit → Option Nat} (h : LkAt w B p bm bn n M N om on) {s : ByteArray} (hs : s.size ≤ 1000) {i : Int} (hi : (Lit.int .i64 i).wf = true) {a q : Nat} (ha1 : 1 ≤ a) (ha5 : a < 5) (hn : n < 900)
    (hq : jN a (mN M (sL s) (iL i)) = q) (hno : ∀ x, ¬ Cond M (sL s) i q x) :
    Calls Tryd.prog 7 #[.pointer (some ⟨p, 0, none⟩), .int .i64 i, .string s, .int .i64 (a : Int)] w fun e w' => e = .returned (.tuple #[.slice none 0 0, .bool true]) ∧ ∃ om' on', LkAt w' B p bm bn (n + 4) (upd2 M (sL s) (iL i) (.int .i64 (q : Int))) (upd2 N (iL i) (sL s) (.agg #[])) om' on' ∧ Below B w w' := by
  have hsm : s.size ≤ maxLen := by unfold maxLen; omega
  have hv := (h.val (sL s) (iL i)).2.1
  have CH := held_any w h hsm hi
  have CW := wanted_any w h.tb ha5 ha1 hv
  have hq5 : q < 5 := hq ▸ jN5 ha5 hv
  have hq1 : 1 ≤ q := hq ▸ jN1 ha5 ha1 hv
  rw [hq] at CW
  generalize mN M (sL s) (iL i) = z at *
  have CY := way_any w h hsm i hq5 (by omega)
  have HNO := Lib.hid hno
  have H := Lib.hid h
  clear hq hv h hno
  go_enter Tryd.func7, Tryd.ntmps7
  go_upto_region 5 with (first
    | (go_at_call 9; refine CH.mono ?_; rintro e w1 ⟨rfl, hw⟩; obtain rfl := hw.symm; clear hw)
    | (go_at_call 11; refine CW.mono ?_; rintro e w1 ⟨rfl, hw⟩; obtain rfl := hw.symm; clear hw)
    | (go_at_call 12; refine CY.mono ?_; rintro e w1 ⟨v, L, rfl, hW, hL, hb1⟩))
  obtain rfl : L = [] := by
    cases L with
    | nil => rfl
    | cons x L => exact absurd ((hW.iff x).1 (by simp)) (HNO.out x)
  obtain ⟨pt, cp, rfl⟩ := owns_slice hL
  have h1 := H.out.on_ hb1
  have CG := give_any w1 h1 hs hi hq1 hq5 hn
  have HB1 : Hid (Below B w w1) := hb1.mono H.out.bw
  clear hW hL hb1 h1 CH CW CY H HNO
  dsimp only [List.length_nil]
  go_wp2_with (first
    | (go_at_call 13; refine CG.mono ?_; rintro e w2 ⟨rfl, om', on', h2, hb2⟩))
  exact bodyPost_ret (v := .tuple #[.slice none 0 0, .bool true]) (by simp [results, Tryd.results7, go_sem]) rfl ⟨rfl, om', on', h2, HB1.out.trans hb2⟩

theorem ask_no (w : World) {B p bm bn n : Nat} {M N : Lit → Lit → Option Value} {om on : Lit → Option Nat} (h : LkAt w B p bm bn n M N om on) {s : ByteArray} (hs : s.size ≤ 1000) {i : Int} (hi : (Lit.int .i64 i).wf = true) {a q : Nat} (ha1 : 1 ≤ a) (ha5 : a < 5) (hn : n < 900)
    (hq : jN a (mN M (sL s) (iL i)) = q) {x0 : Int} (hyes : Cond M (sL s) i q x0) :
    Calls Tryd.prog 7 #[.pointer (some ⟨p, 0, none⟩), .int .i64 i, .string s, .int .i64 (a : Int)] w fun e w' => ∃ v L, e = .returned (.tuple #[v, .bool false]) ∧ Ways M (sL s) i q L ∧ SlR w' w.heap.size v L ∧ Below w.heap.size w w' := by
  have hsm : s.size ≤ maxLen := by unfold maxLen; omega
  have hv := (h.val (sL s) (iL i)).2.1
  have CH := held_any w h hsm hi
  have CW := wanted_any w h.tb ha5 ha1 hv
  have hq5 : q < 5 := hq ▸ jN5 ha5 hv
  rw [hq] at CW
  generalize mN M (sL s) (iL i) = z at *
  have CY := way_any w h hsm i hq5 (by omega)
  have HY := Lib.hid hyes
  clear hq hv h hyes
  go_enter Tryd.func7, Tryd.ntmps7
  go_upto_region 5 with (first
    | (go_at_call 9; refine CH.mono ?_; rintro e w1 ⟨rfl, hw⟩; obtain rfl := hw.symm; clear hw)
    | (go_at_call 11; refine CW.mono ?_; rintro e w1 ⟨rfl, hw⟩; obtain rfl := hw.symm; clear hw)
    | (go_at_call 12; refine CY.mono ?_; rintro e w1 ⟨v, L, rfl, hW, hL, hb1⟩))
  have hpos : 0 < L.length := by
    have := (hW.iff x0).2 HY.out
    cases L with
    | nil => cases this
    | cons x L => simp
  obtain ⟨pt, cp, rfl⟩ := owns_slice hL
  have hposI : (0 : Int) < (L.length : Int) := by omega
  have HW := Lib.hid hW
  have HL := Lib.hid hL
  clear hW hL CH CW CY HY hpos
  go_wp2
  exact bodyPost_ret (v := .tuple #[.slice pt L.length cp, .bool false]) (by simp [results, Tryd.results7, go_sem]) rfl ⟨_, L, rfl, HW.out, HL.out, hb1⟩
end Go.Proofs.YtlphbnjoopaboaaDoor
