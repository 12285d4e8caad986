/- The graph in memory: Set, Clear. -/
import Derived.Test.YtcfibmbeojdifaaWtG
namespace Go.Proofs.Ytcfibmbeojdifaa
open Go.RowKit Go.Maps Go.WideMaps

/-- A slice of numbers: any that reads L. -/
def RdI (w : World) (v : Value) (L : List Int) : Prop := ∃ A c, v = .slice A L.length c ∧ ∀ j (h : j < L.length), ∃ g o, A = some ⟨g, o, none⟩ ∧ g < w.heap.size ∧ w.cell? ⟨g, o + j, none⟩ = some (.int .i64 L[j])
theorem rdI_nil (w : World) (A : Option Addr) (c : Nat) : RdI w (.slice A 0 c) [] := ⟨A, c, rfl, fun j h => by simp at h⟩
theorem RdI.below {B : Nat} {w w' : World} {v : Value} {L : List Int} (h : RdI w v L) (hb : Below B w w') (hB : w.heap.size ≤ B) : RdI w' v L := by
  obtain ⟨A, c, rfl, hA⟩ := h
  refine ⟨A, c, rfl, fun j hj => ?_⟩
  obtain ⟨g, o, e, hg, hc⟩ := hA j hj
  exact ⟨g, o, e, Nat.lt_of_lt_of_le hg hb.size, (hb.cell (p := ⟨g, o + j, none⟩) (Nat.lt_of_lt_of_le hg hB)).trans hc⟩
theorem RdI.some {w : World} {v : Value} {L : List Int} (h : RdI w v L) (hl : L ≠ []) : ∃ g o c, v = .slice (some ⟨g, o, none⟩) L.length c ∧ g < w.heap.size ∧ ∀ j (h : j < L.length), w.cell? ⟨g, o + j, none⟩ = some (.int .i64 L[j]) := by
  obtain ⟨A, c, rfl, hA⟩ := h
  have h0 : 0 < L.length := List.length_pos_iff.2 hl
  obtain ⟨g, o, rfl, hg, _⟩ := hA 0 h0
  refine ⟨g, o, c, rfl, hg, fun j hj => ?_⟩
  obtain ⟨g', o', e, _, hc⟩ := hA j hj
  cases e
  exact hc
def ivN (v : Value) : Nat := match v with | .int _ k => k.toNat | _ => 0

/-- From w to w' nothing that was there has turned but the graph's own maps. -/
structure Tn (w w' : World) (b : Nat) (ob ob' : Lit → Option Nat) : Prop where
  fr : Fr w.heap.size (MMb b ob) w w'
  mem : ∀ c, MMb b ob' c → MMb b ob c ∨ w.heap.size ≤ c
theorem Tn.trans {w w' w'' : World} {b : Nat} {ob ob' ob'' : Lit → Option Nat} (h : Tn w w' b ob ob') (k : Tn w' w'' b ob' ob'') : Tn w w'' b ob ob'' := by
  have hs := h.fr.size
  refine ⟨⟨k.fr.os.trans h.fr.os, k.fr.tape.trans h.fr.tape, k.fr.output.trans h.fr.output, Nat.le_trans hs k.fr.size, fun j hj hn => ?_⟩, fun c hc => ?_⟩
  · exact (k.fr.block j (by omega) fun e => (h.mem j e).elim hn (by omega)).trans (h.fr.block j hj hn)
  · rcases k.mem c hc with e | e
    · exact h.mem c e
    · exact Or.inr (by omega)
theorem Tn.ofBelow {w w' : World} (b : Nat) (ob : Lit → Option Nat) (h : Below w.heap.size w w') : Tn w w' b ob ob := ⟨⟨h.os, h.tape, h.output, h.size, fun k hk _ => h.block k hk⟩, fun _ hc => Or.inl hc⟩
theorem Tn.below {w w' : World} {B p b n : Nat} {es : List (Int × Int)} {ob ob' : Lit → Option Nat} (h : Tn w w' b ob ob') (g : GrAt w B p b n es ob) : Below B w w' := h.fr.below g.bw g.hm
theorem Fr.ofBelow {w w' : World} (S : Nat → Prop) (h : Below w.heap.size w w') : Fr w.heap.size S w w' := ⟨h.os, h.tape, h.output, h.size, fun k hk _ => h.block k hk⟩
theorem delO_mem {b : Nat} {ob : Lit → Option Nat} {l : Lit} {c : Nat} (h : MMb b (delO ob l) c) : MMb b ob c := by
  rcases h with rfl | ⟨j, hj⟩
  · exact Or.inl rfl
  · refine Or.inr ⟨j, ?_⟩
    unfold delO at hj
    by_cases e : j = l
    · subst e; rw [updL_same] at hj; cases hj
    · rw [updL_other _ e] at hj; exact hj
theorem putO_mem {b : Nat} {ob : Lit → Option Nat} {l : Lit} {c d : Nat} (h : MMb b (updL ob l (some d)) c) : MMb b ob c ∨ c = d := by
  rcases h with rfl | ⟨j, hj⟩
  · exact Or.inl (Or.inl rfl)
  · by_cases e : j = l
    · subst e; rw [updL_same] at hj; exact Or.inr (Option.some.inj hj).symm
    · rw [updL_other _ e] at hj; exact Or.inl (Or.inr ⟨j, hj⟩)

/-- The new row is put, and tidied. -/
theorem GrAt.put_row {w w' : World} {B p b n m : Nat} {es : List (Int × Int)} {ob : Lit → Option Nat} (h : GrAt w B p b n es ob) {x : Int} (hx : Wf x) {on : List Int} (hon : ∀ y ∈ on, Wf y) {c : Nat} (hcB : B ≤ c) (hc : ∀ d, MMb b ob d → d ≠ c) (ht : w.mapTurned w' b)
    (ho : gm w' Try.prog 3 b (n + 1) (updL (fun l => (ob l).map fun c => .map (some c)) (iL x) (some (.map (some c))))) (hi : gm w Try.prog 3 c m (delF (rF on) (iL x))) :
    GrAt w' B p b (n + m + 1) (setE es x on) (updL ob (iL x) (some c)) := by
  refine ⟨by rw [turned_size ht]; exact h.bw, h.pb, (block_turned ht (fun e => h.m.isMap (Or.inl rfl) (e ▸ h.hp))).trans h.hp, (h.m.put_row hc ht ho hi).congr fun l j => ?_, fun d hd => ?_, fun q hq => ?_⟩
  · by_cases e : l = iL x
    · subst e
      rw [updL_same]
      unfold delF
      by_cases hj : ∃ y, j = iL y
      · obtain ⟨y, rfl⟩ := hj
        rw [gF_some]
        by_cases e2 : y = x
        · subst e2
          rw [updL_same, if_neg]
          rw [mem_setE]
          simp
        · rw [updL_other _ (iL_ne e2), rF_in]
          by_cases hm : y ∈ on
          · rw [if_pos hm, if_pos (mem_setE.2 (Or.inr ⟨rfl, hm, e2⟩))]
          · rw [if_neg hm, if_neg]
            rw [mem_setE]
            simp [hm]
      · have h' : ∀ y, j ≠ iL y := fun y e => hj ⟨y, e⟩
        rw [updL_other _ (h' x), rF_out h', gF_out fun a y _ e2 => absurd e2 (h' y)]
    · rw [updL_other _ e]
      refine gF_eq _ _ fun x' y' e3 e4 => ?_
      have : x' ≠ x := by rintro rfl; exact e e3
      rw [mem_setE]
      simp [this]
  · rcases hd with rfl | ⟨l, hl⟩
    · exact h.hm _ (Or.inl rfl)
    · by_cases e : l = iL x
      · subst e; rw [updL_same] at hl; cases hl; exact hcB
      · rw [updL_other _ e] at hl; exact h.hm d (Or.inr ⟨l, hl⟩)
  · obtain ⟨a, y⟩ := q
    rcases mem_setE.1 hq with ⟨h1, _⟩ | ⟨rfl, h2, _⟩
    · exact h.wf _ h1
    · exact ⟨hx, hon _ h2⟩
theorem GrAt.tidied {w w' : World} {B p b n : Nat} {es : List (Int × Int)} {ob : Lit → Option Nat} (h : GrAt w B p b n es ob) {x : Int} (hx : Wf x)
    (ht : w' = w ∨ ((∀ y, (x, y) ∉ es) ∧ ∀ ty, (Builtin.delete_ #[48, 3] ty #[.map (some b), .int .i64 x]).run Try.prog w = .ok (.tuple #[]) w')) : ∃ ob', GrAt w' B p b n es ob' ∧ Tn w w' b ob ob' := by
  rcases ht with rfl | ⟨hno, hr⟩
  · exact ⟨ob, h, Tn.ofBelow _ _ (Below.refl _ _)⟩
  · obtain ⟨w1, r1, g1, t1⟩ := h.m.out.drop kI Try.underlying48 (keyI hx)
    have e := (hr 0).symm.trans (r1 0)
    injection e with _ e
    subst e
    refine ⟨_, (h.del_out t1 g1).eqv fun x' y' => ?_, ⟨(Fr.refl _ _ w).turned (Or.inl (Or.inl rfl)) t1, fun c hc => Or.inl (delO_mem hc)⟩⟩
    simp only [List.mem_filter, decide_eq_true_eq]
    exact ⟨fun h => h.1, fun h => ⟨h, fun e => hno y' (e ▸ h)⟩⟩

theorem GrAt.kept {w w' : World} {B p b n : Nat} {es : List (Int × Int)} {ob : Lit → Option Nat} (h : GrAt w B p b n es ob) (hsz : w.heap.size ≤ w'.heap.size) (hb : ∀ d, MMb b ob d ∨ d = p → w'.heap[d]? = w.heap[d]?) : GrAt w' B p b n es ob :=
  ⟨Nat.le_trans h.bw hsz, h.pb, (hb p (Or.inr rfl)).trans h.hp, h.m.kept fun c hc => hb c (Or.inl hc), h.hm, h.wf⟩
theorem below_turned {w w' : World} {B c : Nat} (ht : w.mapTurned w' c) (hc : B ≤ c) : Below B w w' := ((Fr.refl B (fun k => k = c) w).turned (Or.inl rfl) ht).below (Nat.le_refl _) (fun _ e => e ▸ hc)
/-- Behind the loop: delete who, put the row, tidy: plainly. -/
structure Laid (w : World) (B p b n c m : Nat) (es : List (Int × Int)) (ob : Lit → Option Nat) (on : List Int) : Prop where
  g : GrAt w B p b n es ob
  s : gm w Try.prog 3 c m (rF on)
  hcB : B ≤ c
  hc : ∀ d, MMb b ob d → d ≠ c
theorem Laid.np {w : World} {B p b n c m : Nat} {es : List (Int × Int)} {ob : Lit → Option Nat} {on : List Int} (h : Laid w B p b n c m es ob on) : p ≠ c := by
  rintro rfl
  obtain ⟨D, ⟨es, clock, h1, _⟩, _⟩ := h.s
  rw [h.g.hp] at h1; cases h1
theorem Laid.turned {w w' : World} {B p b n c m : Nat} {es : List (Int × Int)} {ob : Lit → Option Nat} {on : List Int} (h : Laid w B p b n c m es ob on) (ht : w.mapTurned w' c) : GrAt w' B p b n es ob :=
  h.g.kept (Nat.le_of_eq (turned_size ht).symm) fun d hd => block_turned ht (by rcases hd with hd | rfl; exact h.hc d hd; exact h.np)

set_option maxRecDepth 100000 in
set_option maxHeartbeats 1000000 in
theorem set_nil (w : World) {B p b n : Nat} {es : List (Int × Int)} {ob : Lit → Option Nat} (h : GrAt w B p b n es ob) (hn : n < 100000) {x : Int} (hx : Wf x) (A : Option Addr) (cap : Nat) :
    Calls Try.prog 13 #[.pointer (some ⟨p, 0, none⟩), .int .i64 x, .slice A 0 cap] w fun e w' => e = .returned (.tuple #[]) ∧ ∃ ob', GrAt w' B p b (n + 0 + 1) (setE es x []) ob' ∧ Below B w w' ∧ Tn w w' b ob ob' := by
  have hon : ∀ y ∈ ([] : List Int), Wf y := fun y hy => by cases hy
  have hmk := @run_makeMap Try.prog
  have c0 := h.c0
  have q1 := eqS b
  go_enter Try.func13, Try.ntmps13
  go_upto_region 4 with fail
  have hb0 : Below w.heap.size w (w.alloc (.map #[] 0)) := (Below.refl _ _).alloc (Nat.le_refl _) _
  have L0 : Laid (w.alloc (.map #[] 0)) B p b n w.heap.size 0 es ob [] :=
    ⟨h.on_ hb0, (gm_made w Try.prog 3).congr (fun j _ => by unfold rF; rw [if_neg]; rintro ⟨y, hy, _⟩; cases hy), h.bw, fun d hd e => by have := h.m.lt hd; omega⟩
  have HL : Hid (∃ m, m ≤ 0 ∧ Laid (w.alloc (.map #[] 0)) B p b n w.heap.size m es ob []) := ⟨0, Nat.le_refl _, L0⟩
  have HB : Hid (Below w.heap.size w (w.alloc (.map #[] 0))) := hb0
  have HH := Lib.hid h
  obtain ⟨c, hc⟩ : ∃ c, c = w.heap.size := ⟨_, rfl⟩
  have HCC : Hid (w.heap.size ≤ c) := Nat.le_of_eq hc.symm
  rw [← hc] at HL ⊢
  generalize w.alloc (.map #[] 0) = wr at *
  clear hb0 L0 h c0 q1 hmk hc
  go_wp2_with fail
  refine wp_loop_rounds 1 ?_
  rw [rounds_succ]
  go_upto_region 9 with fail
  obtain ⟨m, hm, L⟩ := HL.out
  obtain ⟨w2, r2, g2, t2⟩ := L.s.drop kI Try.underlying52 (keyI hx)
  have G2 := L.turned t2
  obtain ⟨w3, r3, g3, t3⟩ := G2.m.out.store kI Try.underlying48 (by unfold maxLen; omega) (keyI hx) (.map (some c))
  have G3 := G2.put_row hx hon L.hcB L.hc t3 g3 g2
  have c2 := G2.c0
  have HT3 : Hid (Tn w w3 b ob (updL ob (iL x) (some c))) := ⟨((Fr.ofBelow (MMb b ob) HB.out).turned (Or.inr HCC.out) t2).turned (Or.inl (Or.inl rfl)) t3, fun d hd => (putO_mem hd).elim Or.inl fun e => Or.inr (e ▸ HCC.out)⟩
  have CT := tidy_any w3 G3 hx
  have H3 := Lib.hid G3
  have HX := Lib.hid hx
  have HM := Lib.hid hm
  clear G3 t3 g3 G2 g2 t2 L HL HB hm hx hn hon
  go_wp2_with (first
    | (at_delete; refine wpList_delete_run _ rfl _ _ _ _ rfl _ _ rfl rfl w2 r2 ?_)
    | (go_at_call 19; refine CT.mono ?_; rintro e w4 ⟨rfl, ht4⟩))
  go_end0
  obtain ⟨ob4, G4, hb4⟩ := H3.out.tidied HX.out ht4
  exact ⟨rfl, ob4, G4.mono (by have := HM.out; omega), (HT3.out.trans hb4).below HH.out, HT3.out.trans hb4⟩

set_option maxRecDepth 100000 in
set_option maxHeartbeats 1000000 in
theorem set_some (w : World) {B p b n : Nat} {es : List (Int × Int)} {ob : Lit → Option Nat} (h : GrAt w B p b n es ob) (hn : n < 100000) {x : Int} (hx : Wf x) {on : List Int} (hl : on ≠ []) (hlen : on.length < 1000) (hon : ∀ y ∈ on, Wf y) {g o cap : Nat} (hg : g < w.heap.size) (hrd : ∀ j (h : j < on.length), w.cell? ⟨g, o + j, none⟩ = some (.int .i64 on[j])) :
    Calls Try.prog 13 #[.pointer (some ⟨p, 0, none⟩), .int .i64 x, .slice (some ⟨g, o, none⟩) on.length cap] w fun e w' => e = .returned (.tuple #[]) ∧ ∃ ob', GrAt w' B p b (n + on.length + 1) (setE es x on) ob' ∧ Below B w w' ∧ Tn w w' b ob ob' := by
  have hmk := @run_makeMap Try.prog
  have c0 := h.c0
  have q1 := eqS b
  go_enter Try.func13, Try.ntmps13
  go_upto_region 4 with fail
  have hb0 : Below w.heap.size w (w.alloc (.map #[] 0)) := (Below.refl _ _).alloc (Nat.le_refl _) _
  have L0 : Laid (w.alloc (.map #[] 0)) B p b n w.heap.size 0 es ob [] :=
    ⟨h.on_ hb0, (gm_made w Try.prog 3).congr (fun j _ => by unfold rF; rw [if_neg]; rintro ⟨y, hy, _⟩; cases hy), h.bw, fun d hd e => by have := h.m.lt hd; omega⟩
  have hl0 : 0 < on.length := List.length_pos_iff.2 hl
  have R0 : Hid (∃ (i : Nat), i ≤ on.length ∧ Value.int .i64 0 = .int .i64 (i : Int) ∧ Laid (w.alloc (.map #[] 0)) B p b n w.heap.size i es ob (on.take i) ∧ Below w.heap.size w (w.alloc (.map #[] 0))) := ⟨0, Nat.zero_le _, rfl, L0, hb0⟩
  have HRD : Hid (∀ j (h : j < on.length), w.cell? ⟨g, o + j, none⟩ = some (.int .i64 on[j])) := hrd
  have HON := Lib.hid hon
  have HBW := Lib.hid h.bw
  have HH := Lib.hid h
  clear hb0 L0 h c0 q1 hrd hon hl
  go_wp2_with fail
  go_loopw [8, 24] (fun _ iv wr => Hid (∃ (i : Nat), i ≤ on.length ∧ iv = .int .i64 (i : Int) ∧ Laid wr B p b n w.heap.size i es ob (on.take i) ∧ Below w.heap.size w wr)) (fun _ iv _ => on.length - ivN iv)
  case atStart => exact R0
  case round =>
    obtain ⟨i, hi, rfl, L, hb⟩ := hrel.out
    clear hrel
    by_cases hlt : i < on.length
    · have hcr : wr.cell? ⟨g, o + i, none⟩ = some (.int .i64 on[i]) := (hb.cell (p := ⟨g, o + i, none⟩) hg).trans (HRD.out i hlt)
      have hw1 := HON.out on[i] (List.getElem_mem hlt)
      obtain ⟨w2, r2, g2, t2⟩ := L.s.store kI Try.underlying52 (by unfold maxLen; omega) (keyI hw1) (.agg #[])
      have hzb : (Instr.build 53 #[]).run Try.prog wr = .ok (.agg #[]) wr := by kernel_rfl
      have L2 : Laid w2 B p b n w.heap.size (i + 1) es ob (on.take (i + 1)) := ⟨L.turned t2, g2.congr fun j _ => by rw [rF_snoc, List.take_append_getElem hlt], L.hcB, L.hc⟩
      have R2 : Hid (∃ (i' : Nat), i' ≤ on.length ∧ Value.int .i64 ((i : Int) + 1) = .int .i64 (i' : Int) ∧ Laid w2 B p b n w.heap.size i' es ob (on.take i') ∧ Below w.heap.size w w2) := ⟨i + 1, hlt, rfl, L2, hb.trans (below_turned t2 (Nat.le_refl _))⟩
      have hltI : (i : Int) < (on.length : Int) := by omega
      have hiI : (i : Int) < 1000 := by omega
      have hi0 : (0 : Int) ≤ (i : Int) := by omega
      generalize on[i] = y at *
      clear L2 g2 t2 L hb hw1 HH HBW HON HRD R0 hi
      go_wp2
      go_roundw
      case rel => exact R2
      case measure => simp only [ivN]; omega
    · obtain rfl : i = on.length := by omega
      have HL : Hid (∃ m, m ≤ on.length ∧ Laid wr B p b n w.heap.size m es ob on) := ⟨on.length, Nat.le_refl _, by have := L; rw [List.take_length] at this; exact this⟩
      have HB : Hid (Below w.heap.size w wr) := hb
      obtain ⟨c, hc⟩ : ∃ c, c = w.heap.size := ⟨_, rfl⟩
      have HCC : Hid (w.heap.size ≤ c) := Nat.le_of_eq hc.symm
      rw [← hc] at HL ⊢
      clear hlt hi L hb R0 HRD HBW hmk hl0 hc
      go_upto_region 9 with fail
      obtain ⟨m, hm, L⟩ := HL.out
      obtain ⟨w2, r2, g2, t2⟩ := L.s.drop kI Try.underlying52 (keyI hx)
      have G2 := L.turned t2
      obtain ⟨w3, r3, g3, t3⟩ := G2.m.out.store kI Try.underlying48 (by unfold maxLen; omega) (keyI hx) (.map (some c))
      have G3 := G2.put_row hx HON.out L.hcB L.hc t3 g3 g2
      have c2 := G2.c0
      have HT3 : Hid (Tn w w3 b ob (updL ob (iL x) (some c))) := ⟨((Fr.ofBelow (MMb b ob) HB.out).turned (Or.inr HCC.out) t2).turned (Or.inl (Or.inl rfl)) t3, fun d hd => (putO_mem hd).elim Or.inl fun e => Or.inr (e ▸ HCC.out)⟩
      have CT := tidy_any w3 G3 hx
      have H3 := Lib.hid G3
      have HX := Lib.hid hx
      have HM := Lib.hid hm
      clear G3 t3 g3 G2 g2 t2 L HL HB hm hx hn HON
      go_wp2_with (first
        | (at_delete; refine wpList_delete_run _ rfl _ _ _ _ rfl _ _ rfl rfl w2 r2 ?_)
        | (go_at_call 19; refine CT.mono ?_; rintro e w4 ⟨rfl, ht4⟩))
      go_end0
      obtain ⟨ob4, G4, hb4⟩ := H3.out.tidied HX.out ht4
      exact ⟨rfl, ob4, G4.mono (by have := HM.out; omega), (HT3.out.trans hb4).below HH.out, HT3.out.trans hb4⟩

theorem set_any (w : World) {B p b n : Nat} {es : List (Int × Int)} {ob : Lit → Option Nat} (h : GrAt w B p b n es ob) (hn : n < 100000) {x : Int} (hx : Wf x) {v : Value} {on : List Int} (hlen : on.length < 1000) (hon : ∀ y ∈ on, Wf y) (hv : RdI w v on) :
    Calls Try.prog 13 #[.pointer (some ⟨p, 0, none⟩), .int .i64 x, v] w fun e w' => e = .returned (.tuple #[]) ∧ ∃ ob', GrAt w' B p b (n + on.length + 1) (setE es x on) ob' ∧ Below B w w' ∧ Tn w w' b ob ob' := by
  by_cases hl : on = []
  · subst hl
    obtain ⟨A, c, rfl, _⟩ := hv
    exact set_nil w h hn hx A c
  · obtain ⟨g, o, c, rfl, hg, hc⟩ := hv.some hl
    exact set_some w h hn hx hl hlen hon hg hc
theorem clear_any (w : World) {B p b n : Nat} {es : List (Int × Int)} {ob : Lit → Option Nat} (h : GrAt w B p b n es ob) (hn : n < 100000) {x : Int} (hx : Wf x) :
    Calls Try.prog 9 #[.pointer (some ⟨p, 0, none⟩), .int .i64 x] w fun e w' => e = .returned (.tuple #[]) ∧ ∃ ob', GrAt w' B p b (n + 1) (setE es x []) ob' ∧ Below B w w' ∧ Tn w w' b ob ob' := by
  have CS := set_nil w h hn hx none 0
  clear h
  go_enter Try.func9, Try.ntmps9
  go_wp2_with (first | (go_at_call 13; refine CS.mono ?_; rintro e w1 ⟨rfl, ob', h1, hb1, ht1⟩))
  go_end0
  exact ⟨rfl, ob', h1, hb1, ht1⟩
end Go.Proofs.Ytcfibmbeojdifaa
