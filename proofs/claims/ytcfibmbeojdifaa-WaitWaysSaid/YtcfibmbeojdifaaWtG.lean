/- The graph in memory: New, tidy. -/
import Derived.Test.YtcfibmbeojdifaaWtK
namespace Go.Proofs.Ytcfibmbeojdifaa
open Go.RowKit Go.Maps Go.WideMaps

/-- A graph in memory, from block B on: who waits for whom. -/
structure GrAt (w : World) (B p b n : Nat) (es : List (Int × Int)) (ob : Lit → Option Nat) : Prop where
  bw : B ≤ w.heap.size
  pb : B ≤ p
  hp : w.heap[p]? = some (.cells #[.map (some b)] 50 (0, 0))
  m : MM w Try.prog 3 3 b n (gF es) ob
  hm : ∀ c, MMb b ob c → B ≤ c
  wf : ∀ q, q ∈ es → Wf q.1 ∧ Wf q.2
section
variable {w w' : World} {B p b n : Nat} {es : List (Int × Int)} {ob : Lit → Option Nat}
theorem GrAt.plt (h : GrAt w B p b n es ob) : p < w.heap.size := (Array.getElem?_eq_some_iff.1 h.hp).1
theorem GrAt.on_ (h : GrAt w B p b n es ob) (hb : Below w.heap.size w w') : GrAt w' B p b n es ob :=
  ⟨Nat.le_trans h.bw hb.size, h.pb, (hb.block p h.plt).trans h.hp, h.m.on hb, h.hm, h.wf⟩
theorem GrAt.c0 (h : GrAt w B p b n es ob) : w.cell? ⟨p, 0, none⟩ = some (.map (some b)) := (cell_of h.hp 0).1
theorem GrAt.mono (h : GrAt w B p b n es ob) {n' : Nat} (hn : n ≤ n') : GrAt w B p b n' es ob := ⟨h.bw, h.pb, h.hp, h.m.mono hn, h.hm, h.wf⟩
theorem GrAt.look (h : GrAt w B p b n es ob) {x : Int} (hx : Wf x) : (Instr.lookup 48 (.map (some b)) (.int .i64 x) false).run Try.prog w = .ok (.map (ob (iL x))) w := by
  have k1 := h.m.out.look kI Try.underlying48 (zM w) (keyI hx)
  cases ho : ob (iL x) with
  | none => rw [ho] at k1; exact k1
  | some c => rw [ho] at k1; exact k1
/-- Something has been deleted from a row. -/
theorem GrAt.del_in (h : GrAt w B p b n es ob) {x y : Int} {c : Nat} (hx : ob (iL x) = some c) (ht : w.mapTurned w' c) (hg : gm w' Try.prog 3 c n (delF (gF es (iL x)) (iL y))) :
    GrAt w' B p b n (es.filter fun q => decide (q ≠ (x, y))) ob := by
  refine ⟨by rw [turned_size ht]; exact h.bw, h.pb, (block_turned ht (fun e => h.m.isMap (Or.inr ⟨_, hx⟩) (e ▸ h.hp))).trans h.hp, (h.m.del_in hx ht hg).congr fun l j => ?_, h.hm, fun q hq => h.wf q (List.mem_filter.1 hq).1⟩
  by_cases e : l = iL x
  · subst e
    rw [updL_same]
    unfold delF
    by_cases e2 : j = iL y
    · subst e2
      rw [updL_same, gF_some, if_neg]
      simp
    · rw [updL_other _ e2]
      refine gF_eq _ _ fun x' y' e3 e4 => ?_
      have := iL_inj e3
      subst this
      have : y' ≠ y := by rintro rfl; exact e2 e4
      simp [this]
  · rw [updL_other _ e]
    refine gF_eq _ _ fun x' y' e3 e4 => ?_
    have : x' ≠ x := by rintro rfl; exact e e3
    simp [this]
/-- A whole row has been deleted. -/
theorem GrAt.del_out (h : GrAt w B p b n es ob) {x : Int} (ht : w.mapTurned w' b) (hg : gm w' Try.prog 3 b n (delF (fun l => (ob l).map fun c => .map (some c)) (iL x))) :
    GrAt w' B p b n (es.filter fun q => decide (q.1 ≠ x)) (delO ob (iL x)) := by
  refine ⟨by rw [turned_size ht]; exact h.bw, h.pb, (block_turned ht (fun e => h.m.isMap (Or.inl rfl) (e ▸ h.hp))).trans h.hp, (h.m.del_out ht hg).congr fun l j => ?_, fun c hc => ?_, fun q hq => h.wf q (List.mem_filter.1 hq).1⟩
  · by_cases e : l = iL x
    · subst e
      rw [updL_same, gF_out]
      intro x' y' e1 e2 hm
      have := iL_inj e1
      subst this
      simp at hm
    · rw [updL_other _ e]
      refine gF_eq _ _ fun x' y' e3 e4 => ?_
      have : x' ≠ x := by rintro rfl; exact e e3
      simp [this]
  · rcases hc with rfl | ⟨l, hl⟩
    · exact h.hm _ (Or.inl rfl)
    · refine h.hm c (Or.inr ⟨l, ?_⟩)
      unfold delO at hl
      by_cases e : l = iL x
      · subst e; rw [updL_same] at hl; cases hl
      · rw [updL_other _ e] at hl; exact hl
theorem GrAt.eqv (h : GrAt w B p b n es ob) {fs : List (Int × Int)} (he : ∀ x y, (x, y) ∈ es ↔ (x, y) ∈ fs) : GrAt w B p b n fs ob :=
  ⟨h.bw, h.pb, h.hp, h.m.congr fun l j => gF_eq l j fun x y _ _ => he x y, h.hm, fun q hq => h.wf q ((he q.1 q.2).2 hq)⟩
end

theorem new_gr (w : World) : Calls Try.prog 8 #[] w fun e w' => e = .returned (.pointer (some ⟨w.heap.size + 1, 0, none⟩)) ∧ GrAt w' w.heap.size (w.heap.size + 1) w.heap.size 0 [] (fun _ => none) ∧ Below w.heap.size w w' := by
  have hmk := @run_makeMap Try.prog
  go_enter Try.func8, Try.ntmps8
  go_wp2
  go_ret
  have s1 : (w.alloc (.map #[] 0)).heap.size = w.heap.size + 1 := by simp
  have B1 : Below w.heap.size w (w.alloc (.map #[] 0)) := (Below.refl _ _).alloc (Nat.le_refl _) _
  have B2 := B1.alloc (by omega) (.cells #[.map (some w.heap.size)] 50)
  have M1 := MM.made w Try.prog 3 3
  refine ⟨rfl, ⟨B2.size, by omega, ?_, ((M1.on ((Below.refl _ _).alloc (Nat.le_refl _) _))).congr fun l j => ?_, ?_, fun q hq => by cases hq⟩, B2⟩
  · rw [← s1]; exact heap_alloc_new _ _
  · rw [gF_out]; intro x y _ _ h; cases h
  · rintro c (rfl | ⟨l, h⟩)
    · exact Nat.le_refl _
    · cases h

set_option maxRecDepth 100000 in
/-- tidy: either nothing turns, or nobody is waited for, and the row is deleted. -/
theorem tidy_any (w : World) {B p b n : Nat} {es : List (Int × Int)} {ob : Lit → Option Nat} (h : GrAt w B p b n es ob) {x : Int} (hx : Wf x) :
    Calls Try.prog 19 #[.pointer (some ⟨p, 0, none⟩), .int .i64 x] w fun e w' => e = .returned (.tuple #[]) ∧
      (w' = w ∨ ((∀ y, (x, y) ∉ es) ∧ ∀ ty, (Builtin.delete_ #[48, 3] ty #[.map (some b), .int .i64 x]).run Try.prog w = .ok (.tuple #[]) w')) := by
  have c0 := h.c0
  have k1 := h.look hx
  obtain ⟨w1, r1, _, t1⟩ := h.m.out.drop kI Try.underlying48 (keyI hx)
  obtain ⟨s, hs, hrow⟩ : ∃ s : Nat, (∀ ty, (Builtin.len_ #[52] ty #[.map (ob (iL x))]).run Try.prog w = .ok (.int .i64 (s : Int)) w) ∧ (s = 0 → ∀ y, (x, y) ∉ es) := by
    cases ho : ob (iL x) with
    | none =>
      refine ⟨0, fun ty => Maps.len_nil Try.underlying52 ty, fun _ y hy => ?_⟩
      have := gF_in hy
      rw [h.m.non _ ho] at this
      cases this
    | some c =>
      obtain ⟨s, h1, _, h2⟩ := (h.m.inn _ _ ho).len Try.underlying52
      refine ⟨s, h1, fun h0 y hy => ?_⟩
      have := gF_in hy
      rw [h2 h0 (iL y) trivial] at this
      cases this
  generalize ob (iL x) = o at *
  have c1 : w.cell? ⟨p, 0, none⟩ = some (.map (some b)) := c0
  have HD := Lib.hid r1
  clear h r1
  by_cases e : s = 0
  · have HR := Lib.hid (hrow e)
    clear hrow
    subst e
    rw [show ((0 : Nat) : Int) = 0 from rfl] at hs
    go_enter Try.func19, Try.ntmps19
    go_wp2_with (first
      | (at_len; refine wpList_len_run _ rfl _ _ rfl _ _ rfl hs ?_)
      | (at_delete; refine wpList_delete_run _ rfl _ _ _ _ rfl _ _ rfl rfl w1 HD.out ?_))
    go_end0
    exact ⟨rfl, Or.inr ⟨HR.out, HD.out⟩⟩
  · clear hrow
    have e' : ¬ (s : Int) = 0 := by omega
    go_enter Try.func19, Try.ntmps19
    go_wp2_with (first
      | (at_len; refine wpList_len_run _ rfl _ _ rfl _ _ rfl hs ?_))
    go_end0
    exact ⟨rfl, Or.inl rfl⟩
end Go.Proofs.Ytcfibmbeojdifaa
