/- WaitAll: a nil graph; both graphs side by side; the deeds that come in. -/
import Derived.Test.YtcfibmbeojdifaaWtJ
namespace Go.Proofs.Ytcfibmbeojdifaa
open Go.RowKit Go.Maps Go.WideMaps Go.ChangeShapes Go.WideShapes Go.ChangeAt Go.Deep

theorem set_np (w : World) (x : Int) (A : Option Addr) (n c : Nat) : Calls Try.prog 13 #[.pointer none, .int .i64 x, .slice A n c] w fun e w' => e = .returned (.tuple #[]) ∧ w' = w := by
  go_enter Try.func13, Try.ntmps13
  go_wp2
  exact bodyPost_ret (v := .tuple #[]) (by simp [results, Try.results13, go_sem]) rfl ⟨rfl, rfl⟩
theorem clear_np (w : World) (x : Int) : Calls Try.prog 9 #[.pointer none, .int .i64 x] w fun e w' => e = .returned (.tuple #[]) ∧ w' = w := by
  have CS := set_np w x none 0 0
  go_enter Try.func9, Try.ntmps9
  go_wp2_with (first | (go_at_call 13; refine CS.mono ?_; rintro e w1 ⟨rfl, hw⟩; obtain rfl := hw.symm; clear hw))
  go_end0
  exact ⟨rfl, rfl⟩
theorem gone_np (w : World) (x : Int) : Calls Try.prog 11 #[.pointer none, .int .i64 x] w fun e w' => e = .returned (.tuple #[]) ∧ w' = w := by
  go_enter Try.func11, Try.ntmps11
  go_wp2
  exact bodyPost_ret (v := .tuple #[]) (by simp [results, Try.results11, go_sem]) rfl ⟨rfl, rfl⟩
theorem on_np (w : World) (x : Int) : Calls Try.prog 15 #[.pointer none, .int .i64 x] w fun e w' => e = .returned (.slice none 0 0) ∧ w' = w := by
  go_enter Try.func15, Try.ntmps15
  go_wp2
  go_ret
  exact ⟨rfl, rfl⟩
theorem cycle_np (w : World) (x : Int) : Calls Try.prog 17 #[.pointer none, .int .i64 x] w fun e w' => e = .returned (.bool false) ∧ w' = w := by
  go_enter Try.func17, Try.ntmps17
  go_wp2
  go_ret
  exact ⟨rfl, rfl⟩

/-- Both graphs side by side. -/
structure Bt (W w : World) (B p b n B2 p2 : Nat) (es : List (Int × Int)) (ob : Lit → Option Nat) : Prop where
  g : GrAt W B p b n es ob
  r : RG W B2 p2 es
  bl : Below w.heap.size w W
  b1 : w.heap.size ≤ B
  b2 : w.heap.size ≤ B2
section
variable {W W' w : World} {B p b n B2 p2 : Nat} {es es' : List (Int × Int)} {ob ob' : Lit → Option Nat}
theorem Bt.on_ (h : Bt W w B p b n B2 p2 es ob) (hb : Below W.heap.size W W') : Bt W' w B p b n B2 p2 es ob := ⟨h.g.on_ hb, h.r.on_ hb, h.bl.trans (hb.mono h.bl.size), h.b1, h.b2⟩
theorem cells_kept_tn (g : GrAt W B p b n es ob) (t : Tn W W' b ob ob') {q : Nat} {cs : Array Value} {T : TypeId} (hq : W.heap[q]? = some (.cells cs T (0, 0))) : W'.heap[q]? = some (.cells cs T (0, 0)) :=
  (t.fr.block q (lt_of_heap hq) fun e => g.m.isMap e hq).trans hq
theorem RG.tn (h : RG W B2 p2 es') (g : GrAt W B p b n es ob) (t : Tn W W' b ob ob') : RG W' B2 p2 es' := by
  obtain ⟨v, h1, h2⟩ := h.ex
  refine ⟨Nat.le_trans h.bw t.fr.size, h.pb, v, cells_kept_tn g t h1, ?_⟩
  refine ⟨h2.1, ?_⟩
  rcases h2.2 with h3 | ⟨q, cap, cur, hv, hB, hq, h4⟩
  · exact Or.inl h3
  · exact Or.inr ⟨q, cap, cur, hv, hB, cells_kept_tn g t hq, h4⟩
theorem GrAt.fr (g : GrAt W B p b n es ob) (r : RG W B2 p2 es') (f : Fr W.heap.size (fun k => k = p2) W W') : GrAt W' B p b n es ob := by
  obtain ⟨v, h1, _⟩ := r.ex
  refine g.kept f.size fun d hd => f.block d ?_ fun e => ?_
  · rcases hd with hd | rfl
    · exact g.m.lt hd
    · exact g.plt
  · subst e
    rcases hd with hd | rfl
    · exact g.m.isMap hd h1
    · rw [g.hp] at h1; cases h1
/-- Both have done the same. -/
theorem Bt.both {W2 W3 : World} {n' : Nat} (h : Bt W w B p b n B2 p2 es ob) (g : GrAt W2 B p b n' es' ob') (t : Tn W W2 b ob ob') (r : RG W3 B2 p2 es') (f : Fr W2.heap.size (fun k => k = p2) W2 W3) (r2 : RG W2 B2 p2 es) : Bt W3 w B p b n' B2 p2 es' ob' :=
  ⟨g.fr r2 f, r, (h.bl.trans ((t.below h.g).mono h.b1)).trans (f.below (Nat.le_trans h.bl.size t.fr.size) fun k hk => by rw [hk]; exact Nat.le_trans h.b2 r2.pb), h.b1, h.b2⟩
end

section
variable {H : Type} {enc : TypeId × Value → H} {w : World} {base : Nat} {sp : Nat → Bool} {held : Bool}
/-- A deed that came in: what is done, who, and for whom. -/
def dV (d : (Int × Int) × Value × List Int) : List Value := [.int .i64 d.1.1, .int .i64 d.1.2, d.2.1]
def DeedOk (w : World) (d : (Int × Int) × Value × List Int) : Prop := Wf d.1.1 ∧ Wf d.1.2 ∧ RdI w d.2.1 d.2.2 ∧ (∀ y ∈ d.2.2, Wf y) ∧ d.2.2.length ≤ maxLen
theorem coD : Try.prog.cellsOf 32 = 3 := by kernel_rfl
theorem coS : Try.prog.cellsOf 30 = 1 := by kernel_rfl
theorem one_deed (n : Nat) (cs : List Value) (y : DataW H × List MemPlace) (h : DataW.trod enc Try.prog w base sp held n 32 cs = some y) : ∃ d : (Int × Int) × Value × List Int, cs = dV d ∧ (dV d).length = 3 ∧ DeedOk w d := by
  obtain ⟨hl, n', hf⟩ := st_field Try.underlying32 h
  rw [coD] at hl
  match cs, hl with
  | [c0, c1, c2], _ =>
    obtain ⟨z0, h0⟩ := hf 0 _ rfl 3 0 1 rfl rfl coI
    obtain ⟨z1, h1⟩ := hf 1 _ rfl 3 1 1 rfl rfl coI
    obtain ⟨z2, h2⟩ := hf 2 _ rfl 30 2 1 rfl rfl coS
    obtain ⟨a, rfl, ha⟩ := one_int h0
    obtain ⟨b, rfl, hb⟩ := one_int h1
    obtain ⟨on, ho1, ho2, ho3⟩ := open_nums (show DataW.trod enc Try.prog w base sp held n' 30 [c2] = some z2 from h2)
    exact ⟨((a, b), c2, on), rfl, rfl, ha, hb, ho1, ho2, ho3⟩
end
end Go.Proofs.Ytcfibmbeojdifaa
