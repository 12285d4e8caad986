/- GapAll: the deeds that come in; both maps side by side. -/
import Derived.Test.YtffflafafpdjdaaGpZ
import Derived.Test.YtffflafafpdjdaaGpY
import Derived.Test.YtffflafafpdjdaaHeldF
import Derived.OpenShut
import Derived.Deep.Slices
import Derived.Deep.Fields
import Derived.ChangeSame
import Derived.ChangeSlices
namespace Go.Proofs.Ytffflafafpdjdaa
open Go.ChangeShapes Go.WideShapes Go.ChangeAt Go.Deep Go.RowKit

theorem add_at (ab ao n : Nat) : (⟨ab, ao, none⟩ : Addr).add n = ⟨ab, ao + n, none⟩ := by
  unfold Addr.add; split <;> simp_all

/-- A deed. -/
structure Ded where
  kd : Int
  who : Int
  fr : Int
  tt : Int
  ce : Int
  p : Int
  c : Int
  us : Bool
structure Ded.Wf (d : Ded) : Prop where
  kd : -9223372036854775808 ≤ d.kd ∧ d.kd ≤ 9223372036854775807
  who : Go.Proofs.Ytffflafafpdjdaa.Wf d.who
  p : Go.Proofs.Ytffflafafpdjdaa.Wf d.p
  c : Go.Proofs.Ytffflafafpdjdaa.Wf d.c
def Ded.at_ (d : Ded) (w : World) (b o : Nat) : Prop :=
  w.cell? ⟨b, o, none⟩ = some (.int .i64 d.kd) ∧ w.cell? ⟨b, o + 1, none⟩ = some (.int .i64 d.who) ∧ w.cell? ⟨b, o + 2, none⟩ = some (.int .i64 d.fr) ∧ w.cell? ⟨b, o + 3, none⟩ = some (.int .i64 d.tt) ∧
  w.cell? ⟨b, o + 4, none⟩ = some (.int .i64 d.ce) ∧ w.cell? ⟨b, o + 5, none⟩ = some (.int .i64 d.p) ∧ w.cell? ⟨b, o + 6, none⟩ = some (.int .i64 d.c) ∧ w.cell? ⟨b, o + 7, none⟩ = some (.bool d.us)

section
variable {H : Type} {enc : TypeId × Value → H} {w : World} {base : Nat} {sp : Nat → Bool} {held : Bool}

theorem open_deeds {b0 : Nat} {v : Value} {d : DataW H} {ps : List MemPlace} (hok : Value.okWide Try.prog w .any b0 22 v) (h : DataW.Trod enc Try.prog w base sp held 22 v d ps) :
    ∃ A len cap b off, v = .slice A len cap ∧ (0 < len → A = some ⟨b, off, none⟩) ∧ (0 < len → b < w.heap.size) ∧ ∀ i, i < len → ∃ d : Ded, d.at_ w b (off + i * 8) ∧ d.Wf := by
  obtain ⟨a0, len, cap, rfl⟩ := okWide_slice Try.underlying22 hok
  obtain ⟨fuel, hf⟩ := h
  have hC : Try.prog.cellsOf 31 = 8 := by kernel_rfl
  rcases open_slice Try.underlying22 hf with ⟨hcs, _⟩ | ⟨a, len', cap', m, n, D, Pl, hcs, _, _, _, hm, _, hi⟩
  · simp [Value.cells] at hcs
    obtain ⟨rfl, rfl, rfl⟩ := hcs
    exact ⟨none, 0, 0, 0, 0, rfl, fun e => absurd e (Nat.lt_irrefl 0), fun e => absurd e (Nat.lt_irrefl 0), fun i hi => absurd hi (Nat.not_lt_zero i)⟩
  · simp [Value.cells] at hcs
    obtain ⟨rfl, rfl, rfl⟩ := hcs
    obtain ⟨hs, hbl⟩ := slice_ok Try.underlying22 hok
    obtain ⟨ab, ao, asp⟩ := a
    cases hs
    refine ⟨_, len, cap, ab, ao, rfl, fun _ => rfl, fun _ => hbl, fun i hil => ?_⟩
    obtain ⟨cs, hc, ht⟩ := hi i (by rw [hm]; split <;> omega)
    rw [hC] at hc
    obtain ⟨_, hcl, hat⟩ := World.cells?_some hc
    obtain ⟨xs, n', _, _, _, hxl, hfs⟩ := DataW.trod_struct Try.underlying31 ht
    have hfs' : ∀ (i : Nat) (f : Field), _ → ∀ (t : TypeId) (o k : Nat), f.type = t → f.offset = o → Try.prog.cellsOf t = k → DataW.trod enc Try.prog w base sp held n' t ((cs.drop o).take k) = xs[i]? := fun i f hf t o k e1 e2 e3 => by
      have h := hfs i f hf
      rw [e1, e2, e3] at h
      exact h
    match cs, hcl with
    | [c0, c1, c2, c3, c4, c5, c6, c7], _ =>
      have k0 := hat 0 (by omega)
      have k1 := hat 1 (by omega)
      have k2 := hat 2 (by omega)
      have k3 := hat 3 (by omega)
      have k4 := hat 4 (by omega)
      have k5 := hat 5 (by omega)
      have k6 := hat 6 (by omega)
      have k7 := hat 7 (by omega)
      simp only [add_at] at k0 k1 k2 k3 k4 k5 k6 k7
      have u3 : Try.prog.cellsOf 3 = 1 := by kernel_rfl
      have u4 : Try.prog.cellsOf 4 = 1 := by kernel_rfl
      have q0 : DataW.trod enc Try.prog w base sp held n' 3 [c0] = xs[0]? := hfs' 0 _ rfl _ 0 1 rfl rfl u3
      have q1 : DataW.trod enc Try.prog w base sp held n' 3 [c1] = xs[1]? := hfs' 1 _ rfl _ 1 1 rfl rfl u3
      have q2 : DataW.trod enc Try.prog w base sp held n' 3 [c2] = xs[2]? := hfs' 2 _ rfl _ 2 1 rfl rfl u3
      have q3 : DataW.trod enc Try.prog w base sp held n' 3 [c3] = xs[3]? := hfs' 3 _ rfl _ 3 1 rfl rfl u3
      have q4 : DataW.trod enc Try.prog w base sp held n' 3 [c4] = xs[4]? := hfs' 4 _ rfl _ 4 1 rfl rfl u3
      have q5 : DataW.trod enc Try.prog w base sp held n' 29 [c5, c6] = xs[5]? := hfs' 5 _ rfl _ 5 2 rfl rfl cellsT
      have q7 : DataW.trod enc Try.prog w base sp held n' 4 [c7] = xs[6]? := hfs' 6 _ rfl _ 7 1 rfl rfl u4
      have hx5 : xs.length = 7 := hxl
      rw [List.getElem?_eq_getElem (by omega)] at q0 q1 q2 q3 q4 q5 q7
      obtain ⟨x0, e0, _, g0⟩ := DataW.trod_int Try.underlying3 q0
      obtain ⟨x1, e1, _, g1⟩ := DataW.trod_int Try.underlying3 q1
      obtain ⟨x2, e2, _, g2⟩ := DataW.trod_int Try.underlying3 q2
      obtain ⟨x3, e3, _, g3⟩ := DataW.trod_int Try.underlying3 q3
      obtain ⟨x4, e4, _, g4⟩ := DataW.trod_int Try.underlying3 q4
      obtain ⟨x7, e7, _⟩ := DataW.trod_bool Try.underlying4 q7
      obtain ⟨ys, m', _, _, _, hyl, hys⟩ := DataW.trod_struct Try.underlying29 q5
      have hys' : ∀ (i : Nat) (f : Field), _ → ∀ (t : TypeId) (o k : Nat), f.type = t → f.offset = o → Try.prog.cellsOf t = k → DataW.trod enc Try.prog w base sp held m' t (([c5, c6].drop o).take k) = ys[i]? := fun i f hf t o k e1 e2 e3 => by
        have h := hys i f hf
        rw [e1, e2, e3] at h
        exact h
      have r0 : DataW.trod enc Try.prog w base sp held m' 3 [c5] = ys[0]? := hys' 0 _ rfl _ 0 1 rfl rfl u3
      have r1 : DataW.trod enc Try.prog w base sp held m' 3 [c6] = ys[1]? := hys' 1 _ rfl _ 1 1 rfl rfl u3
      have hy2 : ys.length = 2 := hyl
      rw [List.getElem?_eq_getElem (by omega)] at r0 r1
      obtain ⟨x5, e5, _, g5⟩ := DataW.trod_int Try.underlying3 r0
      obtain ⟨x6, e6, _, g6⟩ := DataW.trod_int Try.underlying3 r1
      injection e0 with e0 _
      injection e1 with e1 _
      injection e2 with e2 _
      injection e3 with e3 _
      injection e4 with e4 _
      injection e5 with e5 _
      injection e6 with e6 _
      injection e7 with e7 _
      subst e0 e1 e2 e3 e4 e5 e6 e7
      have g0' : (Lit.int .i64 x0).wf = true := g0
      simp only [Lit.wf, Bool.and_eq_true, decide_eq_true_eq] at g0'
      have hmin : IntKind.i64.min = -9223372036854775808 := rfl
      have hmax : IntKind.i64.max = 9223372036854775807 := rfl
      exact ⟨⟨x0, x1, x2, x3, x4, x5, x6, x7⟩, ⟨k0, k1, k2, k3, k4, k5, k6, k7⟩, ⟨by show _ ≤ x0 ∧ x0 ≤ _; omega, g1, g5, g6⟩⟩
end

theorem nxV_form (o : Option (Nat × Nat)) : ∃ x y f, nxV o = .tuple #[.agg #[.int .i64 x, .int .i64 y], .bool f] := by
  cases o with
  | none => exact ⟨_, _, _, rfl⟩
  | some x => exact ⟨_, _, _, rfl⟩

/-- Both maps; T: the first block that is none of the program's map. -/
structure Tw (w0 w : World) (g b1 b2 r d1 d2 n T : Nat) (s s' : St) : Prop where
  a : GA w g b1 b2 n s
  rr : RA w r d1 d2 n s'
  be : Below w0.heap.size w0 w
  la : ∀ k, Bk g b1 b2 k → w0.heap.size ≤ k ∧ k < T
  lr : ∀ k, Bk r d1 d2 k → T ≤ k
  tw : w0.heap.size ≤ T ∧ T ≤ w.heap.size
section
variable {w0 w w' : World} {g b1 b2 r d1 d2 n T : Nat} {s s' s1 : St}
theorem Tw.on (h : Tw w0 w g b1 b2 r d1 d2 n T s s') (hb : Below w.heap.size w w') : Tw w0 w' g b1 b2 r d1 d2 n T s s' :=
  ⟨h.a.on_ hb, h.rr.on_ hb, h.be.trans (hb.mono h.be.size), h.la, h.lr, h.tw.1, Nat.le_trans h.tw.2 hb.size⟩
theorem Tw.mono (h : Tw w0 w g b1 b2 r d1 d2 n T s s') {n' : Nat} (hn : n ≤ n') : Tw w0 w g b1 b2 r d1 d2 n' T s s' := ⟨h.a.mono hn, h.rr.mono hn, h.be, h.la, h.lr, h.tw⟩
theorem Tw.step_g (h : Tw w0 w g b1 b2 r d1 d2 n T s s') {n' : Nat} (hn : n ≤ n') (hG : GA w' g b1 b2 n' s1) (hf : Fr w.heap.size (Bk g b1 b2) w w') : Tw w0 w' g b1 b2 r d1 d2 n' T s1 s' :=
  ⟨hG, (h.rr.kept fun k hk => hf.block k (h.rr.lt hk) (fun e => by have := (h.la k e).2; have := h.lr k hk; omega)).mono hn, h.be.trans (hf.below h.be.size fun k hk => (h.la k hk).1), h.la, h.lr, h.tw.1, Nat.le_trans h.tw.2 hf.size⟩
theorem Tw.step_r (h : Tw w0 w g b1 b2 r d1 d2 n T s s') {n' d3 : Nat} (hn : n ≤ n') (hR : RA w' r d1 d3 n' s1) (hf : Fr w.heap.size (Bk r d1 d2) w w') (hd : d3 = d2 ∨ w.heap.size ≤ d3) : Tw w0 w' g b1 b2 r d1 d3 n' T s s1 :=
  ⟨(h.a.kept fun k hk => hf.block k (h.a.lt hk) (fun e => by have := (h.la k hk).2; have := h.lr k e; omega)).mono hn, hR, h.be.trans (hf.below h.be.size fun k hk => Nat.le_trans h.tw.1 (h.lr k hk)), h.la,
    fun k hk => by
      rcases hk with rfl | rfl | rfl
      · exact h.lr _ (Or.inl rfl)
      · exact h.lr _ (Or.inr (Or.inl rfl))
      · rcases hd with rfl | hd
        · exact h.lr _ (Or.inr (Or.inr rfl))
        · exact Nat.le_trans h.tw.2 hd,
    h.tw.1, Nat.le_trans h.tw.2 hf.size⟩
end

/-- The variable of a deed. -/
def OB (w : World) (o : Nat) (d : Ded) : Prop := w.heap[o]? = some (.cells #[.int .i64 d.kd, .int .i64 d.who, .int .i64 d.fr, .int .i64 d.tt, .int .i64 d.ce, .int .i64 d.p, .int .i64 d.c, .bool d.us] 31 (0, 0))
theorem OB.lt {w : World} {o : Nat} {d : Ded} (h : OB w o d) : o < w.heap.size := (Array.getElem?_eq_some_iff.1 h).1
theorem OB.on {w w' : World} {o : Nat} {d : Ded} (h : OB w o d) (hb : Below w.heap.size w w') : OB w' o d := (hb.block _ h.lt).trans h
theorem OB.fr {w w' : World} {o : Nat} {d : Ded} {X : Nat → Prop} (h : OB w o d) (hf : Fr w.heap.size X w w') (hX : ¬ X o) : OB w' o d := (hf.block _ h.lt hX).trans h
/-- Both maps, and a deed that lies apart from them. -/
structure TO (w0 w : World) (g b1 b2 r d1 d2 n T o : Nat) (s s' : St) (d : Ded) : Prop where
  t : Tw w0 w g b1 b2 r d1 d2 n T s s'
  ob : OB w o d
  ga : ¬ Bk g b1 b2 o
  ra : ¬ Bk r d1 d2 o
section
variable {w0 w w' : World} {g b1 b2 r d1 d2 n T o : Nat} {s s' s1 : St} {d : Ded}
theorem TO.on (h : TO w0 w g b1 b2 r d1 d2 n T o s s' d) (hb : Below w.heap.size w w') : TO w0 w' g b1 b2 r d1 d2 n T o s s' d := ⟨h.t.on hb, h.ob.on hb, h.ga, h.ra⟩
theorem to_use_g (h : TO w0 w g b1 b2 r d1 d2 n T o s s' d) (hn : n < maxLen) (hd : d.Wf) : Calls Try.prog 9 #[.pointer (some ⟨g, 0, none⟩), .agg #[.int .i64 d.p, .int .i64 d.c], .bool d.us] w fun e w' => e = .returned (.bool (inB s.N d.p d.c)) ∧ TO w0 w' g b1 b2 r d1 d2 (n + 1) T o (if inB s.N d.p d.c = true then s.useS d.p d.c d.us else s) s' d :=
  (use_g w h.t.a hn hd.p hd.c d.us).mono fun _ _ ⟨he, hG, hf⟩ => ⟨he, h.t.step_g (Nat.le_succ _) hG hf, h.ob.fr hf h.ga, h.ga, h.ra⟩
theorem to_use_r (h : TO w0 w g b1 b2 r d1 d2 n T o s s' d) (hn : n < maxLen) (hd : d.Wf) : Calls Try.prog 10 #[.pointer (some ⟨r, 0, none⟩), .agg #[.int .i64 d.p, .int .i64 d.c], .bool d.us] w fun e w' => e = .returned (.bool (inB s'.N d.p d.c)) ∧ TO w0 w' g b1 b2 r d1 d2 (n + 1) T o s (if inB s'.N d.p d.c = true then s'.useS d.p d.c d.us else s') d :=
  (use_r w h.t.rr hn hd.p hd.c d.us).mono fun _ _ ⟨he, hR, hf⟩ => ⟨he, h.t.step_r (Nat.le_succ _) hR hf (Or.inl rfl), h.ob.fr hf h.ra, h.ga, h.ra⟩
theorem to_hold_g (h : TO w0 w g b1 b2 r d1 d2 n T o s s' d) (hn : n < maxLen) (hd : d.Wf) : Calls Try.prog 11 #[.pointer (some ⟨g, 0, none⟩), .int .i64 d.who, .agg #[.int .i64 d.p, .int .i64 d.c]] w fun e w' => e = .returned (.bool (canHold s d.who d.p d.c)) ∧ TO w0 w' g b1 b2 r d1 d2 (n + 1) T o (s.hold d.who d.p d.c) s' d :=
  (hold_g w h.t.a hn hd.p hd.c hd.who).mono fun _ _ ⟨he, hG, hf⟩ => ⟨he, h.t.step_g (Nat.le_succ _) hG hf, h.ob.fr hf h.ga, h.ga, h.ra⟩
theorem to_hold_r (h : TO w0 w g b1 b2 r d1 d2 n T o s s' d) (hn : n < maxLen) (hd : d.Wf) : Calls Try.prog 12 #[.pointer (some ⟨r, 0, none⟩), .int .i64 d.who, .agg #[.int .i64 d.p, .int .i64 d.c]] w fun e w' => e = .returned (.bool (canHold s' d.who d.p d.c)) ∧ TO w0 w' g b1 b2 r d1 d2 (n + 1) T o s (s'.hold d.who d.p d.c) d :=
  (hold_r w h.t.rr hn hd.p hd.c hd.who).mono fun _ _ ⟨he, hR, hf⟩ => ⟨he, h.t.step_r (Nat.le_succ _) hR hf (Or.inl rfl), h.ob.fr hf h.ra, h.ga, h.ra⟩
theorem to_free_g (h : TO w0 w g b1 b2 r d1 d2 n T o s s' d) : Calls Try.prog 13 #[.pointer (some ⟨g, 0, none⟩), .int .i64 d.who] w fun e w' => e = .returned (.tuple #[]) ∧ TO w0 w' g b1 b2 r d1 d2 n T o (s.free d.who) s' d :=
  (free_g w h.t.a d.who).mono fun _ _ ⟨he, hG, hf⟩ => ⟨he, h.t.step_g (Nat.le_refl _) hG hf, h.ob.fr hf h.ga, h.ga, h.ra⟩
theorem to_free_r (h : TO w0 w g b1 b2 r d1 d2 n T o s s' d) : Calls Try.prog 14 #[.pointer (some ⟨r, 0, none⟩), .int .i64 d.who] w fun e w' => e = .returned (.tuple #[]) ∧ ∃ d3, TO w0 w' g b1 b2 r d1 d3 (n + 128) T o s (s'.free d.who) d :=
  (free_r w h.t.rr d.who).mono fun _ _ ⟨he, d3, hR, hf, hd⟩ => ⟨he, d3, h.t.step_r (Nat.le_add_right _ _) hR hf (Or.inr hd), h.ob.fr hf h.ra, h.ga, fun e => by
    rcases e with rfl | rfl | rfl
    · exact h.ra (Or.inl rfl)
    · exact h.ra (Or.inr (Or.inl rfl))
    · have := h.ob.lt; omega⟩
end
end Go.Proofs.Ytffflafafpdjdaa
