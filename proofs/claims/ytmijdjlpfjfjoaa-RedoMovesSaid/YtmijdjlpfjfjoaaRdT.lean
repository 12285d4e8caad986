/- touched, touches. -/
import Derived.Test.YtmijdjlpfjfjoaaRdI
namespace Go.Proofs.Ytmijdjlpfjfjoaa.Rx
open Go.RowKit Go.Shelf
attribute [local go_sem] Oper.semAt_some

theorem grown_of_below {B : Nat} {W W' : World} (h : Below B W W') (hB : W.heap.size ≤ B) : W.grownBy W' none := ⟨h.os, h.tape, h.output, h.size, fun k hk _ => h.block k (by omega)⟩
/-- What touched hands back: a closure over the entry's box. -/
def clo (b : Nat) : Value := .func (.func 29) #[] #[.pointer (some ⟨b, 0, none⟩)]
set_option maxRecDepth 100000 in
set_option maxHeartbeats 1000000 in
theorem touched_in (n : Nat) (e : En) (x : Ex) (w : World) :
    CallsIn Fence.wide n Try.prog 23 #[.agg (enC e x)] w fun r w' => r = .returned (clo w.heap.size) ∧ w' = w.alloc (enO e x) := by
  refine callsIn_of_wp Try.func23 rfl trivial ?_ rfl
  simp only [Try.ntmps23, List.size_toArray, List.length_cons, List.length_nil, Nat.reduceAdd, Nat.reduceSub, Array.replicate_succ, Array.replicate_zero, List.push_toArray, List.append_toArray, List.nil_append, List.cons_append]
  gi_wp2
  go_ret
  exact ⟨rfl, rfl⟩

theorem touched_tells (n : Nat) (hn : 1 ≤ n) (b : Nat) (e : En) (x : Ex) (w0 w : World) (hE : EnIn w0 e x) (hw : Below w0.heap.size w0 w) (hB : Bx w b e x) :
    Tells Fence.wide n Try.prog 29 #[.pointer (some ⟨b, 0, none⟩)] encT Gd (Kp w0.heap.size b) (fun ys => tls ys = tl e) (fun pre => tls pre <+: tl e) w := fun l J Jx W hW hJ _ h0 hY =>
  touched1_in n hn l b e x w0 hE J Jx (fun s A B h hb => hJ s A B none h (grown_of_below hb (Nat.le_refl _)) (fun r e => by cases e)) hY W (hw.trans (hW.mono hw.size)) (hB.below hW hB.lt) h0
theorem Kp.book {n0 b : Nat} {w W : World} {l : Nat} {o' : Obj} (h0 : n0 ≤ w.heap.size) (hb : b < w.heap.size) (hl : w.heap.size ≤ l) : Kp n0 b W (W.putObj l o') :=
  ⟨⟨rfl, rfl, rfl, by simp, fun k hk => World.putObj_heap_other (by omega)⟩, World.putObj_heap_other (by omega)⟩

theorem infoE2 (e : En) (x : Ex) : (Try.prog.info? 31).map (·.size) = some (enC e x).size := infoE
/-- A whole struct's load. -/
theorem wpListIn_load_row {F : Fence} {nF : Nat} {P : Program} {w : World} {ops : Array Oper} {rest : List Oper} {o : Oper} {a : Act} {Q : Exit → Act → World → Prop} (hgd : o.guard = none) (ty : TypeId) (x : Operand) (hop : o.op = .load ty x)
    (g : Nat) (hx : a.eval x = .pointer (some ⟨g, 0, none⟩)) (t : TypeId) (cs : Array Value) (fr : Nat × Nat) (d : TypeDesc) (hg : w.heap[g]? = some (.cells cs t fr))
    (hu : P.underlying ty = some d) (hd : (match d with | .struct _ | .array _ _ => true | _ => false) = true) (hi : (P.info? ty).map (·.size) = some cs.size)
    (h : wpListIn F nF P ops Q rest (a.put o.dst (.agg cs)) w) : wpListIn F nF P ops Q (o :: rest) a w := by
  refine wpListIn_plain hgd fun K' hK' => ?_
  unfold Oper.wpIn
  refine ⟨by simp [Oper.about, hop], ?_⟩
  rw [Oper.semAt_plain F _ _ (by rw [hop]; intro c hc'; cases hc')]
  rw [held_row ty x hop g hx t cs fr d hg hu hd hi]
  exact hK' _ _ h

/-- Two numbers in a box. -/
def BoxR (W : World) (B : Nat) (p c : Int) : Prop := W.heap[B]? = some (.cells #[.int .i64 p, .int .i64 c] 25 (0, 0))
theorem BoxR.lt {W : World} {B : Nat} {p c : Int} (h : BoxR W B p c) : B < W.heap.size := (Array.getElem?_eq_some_iff.1 h).1
theorem obj_own {β : Type} (B : Nat) (f : β → Array Value) (t : TypeId) : Own (fun s W => W.heap[B]? = some (.cells (f s) t (0, 0))) := fun s X Y row hs hg hrow =>
  (hg.block B (Array.getElem?_eq_some_iff.1 hs).1 (fun e' => by obtain ⟨o, ho, hc⟩ := hrow B e'.symm; rw [show X.heap[B]? = _ from hs] at ho; cases ho; cases hc)).trans hs
theorem own_size {β : Type} (B n : Nat) : OwnFrom B (fun (_ : β) W => n ≤ W.heap.size) := fun _ _ _ _ hs hg _ => Nat.le_trans hs hg.size
theorem KeepsFrom.of_below {B : Nat} {W W' : World} (h : Below W.heap.size W W') : KeepsFrom B W W' :=
  ⟨h.size, fun k _ _ hk _ => (h.block k (Array.getElem?_eq_some_iff.1 hk).1).trans hk⟩

theorem tch_end {W : World} {tmps : Array Value} {g : Nat} {b : Bool} (h : tmps.getD 4 undef = .pointer (some ⟨g, 0, none⟩)) (k : Boxed W g 4 (.bool b)) : (results Try.f18 tmps).run Try.prog W = .ok (.bool b) W := by
  rw [Array.getD_eq_getD_getElem?] at h
  have b2 := k.cell
  simp [results, Try.results18, go_sem, h, b2]

set_option maxRecDepth 100000 in
set_option maxHeartbeats 4000000 in
theorem touches_in (w : World) (e : En) (x : Ex) (n : Int) (hE : EnIn w e x) :
    CallsIn Fence.wide 8 Try.prog 18 #[.agg (enC e x), .int .i64 n] w fun r w' => r = .returned (.bool (tch (tl e) n)) ∧ Below w.heap.size w w' := by
  have HE := Lib.hid hE
  clear hE
  refine callsIn_of_wp_marks Try.func18 rfl trivial ?_ rfl
  simp only [Try.ntmps18, List.size_toArray, List.length_cons, List.length_nil, Nat.reduceAdd, Nat.reduceSub, Array.replicate_succ, Array.replicate_zero, List.push_toArray, List.append_toArray, List.nil_append, List.cons_append]
  have s1 : (w.alloc (.cells (enC e x) 31)).heap.size = w.heap.size + 1 := by simp
  have s2 : ((w.alloc (.cells (enC e x) 31)).alloc (.cells #[.int .i64 n] 3)).heap.size = w.heap.size + 2 := by simp
  have hB1 : Below w.heap.size w (w.alloc (.cells (enC e x) 31)) := (Below.refl _ _).alloc (Nat.le_refl _) _
  have hB2 := hB1.alloc (by omega) (.cells #[.int .i64 n] 3)
  have hB3 := hB2.alloc (by omega) (.cells #[.bool false] 4)
  have hX : (((w.alloc (.cells (enC e x) 31)).alloc (.cells #[.int .i64 n] 3)).alloc (.cells #[.bool false] 4)).heap[w.heap.size]? = some (.cells (enC e x) 31 (0, 0)) := (Below.heap_alloc _ _ _ (by omega)).trans ((Below.heap_alloc _ _ _ (by omega)).trans (heap_alloc_new w _))
  have bN : Boxed (((w.alloc (.cells (enC e x) 31)).alloc (.cells #[.int .i64 n] 3)).alloc (.cells #[.bool false] 4)) (w.heap.size + 1) 3 (.int .i64 n) := by
    have := (Boxed.new (w.alloc (.cells (enC e x) 31)) 3 (.int .i64 n)).alloc (.cells #[.bool false] 4)
    rwa [s1] at this
  have bR : Boxed (((w.alloc (.cells (enC e x) 31)).alloc (.cells #[.int .i64 n] 3)).alloc (.cells #[.bool false] 4)) (w.heap.size + 2) 4 (.bool false) := by
    have := Boxed.new ((w.alloc (.cells (enC e x) 31)).alloc (.cells #[.int .i64 n] 3)) 4 (.bool false)
    rwa [s2] at this
  have hS3 : (((w.alloc (.cells (enC e x) 31)).alloc (.cells #[.int .i64 n] 3)).alloc (.cells #[.bool false] 4)).heap.size = w.heap.size + 3 := by simp
  have HX := Lib.hid hX
  have H3 := Lib.hid (And.intro hB3 (And.intro bN (And.intro bR hS3)))
  have HI := Lib.hid (infoE2 e x)
  clear hB1 hB2 hB3 hX bN bR s1 s2 hS3
  gi_wp2_with (first
    | (with_reducible refine wpListIn_load_row rfl 31 (.tmp 2) rfl w.heap.size rfl 31 _ (0, 0) _ HX.out Try.underlying31 rfl HI.out ?_)
    | (refine ⟨trivial, ?_⟩; gi_at_call 23; refine (touched_in _ _ _ _).mono ?_; rintro r w1 ⟨rfl, rfl⟩))
  obtain ⟨hB3, bN, bR, hS3⟩ := H3.out
  generalize ((w.alloc (.cells (enC e x) 31)).alloc (.cells #[.int .i64 n] 3)).alloc (.cells #[.bool false] 4) = w3 at *
  clear H3 HX HI
  have hXb : Bx (w3.alloc (enO e x)) w3.heap.size e x := ⟨heap_alloc_new w3 _⟩
  have hB4 : Below w.heap.size w (w3.alloc (enO e x)) := hB3.alloc (by omega) _
  have hS4 : (w3.alloc (enO e x)).heap.size = w.heap.size + 4 := by simp [hS3]
  have bN4 := bN.alloc (enO e x)
  have bR4 := bR.alloc (enO e x)
  rw [show clo (w.heap.size + 1 + 1 + 1) = .func (.func 29) #[] #[.pointer (some ⟨w3.heap.size, 0, none⟩)] from by rw [hS3]; rfl]
  generalize w3.alloc (enO e x) = w4 at *
  generalize w3.heap.size = b at *
  clear hB3 bN bR
  have HS := Lib.hid (And.intro hS3 hS4)
  clear hS3 hS4
  refine wpIn_range_tells rfl (by omega) (gf := 29) (lb := #[.pointer (some ⟨b, 0, none⟩)]) rfl trivial (enters_of Try.func29 (by kernel_rfl) rfl)
    (touched_tells _ (by omega) b e x w w4 HE.out hB4 hXb) Kp.trans (fun W l o' hl => Kp.book (by have := HS.out; omega) (by have := HS.out; omega) hl) (fun _ => rfl)
    (fun pre W => (Boxed W (w.heap.size + 1) 3 (.int .i64 n) ∧ Boxed W (w.heap.size + 1 + 1) 4 (.bool false)) ∧ (Below w.heap.size w W ∧ w.heap.size + 4 ≤ W.heap.size) ∧ tch (tls pre) n = false)
    (fun c pre W => c = .ret ∧ Boxed W (w.heap.size + 1 + 1) 4 (.bool true) ∧ Below w.heap.size w W ∧ tch (tls pre) n = true)
    (OwnFrom.and (OwnFrom.and (Own.from (boxed_own _ _ _) _) (Own.from (boxed_own _ _ _) _)) (OwnFrom.and (OwnFrom.and (ownFrom_below (Nat.le_refl _) (by have := HS.out; omega)) (own_size _ _)) (ownFrom_pure _ _)))
    (fun c => OwnFrom.and (ownFrom_pure _ _) (OwnFrom.and (Own.from (boxed_own _ _ _) _) (OwnFrom.and (ownFrom_below (Nat.le_refl _) (by have := HS.out; omega)) (ownFrom_pure _ _))))
    ⟨⟨bN4, bR4⟩, ⟨hB4, by have := HS.out; omega⟩, rfl⟩
    (fun t a' W => ∃ Bv, w.heap.size + 3 < Bv ∧ BoxR W Bv t.p t.c ∧ a' = { tmps := #[.agg (enC e x), .int .i64 n, .pointer (some ⟨w.heap.size, 0, none⟩), .pointer (some ⟨w.heap.size + 1, 0, none⟩), .pointer (some ⟨w.heap.size + 1 + 1, 0, none⟩), .pointer (some ⟨Bv, 0, none⟩), .agg (enC e x), .func (.func 29) #[] #[.pointer (some ⟨b, 0, none⟩)], .agg #[.int .i64 t.p, .int .i64 t.c], .slice t.A t.l.length t.k, undef, undef, undef, undef], defers := [] })
    (fun t a' _ X Y row hs hg hr => by obtain ⟨Bv, h1, h2, h3⟩ := hs; exact ⟨Bv, h1, obj_own Bv (fun (_ : Unit) => #[.int .i64 t.p, .int .i64 t.c]) 25 () X Y row h2 hg (fun r e => (hr r e).2), h3⟩)
    ?assign ?body ?done ?stop
  case assign =>
    rintro l pre t W K ⟨⟨bN2, bR2⟩, ⟨hB2, hZ2⟩, hT⟩ _ hK
    unfold encT
    gi_wp2
    exact hK _ _ ((KeepsOthers.alloc _ _).from _) (Kp.of_below ((Below.refl _ W).alloc (Nat.le_refl _) _) hB2.size (by have := HS.out; omega)) ⟨⟨bN2.alloc _, bR2.alloc _⟩, ⟨hB2.alloc hB2.size _, by simp; omega⟩, hT⟩ ⟨W.heap.size, by omega, heap_alloc_new _ _, rfl⟩
  case body =>
    rintro l pre t a' W hl ⟨⟨bN2, bR2⟩, ⟨hB2, hZ2⟩, hT⟩ ⟨Bv, hBv, bX, rfl⟩
    obtain ⟨p, hp⟩ : ∃ p : Int, p = t.p := ⟨_, rfl⟩
    rw [← hp] at bX ⊢
    have x0 := (cell_of bX 0).1
    have x1 := bN2.cell
    have x2 := bR2.cell
    have f2 := bR2.frozen
    have H2 := Lib.hid (And.intro bN2 (And.intro bR2 (And.intro hB2 hZ2)))
    have HX := Lib.hid bX
    have HP := Lib.hid hp
    have HT := Lib.hid hT
    clear hp bN2 bR2 hB2 hZ2 bX hT hBv
    by_cases hpn : p = n
    · have HN : Hid (tch (tls (pre ++ [t])) n = true) := by show tch (tls (pre ++ [t])) n = true; rw [tls_snoc, tch_snoc, HT.out]; show (false || decide (t.p = n)) = true; rw [← HP.out, hpn]; simp
      subst hpn
      gi_wp2
      obtain ⟨bN2, bR2, hB2, hZ2⟩ := H2.out
      exact ⟨(KeepsOthers.setCell _ _ _).from _, rfl, bR2.set _, hB2.setCell (p := ⟨w.heap.size + 1 + 1, 0, none⟩) (by simp; omega) _, HN.out⟩
    · have HN : Hid (tch (tls (pre ++ [t])) n = false) := by show tch (tls (pre ++ [t])) n = false; rw [tls_snoc, tch_snoc, HT.out]; show (false || decide (t.p = n)) = false; rw [← HP.out]; simp [hpn]
      gi_wp2
      obtain ⟨bN2, bR2, hB2, hZ2⟩ := H2.out
      exact ⟨KeepsFrom.of_below (Below.refl _ _), Kp.refl _ _ _, ⟨bN2, bR2⟩, ⟨hB2, hZ2⟩, HN.out⟩
  case done =>
    rintro D ys W hD hys ⟨⟨bN2, bR2⟩, ⟨hB2, hZ2⟩, hT⟩ hK
    have x2 := bR2.cell
    have f2 := bR2.frozen
    rw [hys] at hT
    have HT := Lib.hid hT
    have H2 := Lib.hid (And.intro bR2 (And.intro hB2 hK))
    have HD := Lib.hid hD
    clear hT bN2 bR2 hB2 hK hys hD
    gi_wp2
    obtain ⟨bR2, hB2, hK⟩ := H2.out
    have hK2 := (KeepsOthers.setCell W ⟨w.heap.size + 1 + 1, 0, none⟩ (.bool false)).same D _ hK rfl
    have hB3 := hB2.setCell (p := ⟨w.heap.size + 1 + 1, 0, none⟩) (by simp; omega) (.bool false)
    have bR3 := (bR2.set (.bool false)).kept (grownBy_putObj' _ D (.deferred none)) (fun e' => by cases e'; have := HS.out; have := HD.out; omega)
    refine ⟨by simp, .inl ⟨_, _, rfl, run_takeDeferred hK2, ?_⟩⟩
    exact ⟨_, tch_end rfl bR3, by rw [HT.out], hB3.trans (belowK_b (w := w) (Nat.le_refl _) _ D _ (.deferred none) (by have := HS.out; have := HD.out; omega) hK2 rfl rfl)⟩
  case stop =>
    rintro D c pre W hD hSp ⟨rfl, bR2, hB2, hT⟩ hK
    gi_wp2
    have bR3 := bR2.kept (grownBy_putObj' _ D (.deferred none)) (fun e' => by cases e'; have := HS.out; omega)
    refine ⟨by simp, .inl ⟨_, _, rfl, run_takeDeferred hK, ?_⟩⟩
    exact ⟨_, tch_end rfl bR3, by rw [tch_pre hSp hT], hB2.trans (belowK_b (w := w) (Nat.le_refl _) W D _ (.deferred none) (by have := HS.out; omega) hK rfl rfl)⟩
end Go.Proofs.Ytmijdjlpfjfjoaa.Rx
