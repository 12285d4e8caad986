/- DeedAll: the deeds that come in; both stacks side by side. -/
import Derived.Test.YtacidmnhbhbmhaaDdL
import Derived.Test.YtacidmnhbhbmhaaHeldF
import Derived.OpenShut
import Derived.Deep.Slices
import Derived.Deep.Fields
import Derived.ChangeSame
import Derived.ChangeSlices
namespace Go.Proofs.Ytacidmnhbhbmhaa
open Go.ChangeShapes Go.WideShapes Go.ChangeAt Go.Deep Go.RowKit

theorem add_at (ab ao n : Nat) : (⟨ab, ao, none⟩ : Addr).add n = ⟨ab, ao + n, none⟩ := by
  unfold Addr.add; split <;> simp_all
theorem bounds64 {x : Int} (h : (Lit.int .i64 x).wf = true) : -9223372036854775808 ≤ x ∧ x ≤ 9223372036854775807 := by
  simp only [Lit.wf, Bool.and_eq_true, decide_eq_true_eq] at h
  have hmin : IntKind.i64.min = -9223372036854775808 := rfl
  have hmax : IntKind.i64.max = 9223372036854775807 := rfl
  omega

section
variable {H : Type} {enc : TypeId × Value → H} {w : World} {base : Nat} {sp : Nat → Bool} {held : Bool}

theorem open_deeds {b0 : Nat} {v : Value} {d : DataW H} {ps : List MemPlace} (hok : Value.okWide Try.prog w .any b0 22 v) (h : DataW.Trod enc Try.prog w base sp held 22 v d ps) :
    ∃ A len cap b off, v = .slice A len cap ∧ (0 < len → A = some ⟨b, off, none⟩) ∧ (0 < len → b < w.heap.size) ∧ ∀ i, i < len → ∃ (kd k : Int),
      w.cell? ⟨b, off + i * 2, none⟩ = some (.int .i64 kd) ∧ w.cell? ⟨b, off + i * 2 + 1, none⟩ = some (.int .i64 k) ∧ (-9223372036854775808 ≤ kd ∧ kd ≤ 9223372036854775807) ∧ (-9223372036854775808 ≤ k ∧ k ≤ 9223372036854775807) := by
  obtain ⟨a0, len, cap, rfl⟩ := okWide_slice Try.underlying22 hok
  obtain ⟨fuel, hf⟩ := h
  have hC : Try.prog.cellsOf 33 = 2 := by kernel_rfl
  rcases open_slice Try.underlying22 hf with ⟨hcs, _⟩ | ⟨a, len', cap', m, n, D, Pl, hcs, _, _, _, hm, _, hi⟩
  · simp [Value.cells] at hcs
    obtain ⟨rfl, rfl, rfl⟩ := hcs
    exact ⟨none, 0, 0, 0, 0, rfl, fun e => absurd e (Nat.lt_irrefl 0), fun e => absurd e (Nat.lt_irrefl 0), fun i hi => absurd hi (Nat.not_lt_zero i)⟩
  · simp [Value.cells] at hcs
    obtain ⟨rfl, rfl, rfl⟩ := hcs
    obtain ⟨hs, hbl⟩ := slice_ok Try.underlying22 hok
    obtain ⟨ab, ao, asp⟩ := a
    cases hs
    refine ⟨_, len, cap, ab, ao, rfl, fun _ => rfl, fun _ => hbl, fun i hil => ?_⟩
    obtain ⟨cs, hc, ht⟩ := hi i (by rw [hm]; split <;> omega)
    rw [hC] at hc
    obtain ⟨_, hcl, hat⟩ := World.cells?_some hc
    obtain ⟨xs, n', _, _, _, hxl, hfs⟩ := DataW.trod_struct Try.underlying33 ht
    have hfs' : ∀ (i : Nat) (f : Field), _ → ∀ (t : TypeId) (o k : Nat), f.type = t → f.offset = o → Try.prog.cellsOf t = k → DataW.trod enc Try.prog w base sp held n' t ((cs.drop o).take k) = xs[i]? := fun i f hf t o k e1 e2 e3 => by
      have h := hfs i f hf
      rw [e1, e2, e3] at h
      exact h
    match cs, hcl with
    | [c0, c1], _ =>
      have k0 := hat 0 (by omega)
      have k1 := hat 1 (by omega)
      simp only [add_at] at k0 k1
      have u3 : Try.prog.cellsOf 3 = 1 := by kernel_rfl
      have q0 : DataW.trod enc Try.prog w base sp held n' 3 [c0] = xs[0]? := hfs' 0 _ rfl _ 0 1 rfl rfl u3
      have q1 : DataW.trod enc Try.prog w base sp held n' 3 [c1] = xs[1]? := hfs' 1 _ rfl _ 1 1 rfl rfl u3
      have hx5 : xs.length = 2 := hxl
      rw [List.getElem?_eq_getElem (by omega)] at q0 q1
      obtain ⟨kd, e0, _, g0⟩ := DataW.trod_int Try.underlying3 q0
      obtain ⟨at_, e1, _, g1⟩ := DataW.trod_int Try.underlying3 q1
      injection e0 with e0 _
      injection e1 with e1 _
      subst e0 e1
      exact ⟨kd, at_, k0, k1, bounds64 g0, bounds64 g1⟩
end

/-- Both stacks. -/
structure Bo (w0 w : World) (p q : Nat) (L : List Int) (S : Nat → Int) (L' : List Int) (S' : Nat → Int) : Prop where
  ex : ∃ b g v u, DdAt w w0.heap.size p b g v L S ∧ RdAt w w0.heap.size q u L' S' ∧ ∀ k, u.ownBlock = some k → ¬ Dd b g v k
  be : Below w0.heap.size w0 w
section
variable {w0 w w' : World} {B p q b g : Nat} {u u' v v' : Value} {L L' L2 : List Int} {S S' S2 : Nat → Int}
theorem dq_ne (h : DdAt w B p b g v L S) (r : RdAt w B q u L' S') : ¬ Dd b g v q ∧ p ≠ q := by
  obtain ⟨cur, h1, h2, _⟩ := r.hp
  obtain ⟨c2, h3, h4, _⟩ := h.hs
  have hs : ∀ (cs : Array Value) (t : TypeId), w.heap[q]? = some (.cells cs t (0, 0)) → cs.size = 9 := fun cs t e => by
    rw [h1] at e
    injection e with e
    injection e with e
    rw [← e]; exact h2
  refine ⟨?_, ?_⟩
  · rintro (e | e | e)
    · have := hs _ _ (by rw [e]; exact h.hb)
      cases this
    · have := hs _ _ (by rw [e]; exact h3)
      omega
    · exact absurd (own_ty h.hl e h1) (by decide)
  · rintro rfl
    have := hs _ _ h.hp
    cases this
theorem rp_ne (h : DdAt w B p b g v L S) (r : RdAt w B q u L' S') : ¬ Dr q u p := by
  rintro (e | e)
  · exact (dq_ne h r).2 e
  · exact absurd (own_ty r.hl e h.hp) (by decide)
theorem Bo.on (h : Bo w0 w p q L S L' S') (hb : Below w.heap.size w w') : Bo w0 w' p q L S L' S' := by
  obtain ⟨b, g, v, u, h1, h2, h3⟩ := h.ex
  exact ⟨⟨b, g, v, u, h1.on hb, h2.on hb, h3⟩, h.be.trans (hb.mono h.be.size)⟩
theorem Bo.drew (h : Bo w0 w p q L S L' S') : Bo w0 w.drew p q L S L' S' := h.on ((Below.refl _ _).drew)
theorem Bo.step_s (be : Below w0.heap.size w0 w) (h1 : DdAt w w0.heap.size p b g v L S) (h2 : RdAt w w0.heap.size q u L' S') (h3 : ∀ k, u.ownBlock = some k → ¬ Dd b g v k)
    (k1 : DdAt w' w0.heap.size p b g v' L2 S2) (hn : v'.ownBlock = v.ownBlock ∨ ∀ k, v'.ownBlock = some k → w.heap.size ≤ k) (hf : Fr w.heap.size (Dd b g v) w w') : Bo w0 w' p q L2 S2 L' S' := by
  refine ⟨⟨b, g, v', u, k1, h2.kept hf fun k hk e => ?_, fun k hk e => ?_⟩, be.trans (hf.below (B' := w0.heap.size) be.size fun k hk => (h1.dlt hk).2)⟩
  · rcases hk with rfl | hk
    · exact (dq_ne h1 h2).1 e
    · exact h3 k hk e
  · have hlt := (h2.hl.lt k hk).2
    rcases e with e | e | e
    · exact h3 k hk (.inl e)
    · exact h3 k hk (.inr (.inl e))
    · rcases hn with hn | hn
      · rw [hn] at e; exact h3 k hk (.inr (.inr e))
      · have := hn k e; omega
theorem Bo.step_r (be : Below w0.heap.size w0 w) (h1 : DdAt w w0.heap.size p b g v L S) (h2 : RdAt w w0.heap.size q u L' S')
    (k1 : RdAt w' w0.heap.size q u' L2 S2) (hn : ∀ k, u'.ownBlock = some k → ¬ Dd b g v k) (hf : Fr w.heap.size (fun k => k = q) w w') : Bo w0 w' p q L S L2 S2 := by
  refine ⟨⟨b, g, v, u', h1.kept hf (dq_ne h1 h2).2 fun k hk e => (dq_ne h1 h2).1 (e ▸ hk), k1, hn⟩, be.trans (hf.below (B' := w0.heap.size) be.size fun k hk => by rw [hk]; exact h2.lo)⟩
end

section
variable {w0 w : World} {p q : Nat} {L L' : List Int} {S S' : Nat → Int}
theorem bpush_s (h : Bo w0 w p q L S L' S') (hL : L.length < 100000) (x : Int) : Calls Try.prog 13 #[.pointer (some ⟨p, 0, none⟩), .int .i64 x] w fun e w' => e = .returned (.tuple #[]) ∧ Bo w0 w' p q (L ++ [x]) S L' S' := by
  obtain ⟨b, g, v, u, h1, h2, h3⟩ := h.ex
  exact (push_any w h1 h.be.size hL x).mono fun e w' ⟨v', he, k1, hn, hf⟩ => ⟨he, Bo.step_s h.be h1 h2 h3 k1 hn hf⟩
theorem bpush_r (h : Bo w0 w p q L S L' S') (hL : L'.length < 50000) (x : Int) : Calls Try.prog 14 #[.pointer (some ⟨q, 0, none⟩), .int .i64 x] w fun e w' => e = .returned (.tuple #[]) ∧ Bo w0 w' p q L S (L' ++ [x]) S' := by
  obtain ⟨b, g, v, u, h1, h2, h3⟩ := h.ex
  exact (rpush_any w h2 h.be.size hL x).mono fun e w' ⟨u', he, k1, hn, hf⟩ => ⟨he, Bo.step_r h.be h1 h2 k1 (fun k hk e => by have := hn k hk; have := (h1.dlt e).1; omega) hf⟩
theorem bsave_s (h : Bo w0 w p q L S L' S') {n : Nat} (hn : n < 4) : Calls Try.prog 8 #[.pointer (some ⟨p, 0, none⟩), .int .i64 (n : Int)] w fun e w' => e = .returned (.bool true) ∧ Bo w0 w' p q L (upS S n (L.length : Int)) L' S' := by
  obtain ⟨b, g, v, u, h1, h2, h3⟩ := h.ex
  exact (save_any w h1 hn).mono fun e w' ⟨he, k1, hf⟩ => ⟨he, Bo.step_s h.be h1 h2 h3 k1 (.inl rfl) hf⟩
theorem bsave_r (h : Bo w0 w p q L S L' S') {n : Nat} (hn : n < 4) : Calls Try.prog 9 #[.pointer (some ⟨q, 0, none⟩), .int .i64 (n : Int)] w fun e w' => e = .returned (.bool true) ∧ Bo w0 w' p q L S L' (upS S' n (L'.length : Int)) := by
  obtain ⟨b, g, v, u, h1, h2, h3⟩ := h.ex
  exact (rsave_any w h2 hn).mono fun e w' ⟨he, k1, hf⟩ => ⟨he, Bo.step_r h.be h1 h2 k1 h3 hf⟩
theorem bback_s (h : Bo w0 w p q L S L' S') (hL : L.length < 100000) {n t : Nat} (hn : n < 4) (hS : S n = (t : Int)) (ht : t ≤ L.length) :
    Calls Try.prog 10 #[.pointer (some ⟨p, 0, none⟩), .int .i64 (n : Int)] w fun e w' => ∃ A c, e = .returned (.tuple #[.slice A (L.length - t) c, .bool true]) ∧ w'.ownsRow w.heap.size 3 1 (.slice A (L.length - t) c) (L.length - t) (intV (L.drop t).reverse) ∧ Bo w0 w' p q (L.take t) (cutS S t) L' S' := by
  obtain ⟨b, g, v, u, h1, h2, h3⟩ := h.ex
  refine (back_yes w h1 hL hn hS ht).mono fun e w' ⟨v', lv, he, ho, k1, hn, hf⟩ => ?_
  obtain ⟨A, c, rfl⟩ := own_sl ho
  exact ⟨A, c, he, ho, Bo.step_s h.be h1 h2 h3 k1 (.inl hn) hf⟩
theorem bback_r (h : Bo w0 w p q L S L' S') (hL : L'.length < 50000) {n t : Nat} (hn : n < 4) (hS : S' n = (t : Int)) (ht : t ≤ L'.length) :
    Calls Try.prog 11 #[.pointer (some ⟨q, 0, none⟩), .int .i64 (n : Int)] w fun e w' => ∃ A c, e = .returned (.tuple #[.slice A (L'.length - t) c, .bool true]) ∧ Rd w' (.slice A (L'.length - t) c) (L'.drop t).reverse ∧ Fr w.heap.size (fun k => k = q) w w' ∧ Bo w0 w' p q L S (L'.take t) (cutS S' t) := by
  obtain ⟨b, g, v, u, h1, h2, h3⟩ := h.ex
  refine (rback_yes w h2 h.be.size hL hn hS ht).mono fun e w' ⟨u', lv, he, ho, k1, hn, hf⟩ => ?_
  obtain ⟨A, c, rfl⟩ := own_sl ho
  exact ⟨A, c, he, own_rd0 ho, hf, Bo.step_r h.be h1 h2 k1 (fun k hk e => by have := hn k hk; have := (h1.dlt e).1; omega) hf⟩
theorem bback_sno (h : Bo w0 w p q L S L' S') {n : Int} (hS : svB S n = false) : Calls Try.prog 10 #[.pointer (some ⟨p, 0, none⟩), .int .i64 n] w fun e w' => e = .returned (.tuple #[.slice none 0 0, .bool false]) ∧ w' = w := by
  obtain ⟨b, g, v, u, h1, h2, h3⟩ := h.ex
  exact back_no w h1 hS
theorem bback_rno (h : Bo w0 w p q L S L' S') {n : Int} (hS : svB S' n = false) : Calls Try.prog 11 #[.pointer (some ⟨q, 0, none⟩), .int .i64 n] w fun e w' => e = .returned (.tuple #[.slice none 0 0, .bool false]) ∧ w' = w := by
  obtain ⟨b, g, v, u, h1, h2, h3⟩ := h.ex
  exact rback_no w h2 hS
theorem ball_s (h : Bo w0 w p q L S L' S') (hL : L.length < 100000) : Calls Try.prog 15 #[.pointer (some ⟨p, 0, none⟩)] w fun e w' => ∃ A c, e = .returned (.slice A L.length c) ∧ w'.ownsRow w.heap.size 3 1 (.slice A L.length c) L.length (intV L.reverse) ∧ Bo w0 w' p q L S L' S' := by
  obtain ⟨b, g, v, u, h1, h2, h3⟩ := h.ex
  refine (all_any w h1 hL).mono fun e w' ⟨lv, he, ho, hb⟩ => ?_
  obtain ⟨A, c, rfl⟩ := own_sl ho
  exact ⟨A, c, he, ho, h.on hb⟩
theorem ball_r (h : Bo w0 w p q L S L' S') (hL : L'.length < 100000) : Calls Try.prog 16 #[.pointer (some ⟨q, 0, none⟩)] w fun e w' => ∃ A c, e = .returned (.slice A L'.length c) ∧ Rd w' (.slice A L'.length c) L'.reverse ∧ Below w.heap.size w w' ∧ Bo w0 w' p q L S L' S' := by
  obtain ⟨b, g, v, u, h1, h2, h3⟩ := h.ex
  refine (rall_any w h2 hL).mono fun e w' ⟨lv, he, ho, hb⟩ => ?_
  obtain ⟨A, c, rfl⟩ := own_sl ho
  exact ⟨A, c, he, own_rd0 ho, hb, h.on hb⟩
theorem blen_s (h : Bo w0 w p q L S L' S') : Calls Try.prog 17 #[.pointer (some ⟨p, 0, none⟩)] w fun e w' => e = .returned (.int .i64 (L.length : Int)) ∧ w' = w := by
  obtain ⟨b, g, v, u, h1, h2, h3⟩ := h.ex
  exact len_any w h1
theorem bcell_r (h : Bo w0 w p q L S L' S') : ∃ A c, w.cell? ⟨q, 0, none⟩ = some (.slice A L'.length c) := by
  obtain ⟨b, g, v, u, h1, h2, h3⟩ := h.ex
  obtain ⟨A, c, rfl⟩ := own_sl h2.hl
  exact ⟨A, c, h2.c0.1⟩
end

theorem Bo.qlt {w0 w : World} {p q : Nat} {L L' : List Int} {S S' : Nat → Int} (h : Bo w0 w p q L S L' S') : q < w.heap.size := by
  obtain ⟨b, g, v, u, h1, h2, h3⟩ := h.ex
  exact h2.plt
/-- What both have is sound. -/
def Ok (L : List Int) (S : Nat → Int) : Prop := ∀ k, k < 4 → S k = -1 ∨ ∃ t : Nat, S k = (t : Int) ∧ t ≤ L.length
theorem Ok.push {L : List Int} {S : Nat → Int} (h : Ok L S) (x : Int) : Ok (L ++ [x]) S := fun k hk => by
  rcases h k hk with h | ⟨t, h1, h2⟩
  · exact .inl h
  · exact .inr ⟨t, h1, by simp; omega⟩
theorem Ok.save {L : List Int} {S : Nat → Int} (h : Ok L S) (n : Nat) : Ok L (upS S n (L.length : Int)) := fun k hk => by
  unfold upS
  split
  · exact .inr ⟨_, rfl, Nat.le_refl _⟩
  · exact h k hk
theorem Ok.back {L : List Int} {S : Nat → Int} (h : Ok L S) {t : Nat} (ht : t ≤ L.length) : Ok (L.take t) (cutS S t) := fun k hk => by
  unfold cutS
  split
  · exact .inl rfl
  · rcases h k hk with h | ⟨s, h1, h2⟩
    · exact .inl h
    · exact .inr ⟨s, h1, by rw [List.length_take]; omega⟩
theorem sv_yes {S : Nat → Int} {L : List Int} (h : Ok L S) {x : Int} (hx : svB S x = true) : ∃ n t : Nat, x = (n : Int) ∧ n < 4 ∧ S n = (t : Int) ∧ t ≤ L.length := by
  simp only [svB, Bool.and_eq_true, decide_eq_true_eq] at hx
  obtain ⟨⟨h0, h1⟩, h2⟩ := hx
  obtain ⟨n, rfl⟩ : ∃ n : Nat, x = n := ⟨x.toNat, by omega⟩
  rw [Int.toNat_natCast] at h2
  rcases h n (by omega) with h | ⟨t, h3, h4⟩
  · exact absurd h h2
  · exact ⟨n, t, rfl, by omega, h3, h4⟩
end Go.Proofs.Ytacidmnhbhbmhaa
