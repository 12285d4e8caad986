/- HandAll: the deeds that come in; what both caches make of them. -/
import Derived.Test.YtnpgiboapckgpaaHrT
import Derived.Deep.Slices
import Derived.Deep.Fields
import Derived.ChangeSame
import Derived.ChangeSlices
namespace Go.Proofs.Ytnpgiboapckgpaa
open Go.ChangeShapes Go.WideShapes Go.ChangeAt Go.Deep Go.RowKit

theorem add_at (ab ao n : Nat) : (⟨ab, ao, none⟩ : Addr).add n = ⟨ab, ao + n, none⟩ := by
  unfold Addr.add; split <;> simp_all
theorem bounds8 {x : Int} (h : (Lit.int .u8 x).wf = true) : 0 ≤ x ∧ x ≤ 255 := by
  simp only [Lit.wf, Bool.and_eq_true, decide_eq_true_eq] at h
  have hmin : IntKind.u8.min = 0 := rfl
  have hmax : IntKind.u8.max = 255 := rfl
  omega
theorem bounds64 {x : Int} (h : (Lit.int .i64 x).wf = true) : -9223372036854775808 ≤ x ∧ x ≤ 9223372036854775807 := by
  simp only [Lit.wf, Bool.and_eq_true, decide_eq_true_eq] at h
  have hmin : IntKind.i64.min = -9223372036854775808 := rfl
  have hmax : IntKind.i64.max = 9223372036854775807 := rfl
  omega

section
variable {H : Type} {enc : TypeId × Value → H} {w : World} {base : Nat} {sp : Nat → Bool} {held : Bool}

theorem open_deeds {b0 : Nat} {v : Value} {d : DataW H} {ps : List MemPlace} (hok : Value.okWide Try.prog w .any b0 22 v) (h : DataW.Trod enc Try.prog w base sp held 22 v d ps) :
    ∃ A len cap b off, v = .slice A len cap ∧ (0 < len → A = some ⟨b, off, none⟩) ∧ (0 < len → b < w.heap.size) ∧ ∀ i, i < len → ∃ (kd k : Int) (fl : Nat),
      w.cell? ⟨b, off + i * 3, none⟩ = some (.int .i64 kd) ∧ w.cell? ⟨b, off + i * 3 + 1, none⟩ = some (.int .i64 k) ∧ w.cell? ⟨b, off + i * 3 + 2, none⟩ = some (.int .u8 (fl : Int)) ∧
      (-9223372036854775808 ≤ kd ∧ kd ≤ 9223372036854775807) ∧ fl < 256 := by
  obtain ⟨a0, len, cap, rfl⟩ := okWide_slice Try.underlying22 hok
  obtain ⟨fuel, hf⟩ := h
  have hC : Try.prog.cellsOf 29 = 3 := by kernel_rfl
  rcases open_slice Try.underlying22 hf with ⟨hcs, _⟩ | ⟨a, len', cap', m, n, D, Pl, hcs, _, _, _, hm, _, hi⟩
  · simp [Value.cells] at hcs
    obtain ⟨rfl, rfl, rfl⟩ := hcs
    exact ⟨none, 0, 0, 0, 0, rfl, fun e => absurd e (Nat.lt_irrefl 0), fun e => absurd e (Nat.lt_irrefl 0), fun i hi => absurd hi (Nat.not_lt_zero i)⟩
  · simp [Value.cells] at hcs
    obtain ⟨rfl, rfl, rfl⟩ := hcs
    obtain ⟨hs, hbl⟩ := slice_ok Try.underlying22 hok
    obtain ⟨ab, ao, asp⟩ := a
    cases hs
    refine ⟨_, len, cap, ab, ao, rfl, fun _ => rfl, fun _ => hbl, fun i hil => ?_⟩
    obtain ⟨cs, hc, ht⟩ := hi i (by rw [hm]; split <;> omega)
    rw [hC] at hc
    obtain ⟨_, hcl, hat⟩ := World.cells?_some hc
    obtain ⟨xs, n', _, _, _, hxl, hfs⟩ := DataW.trod_struct Try.underlying29 ht
    have hfs' : ∀ (i : Nat) (f : Field), _ → ∀ (t : TypeId) (o k : Nat), f.type = t → f.offset = o → Try.prog.cellsOf t = k → DataW.trod enc Try.prog w base sp held n' t ((cs.drop o).take k) = xs[i]? := fun i f hf t o k e1 e2 e3 => by
      have h := hfs i f hf
      rw [e1, e2, e3] at h
      exact h
    match cs, hcl with
    | [c0, c1, c2], _ =>
      have k0 := hat 0 (by omega)
      have k1 := hat 1 (by omega)
      have k2 := hat 2 (by omega)
      simp only [add_at] at k0 k1 k2
      have u3 : Try.prog.cellsOf 3 = 1 := by kernel_rfl
      have u5 : Try.prog.cellsOf 5 = 1 := by kernel_rfl
      have q0 : DataW.trod enc Try.prog w base sp held n' 3 [c0] = xs[0]? := hfs' 0 _ rfl _ 0 1 rfl rfl u3
      have q1 : DataW.trod enc Try.prog w base sp held n' 3 [c1] = xs[1]? := hfs' 1 _ rfl _ 1 1 rfl rfl u3
      have q2 : DataW.trod enc Try.prog w base sp held n' 5 [c2] = xs[2]? := hfs' 2 _ rfl _ 2 1 rfl rfl u5
      have hx5 : xs.length = 3 := hxl
      rw [List.getElem?_eq_getElem (by omega)] at q0 q1 q2
      obtain ⟨kd, e0, _, g0⟩ := DataW.trod_int Try.underlying3 q0
      obtain ⟨at_, e1, _, _⟩ := DataW.trod_int Try.underlying3 q1
      obtain ⟨fl, e2, _, g2⟩ := DataW.trod_int Try.underlying5 q2
      injection e0 with e0 _
      injection e1 with e1 _
      injection e2 with e2 _
      subst e0 e1 e2
      have b2 := bounds8 g2
      obtain ⟨n, rfl⟩ : ∃ n : Nat, fl = (n : Int) := ⟨fl.toNat, by omega⟩
      exact ⟨kd, at_, n, k0, k1, k2, bounds64 g0, by omega⟩
end

/-- Behind m deeds. -/
structure Ia (m : Nat) (s : St) : Prop where
  a : s.a < s.n
  c : Clean s
  p : ∀ i, i < s.n → (s.P i).n ≤ m
theorem Ia.more {m : Nat} {s : St} (h : Ia m s) : Ia (m + 1) s := ⟨h.a, h.c, fun i hi => Nat.le_succ_of_le (h.p i hi)⟩
theorem Ia.up {m : Nat} {s : St} (h : Ia m s) {i : Nat} (_hi : i < s.n) {x : Pl} (hx : x.u = false → x = Pl.zero) (hn : x.n ≤ m + 1) : Ia (m + 1) { s with P := up s.P i x } :=
  ⟨h.a, fun j hj hu => by
    dsimp only at hu ⊢
    by_cases e : j = i
    · subst e; rw [up_same] at hu ⊢; exact hx hu
    · rw [up_other _ e] at hu ⊢; exact h.c j hj hu, fun j hj => by
    dsimp only
    by_cases e : j = i
    · subst e; rw [up_same]; exact hn
    · rw [up_other _ e]; exact Nat.le_succ_of_le (h.p j hj)⟩
theorem hit_u {s : St} {k : Int} {i : Nat} (h : hit s k i = true) : (s.P i).u = true := by
  unfold hit at h; simp at h; exact h.1
theorem put_ex {m : Nat} {s : St} (h : Ia m s) (k : Int) (v : ByteArray) : ∃ (s' : St) (out : Int) (was : ByteArray) (had : Bool) (e : Int), PutR s k v s' (tup4 out was had e) ∧ Ia (m + 1) s' := by
  obtain ⟨i, hf⟩ := First.some s.n (hit s k)
  by_cases hi : i < s.n
  · exact ⟨_, _, _, _, _, .hit i hf hi, h.up hi (fun e => by rw [show (s.P i).u = true from hit_u (hf.yes hi)] at e; cases e) (Nat.le_succ_of_le (h.p i hi))⟩
  · have e : i = s.n := by have := hf.le; omega
    rw [e] at hf
    obtain ⟨v', hv⟩ := First.some s.n (vac s)
    by_cases hvi : v' < s.n
    · exact ⟨_, _, _, _, _, .vac v' hf hv hvi, h.up hvi (fun e => by cases e) (Nat.zero_le _)⟩
    · have e2 : v' = s.n := by have := hv.le; omega
      rw [e2] at hv
      have hall : ∀ i, i < s.n → (s.P i).u = true := fun i hi => by have := hv.no i hi; unfold vac at this; simpa using this
      obtain ⟨l, hl⟩ := First.some s.n (loose s)
      by_cases hli : l < s.n
      · have h0 : (s.P l).n = 0 := by have := hl.yes hli; unfold loose at this; simpa using this
        obtain ⟨f, P', a', j, ht⟩ := turn_ends (n := s.n) _ s.P s.a rfl h.a ⟨l, hli, h0⟩
        obtain ⟨hj, ha', _⟩ := turnF_lt f s.P s.a h.a ht
        have hs := turnF_sim f s.P s.a ht
        refine ⟨_, _, _, _, _, .turn l j a' f P' hf hv hl hli ht, ha', fun i hi hu => ?_, fun i hi => ?_⟩
        · dsimp only at hu
          by_cases e : i = j
          · subst e; rw [up_same] at hu; cases hu
          · rw [up_other _ e, (hs i).1, hall i hi] at hu; cases hu
        · dsimp only
          by_cases e : i = j
          · subst e; rw [up_same]; exact Nat.zero_le _
          · rw [up_other _ e, (hs i).2.2.2]; exact Nat.le_succ_of_le (h.p i hi)
      · have e3 : l = s.n := by have := hl.le; omega
        rw [e3] at hl
        exact ⟨_, _, _, _, _, .full hf hv hl, h.more⟩
theorem get_ex {m : Nat} {s : St} (h : Ia m s) (k : Int) : ∃ (s' : St) (x : ByteArray) (b : Bool), GetR s k s' (.returned (.tuple #[.string x, .bool b])) ∧ Ia (m + 1) s' := by
  obtain ⟨i, hf⟩ := First.some s.n (hit s k)
  by_cases hi : i < s.n
  · exact ⟨_, _, _, .hit i hf hi, h.up hi (fun e => by rw [show (s.P i).u = true from hit_u (hf.yes hi)] at e; cases e) (Nat.le_succ_of_le (h.p i hi))⟩
  · have e : i = s.n := by have := hf.le; omega
    rw [e] at hf
    exact ⟨_, _, _, .none hf, h.more⟩
theorem pin_ex {m : Nat} {s : St} (h : Ia m s) (hm : m < 1000000) (k : Int) : ∃ (s' : St) (b : Bool), PinR s k s' b ∧ Ia (m + 1) s' := by
  obtain ⟨i, hf⟩ := First.some s.n (hit s k)
  by_cases hi : i < s.n
  · have := h.p i hi
    exact ⟨_, _, .hit i hf hi (by omega), h.up hi (fun e => by rw [show (s.P i).u = true from hit_u (hf.yes hi)] at e; cases e) (Nat.succ_le_succ this)⟩
  · have e : i = s.n := by have := hf.le; omega
    rw [e] at hf
    exact ⟨_, _, .none hf, h.more⟩
theorem unpin_ex {m : Nat} {s : St} (h : Ia m s) (hm : m < 1000000) (k : Int) : ∃ (s' : St) (b : Bool), UnpinR s k s' b ∧ Ia (m + 1) s' := by
  obtain ⟨i, hf⟩ := First.some s.n (hit s k)
  by_cases hi : i < s.n
  · have := h.p i hi
    by_cases h0 : 0 < (s.P i).n
    · exact ⟨_, _, .hit i hf hi h0 (by omega), h.up hi (fun e => by rw [show (s.P i).u = true from hit_u (hf.yes hi)] at e; cases e) (by show (s.P i).n - 1 ≤ _; omega)⟩
    · exact ⟨_, _, .no i hf hi (by omega), h.more⟩
  · have e : i = s.n := by have := hf.le; omega
    rw [e] at hf
    exact ⟨_, _, .none hf, h.more⟩
theorem drop_ex {m : Nat} {s : St} (h : Ia m s) (k : Int) : ∃ (s' : St) (b : Bool), DropR s k s' b ∧ Ia (m + 1) s' := by
  obtain ⟨i, hf⟩ := First.some s.n (hit s k)
  by_cases hi : i < s.n
  · by_cases h0 : (s.P i).n = 0
    · exact ⟨_, _, .hit i hf hi h0, h.up hi (fun _ => rfl) (Nat.zero_le _)⟩
    · exact ⟨_, _, .no i hf hi (by omega), h.more⟩
  · have e : i = s.n := by have := hf.le; omega
    rw [e] at hf
    exact ⟨_, _, .none hf, h.more⟩

/-- Both caches, among the call's own blocks. -/
structure Duo (B : Nat) (w W : World) (p g p2 g2 : Nat) (s t : St) : Prop where
  ha : HA W p g s
  ra : RA W p2 g2 t
  be : Below B w W
  bp : B ≤ p
  bg : B ≤ g
  bp2 : B ≤ p2
  bg2 : B ≤ g2
  n1 : p ≠ p2
  n2 : p ≠ g2
  n3 : g ≠ p2
  n4 : g ≠ g2
section
variable {B : Nat} {w W W' : World} {p g p2 g2 : Nat} {s t s' t' : St}
theorem Duo.size (h : Duo B w W p g p2 g2 s t) : B ≤ W.heap.size := Nat.le_trans h.bp (Nat.le_of_lt h.ha.lp)
theorem Duo.one (h : Duo B w W p g p2 g2 s t) (h1 : HA W' p g s') (hf : Fr W.heap.size (Two p g) W W') : Duo B w W' p g p2 g2 s' t :=
  ⟨h1, h.ra.fr hf h.ra.lp h.ra.lg (by rintro (e | e); exact h.n1 e.symm; exact h.n3 e.symm) (by rintro (e | e); exact h.n2 e.symm; exact h.n4 e.symm), Fr.own h.be h.size hf h.bp h.bg, h.bp, h.bg, h.bp2, h.bg2, h.n1, h.n2, h.n3, h.n4⟩
theorem Duo.two (h : Duo B w W p g p2 g2 s t) (h1 : RA W' p2 g2 t') (hf : Fr W.heap.size (Two p2 g2) W W') : Duo B w W' p g p2 g2 s t' :=
  ⟨h.ha.fr hf h.ha.lp h.ha.lg (by rintro (e | e); exact h.n1 e; exact h.n2 e) (by rintro (e | e); exact h.n3 e; exact h.n4 e), h1, Fr.own h.be h.size hf h.bp2 h.bg2, h.bp, h.bg, h.bp2, h.bg2, h.n1, h.n2, h.n3, h.n4⟩
theorem Duo.on (h : Duo B w W p g p2 g2 s t) (hb : Below W.heap.size W W') : Duo B w W' p g p2 g2 s t :=
  ⟨h.ha.on hb, h.ra.on hb, h.be.trans (hb.mono h.size), h.bp, h.bg, h.bp2, h.bg2, h.n1, h.n2, h.n3, h.n4⟩
end
theorem duo_new {w W W1 W2 : World} {n : Nat} (hb : Below w.heap.size w W) (h1 : HA W1 W.heap.size W.heap.size (newS n)) (b1 : Below W.heap.size W W1) (h2 : RA W2 (W1.heap.size + 1) W1.heap.size (newS n)) (b2 : Below W1.heap.size W1 W2) :
    Duo w.heap.size w W2 W.heap.size W.heap.size (W1.heap.size + 1) W1.heap.size (newS n) (newS n) := by
  have q1 := hb.size
  have q2 := h1.lp
  exact ⟨h1.on b2, h2, (hb.trans (b1.mono q1)).trans (b2.mono (by omega)), by omega, q1, by omega, by omega, by omega, by omega, by omega, by omega⟩
end Go.Proofs.Ytnpgiboapckgpaa
