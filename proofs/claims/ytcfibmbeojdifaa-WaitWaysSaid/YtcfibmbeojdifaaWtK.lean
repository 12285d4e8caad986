/- Maps of maps from numbers to sets of numbers: keys, zero values, delete; a graph as such a map. -/
import Derived.Test.YtcfibmbeojdifaaLkM
import Derived.Test.YtcfibmbeojdifaaWtP
import Derived.Test.YtcfibmbeojdifaaRows
import Derived.Deep.QuietTactic
import Derived.BigQuiet
import Derived.OwnWalk
import Derived.Sort.OwnSortedInts
import Derived.Deep.DeepCutAuto
import Derived.Deep.CutBlock
namespace Go.Proofs.Ytcfibmbeojdifaa
open Go.RowKit Go.Maps Go.WideMaps

theorem kI : Keyed Try.prog 3 := int_keyed Try.underlying3
def iL (i : Int) : Lit := .int .i64 i
def Wf (i : Int) : Prop := (Lit.int .i64 i).wf = true
theorem keyI {i : Int} (h : Wf i) : keyOf Try.prog 3 (.int .i64 i) = some (iL i) := keyOf_int_mk Try.underlying3 h
theorem iL_ne {x y : Int} (h : x ≠ y) : iL x ≠ iL y := fun e => h (by simpa [iL] using e)
theorem iL_inj {x y : Int} (h : iL x = iL y) : x = y := by simpa [iL] using h
theorem same_iL (x y : Int) : (iL y).sameKey (iL x) = decide (y = x) := by simp [iL, Lit.sameKey]
theorem zI (w : World) : (zeroValue 3).run Try.prog w = .ok (.int .i64 0) w := by kernel_rfl
theorem zM (w : World) : (zeroValue 52).run Try.prog w = .ok (.map none) w := by kernel_rfl
theorem zU (w : World) : (zeroValue 53).run Try.prog w = .ok (.agg #[]) w := by kernel_rfl
theorem eqS (c : Nat) (w : World) : (binOp BinOp.eql 48 (.map (some c)) (.map none)).run Try.prog w = .ok (.bool false) w := by kernel_rfl
theorem cell_of {w : World} {p : Nat} {cs : Array Value} {t : TypeId} (h : w.heap[p]? = some (.cells cs t (0, 0))) (i : Nat) : w.cell? ⟨p, i, none⟩ = cs[i]? ∧ w.frozen? ⟨p, i, none⟩ = false := by
  simp [World.cell?, World.frozen?, h]
theorem infoI64 : (Try.prog.info? 3).map (fun i => (i.zero, i.size, i.bytes)) = some (some (.int .i64 0), 1, 8) := by kernel_rfl
theorem info_parts {o : Option TypeInfo} {z : Value} {s b : Nat} (h : o.map (fun i => (i.zero, i.size, i.bytes)) = some (some z, s, b)) : ∃ i, o = some i ∧ i.zero = some z ∧ i.size = s ∧ i.bytes = b := by
  cases o with
  | none => cases h
  | some i =>
    simp only [Option.map_some, Option.some.injEq, Prod.mk.injEq] at h
    exact ⟨i, rfl, h.1, h.2.1, h.2.2⟩

/-! ### delete -/
noncomputable def delF (m : Lit → Option Value) (l : Lit) : Lit → Option Value := updL m l none
theorem atL_del {D : DataW Value} {l : Lit} (j : Lit) : atL (D.del l) j = updL (atL D) l none j := by
  by_cases e : j = l
  · subst e
    rw [updL_same]
    unfold atL
    rw [atKey_del_same]
  · rw [updL_other _ e]
    unfold atL
    rw [atKey_del_other e]
section
variable {P : Program} {k t e b n : Nat} {m : Lit → Option Value} {w w' : World}
theorem gm.drop (h : gm w P k b n m) (K : Keyed P k) (ht : P.underlying t = some (.map k e)) {key : Value} {kl : Lit} (hkey : keyOf P k key = some kl) :
    ∃ w', (∀ ty, (Builtin.delete_ #[t, k] ty #[.map (some b), key]).run P w = .ok (.tuple #[]) w') ∧ gm w' P k b n (delF m kl) ∧ w.mapTurned w' b := by
  obtain ⟨D, hD, hm⟩ := h
  obtain ⟨w', r1, r2, r3⟩ := hD.drop K ht hkey 0
  refine ⟨w', fun ty => r1, ⟨_, r2, fun j hj => ?_⟩, r3⟩
  rw [atL_del]
  unfold delF
  by_cases e : j = kl
  · subst e; rw [updL_same, updL_same]
  · rw [updL_other _ e, updL_other _ e]; exact hm j hj
theorem gm.len (h : gm w P k b n m) (ht : P.underlying t = some (.map k e)) : ∃ s : Nat, (∀ ty, (Builtin.len_ #[t] ty #[.map (some b)]).run P w = .ok (.int .i64 (s : Int)) w) ∧ s ≤ n ∧ (s = 0 → ∀ j, WideAt.IsKeyLit j → m j = none) := by
  obtain ⟨D, hD, hm⟩ := h
  refine ⟨size D, fun ty => hD.len ht ty, hD.size_le, fun h0 j hj => ?_⟩
  rw [hm j hj]
  obtain ⟨es, clock, _, _, _, rfl⟩ := hD
  have : (es.toList.map (WideElems.rg P k tokR)).foldr DataW.insert [] = [] := List.eq_nil_of_length_eq_zero h0
  rw [this]
  rfl
theorem gm.congr (h : gm w P k b n m) {m' : Lit → Option Value} (he : ∀ j, WideAt.IsKeyLit j → m j = m' j) : gm w P k b n m' := by
  obtain ⟨D, hD, hm⟩ := h
  exact ⟨D, hD, fun j hj => (he j hj).symm.trans (hm j hj)⟩

variable {o : Oper} {ops : Array Oper} {rest : List Oper} {a : Act} {Q : Exit → Act → World → Prop}
theorem wpList_delete_run (w : World) (hg : o.guard = none) (mo x : Operand) (t k : TypeId) (hop : o.op = Op.call { callee := Callee.builtin Builtin.delete, args := #[mo, x], argTypes := #[t, k] })
    (mv key : Value) (hm : a.eval mo = mv) (hx : a.eval x = key) (w' : World) (hrun : ∀ ty, (Builtin.delete_ #[t, k] ty #[mv, key]).run P w = .ok (.tuple #[]) w')
    (hK : wpList P ops Q rest (a.put o.dst (.tuple #[])) w') : wpList P ops Q (o :: rest) a w := by
  refine wpList_plain hg fun K' hK' => ?_
  unfold Oper.wp
  simp [execOp, hop, resolve, invoke, builtin, hm, hx, hrun, Result.andThen]
  exact hK' _ _ hK
theorem wpList_len_run (w : World) (hg : o.guard = none) (mo : Operand) (t : TypeId) (hop : o.op = Op.call { callee := Callee.builtin Builtin.len, args := #[mo], argTypes := #[t] })
    (mv v : Value) (hm : a.eval mo = mv) (hrun : ∀ ty, (Builtin.len_ #[t] ty #[mv]).run P w = .ok v w)
    (hK : wpList P ops Q rest (a.put o.dst v) w) : wpList P ops Q (o :: rest) a w := by
  refine wpList_plain hg fun K' hK' => ?_
  unfold Oper.wp
  simp [execOp, hop, resolve, invoke, builtin, hm, hrun, Result.andThen]
  exact hK' _ _ hK
end

/-! ### a map of maps: delete, and a row put -/
section
variable {w w' : World} {P : Program} {k1 k2 b n : Nat} {F : Lit → Lit → Option Value} {ob : Lit → Option Nat}
theorem MM.mono (h : MM w P k1 k2 b n F ob) {n' : Nat} (hn : n ≤ n') : MM w P k1 k2 b n' F ob := ⟨h.out.mono hn, fun l c e => (h.inn l c e).mono hn, h.non, h.inj, h.ne⟩
theorem MM.congr (h : MM w P k1 k2 b n F ob) {F' : Lit → Lit → Option Value} (he : ∀ l j, F l j = F' l j) : MM w P k1 k2 b n F' ob := by
  obtain rfl : F = F' := by funext l j; exact he l j
  exact h
theorem MM.del_in (h : MM w P k1 k2 b n F ob) {a k : Lit} {c : Nat} (ha : ob a = some c) (ht : w.mapTurned w' c) (hg : gm w' P k2 c n (delF (F a) k)) : MM w' P k1 k2 b n (updL F a (delF (F a) k)) ob := by
  refine ⟨h.out.of_block (block_turned ht (h.ne a c ha).symm), fun l d hd => ?_, fun l hl => ?_, h.inj, h.ne⟩
  · by_cases e : l = a
    · subst e
      obtain rfl : c = d := Option.some.inj (ha.symm.trans hd)
      rw [updL_same]
      exact hg
    · rw [updL_other _ e]
      exact (h.inn l d hd).of_block (block_turned ht (fun e2 => e (h.inj l a c (e2 ▸ hd) ha)))
  · have e : l ≠ a := by rintro rfl; rw [ha] at hl; cases hl
    rw [updL_other _ e]
    exact h.non l hl
noncomputable def delO (ob : Lit → Option Nat) (a : Lit) : Lit → Option Nat := updL ob a none
theorem MM.del_out (h : MM w P k1 k2 b n F ob) {a : Lit} (ht : w.mapTurned w' b) (hg : gm w' P k1 b n (delF (fun l => (ob l).map fun c => .map (some c)) a)) : MM w' P k1 k2 b n (updL F a (fun _ => none)) (delO ob a) := by
  have he : ∀ l d, delO ob a l = some d → l ≠ a ∧ ob l = some d := fun l d hd => by
    unfold delO at hd
    by_cases e : l = a
    · subst e; rw [updL_same] at hd; cases hd
    · rw [updL_other _ e] at hd; exact ⟨e, hd⟩
  refine ⟨hg.congr fun j _ => ?_, fun l d hd => ?_, fun l hl => ?_, fun l l' d hd hd' => h.inj l l' d (he l d hd).2 (he l' d hd').2, fun l d hd => h.ne l d (he l d hd).2⟩
  · unfold delF delO
    by_cases e : j = a
    · subst e; rw [updL_same, updL_same]; rfl
    · rw [updL_other _ e, updL_other _ e]
  · rw [updL_other _ (he l d hd).1]
    exact (h.inn l d (he l d hd).2).of_block (block_turned ht (h.ne l d (he l d hd).2))
  · by_cases e : l = a
    · subst e; rw [updL_same]
    · rw [updL_other _ e]
      unfold delO at hl
      rw [updL_other _ e] at hl
      exact h.non l hl
/-- A new row, made ahead, is put. -/
theorem MM.put_row (h : MM w P k1 k2 b n F ob) {a : Lit} {c m : Nat} {row : Lit → Option Value} (hc : ∀ d, MMb b ob d → d ≠ c) (ht : w.mapTurned w' b) (ho : gm w' P k1 b (n + 1) (updL (fun l => (ob l).map fun c => .map (some c)) a (some (.map (some c))))) (hi : gm w P k2 c m row) :
    MM w' P k1 k2 b (n + m + 1) (updL F a row) (updL ob a (some c)) := by
  have hcb : c ≠ b := fun e => hc b (Or.inl rfl) e.symm
  refine ⟨?_, fun l d hd => ?_, fun l hl => ?_, fun l l' d hd hd' => ?_, fun l d hd => ?_⟩
  · refine (ho.congr fun l _ => ?_).mono (by omega)
    by_cases e : l = a
    · subst e; rw [updL_same, updL_same]; rfl
    · rw [updL_other _ e, updL_other _ e]
  · by_cases e : l = a
    · subst e
      rw [updL_same] at hd
      obtain rfl := Option.some.inj hd
      rw [updL_same]
      exact (hi.of_block (block_turned ht hcb)).mono (by omega)
    · rw [updL_other _ e] at hd
      rw [updL_other _ e]
      exact ((h.inn l d hd).of_block (block_turned ht (h.ne l d hd))).mono (by omega)
  · by_cases e : l = a
    · subst e; rw [updL_same] at hl; cases hl
    · rw [updL_other _ e] at hl
      rw [updL_other _ e]
      exact h.non l hl
  · by_cases e : l = a
    · by_cases e' : l' = a
      · rw [e, e']
      · subst e
        rw [updL_same] at hd
        rw [updL_other _ e'] at hd'
        obtain rfl := Option.some.inj hd
        exact absurd rfl (hc c (Or.inr ⟨l', hd'⟩))
    · rw [updL_other _ e] at hd
      by_cases e' : l' = a
      · subst e'
        rw [updL_same] at hd'
        obtain rfl := Option.some.inj hd'
        exact absurd rfl (hc c (Or.inr ⟨l, hd⟩))
      · rw [updL_other _ e'] at hd'
        exact h.inj l l' d hd hd'
  · by_cases e : l = a
    · subst e
      rw [updL_same] at hd
      obtain rfl := Option.some.inj hd
      exact hcb
    · rw [updL_other _ e] at hd
      exact h.ne l d hd
theorem MM.isMap (h : MM w P k1 k2 b n F ob) {c : Nat} (hc : MMb b ob c) {cs : Array Value} {t : TypeId} {f : Nat × Nat} (hp : w.heap[c]? = some (.cells cs t f)) : False := by
  rcases hc with rfl | ⟨l, hl⟩
  · obtain ⟨D, ⟨es, clock, h1, _⟩, _⟩ := h.out
    rw [hp] at h1; cases h1
  · obtain ⟨D, ⟨es, clock, h1, _⟩, _⟩ := h.inn l c hl
    rw [hp] at h1; cases h1
end

/-! ### edges -/
open Classical in
noncomputable def gF (es : List (Int × Int)) : Lit → Lit → Option Value := fun l j => if ∃ q, q ∈ es ∧ l = iL q.1 ∧ j = iL q.2 then some (.agg #[]) else none
theorem gF_some {es : List (Int × Int)} {x y : Int} : gF es (iL x) (iL y) = (if (x, y) ∈ es then some (.agg #[]) else none) := by
  unfold gF
  by_cases h : (x, y) ∈ es
  · rw [if_pos h, if_pos ⟨_, h, rfl, rfl⟩]
  · rw [if_neg h, if_neg]
    rintro ⟨⟨x', y'⟩, hq, h1, h2⟩
    have e1 := iL_inj h1
    have e2 := iL_inj h2
    subst e1 e2
    exact h hq
theorem gF_iff {es : List (Int × Int)} {x y : Int} : (gF es (iL x) (iL y)).isSome = true ↔ (x, y) ∈ es := by
  rw [gF_some]
  by_cases h : (x, y) ∈ es <;> simp [h]
theorem gF_out {es : List (Int × Int)} {l j : Lit} (h : ∀ x y, l = iL x → j = iL y → (x, y) ∉ es) : gF es l j = none := by
  unfold gF
  rw [if_neg]
  rintro ⟨⟨x, y⟩, hq, h1, h2⟩
  exact h x y h1 h2 hq
theorem gF_in {es : List (Int × Int)} {x y : Int} (h : (x, y) ∈ es) : gF es (iL x) (iL y) = some (.agg #[]) := by rw [gF_some, if_pos h]
theorem gF_any (es : List (Int × Int)) (l j : Lit) : (∃ x y, l = iL x ∧ j = iL y ∧ (x, y) ∈ es ∧ gF es l j = some (.agg #[])) ∨ ((∀ x y, l = iL x → j = iL y → (x, y) ∉ es) ∧ gF es l j = none) := by
  by_cases h : ∃ x y, l = iL x ∧ j = iL y ∧ (x, y) ∈ es
  · obtain ⟨x, y, rfl, rfl, h⟩ := h
    exact Or.inl ⟨x, y, rfl, rfl, h, gF_in h⟩
  · have h' : ∀ x y, l = iL x → j = iL y → (x, y) ∉ es := fun x y e1 e2 hm => h ⟨x, y, e1, e2, hm⟩
    exact Or.inr ⟨h', gF_out h'⟩
/-- Two rows of edges with one membership read as one. -/
theorem gF_eq {es fs : List (Int × Int)} (l j : Lit) (h : ∀ x y, l = iL x → j = iL y → ((x, y) ∈ es ↔ (x, y) ∈ fs)) : gF es l j = gF fs l j := by
  rcases gF_any es l j with ⟨x, y, rfl, rfl, hm, e⟩ | ⟨hn, e⟩
  · rw [e, gF_in ((h x y rfl rfl).1 hm)]
  · rw [e, gF_out fun x y e1 e2 hm => hn x y e1 e2 ((h x y e1 e2).2 hm)]
open Classical in
/-- A set of numbers as a function of keys. -/
noncomputable def rF (on : List Int) : Lit → Option Value := fun j => if ∃ y, y ∈ on ∧ j = iL y then some (.agg #[]) else none
theorem rF_in {on : List Int} {y : Int} : rF on (iL y) = (if y ∈ on then some (.agg #[]) else none) := by
  unfold rF
  by_cases h : y ∈ on
  · rw [if_pos h, if_pos ⟨_, h, rfl⟩]
  · rw [if_neg h, if_neg]
    rintro ⟨y', hq, h1⟩
    have e1 := iL_inj h1
    subst e1
    exact h hq
theorem rF_out {on : List Int} {j : Lit} (h : ∀ y, j ≠ iL y) : rF on j = none := by
  unfold rF
  rw [if_neg]
  rintro ⟨y, _, h1⟩
  exact h y h1
theorem rF_snoc (on : List Int) (x : Int) (j : Lit) : updL (rF on) (iL x) (some (.agg #[])) j = rF (on ++ [x]) j := by
  by_cases h : ∃ y, j = iL y
  · obtain ⟨y, rfl⟩ := h
    rw [rF_in]
    by_cases e : y = x
    · subst e; rw [updL_same]; simp
    · rw [updL_other _ (iL_ne e), rF_in]; simp [e]
  · have h' : ∀ y, j ≠ iL y := fun y e => h ⟨y, e⟩
    rw [updL_other _ (h' x), rF_out h', rF_out h']
end Go.Proofs.Ytcfibmbeojdifaa
