/- Operations of a region that draws its order, each of which makes memory, and none of which waits for another one: in whatever order they come up, one walk behind them is enough. -/
import Derived.Test.YtkfebibnpincpaaHeldL
import Derived.RegionTactic
import Derived.Laws.Tables
namespace Go.Proofs.Ytkfebibnpincpaa

/-- All but these temporaries are the same. -/
structure Agree (ds : List Nat) (a0 a : Act) : Prop where
  size : a.tmps.size = a0.tmps.size
  defers : a.defers = a0.defers
  same : ∀ d, d ∉ ds → a.tmps[d]? = a0.tmps[d]?
theorem Agree.refl (ds : List Nat) (a : Act) : Agree ds a a := ⟨rfl, rfl, fun _ _ => rfl⟩
theorem Agree.put {ds : List Nat} {a0 a : Act} (h : Agree ds a0 a) {d : Nat} (hd : d ∈ ds) (v : Value) : Agree ds a0 (a.put (some d) v) :=
  ⟨by rw [← h.size]; simp [Act.put], h.defers, fun e he => by
    rw [← h.same e he]
    show (a.tmps.setIfInBounds d v)[e]? = _
    rw [Array.getElem?_setIfInBounds, if_neg (fun k : d = e => he (k ▸ hd))]⟩
theorem Agree.eval {ds : List Nat} {a0 a : Act} (h : Agree ds a0 a) {d : Nat} (hd : d ∉ ds) : a.eval (.tmp d) = a0.eval (.tmp d) := by
  show a.tmps.getD d undef = a0.tmps.getD d undef
  rw [Array.getD_eq_getD_getElem?, Array.getD_eq_getD_getElem?, h.same d hd]

def putAll (a : Act) : List (Nat × Nat) → List Value → Act
  | (_, d) :: D, v :: vs => putAll (a.put (some d) v) D vs
  | _, _ => a
def setAll (ls : Array Bool) : List (Nat × Nat) → List Bool → Array Bool
  | (i, _) :: D, b :: L => setAll (if b then ls.setIfInBounds i true else ls) D L
  | _, _ => ls
def pend : List (Nat × Nat) → List Bool → List Nat
  | (i, _) :: D, b :: L => if b then pend D L else i :: pend D L
  | _, _ => []
def ds (D : List (Nat × Nat)) : List Nat := D.map Prod.snd
def is (D : List (Nat × Nat)) : List Nat := D.map Prod.fst

theorem setAll_set (ls : Array Bool) : ∀ (D : List (Nat × Nat)) (L : List Bool) (j : Nat), (setAll ls D L).setIfInBounds j true = setAll (ls.setIfInBounds j true) D L
  | [], L, j => by cases L <;> rfl
  | (i, d) :: D, [], j => rfl
  | (i, d) :: D, b :: L, j => by
    show (setAll _ D L).setIfInBounds j true = setAll _ D L
    rw [setAll_set _ D L j]
    cases b
    · rfl
    · show setAll ((ls.setIfInBounds i true).setIfInBounds j true) D L = setAll ((ls.setIfInBounds j true).setIfInBounds i true) D L
      by_cases h : i = j
      · rw [h]
      · rw [Array.setIfInBounds_comm _ _ h]
theorem setAll_pos : ∀ (D : List (Nat × Nat)) (L : List Bool) (ls : Array Bool) (k : Nat) (hk : k < D.length) (_ : L.length = D.length), L[k]? = some false → (setAll ls D L).setIfInBounds (D[k].1) true = setAll ls D (L.set k true)
  | [], _, _, k, hk, _, _ => by cases hk
  | (i, d) :: D, [], _, _, _, hl, _ => by cases hl
  | (i, d) :: D, b :: L, ls, 0, _, hl, hb => by
    obtain rfl : b = false := by simpa using hb
    show (setAll ls D L).setIfInBounds i true = setAll (ls.setIfInBounds i true) D L
    exact setAll_set ls D L i
  | (i, d) :: D, b :: L, ls, k + 1, hk, hl, hb => by
    exact setAll_pos D L (if b then ls.setIfInBounds i true else ls) k (by simpa using hk) (by simpa using hl) (by simpa using hb)
theorem pend_mem : ∀ (D : List (Nat × Nat)) (L : List Bool) (i : Nat), L.length = D.length → i ∈ pend D L → ∃ k, ∃ hk : k < D.length, D[k].1 = i ∧ L[k]? = some false
  | [], L, i, _, h => by cases L <;> cases h
  | (i, d) :: D, [], _, hl, _ => by cases hl
  | (j, d) :: D, b :: L, i, hl, h => by
    have hl' : L.length = D.length := by simpa using hl
    cases b
    · rcases List.mem_cons.1 h with rfl | h
      · exact ⟨0, by simp, rfl, rfl⟩
      · obtain ⟨k, hk, h1, h2⟩ := pend_mem D L i hl' h
        exact ⟨k + 1, by simpa using hk, by simpa using h1, by simpa using h2⟩
    · obtain ⟨k, hk, h1, h2⟩ := pend_mem D L i hl' h
      exact ⟨k + 1, by simpa using hk, by simpa using h1, by simpa using h2⟩
theorem pend_none : ∀ (D : List (Nat × Nat)) (L : List Bool), L.length = D.length → ∀ ls : Array Bool, (∀ k : Nat, L[k]? ≠ some false) → setAll ls D L = setAll ls D (List.replicate D.length true)
  | [], L, _, _, _ => by cases L <;> rfl
  | (i, d) :: D, [], hl, _, _ => by cases hl
  | (i, d) :: D, b :: L, hl, ls, h => by
    obtain rfl : b = true := by
      cases b
      · exact absurd rfl (h 0)
      · rfl
    show setAll _ D L = setAll _ D (List.replicate D.length true)
    exact pend_none D L (by simpa using hl) _ (fun k => by have := h (k + 1); simpa using this)
theorem put_at (a : Act) (d : Nat) (v : Value) (e : Nat) : (a.put (some d) v).tmps[e]? = if d = e then (if d < a.tmps.size then some v else none) else a.tmps[e]? := by
  show (a.tmps.setIfInBounds d v)[e]? = _
  rw [Array.getElem?_setIfInBounds]
/-- An act that agrees is what all puts make. -/
theorem agree_all : ∀ (D : List (Nat × Nat)) (vs : List Value) (a0 a : Act), (ds D).Nodup → vs.length = D.length → Agree (ds D) a0 a → (∀ k (hk : k < D.length) (hv : k < vs.length), a.tmps[D[k].2]? = some vs[k]) → a = putAll a0 D vs
  | [], vs, a0, a, _, hl, h, _ => by
    obtain rfl : vs = [] := List.length_eq_zero_iff.1 hl
    show a = a0
    obtain ⟨t, df⟩ := a
    obtain ⟨t0, df0⟩ := a0
    obtain ⟨h1, h2, h3⟩ := h
    simp only at h1 h2 h3
    subst h2
    congr 1
    exact Array.ext_getElem? fun i => h3 i (by simp [ds])
  | (i, d) :: D, [], _, _, _, hl, _, _ => by cases hl
  | (i, d) :: D, v :: vs, a0, a, hnd, hl, h, hv => by
    obtain ⟨hd, hnd'⟩ := List.nodup_cons.1 (show (d :: ds D).Nodup from hnd)
    refine agree_all D vs (a0.put (some d) v) a hnd' (by simpa using hl) ⟨?_, h.defers, fun e he => ?_⟩ (fun k hk hk' => ?_)
    · rw [h.size]; simp [Act.put]
    · rw [put_at]
      by_cases e1 : d = e
      · subst e1
        have h0 := hv 0 (by simp) (by simp)
        rw [if_pos rfl, if_pos ?_]
        · simpa using h0
        · rw [← h.size]
          exact (Array.getElem?_eq_some_iff.1 h0).1
      · rw [if_neg e1]
        exact h.same e (fun k => (List.mem_cons.1 (show e ∈ d :: ds D from k)).elim (fun x => e1 x.symm) he)
    · have := hv (k + 1) (by simpa using hk) (by simpa using hk')
      simpa using this

section
variable {P : Program} {md : Region.Mode} {ops : Array Oper} {Q : Exit → Act → World → Prop} {S : World → Prop}

theorem makers (D : List (Nat × Nat)) (a0 : Act) (ls : Array Bool) (Inv : World → Prop) (R : Nat → Value → World → Prop) (fuel : Nat)
    (hnd : (ds D).Nodup) (hni : (is D).Nodup) (hsz : ∀ d ∈ ds D, d < a0.tmps.size) (hS : ∀ w, Inv w → S w)
    (hready : ∀ L : List Bool, L.length = D.length → (∃ k : Nat, L[k]? = some false) → Region.ready md ops (setAll ls D L) ≠ [] ∧ ∀ i ∈ Region.ready md ops (setAll ls D L), i ∈ pend D L)
    (hmake : ∀ k (hk : k < D.length) (L : List Bool) (a : Act) (w : World) (K : Act → World → Prop), L.length = D.length → D[k].1 ∈ Region.ready md ops (setAll ls D L) → (∀ j (hj : j < D.length), L[j]? = some true → ∃ v, a.tmps[D[j].2]? = some v ∧ R j v w) → Agree (ds D) a0 a → Inv w → (∀ v w', Inv w' → (∀ j u, R j u w → R j u w') → R k v w' → K (a.put (some D[k].2) v) w') → wpOp P ops Q (D[k].1) K a w)
    (hfin : ∀ vs w, vs.length = D.length → (∀ k (hv : k < vs.length), R k vs[k] w) → Inv w → wpAnyH P md ops Q S fuel (setAll ls D (List.replicate D.length true)) (putAll a0 D vs) w) :
    ∀ (n : Nat) (L : List Bool) (a : Act) (w : World), L.length = D.length → L.count false = n → Agree (ds D) a0 a → (∀ k (hk : k < D.length), L[k]? = some true → ∃ v, a.tmps[D[k].2]? = some v ∧ R k v w) → Inv w → wpAnyH P md ops Q S (fuel + n) (setAll ls D L) a w
  | 0, L, a, w, hl, hc, ha, hR, hI => by
    have hno : ∀ k : Nat, L[k]? ≠ some false := fun k hk => by
      have := List.count_pos_iff.2 (List.mem_of_getElem? hk)
      omega
    have hR' : ∀ k (hk : k < D.length), ∃ v, a.tmps[D[k].2]? = some v ∧ R k v w := fun k hk => by
      refine hR k hk ?_
      rw [List.getElem?_eq_getElem (by omega)]
      have := hno k
      rw [List.getElem?_eq_getElem (by omega)] at this
      cases e : L[k]
      · rw [e] at this; exact absurd rfl this
      · rfl
    let vs : List Value := List.ofFn fun k : Fin D.length => Classical.choose (hR' k.1 k.2)
    have hvl : vs.length = D.length := List.length_ofFn
    have hvs : ∀ k (hk : k < D.length) (hv : k < vs.length), a.tmps[D[k].2]? = some vs[k] ∧ R k vs[k] w := fun k hk hv => by
      have e : vs[k] = Classical.choose (hR' k hk) := by simp [vs]
      rw [e]
      exact Classical.choose_spec (hR' k hk)
    rw [pend_none D L hl ls hno, agree_all D vs a0 a hnd hvl ha (fun k hk hv => (hvs k hk hv).1)]
    exact hfin vs w hvl (fun k hv => (hvs k (by omega) hv).2) hI
  | n + 1, L, a, w, hl, hc, ha, hR, hI => by
    have hex : ∃ k : Nat, L[k]? = some false := by
      have : false ∈ L := List.count_pos_iff.1 (by omega)
      exact List.mem_iff_getElem?.1 this
    obtain ⟨hp, hsub⟩ := hready L hl hex
    refine wpAnyH_all (fuel := fuel + n) rfl hp fun i hi => ?_
    obtain ⟨k, hk, hki, hkf⟩ := pend_mem D L i hl (hsub i hi)
    subst hki
    refine hmake k hk L a w _ hl hi hR ha hI fun v w' hI' hmono hv => ⟨hS w' hI', ?_⟩
    rw [setAll_pos D L ls k hk hl hkf]
    have hmem : D[k].2 ∈ ds D := List.mem_map.2 ⟨D[k], List.getElem_mem _, rfl⟩
    refine makers D a0 ls Inv R fuel hnd hni hsz hS hready hmake hfin n (L.set k true) _ w' (by simpa using hl) ?_ (ha.put hmem v) (fun j hj hjt => ?_) hI'
    · rw [List.count_set (by omega)]
      rw [List.getElem?_eq_getElem (by omega)] at hkf
      rw [show L[k] = false by simpa using hkf]
      simp
      omega
    · rw [put_at]
      by_cases hjk : k = j
      · subst hjk
        rw [if_pos rfl, if_pos (by rw [ha.size]; exact hsz _ hmem)]
        exact ⟨v, rfl, hv⟩
      · have hne : D[k].2 ≠ D[j].2 := by
          have hp := List.pairwise_iff_getElem.1 (show List.Pairwise (· ≠ ·) (ds D) from hnd)
          have h1 : k < (ds D).length := by simpa [ds] using hk
          have h2 : j < (ds D).length := by simpa [ds] using hj
          rcases Nat.lt_or_gt_of_ne hjk with h | h
          · simpa [ds] using hp k j h1 h2 h
          · simpa [ds] using (hp j k h2 h1 h).symm
        rw [if_neg hne]
        rw [List.getElem?_set_ne hjk] at hjt
        obtain ⟨u, h1, h2⟩ := hR j hj hjt
        exact ⟨u, h1, hmono _ _ h2⟩

theorem wpOp_wp {i : Nat} {o : Oper} {K : Act → World → Prop} {a : Act} {w : World} (ho : ops[i]? = some o) (hg : o.guard = none) (h : o.wp P a w K Q) : wpOp P ops Q i K a w := by
  unfold wpOp
  rw [ho]
  show if Region.wanted o (yielded ops a.tmps) = true then _ else _
  rw [if_pos (by unfold Region.wanted; rw [hg])]
  exact .inl h
theorem wpOp_makeS {i d : Nat} {o : Oper} {t : TypeId} {x y : Operand} {K : Act → World → Prop} {a : Act} {w w' : World} {vx vy v : Value} (ho : ops[i]? = some o) (hg : o.guard = none) (hd : o.dst = some d) (hop : o.op = .makeSlice t x y) (hx : a.eval x = vx) (hy : a.eval y = vy)
    (hr : (Instr.makeSlice t vx vy).run P w = .ok v w') (h : K (a.put (some d) v) w') : wpOp P ops Q i K a w := by
  refine wpOp_wp ho hg ?_
  unfold Oper.wp execOp
  simp only [hop, hx, hy, Sem.run_bind, Sem.run_pure, hr, Result.andThen_ok]
  show K (a.put o.dst v) w'
  rw [hd]
  exact h
theorem run_exec_build {a : Act} {o : Oper} {w : World} {t : TypeId} {parts : Array (Nat × Operand)} {cells : Array Value} (ho : o.op = .build t parts) (hb : P.built t (parts.map fun (i, x) => (i, a.eval x)).toList = some cells) : (execOp a.eval o).run P w = .ok (.value (.agg cells)) w := by
  unfold execOp
  simp only [ho, Sem.run_bind, run_build w t _ cells hb, Result.andThen_ok]
  rfl
theorem wpOp_build {i d : Nat} {o : Oper} {K : Act → World → Prop} {a : Act} {w : World} {v : Value} (ho : ops[i]? = some o) (hg : o.guard = none) (hd : o.dst = some d) (hr : (execOp a.eval o).run P w = .ok (.value v) w) (h : K (a.put (some d) v) w) : wpOp P ops Q i K a w := by
  refine wpOp_wp ho hg ?_
  unfold Oper.wp
  rw [hr]
  show K (a.put o.dst v) w
  rw [hd]
  exact h
theorem wpOp_alloc {i d : Nat} {o : Oper} {t : TypeId} {K : Act → World → Prop} {a : Act} {w w' : World} {v : Value} (ho : ops[i]? = some o) (hg : o.guard = none) (hd : o.dst = some d) (hop : o.op = .alloc t)
    (hr : (Instr.alloc t true (.tuple #[])).run P w = .ok v w') (h : K (a.put (some d) v) w') : wpOp P ops Q i K a w := by
  refine wpOp_wp ho hg ?_
  unfold Oper.wp execOp
  simp only [hop, Sem.run_bind, Sem.run_pure, hr, Result.andThen_ok]
  show K (a.put o.dst v) w'
  rw [hd]
  exact h
end
end Go.Proofs.Ytkfebibnpincpaa
