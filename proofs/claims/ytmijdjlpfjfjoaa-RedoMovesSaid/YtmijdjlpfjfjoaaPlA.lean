/- For pool (its own names, beside May and LoadAt): structs that lie in a row: loads and stores of a whole one. -/
import Derived.Test.YtmijdjlpfjfjoaaHeldL
import Derived.Laws.Tables
namespace Go.Proofs.Ytmijdjlpfjfjoaa.Hp
open Go.Proofs.Ytmijdjlpfjfjoaa

section
variable {P : Program}
theorem add_off (g off j : Nat) : (⟨g, off, none⟩ : Addr).add j = ⟨g, off + j, none⟩ := by unfold Addr.add; split <;> simp_all
theorem run_loadVar_at (w : World) (g off : Nat) (ty : TypeId) (cs : Array Value) (d : TypeDesc) (hc : ∀ j v, cs[j]? = some v → w.cell? ⟨g, off + j, none⟩ = some v)
    (hu : P.underlying ty = some d) (hd : (match d with | .struct _ | .array _ _ => true | _ => false) = true) (hi : (P.info? ty).map (·.size) = some cs.size) :
    (loadVar ty ⟨g, off, none⟩).run P w = .ok (.agg cs) w := by
  have hl : (loadCells ⟨g, off, none⟩ cs.toList.length).run P w = .ok cs.toList.toArray w :=
    run_loadCells_list (P := P) w ⟨g, off, none⟩ cs.toList (fun j v hv => by
      rw [add_off]
      exact hc j v (by simpa using hv))
  cases hq : P.info? ty with
  | none => simp [hq] at hi
  | some i =>
    have hs : i.size = cs.size := by simpa [hq] using hi
    have hagg : (isAgg ty).run P w = .ok true w := by
      unfold isAgg
      rw [Sem.run_bind, run_underlying hu w]
      cases d <;> simp_all
    simp only [Array.length_toList, Array.toArray_toList] at hl
    simp [loadVar, Sem.run_bind, hagg, sizeOf, typeInfo, hq, hs, hl]
theorem wp_load_at {o : Oper} {a : Act} {w : World} {K : Act → World → Prop} {Q : Exit → Act → World → Prop} (ty : TypeId) (x : Operand) (ho : o.op = .load ty x)
    (g off : Nat) (hx : a.eval x = .pointer (some ⟨g, off, none⟩)) (cs : Array Value) (d : TypeDesc) (hc : ∀ j v, cs[j]? = some v → w.cell? ⟨g, off + j, none⟩ = some v)
    (hu : P.underlying ty = some d) (hd : (match d with | .struct _ | .array _ _ => true | _ => false) = true) (hi : (P.info? ty).map (·.size) = some cs.size)
    (h : K (a.put o.dst (.agg cs)) w) : o.wp P a w K Q := by
  unfold Oper.wp execOp
  simp only [ho, hx, Instr.loadAt, Instr.sureAddr, Sem.run_bind, Sem.run_pure, Result.andThen_ok, run_loadVar_at w g off ty cs d hc hu hd hi]
  exact h
theorem wpList_load_at {ops : Array Oper} {rest : List Oper} {o : Oper} {a : Act} {w : World} {Q : Exit → Act → World → Prop} (hw : Region.wanted o (yielded ops a.tmps) = true) (ty : TypeId) (x : Operand) (ho : o.op = .load ty x)
    (g off : Nat) (hx : a.eval x = .pointer (some ⟨g, off, none⟩)) (cs : Array Value) (d : TypeDesc) (hc : ∀ j v, cs[j]? = some v → w.cell? ⟨g, off + j, none⟩ = some v)
    (hu : P.underlying ty = some d) (hd : (match d with | .struct _ | .array _ _ => true | _ => false) = true) (hi : (P.info? ty).map (·.size) = some cs.size)
    (h : wpList P ops Q rest (a.put o.dst (.agg cs)) w) : wpList P ops Q (o :: rest) a w :=
  wpList_step fun _ hK => by
    rw [if_pos hw]
    exact wp_load_at ty x ho g off hx cs d hc hu hd hi (hK _ _ h)

/-- Values laid one behind the other, from place k on. -/
def putRow (cur : Array Value) : Nat → List Value → Array Value
  | _, [] => cur
  | k, v :: r => putRow (cur.setIfInBounds k v) (k + 1) r
theorem putRow_size (r : List Value) : ∀ (k : Nat) (cur : Array Value), (putRow cur k r).size = cur.size := by
  induction r with
  | nil => intro k cur; rfl
  | cons v r ih => intro k cur; show (putRow (cur.setIfInBounds k v) (k + 1) r).size = _; rw [ih]; simp
theorem putRow_at (r : List Value) : ∀ (k : Nat) (cur : Array Value) (x : Nat), k + r.length ≤ cur.size → (putRow cur k r)[x]? = if k ≤ x ∧ x < k + r.length then r[x - k]? else cur[x]? := by
  induction r with
  | nil => intro k cur x _; rw [if_neg (by simp)]; rfl
  | cons v r ih =>
    intro k cur x h
    rw [List.length_cons] at h ⊢
    show (putRow (cur.setIfInBounds k v) (k + 1) r)[x]? = _
    rw [ih (k + 1) _ x (by simp; omega)]
    by_cases h1 : k + 1 ≤ x ∧ x < k + 1 + r.length
    · rw [if_pos h1, if_pos (by omega), show x - k = (x - (k + 1)) + 1 by omega]
      rfl
    · rw [if_neg h1, Array.getElem?_setIfInBounds]
      by_cases h2 : k = x
      · subst h2
        rw [if_pos rfl, if_pos (by omega), if_pos (by omega), Nat.sub_self]
        rfl
      · rw [if_neg h2, if_neg (by omega)]
theorem setRow_self' (w : World) (g : Nat) (cs : Array Value) (t : TypeId) (fr : Nat × Nat) (hg : w.heap[g]? = some (.cells cs t fr)) : w.setRow g cs = w := by
  have hlt : g < w.heap.size := (Array.getElem?_eq_some_iff.1 hg).1
  have hv : w.heap[g] = .cells cs t fr := (Array.getElem?_eq_some_iff.1 hg).2
  unfold World.setRow
  cases w with
  | mk heap tape drawn os output =>
    congr 1
    apply Array.ext
    · simp
    · intro k h1 h2
      simp only [Array.getElem_modify]
      split
      · rename_i hk; subst hk; simp at hv; simp [hv]
      · rfl
theorem run_storeCells_at (g off : Nat) (t : TypeId) : ∀ (vs : List Value) (i : Nat) (cur : Array Value) (w : World), w.heap[g]? = some (.cells cur t (0, 0)) → off + i + vs.length ≤ cur.size → (∀ v ∈ vs, v.oneCell' = true) →
    (storeCells ⟨g, off, none⟩ vs i).run P w = .ok () (w.setRow g (putRow cur (off + i) vs))
  | [], i, cur, w, hg, _, _ => by
    show Result.ok () w = _
    rw [show putRow cur (off + i) [] = cur from rfl, setRow_self' w g cur t _ hg]
  | v :: rest, i, cur, w, hg, hl, h1 => by
    have hi : off + i < cur.size := by simp at hl; omega
    have hcell : w.cell? ⟨g, off + i, none⟩ = some cur[off + i] := by simp [World.cell?, hg, hi]
    have hfro : w.frozen? ⟨g, off + i, none⟩ = false := by simp [World.frozen?, hg]
    have hst : (store ((⟨g, off, none⟩ : Addr).add i) v).run P w = .ok () (w.setRow g (cur.setIfInBounds (off + i) v)) := by
      rw [add_off, run_store P w _ v _ (h1 v (by simp)), hcell]
      simp [hfro, setCell_eq_setRow w g (off + i) cur t (0, 0) v hg]
    have ih := run_storeCells_at g off t rest (i + 1) (cur.setIfInBounds (off + i) v) (w.setRow g (cur.setIfInBounds (off + i) v)) (setRow_heap w g cur _ t _ hg) (by simp at hl ⊢; omega) (fun x hx => h1 x (by simp [hx]))
    simp only [storeCells, Sem.run_bind, hst, Result.andThen_ok, ih, setRow_setRow]
    rfl
theorem run_storeVar_at (w : World) (g off : Nat) (t ty : TypeId) (old cells : Array Value) (hg : w.heap[g]? = some (.cells old t (0, 0))) (hi : (P.info? ty).map (·.size) = some cells.size)
    (ho : off + cells.size ≤ old.size) (h1 : cells.all (·.oneCell') = true) :
    (storeVar ty ⟨g, off, none⟩ (.agg cells)).run P w = .ok () (w.setRow g (putRow old off cells.toList)) := by
  have := run_storeCells_at (P := P) g off t cells.toList 0 old w hg (by simp; omega) (fun v hv => (Array.all_eq_true_iff_forall_mem.1 h1) v (by simpa using hv))
  cases hq : P.info? ty with
  | none => simp [hq] at hi
  | some i =>
    have hs : cells.size = i.size := by simp [hq] at hi; omega
    simp [storeVar, sizeOf, typeInfo, hq, Value.cells, hs, this]
theorem wpList_store_at {ops : Array Oper} {rest : List Oper} {o : Oper} {a : Act} {w : World} {Q : Exit → Act → World → Prop} (hgd : o.guard = none) (ty : TypeId) (x y : Operand) (ho : o.op = .store ty x y)
    (g off : Nat) (cells : Array Value) (hx : a.eval x = .pointer (some ⟨g, off, none⟩)) (hy : a.eval y = .agg cells)
    (t : TypeId) (old : Array Value) (hg : w.heap[g]? = some (.cells old t (0, 0))) (hi : (P.info? ty).map (·.size) = some cells.size)
    (hold : off + cells.size ≤ old.size) (h1 : cells.all (·.oneCell') = true)
    (h : wpList P ops Q rest (a.put o.dst undef) (w.setRow g (putRow old off cells.toList))) : wpList P ops Q (o :: rest) a w :=
  wpList_plain hgd fun _ hK => by
    unfold Oper.wp execOp
    simp only [ho, hx, hy, Instr.storeAt, Instr.sureAddr, Sem.run_bind, Sem.run_pure, Result.andThen_ok, run_storeVar_at w g off t ty old cells hg hi hold h1]
    exact hK _ _ h
end

/-- A row of n structs of k cells. -/
def rowV (n k : Nat) (V : Nat → Array Value) : Array Value := Array.ofFn fun i : Fin (n * k) => (V (i.1 / k)).getD (i.1 % k) undef
def updV (V : Nat → Array Value) (i : Nat) (c : Array Value) : Nat → Array Value := fun j => if j = i then c else V j
theorem rowV_size (n k : Nat) (V : Nat → Array Value) : (rowV n k V).size = n * k := by simp [rowV]
theorem rowV_at {n k : Nat} {V : Nat → Array Value} (hV : ∀ i, (V i).size = k) {i j : Nat} (hi : i < n) (hj : j < k) : (rowV n k V)[i * k + j]? = (V i)[j]? := by
  have hk : 0 < k := by omega
  have h : i * k + j < n * k := by
    have := Nat.mul_le_mul_right k (show i + 1 ≤ n by omega)
    rw [Nat.succ_mul] at this
    omega
  have e1 : (i * k + j) / k = i := by rw [Nat.mul_comm, Nat.mul_add_div hk, Nat.div_eq_of_lt hj, Nat.add_zero]
  have e2 : (i * k + j) % k = j := by rw [Nat.mul_comm, Nat.mul_add_mod, Nat.mod_eq_of_lt hj]
  rw [Array.getElem?_eq_getElem (by rw [rowV_size]; exact h)]
  simp only [rowV, Array.getElem_ofFn, e1, e2]
  rw [Array.getD_eq_getD_getElem?, Array.getElem?_eq_getElem (by rw [hV]; exact hj)]
  rfl
theorem rowV_ext {n k : Nat} {V : Nat → Array Value} (hV : ∀ i, (V i).size = k) (hk : 0 < k) {a : Array Value} (hs : a.size = n * k) (h : ∀ i j, i < n → j < k → a[i * k + j]? = (V i)[j]?) : a = rowV n k V := by
  apply Array.ext_getElem?
  intro x
  by_cases hx : x < n * k
  · have hq : x / k < n := (Nat.div_lt_iff_lt_mul hk).2 hx
    have hr : x % k < k := Nat.mod_lt _ hk
    have e : x / k * k + x % k = x := by rw [Nat.mul_comm]; exact Nat.div_add_mod ..
    have h1 := h _ _ hq hr
    have h2 := rowV_at (n := n) hV hq hr
    rw [e] at h1 h2
    rw [h1, h2]
  · rw [Array.getElem?_eq_none (by omega), Array.getElem?_eq_none (by rw [rowV_size]; omega)]
theorem updV_size {k : Nat} {V : Nat → Array Value} (hV : ∀ i, (V i).size = k) {i : Nat} {c : Array Value} (hc : c.size = k) : ∀ j, (updV V i c j).size = k := fun j => by
  unfold updV
  split
  · exact hc
  · exact hV j
theorem pos_iff {k i i' j j' : Nat} (hj : j < k) (hj' : j' < k) : i * k + j = i' * k + j' ↔ i = i' ∧ j = j' := by
  constructor
  · intro h
    have hk : 0 < k := by omega
    have e1 : (i * k + j) / k = (i' * k + j') / k := by rw [h]
    have e2 : (i * k + j) % k = (i' * k + j') % k := by rw [h]
    rw [Nat.mul_comm i, Nat.mul_comm i', Nat.mul_add_div hk, Nat.mul_add_div hk, Nat.div_eq_of_lt hj, Nat.div_eq_of_lt hj'] at e1
    rw [Nat.mul_comm i, Nat.mul_comm i', Nat.mul_add_mod, Nat.mul_add_mod, Nat.mod_eq_of_lt hj, Nat.mod_eq_of_lt hj'] at e2
    exact ⟨by omega, e2⟩
  · rintro ⟨rfl, rfl⟩; rfl
theorem rowV_set {n k : Nat} {V : Nat → Array Value} (hV : ∀ i, (V i).size = k) {i j : Nat} (hi : i < n) (hj : j < k) (v : Value) : (rowV n k V).setIfInBounds (i * k + j) v = rowV n k (updV V i ((V i).setIfInBounds j v)) := by
  refine rowV_ext (updV_size hV (by simp [hV])) (by omega) (by simp [rowV_size]) fun i' j' hi' hj' => ?_
  rw [Array.getElem?_setIfInBounds, rowV_at hV hi' hj']
  have hlt : i * k + j < (rowV n k V).size := by
    rw [rowV_size]
    have := Nat.mul_le_mul_right k (show i + 1 ≤ n by omega)
    rw [Nat.succ_mul] at this
    omega
  unfold updV
  by_cases h : i * k + j = i' * k + j'
  · obtain ⟨rfl, rfl⟩ := (pos_iff hj hj').1 h
    rw [if_pos rfl, if_pos hlt, if_pos rfl, Array.getElem?_setIfInBounds, if_pos rfl, if_pos (by rw [hV]; exact hj)]
  · rw [if_neg h]
    by_cases h2 : i' = i
    · subst h2
      have hne : j ≠ j' := fun e => h ((pos_iff hj hj').2 ⟨rfl, e⟩)
      rw [if_pos rfl, Array.getElem?_setIfInBounds, if_neg hne]
    · rw [if_neg h2]
theorem rowV_put {n k : Nat} {V : Nat → Array Value} (hV : ∀ i, (V i).size = k) (hk : 0 < k) {i : Nat} (hi : i < n) {c : Array Value} (hc : c.size = k) : putRow (rowV n k V) (i * k) c.toList = rowV n k (updV V i c) := by
  have hle : i * k + k ≤ n * k := by
    have := Nat.mul_le_mul_right k (show i + 1 ≤ n by omega)
    rw [Nat.succ_mul] at this
    exact this
  refine rowV_ext (updV_size hV hc) hk (by rw [putRow_size, rowV_size]) fun i' j' hi' hj' => ?_
  rw [putRow_at _ _ _ _ (by rw [rowV_size]; simp [hc]; exact hle), rowV_at hV hi' hj']
  simp only [Array.length_toList, hc]
  unfold updV
  by_cases h2 : i' = i
  · subst h2
    rw [if_pos (by omega), if_pos rfl, show i' * k + j' - i' * k = j' by omega, Array.getElem?_toList]
  · rw [if_neg h2, if_neg]
    rintro ⟨a, b⟩
    have e1 : i' * k + j' = i * k + (i' * k + j' - i * k) := by omega
    have := (pos_iff hj' (show i' * k + j' - i * k < k by omega)).1 e1
    exact h2 this.1
end Go.Proofs.Ytmijdjlpfjfjoaa.Hp
