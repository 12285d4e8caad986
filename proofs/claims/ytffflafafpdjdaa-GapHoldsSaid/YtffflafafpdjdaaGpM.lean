/- Maps with places as keys: keys, zero values, look-ups, stores, delete. -/
import Derived.Test.YtffflafafpdjdaaLkM
import Derived.Test.YtffflafafpdjdaaRow
import Derived.Test.YtffflafafpdjdaaRows
import Derived.DeepKeys4
import Derived.Deep.QuietTactic
import Derived.BigQuiet
import Derived.OwnWalk
import Derived.Deep.DeepCutAuto
import Derived.Deep.CutBlock
namespace Go.Proofs.Ytffflafafpdjdaa
open Go.RowKit Go.Maps Go.WideMaps Go.ChangeMaps

def Wf (i : Int) : Prop := (Lit.int .i64 i).wf = true
theorem laidOut_ : laidOutB Try.prog = true := by kernel_rfl
theorem kR : Keyed Try.prog 29 := Keyed.of_law (deep_law_laid laidOut_ (m := 3) (by omega) (of_decide_eq_true (by kernel_rfl)) (by kernel_rfl) (by kernel_rfl))
/-- A place. -/
def rid (p c : Int) : Value := .agg #[.int .i64 p, .int .i64 c]
def rL (p c : Int) : Lit := .string (keyBytes [.int .i64 p, .int .i64 c])
theorem keyT : Try.prog.keyType 29 = true := by kernel_rfl
theorem cellsT : Try.prog.cellsOf 29 = 2 := by kernel_rfl
theorem cellsI : Try.prog.cellsOf 3 = 1 := by kernel_rfl
theorem klits (d : Nat) {p c : Int} (hp : (Lit.int IntKind.i64 p).wf = true) (hc : (Lit.int IntKind.i64 c).wf = true) : Try.prog.keyLits (d + 1 + 1) 29 [.int .i64 p, .int .i64 c] = some [.int .i64 p, .int .i64 c] := by
  simp [Program.keyLits, Try.underlying29, Try.underlying3, cellsT, cellsI, hp, hc]
theorem typesz : ∃ d, Try.prog.types.size + 1 = d + 1 + 1 := by
  have h : 1 ≤ Try.prog.types.size := of_decide_eq_true (by kernel_rfl)
  exact ⟨Try.prog.types.size - 1, by omega⟩
theorem keyR {p c : Int} (hp : Wf p) (hc : Wf c) : keyOf Try.prog 29 (rid p c) = some (rL p c) := by
  have h1 : (rid p c).formed Try.prog 29 = true := by simp [Value.formed, rid, Try.underlying29, cellsT]
  obtain ⟨d, hd⟩ := typesz
  unfold keyOf
  rw [Try.underlying29]
  simp only [keyT, h1, Bool.and_self, if_true]
  rw [hd, show (rid p c).cells.toList = [.int .i64 p, .int .i64 c] from rfl, klits d hp hc]
  rfl
theorem rL_inj {p c p' c' : Int} (hp : Wf p) (hc : Wf c) (hp' : Wf p') (hc' : Wf c') (h : rL p c = rL p' c') : p = p' ∧ c = c' := by
  have h1 := keyR hp hc
  rw [h] at h1
  have := kR.inj h1 (keyR hp' hc')
  simpa [rid] using this
theorem zI (w : World) : (zeroValue 3).run Try.prog w = .ok (.int .i64 0) w := by kernel_rfl
theorem zB (w : World) : (zeroValue 4).run Try.prog w = .ok (.bool false) w := by kernel_rfl
theorem zU (w : World) : (zeroValue 54).run Try.prog w = .ok (.agg #[]) w := by kernel_rfl
theorem cell_of {w : World} {p : Nat} {cs : Array Value} {t : TypeId} (h : w.heap[p]? = some (.cells cs t (0, 0))) (i : Nat) : w.cell? ⟨p, i, none⟩ = cs[i]? ∧ w.frozen? ⟨p, i, none⟩ = false := by
  simp [World.cell?, World.frozen?, h]

/-! ### delete, and look-ups that tell whether there is one -/
noncomputable def delF (m : Lit → Option Value) (l : Lit) : Lit → Option Value := updL m l none
theorem atL_del {D : DataW Value} {l : Lit} (j : Lit) : atL (D.del l) j = updL (atL D) l none j := by
  by_cases e : j = l
  · subst e
    rw [updL_same]
    unfold atL
    rw [atKey_del_same]
  · rw [updL_other _ e]
    unfold atL
    rw [atKey_del_other e]
section
variable {P : Program} {k t e b n : Nat} {m : Lit → Option Value} {w w' : World}
theorem gm.drop (h : gm w P k b n m) (K : Keyed P k) (ht : P.underlying t = some (.map k e)) {key : Value} {kl : Lit} (hkey : keyOf P k key = some kl) :
    ∃ w', (∀ ty, (Builtin.delete_ #[t, k] ty #[.map (some b), key]).run P w = .ok (.tuple #[]) w') ∧ gm w' P k b n (delF m kl) ∧ w.mapTurned w' b := by
  obtain ⟨D, hD, hm⟩ := h
  obtain ⟨w', r1, r2, r3⟩ := hD.drop K ht hkey 0
  refine ⟨w', fun ty => r1, ⟨_, r2, fun j hj => ?_⟩, r3⟩
  rw [atL_del]
  unfold delF
  by_cases e : j = kl
  · subst e; rw [updL_same, updL_same]
  · rw [updL_other _ e, updL_other _ e]; exact hm j hj
theorem gm.look_ok (h : gm w P k b n m) (K : Keyed P k) (ht : P.underlying t = some (.map k e)) {z : Value} (hz : (zeroValue e).run P w = .ok z w) {key : Value} {kl : Lit} (hkey : keyOf P k key = some kl) :
    (Instr.lookup t (.map (some b)) key true).run P w = .ok (.tuple #[(m kl).getD z, .bool (m kl).isSome]) w := by
  obtain ⟨D, hD, hm⟩ := h
  obtain ⟨_, hh⟩ := look_at hD K ht hz hkey
  obtain ⟨v, ps, hrun, hv⟩ := hD.look_ok K ht hz (zd := .held z) (zp := []) rfl hkey
  have e1 : D.atKey kl (.held z) = .held v := by have := congrArg (Option.map Prod.fst) hv; simpa [tokR] using this.symm
  rw [hm kl (IsKeyLit_of K hkey), hrun, hh]
  cases hc : atL D kl with
  | some u =>
    have h2 : has D kl = true := by rw [hh, hc]; rfl
    have e4 : atL D kl = some v := by unfold atL; rw [atKey_has h2 .nil (.held z), e1]
    rw [hc] at e4
    cases e4
    rfl
  | none =>
    have h2 : has D kl = false := by rw [hh, hc]; rfl
    have e5 : v = z := by have := e1.symm.trans (atKey_of_not_has h2 _); simpa using this
    rw [e5]
    rfl
theorem gm.congr (h : gm w P k b n m) {m' : Lit → Option Value} (he : ∀ j, WideAt.IsKeyLit j → m j = m' j) : gm w P k b n m' := by
  obtain ⟨D, hD, hm⟩ := h
  exact ⟨D, hD, fun j hj => (he j hj).symm.trans (hm j hj)⟩
variable {o : Oper} {ops : Array Oper} {rest : List Oper} {a : Act} {Q : Exit → Act → World → Prop}
theorem wpList_delete_run (w : World) (hg : o.guard = none) (mo x : Operand) (t k : TypeId) (hop : o.op = Op.call { callee := Callee.builtin Builtin.delete, args := #[mo, x], argTypes := #[t, k] })
    (mv key : Value) (hm : a.eval mo = mv) (hx : a.eval x = key) (w' : World) (hrun : ∀ ty, (Builtin.delete_ #[t, k] ty #[mv, key]).run P w = .ok (.tuple #[]) w')
    (hK : wpList P ops Q rest (a.put o.dst (.tuple #[])) w') : wpList P ops Q (o :: rest) a w := by
  refine wpList_plain hg fun K' hK' => ?_
  unfold Oper.wp
  simp [execOp, hop, resolve, invoke, builtin, hm, hx, hrun, Result.andThen]
  exact hK' _ _ hK
end

/-! ### maps of places -/
/-- Block b holds a map that has m at the places. -/
def RM (w : World) (b n : Nat) (m : Int → Int → Option Value) : Prop := ∃ F, gm w Try.prog 29 b n F ∧ ∀ p c, Wf p → Wf c → F (rL p c) = m p c
open Classical in
noncomputable def upR {α : Type} (m : Int → Int → α) (p c : Int) (v : α) : Int → Int → α := fun x y => if x = p ∧ y = c then v else m x y
theorem upR_same {α : Type} (m : Int → Int → α) (p c : Int) (v : α) : upR m p c v p c = v := by simp [upR]
theorem upR_other {α : Type} (m : Int → Int → α) {p c x y : Int} (h : ¬ (x = p ∧ y = c)) (v : α) : upR m p c v x y = m x y := by simp [upR, h]
section
variable {w w' : World} {b n : Nat} {m : Int → Int → Option Value} {t e : Nat} {p c : Int}
theorem RM.lt (h : RM w b n m) : b < w.heap.size := by obtain ⟨F, h, _⟩ := h; exact h.lt
theorem RM.mono (h : RM w b n m) {n' : Nat} (hn : n ≤ n') : RM w b n' m := by obtain ⟨F, h, hm⟩ := h; exact ⟨F, h.mono hn, hm⟩
theorem RM.of_block (h : RM w b n m) (hb : w'.heap[b]? = w.heap[b]?) : RM w' b n m := by obtain ⟨F, h, hm⟩ := h; exact ⟨F, h.of_block hb, hm⟩
theorem RM.made (w : World) : RM (w.alloc (.map #[] 0)) w.heap.size 0 (fun _ _ => none) := ⟨_, gm_made w _ _, fun _ _ _ _ => rfl⟩
theorem RM.congr (h : RM w b n m) {m' : Int → Int → Option Value} (he : ∀ p c, Wf p → Wf c → m p c = m' p c) : RM w b n m' := by
  obtain ⟨F, h, hm⟩ := h; exact ⟨F, h, fun p c hp hc => (hm p c hp hc).trans (he p c hp hc)⟩
theorem RM.look (h : RM w b n m) (ht : Try.prog.underlying t = some (.map 29 e)) {z : Value} (hz : (zeroValue e).run Try.prog w = .ok z w) (hp : Wf p) (hc : Wf c) :
    (Instr.lookup t (.map (some b)) (rid p c) false).run Try.prog w = .ok ((m p c).getD z) w := by
  obtain ⟨F, h, hm⟩ := h
  rw [← hm p c hp hc]; exact h.look kR ht hz (keyR hp hc)
theorem RM.look_ok (h : RM w b n m) (ht : Try.prog.underlying t = some (.map 29 e)) {z : Value} (hz : (zeroValue e).run Try.prog w = .ok z w) (hp : Wf p) (hc : Wf c) :
    (Instr.lookup t (.map (some b)) (rid p c) true).run Try.prog w = .ok (.tuple #[(m p c).getD z, .bool (m p c).isSome]) w := by
  obtain ⟨F, h, hm⟩ := h
  rw [← hm p c hp hc]; exact h.look_ok kR ht hz (keyR hp hc)
theorem RM.store (h : RM w b n m) (ht : Try.prog.underlying t = some (.map 29 e)) (hn : n < maxLen) (hp : Wf p) (hc : Wf c) (v : Value) :
    ∃ w', (Instr.mapUpdate t (.map (some b)) (rid p c) v).run Try.prog w = .ok () w' ∧ RM w' b (n + 1) (upR m p c (some v)) ∧ w.mapTurned w' b := by
  obtain ⟨F, h, hm⟩ := h
  obtain ⟨w', r1, r2, r3⟩ := h.store kR ht hn (keyR hp hc) v
  refine ⟨w', r1, ⟨_, r2, fun x y hx hy => ?_⟩, r3⟩
  by_cases e : x = p ∧ y = c
  · obtain ⟨rfl, rfl⟩ := e; rw [updL_same, upR_same]
  · rw [upR_other _ e, updL_other _ (fun e2 => e (rL_inj hx hy hp hc e2)), hm x y hx hy]
theorem RM.drop (h : RM w b n m) (ht : Try.prog.underlying t = some (.map 29 e)) (hp : Wf p) (hc : Wf c) :
    ∃ w', (∀ ty, (Builtin.delete_ #[t, 29] ty #[.map (some b), rid p c]).run Try.prog w = .ok (.tuple #[]) w') ∧ RM w' b n (upR m p c none) ∧ w.mapTurned w' b := by
  obtain ⟨F, h, hm⟩ := h
  obtain ⟨w', r1, r2, r3⟩ := h.drop kR ht (keyR hp hc)
  refine ⟨w', r1, ⟨_, r2, fun x y hx hy => ?_⟩, r3⟩
  unfold delF
  by_cases e : x = p ∧ y = c
  · obtain ⟨rfl, rfl⟩ := e; rw [updL_same, upR_same]
  · rw [upR_other _ e, updL_other _ (fun e2 => e (rL_inj hx hy hp hc e2)), hm x y hx hy]
theorem turned_below {B b : Nat} {w w' : World} (hb : B ≤ b) (ht : w.mapTurned w' b) : Below B w w' :=
  ((Fr.refl B (fun k => k = b) w).turned (Or.inl rfl) ht).below (Nat.le_refl _) (fun k hk => by omega)
end
end Go.Proofs.Ytffflafafpdjdaa
