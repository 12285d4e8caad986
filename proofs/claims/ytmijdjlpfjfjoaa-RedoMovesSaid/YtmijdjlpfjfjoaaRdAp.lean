/- Pages behind entries, plainly; pages and entries in memory. -/
import Derived.Test.YtmijdjlpfjfjoaaRdSm
namespace Go.Proofs.Ytmijdjlpfjfjoaa.Rx
open Go.RowKit

/-! ### plainly: pages behind entries -/
abbrev Pg := (Nat → List Int) × Int
/-- A page behind an entry. -/
def ap1 (p : Int) (s : Pg) (e : En) (now : Int) : Pg := (apC s.1 s.2 p e now, apN s.2 p e now)
/-- A page behind some entries, the first of which has the number a + 1. -/
def aps (p : Int) (s : Pg) : List En → Int → Pg
  | [], _ => s
  | e :: l, a => aps p (ap1 p s e (a + 1)) l (a + 1)
theorem aps_snoc (p : Int) (l : List En) (e : En) : ∀ (s : Pg) (a : Int), aps p s (l ++ [e]) a = ap1 p (aps p s l a) e (a + l.length + 1) := by
  induction l with
  | nil => intro s a; show aps p (ap1 p s e (a + 1)) [] (a + 1) = ap1 p s e (a + (0 : Nat) + 1); simp [aps]
  | cons x l ih =>
    intro s a
    show aps p (ap1 p s x (a + 1)) (l ++ [e]) (a + 1) = ap1 p (aps p (ap1 p s x (a + 1)) l (a + 1)) e _
    rw [ih]
    congr 1
    rw [List.length_cons]
    push_cast
    omega
/-- What a page has stays if the number isn't above its own. -/
theorem ap1_old (p : Int) (s : Pg) (e : En) (now : Int) (h : now ≤ s.2) : ap1 p s e now = s := by
  have : apc s.2 p e now = false := by unfold apc; rw [decide_eq_false (by omega)]; rfl
  unfold ap1 apC apN
  rw [this]
  simp
/-- A page's number isn't above that of the last entry. -/
theorem aps_le (p : Int) (l : List En) : ∀ (s : Pg) (a : Int), s.2 ≤ a → (aps p s l a).2 ≤ a + l.length := by
  induction l with
  | nil => intro s a h; show s.2 ≤ a + (0 : Nat); omega
  | cons x l ih =>
    intro s a h
    have h1 : (ap1 p s x (a + 1)).2 ≤ a + 1 := by
      show apN s.2 p x (a + 1) ≤ a + 1
      unfold apN
      split <;> omega
    have := ih (ap1 p s x (a + 1)) (a + 1) h1
    show (aps p (ap1 p s x (a + 1)) l (a + 1)).2 ≤ _
    rw [List.length_cons]
    push_cast
    omega
theorem aps_app (p : Int) (l m : List En) : ∀ (s : Pg) (a : Int), aps p s (l ++ m) a = aps p (aps p s l a) m (a + l.length) := by
  induction l with
  | nil => intro s a; show aps p s m a = aps p s m (a + (0 : Nat)); simp
  | cons x l ih =>
    intro s a
    show aps p (ap1 p s x (a + 1)) (l ++ m) (a + 1) = aps p (aps p (ap1 p s x (a + 1)) l (a + 1)) m _
    rw [ih]
    congr 1
    rw [List.length_cons]
    push_cast
    omega
/-- Whatever a page doesn't have of these entries doesn't touch it. -/
def DoneP (p : Int) (t : Pg) (l : List En) (a : Int) : Prop := ∀ i (h : i < l.length), a + (i : Nat) + 1 ≤ t.2 ∨ tch (tl l[i]) p = false
theorem done_aps (p : Int) (l : List En) : ∀ (t : Pg) (a : Int), DoneP p t l a → aps p t l a = t := by
  induction l with
  | nil => intro t a _; rfl
  | cons x l ih =>
    intro t a h
    have h1 : ap1 p t x (a + 1) = t := by
      rcases h 0 (by simp) with h0 | h0
      · exact ap1_old _ _ _ _ (by simpa using h0)
      · have : apc t.2 p x (a + 1) = false := by unfold apc; rw [show tch (tl x) p = false from h0, Bool.and_false]
        unfold ap1 apC apN
        rw [this]
        simp
    show aps p (ap1 p t x (a + 1)) l (a + 1) = t
    rw [h1]
    refine ih t (a + 1) fun i hi => ?_
    have := h (i + 1) (by simpa using hi)
    push_cast at this
    rcases this with h2 | h2
    · exact .inl (by omega)
    · exact .inr h2
theorem aps_done (p : Int) (l : List En) (s : Pg) (a : Int) (hs : s.2 ≤ a) : DoneP p (aps p s l a) l a := by
  have key : ∀ (n : Nat) (l : List En), l.length = n → DoneP p (aps p s l a) l a := by
    intro n
    induction n with
    | zero => intro l hl i h; omega
    | succ n ihn =>
    intro l0 hl0
    have hne : l0 ≠ [] := fun e => by rw [e] at hl0; cases hl0
    obtain ⟨l, x, rfl⟩ : ∃ l x, l0 = l ++ [x] := ⟨_, _, (List.dropLast_concat_getLast hne).symm⟩
    have ih := ihn l (by simpa using hl0)
    clear ihn hl0 hne
    intro i hi
    rw [aps_snoc]
    rw [List.length_append, List.length_singleton] at hi
    have hle := aps_le p l s a hs
    by_cases hc : apc (aps p s l a).2 p x (a + l.length + 1) = true
    · left
      show _ ≤ apN _ _ _ _
      unfold apN
      rw [if_pos hc]
      omega
    · have e1 : ap1 p (aps p s l a) x (a + l.length + 1) = aps p s l a := by unfold ap1 apC apN; rw [if_neg hc, if_neg hc]
      rw [e1]
      by_cases hlt : i < l.length
      · rcases ih i hlt with h | h
        · exact .inl h
        · right
          rw [List.getElem_append_left hlt]
          exact h
      · have hi' : i = l.length := by omega
        subst hi'
        simp only [apc, Bool.and_eq_true, decide_eq_true_eq, not_and, Bool.not_eq_true] at hc
        by_cases h2 : (aps p s l a).2 < a + l.length + 1
        · right
          rw [List.getElem_append_right (Nat.le_refl _)]
          simpa using hc h2
        · left
          omega
  exact key _ l rfl
/-- Who does all again, over whatever was there of it, is where one was. -/
theorem aps_again (p : Int) (s : Pg) (l : List En) (K : Nat) (hs : s.2 ≤ 0) : aps p (aps p s (l.take K) 0) l 0 = aps p s l 0 := by
  have h := aps_app p (l.take K) (l.drop K) (aps p s (l.take K) 0) 0
  have h2 := aps_app p (l.take K) (l.drop K) s 0
  rw [List.take_append_drop] at h h2
  rw [h, h2, done_aps p _ _ _ (aps_done p _ s 0 hs)]

/-! ### pages in memory -/
theorem PgAt.fin_same {W : World} {g : Nat} {P' N' K'} {n' : Int} {P : Nat → Option Addr} {N K : Nat → Nat} {n : Int} {c : Nat → List Int} (hr : W.heap[g]? = some (pgO P' N' K' n')) (hc : Cs W P N K c) : PgAt (finP W g P N K n) g n c :=
  ⟨P, N, K, finP_heap hr, cs_fin hr hc⟩
theorem fin_other (W : World) (g h : Nat) (hne : h ≠ g) (P : Nat → Option Addr) (N K : Nat → Nat) (n : Int) : (finP W g P N K n).heap[h]? = W.heap[h]? := by
  unfold finP
  exact (Below.heap_setCell _ _ _ _ hne).trans ((Below.heap_setCell _ _ _ _ hne).trans ((Below.heap_setCell _ _ _ _ hne).trans ((Below.heap_setCell _ _ _ _ hne).trans (Below.heap_setCell _ _ _ _ hne))))
theorem PgAt.fin_other {W : World} {g h : Nat} (hne : h ≠ g) {P' N' K'} {n' : Int} (hr : W.heap[g]? = some (pgO P' N' K' n')) {m : Int} {c : Nat → List Int} (hp : PgAt W h m c) (P : Nat → Option Addr) (N K : Nat → Nat) (n : Int) : PgAt (finP W g P N K n) h m c := by
  obtain ⟨P2, N2, K2, h1, h2⟩ := hp
  exact ⟨P2, N2, K2, (Rx.fin_other W g h hne P N K n).trans h1, cs_fin hr h2⟩
theorem fin_size (W : World) (g : Nat) (P : Nat → Option Addr) (N K : Nat → Nat) (n : Int) : (finP W g P N K n).heap.size = W.heap.size := by unfold finP; simp
theorem infoP : (Try.prog.info? 35).map (·.size) = some 5 := by kernel_rfl
theorem infoP2 (P : Nat → Option Addr) (N K : Nat → Nat) (n : Int) : (Try.prog.info? 35).map (·.size) = some (pgC P N K n).size := infoP
theorem held_at {P : Program} {a : Act} {o : Oper} {W : World} (ty : TypeId) (x : Operand) (ho : o.op = .load ty x) (g off : Nat) (hx : a.eval x = .pointer (some ⟨g, off, none⟩)) (cs : Array Value) (d : TypeDesc)
    (hc : ∀ j v, cs[j]? = some v → W.cell? ⟨g, off + j, none⟩ = some v) (hu : P.underlying ty = some d) (hd : (match d with | .struct _ | .array _ _ => true | _ => false) = true) (hi : (P.info? ty).map (·.size) = some cs.size) :
    (execOp a.eval o).run P W = .ok (.value (.agg cs)) W := by
  unfold execOp
  simp only [ho, hx, Instr.loadAt, Instr.sureAddr, Sem.run_bind, Sem.run_pure, Result.andThen_ok, run_loadVar_at W g off ty cs d hc hu hd hi]
theorem en_row {w : World} {A : Option Addr} {n c : Nat} {es : List EX} (h : Els w (.slice A n c) 16 (es.map enV)) {i : Nat} (hi : i < es.length) : ∃ b off, A = some ⟨b, off, none⟩ ∧ b < w.heap.size ∧ ∀ j v, (enC es[i].1 es[i].2)[j]? = some v → w.cell? ⟨b, off + i * 16 + j, none⟩ = some v := by
  obtain ⟨b, off, h1, h2, h3⟩ := h.one (i := i) (by simpa using hi)
  refine ⟨b, off, h1, h2, fun j v hv => ?_⟩
  have hj : j < 16 := (Array.getElem?_eq_some_iff.1 hv).1
  rw [h3 j hj, ← hv, List.getElem_map]
  show (enC es[i].1 es[i].2).toList[j]? = _
  rw [Array.getElem?_toList]
def s0 : Pg := (fun _ => [], 0)
theorem aps_lens (p : Int) (l : List En) (hl : ∀ e ∈ l, e.new.length ≤ 100000) : ∀ (s : Pg) (a : Int), (∀ i, i < 4 → (s.1 i).length ≤ 100000) → ∀ i, i < 4 → ((aps p s l a).1 i).length ≤ 100000 := by
  induction l with
  | nil => intro s a h; exact h
  | cons x l ih =>
    intro s a h
    refine ih (fun e he => hl e (List.mem_cons_of_mem _ he)) _ _ ?_
    intro i hi
    show (apC s.1 s.2 p x (a + 1) i).length ≤ _
    unfold apC
    split
    · exact giv_len (tl_len (hl x (List.mem_cons_self ..))) h i hi
    · exact h i hi
end Go.Proofs.Ytmijdjlpfjfjoaa.Rx
