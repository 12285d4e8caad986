/- Free cells in memory, the program's and the reference's: what they are plainly; small functions. -/
import Derived.Test.YtffflafafpdjdaaGpM
import Derived.Lib.Hide
import Derived.StillTailTactics
import Derived.WalkSmall
namespace Go.Proofs.Ytffflafafpdjdaa
open Go.RowKit Go.Maps Go.WideMaps

/-- What there is: so many pages; which cells are used; who holds which. -/
structure St where
  N : Nat
  u : Int → Int → Bool
  h : Int → Int → Option Int
def inB (N : Nat) (p c : Int) : Bool := decide (0 ≤ p) && decide (p < (N : Int)) && decide (0 ≤ c) && decide (c < 4)
theorem inB_iff {N : Nat} {p c : Int} : inB N p c = true ↔ 0 ≤ p ∧ p < (N : Int) ∧ 0 ≤ c ∧ c < 4 := by
  simp only [inB, Bool.and_eq_true, decide_eq_true_eq, and_assoc]
theorem inB_yes {N : Nat} {p c : Int} (h : 0 ≤ p ∧ p < (N : Int) ∧ 0 ≤ c ∧ c < 4) : inB N p c = true := inB_iff.2 h
theorem inB_no {N : Nat} {p c : Int} (h : ¬ (0 ≤ p ∧ p < (N : Int) ∧ 0 ≤ c ∧ c < 4)) : inB N p c = false := by
  cases e : inB N p c
  · rfl
  · exact absurd (inB_iff.1 e) h
structure St.Ok (s : St) : Prop where
  le : s.N ≤ 32
  ub : ∀ p c, s.u p c = true → inB s.N p c = true
  hb : ∀ p c v, s.h p c = some v → inB s.N p c = true ∧ Wf v
def uG (u : Int → Int → Bool) : Int → Int → Option Value := fun p c => if u p c = true then some (.agg #[]) else none
def hG (h : Int → Int → Option Int) : Int → Int → Option Value := fun p c => (h p c).map fun v => .int .i64 v

/-- The program's map. -/
structure GA (w : World) (g b1 b2 n : Nat) (s : St) : Prop where
  hp : w.heap[g]? = some (.cells #[.int .i64 s.N, .map (some b1), .map (some b2)] 49 (0, 0))
  u : RM w b1 n (uG s.u)
  h : RM w b2 n (hG s.h)
  ne : b1 ≠ b2
  ok : s.Ok
/-- The reference's. -/
structure RA (w : World) (g b1 b2 n : Nat) (s : St) : Prop where
  hp : w.heap[g]? = some (.cells #[.int .i64 s.N, .map (some b1), .map (some b2)] 52 (0, 0))
  u : ∃ U, RM w b1 n U ∧ ∀ p c, (U p c).getD (.bool false) = .bool (s.u p c)
  h : RM w b2 n (hG s.h)
  ne : b1 ≠ b2
  ok : s.Ok
section
variable {w w' : World} {g b1 b2 n : Nat} {s : St}
theorem RM.not_cells {b m : Nat} {F} (h : RM w b m F) {cs t f} : w.heap[b]? ≠ some (.cells cs t f) := by
  obtain ⟨F', ⟨D, ⟨es, clock, hb, _⟩, _⟩, _⟩ := h
  rw [hb]; intro e; cases e
theorem GA.glt (h : GA w g b1 b2 n s) : g < w.heap.size := (Array.getElem?_eq_some_iff.1 h.hp).1
theorem RA.glt (h : RA w g b1 b2 n s) : g < w.heap.size := (Array.getElem?_eq_some_iff.1 h.hp).1
theorem GA.kept (h : GA w g b1 b2 n s) (hk : ∀ k, k = g ∨ k = b1 ∨ k = b2 → w'.heap[k]? = w.heap[k]?) : GA w' g b1 b2 n s :=
  ⟨(hk g (Or.inl rfl)).trans h.hp, h.u.of_block (hk b1 (Or.inr (Or.inl rfl))), h.h.of_block (hk b2 (Or.inr (Or.inr rfl))), h.ne, h.ok⟩
theorem RA.kept (h : RA w g b1 b2 n s) (hk : ∀ k, k = g ∨ k = b1 ∨ k = b2 → w'.heap[k]? = w.heap[k]?) : RA w' g b1 b2 n s := by
  obtain ⟨U, hU, hu⟩ := h.u
  exact ⟨(hk g (Or.inl rfl)).trans h.hp, ⟨U, hU.of_block (hk b1 (Or.inr (Or.inl rfl))), hu⟩, h.h.of_block (hk b2 (Or.inr (Or.inr rfl))), h.ne, h.ok⟩
theorem GA.lt (h : GA w g b1 b2 n s) {k : Nat} (hk : k = g ∨ k = b1 ∨ k = b2) : k < w.heap.size := by
  rcases hk with rfl | rfl | rfl
  · exact h.glt
  · exact h.u.lt
  · exact h.h.lt
theorem RA.lt (h : RA w g b1 b2 n s) {k : Nat} (hk : k = g ∨ k = b1 ∨ k = b2) : k < w.heap.size := by
  rcases hk with rfl | rfl | rfl
  · exact h.glt
  · obtain ⟨U, hU, _⟩ := h.u; exact hU.lt
  · exact h.h.lt
theorem GA.on_ (h : GA w g b1 b2 n s) (hb : Below w.heap.size w w') : GA w' g b1 b2 n s := h.kept fun _ hk => hb.block _ (h.lt hk)
theorem RA.on_ (h : RA w g b1 b2 n s) (hb : Below w.heap.size w w') : RA w' g b1 b2 n s := h.kept fun _ hk => hb.block _ (h.lt hk)
theorem GA.c (h : GA w g b1 b2 n s) : (w.cell? ⟨g, 0, none⟩ = some (.int .i64 s.N) ∧ w.cell? ⟨g, 1, none⟩ = some (.map (some b1)) ∧ w.cell? ⟨g, 2, none⟩ = some (.map (some b2))) :=
  ⟨(cell_of h.hp 0).1, (cell_of h.hp 1).1, (cell_of h.hp 2).1⟩
theorem RA.c (h : RA w g b1 b2 n s) : (w.cell? ⟨g, 0, none⟩ = some (.int .i64 s.N) ∧ w.cell? ⟨g, 1, none⟩ = some (.map (some b1)) ∧ w.cell? ⟨g, 2, none⟩ = some (.map (some b2))) :=
  ⟨(cell_of h.hp 0).1, (cell_of h.hp 1).1, (cell_of h.hp 2).1⟩
end

theorem heap_alloc_new_ (w : World) (o : Obj) : (w.alloc o).heap[w.heap.size]? = some o := (MapKept.heap_alloc w o).1
theorem al_old {w : World} {o : Obj} {a : Addr} (h : a.block < w.heap.size) : (w.alloc o).cell? a = w.cell? a := World.cell?_of_block (Below.heap_alloc _ _ _ h)
theorem al_new (w : World) (cs : Array Value) (t : TypeId) (i : Nat) : (w.alloc (.cells cs t)).cell? ⟨w.heap.size, i, none⟩ = cs[i]? ∧ (w.alloc (.cells cs t)).frozen? ⟨w.heap.size, i, none⟩ = false := cell_of (heap_alloc_new_ _ _) i
set_option maxRecDepth 100000 in
theorem has_g (w : World) {g : Nat} {N : Nat} (c0 : w.cell? ⟨g, 0, none⟩ = some (.int .i64 (N : Int))) (hg : g < w.heap.size) (p c : Int) :
    Calls Try.prog 20 #[.pointer (some ⟨g, 0, none⟩), .agg #[.int .i64 p, .int .i64 c]] w fun e w' => e = .returned (.bool (inB N p c)) ∧ Below w.heap.size w w' := by
  go_enter Try.func20, Try.ntmps20
  go_upto_region 1 with fail
  have c1 := (al_old (o := .cells #[.int .i64 p, .int .i64 c] 29) (a := ⟨g, 0, none⟩) hg).trans c0
  have c2 := (al_new w #[.int .i64 p, .int .i64 c] 29 0).1
  have c3 := (al_new w #[.int .i64 p, .int .i64 c] 29 1).1
  have HB := Lib.hid ((Below.refl w.heap.size w).alloc (Nat.le_refl _) (.cells #[.int .i64 p, .int .i64 c] 29))
  generalize (w.alloc (.cells #[.int .i64 p, .int .i64 c] 29)) = w1 at c1 c2 c3 HB ⊢
  clear c0 hg
  by_cases h1 : 0 ≤ p
  · by_cases h2 : p < (N : Int)
    · by_cases h3 : 0 ≤ c
      · by_cases h4 : c < 4
        · go_quiet (fail)
          go_wp2
          go_ret
          exact ⟨by rw [inB_yes (by omega)]; rfl, below_drewN HB.out _⟩
        · go_quiet (fail)
          go_wp2
          go_ret
          exact ⟨by rw [inB_no (by omega)]; rfl, below_drewN HB.out _⟩
      · go_quiet (fail)
        go_wp2
        go_ret
        exact ⟨by rw [inB_no (by omega)]; rfl, below_drewN HB.out _⟩
    · go_quiet (fail)
      go_wp2
      go_ret
      exact ⟨by rw [inB_no (by omega)]; rfl, below_drewN HB.out _⟩
  · go_quiet (fail)
    go_wp2
    go_ret
    exact ⟨by rw [inB_no (by omega)]; rfl, below_drewN HB.out _⟩
set_option maxRecDepth 100000 in
theorem has_r (w : World) {g : Nat} {N : Nat} (c0 : w.cell? ⟨g, 0, none⟩ = some (.int .i64 (N : Int))) (hg : g < w.heap.size) (p c : Int) :
    Calls Try.prog 21 #[.pointer (some ⟨g, 0, none⟩), .agg #[.int .i64 p, .int .i64 c]] w fun e w' => e = .returned (.bool (inB N p c)) ∧ Below w.heap.size w w' := by
  go_enter Try.func21, Try.ntmps21
  go_upto_region 1 with fail
  have c1 := (al_old (o := .cells #[.int .i64 p, .int .i64 c] 29) (a := ⟨g, 0, none⟩) hg).trans c0
  have c2 := (al_new w #[.int .i64 p, .int .i64 c] 29 0).1
  have c3 := (al_new w #[.int .i64 p, .int .i64 c] 29 1).1
  have HB := Lib.hid ((Below.refl w.heap.size w).alloc (Nat.le_refl _) (.cells #[.int .i64 p, .int .i64 c] 29))
  generalize (w.alloc (.cells #[.int .i64 p, .int .i64 c] 29)) = w1 at c1 c2 c3 HB ⊢
  clear c0 hg
  by_cases h1 : 0 ≤ p
  · by_cases h2 : p < (N : Int)
    · by_cases h3 : 0 ≤ c
      · by_cases h4 : c < 4
        · go_quiet (fail)
          go_wp2
          go_ret
          exact ⟨by rw [inB_yes (by omega)]; rfl, below_drewN HB.out _⟩
        · go_quiet (fail)
          go_wp2
          go_ret
          exact ⟨by rw [inB_no (by omega)]; rfl, below_drewN HB.out _⟩
      · go_quiet (fail)
        go_wp2
        go_ret
        exact ⟨by rw [inB_no (by omega)]; rfl, below_drewN HB.out _⟩
    · go_quiet (fail)
      go_wp2
      go_ret
      exact ⟨by rw [inB_no (by omega)]; rfl, below_drewN HB.out _⟩
  · go_quiet (fail)
    go_wp2
    go_ret
    exact ⟨by rw [inB_no (by omega)]; rfl, below_drewN HB.out _⟩

end Go.Proofs.Ytffflafafpdjdaa
