/- PoolNone, a part. -/
import Derived.Test.YtljbhdldfffpfaaGreatQn2
import Derived.Deep.Onto
import Derived.Lib.Hide
import Derived.Defers
import Derived.Recover
import Derived.Laws.Rows
namespace Go.Proofs.YtljbhdldfffpfaaGreat
open Go.RowKit

section
variable {B : Nat} {S : Nat → Prop} {a w w' : World}
theorem Fr.thenB {b c : World} {B' : Nat} (h : Fr B S a b) (k : Below B' b c) (hB : B ≤ B') : Fr B S a c :=
  ⟨k.os.trans h.os, k.tape.trans h.tape, k.output.trans h.output, Nat.le_trans h.size k.size, fun i hi hn => (k.block i (by omega)).trans (h.block i hi hn)⟩
theorem Fr.ofB (k : Below B a w) : Fr B S a w := ⟨k.os, k.tape, k.output, k.size, fun i hi _ => k.block i hi⟩
theorem Fr.setR (h : Fr B S a w) {b : Nat} (hp : S b ∨ B ≤ b) (r : Array Value) : Fr B S a (w.setRow b r) := by
  refine ⟨h.os, h.tape, h.output, by have := h.size; simpa [World.setRow] using this, fun k hk hn => ?_⟩
  rw [← h.block k hk hn]
  show (w.heap.modify b _)[k]? = _
  rw [Array.getElem?_modify, if_neg]
  rintro rfl; rcases hp with hp | hp; exact hn hp; omega
theorem below_dN (h : Below B a w) (m : Nat) : Below B a (w.drewN m) := ⟨h.os, h.tape, h.output, h.size, h.block⟩
end
end Go.Proofs.YtljbhdldfffpfaaGreat
namespace Go.Proofs.YtljbhdldfffpfaaGreat.Hp
open Go.RowKit Go.Proofs.YtljbhdldfffpfaaGreat

/-- A page as four slices and a number. -/
structure Pg where
  P : Nat → Option Addr
  N : Nat → Nat
  K : Nat → Nat
  l : Int
def Pg.v (x : Pg) : Value := .agg #[.slice (x.P 0) (x.N 0) (x.K 0), .slice (x.P 1) (x.N 1) (x.K 1), .slice (x.P 2) (x.N 2) (x.K 2), .slice (x.P 3) (x.N 3) (x.K 3), .int .i64 x.l]
def Pg.zero : Pg := ⟨fun _ => none, fun _ => 0, fun _ => 0, 0⟩

/-- A place. -/
structure Pl where
  u : Bool
  k : Int
  v : Pg
  b : Bool
  n : Nat
def Pl.c (x : Pl) : Array Value := #[.bool x.u, .int .i64 x.k, .slice (x.v.P 0) (x.v.N 0) (x.v.K 0), .slice (x.v.P 1) (x.v.N 1) (x.v.K 1), .slice (x.v.P 2) (x.v.N 2) (x.v.K 2), .slice (x.v.P 3) (x.v.N 3) (x.v.K 3), .int .i64 x.v.l, .bool x.b, .int .i64 (x.n : Int)]
def Pl.zero : Pl := ⟨false, 0, Pg.zero, false, 0⟩
theorem Pl.c_size (x : Pl) : x.c.size = 9 := rfl
def up (P : Nat → Pl) (i : Nat) (x : Pl) : Nat → Pl := fun j => if j = i then x else P j
theorem up_same (P : Nat → Pl) (i : Nat) (x : Pl) : up P i x i = x := if_pos rfl
theorem up_other (P : Nat → Pl) {i j : Nat} (h : j ≠ i) (x : Pl) : up P i x j = P j := if_neg h

/-- A cache. -/
structure St where
  n : Nat
  P : Nat → Pl
  a : Nat
def rowP (n : Nat) (P : Nat → Pl) : Array Value := rowV n 9 fun i => (P i).c
theorem rowP_size (n : Nat) (P : Nat → Pl) : (rowP n P).size = n * 9 := rowV_size ..
theorem rowP_at {n : Nat} (P : Nat → Pl) {i j : Nat} (hi : i < n) (hj : j < 9) : (rowP n P)[i * 9 + j]? = (P i).c[j]? := rowV_at (fun i => (P i).c_size) hi hj
theorem rowP_set {n : Nat} (P : Nat → Pl) {i j : Nat} (hi : i < n) (hj : j < 9) (v : Value) (x : Pl) (hx : (P i).c.setIfInBounds j v = x.c) : (rowP n P).setIfInBounds (i * 9 + j) v = rowP n (up P i x) := by
  unfold rowP
  rw [rowV_set (fun i => (P i).c_size) hi hj, hx]
  congr 1
  funext m
  unfold updV up
  split <;> rfl
theorem rowP_put {n : Nat} (P : Nat → Pl) {i : Nat} (hi : i < n) (x : Pl) : putRow (rowP n P) (i * 9) x.c.toList = rowP n (up P i x) := by
  unfold rowP
  rw [rowV_put (fun i => (P i).c_size) (by omega) hi x.c_size]
  congr 1
  funext m
  unfold updV up
  split <;> rfl

/-- Places from n on are empty. -/
def clip (n : Nat) (P : Nat → Pl) : Nat → Pl := fun i => if i < n then P i else Pl.zero
theorem clip_lt {n : Nat} (P : Nat → Pl) {i : Nat} (h : i < n) : clip n P i = P i := if_pos h
theorem clip_up {n : Nat} (P : Nat → Pl) {i : Nat} (h : i < n) (x : Pl) : clip n (up P i x) = up (clip n P) i x := by
  funext j
  unfold clip up
  by_cases e : j = i
  · subst e; rw [if_pos h, if_pos rfl, if_pos rfl]
  · rw [if_neg e, if_neg e]
/-- The block of a cache: 64 places, how many of them are in use, and where the hand is. -/
def rowH (s : St) : Array Value := rowP 64 (clip s.n s.P) ++ #[.int .i64 (s.n : Int), .int .i64 (s.a : Int)]
theorem rowH_size (s : St) : (rowH s).size = 578 := by
  unfold rowH
  rw [Array.size_append, rowP_size]
  rfl
theorem rowH_lo (s : St) {x : Nat} (h : x < 576) : (rowH s)[x]? = (rowP 64 (clip s.n s.P))[x]? := by
  unfold rowH
  rw [Array.getElem?_append_left (by rw [rowP_size]; exact h)]
theorem rowH_at (s : St) (hn : s.n ≤ 64) {i j : Nat} (hi : i < s.n) (hj : j < 9) : (rowH s)[i * 9 + j]? = (s.P i).c[j]? := by
  rw [rowH_lo s (by omega), rowP_at _ (by omega) hj, clip_lt _ hi]
theorem rowH_n (s : St) : (rowH s)[576]? = some (.int .i64 (s.n : Int)) := by
  unfold rowH
  rw [Array.getElem?_append_right (by rw [rowP_size]; decide), rowP_size]
  rfl
theorem rowH_a (s : St) : (rowH s)[577]? = some (.int .i64 (s.a : Int)) := by
  unfold rowH
  rw [Array.getElem?_append_right (by rw [rowP_size]; decide), rowP_size]
  rfl
theorem rowH_ext {s : St} {r : Array Value} (h1 : r.size = 578) (h2 : ∀ x, x < 576 → r[x]? = (rowP 64 (clip s.n s.P))[x]?) (h3 : r[576]? = some (.int .i64 (s.n : Int))) (h4 : r[577]? = some (.int .i64 (s.a : Int))) : r = rowH s := by
  apply Array.ext_getElem?
  intro x
  by_cases e1 : x < 576
  · rw [rowH_lo s e1, h2 x e1]
  · by_cases e2 : x = 576
    · subst e2; rw [h3, rowH_n]
    · by_cases e3 : x = 577
      · subst e3; rw [h4, rowH_a]
      · rw [Array.getElem?_eq_none (by rw [h1]; omega), Array.getElem?_eq_none (by rw [rowH_size]; omega)]
theorem rowH_set (s : St) (hn : s.n ≤ 64) {i j : Nat} (hi : i < s.n) (hj : j < 9) (v : Value) (x : Pl) (hx : (s.P i).c.setIfInBounds j v = x.c) : (rowH s).setIfInBounds (i * 9 + j) v = rowH { s with P := up s.P i x } := by
  have h := rowP_set (n := 64) (clip s.n s.P) (i := i) (by omega) hj v x (by rw [clip_lt _ hi]; exact hx)
  refine rowH_ext (by rw [Array.size_setIfInBounds, rowH_size]) (fun y hy => ?_) ?_ ?_
  · show _ = (rowP 64 (clip s.n (up s.P i x)))[y]?
    rw [clip_up _ hi, ← h, Array.getElem?_setIfInBounds, Array.getElem?_setIfInBounds, rowH_lo s hy, rowH_size, rowP_size]
    by_cases e : i * 9 + j = y
    · rw [if_pos e, if_pos e, if_pos (by omega), if_pos (by omega)]
    · rw [if_neg e, if_neg e]
  · rw [Array.getElem?_setIfInBounds, if_neg (by omega), rowH_n]
  · rw [Array.getElem?_setIfInBounds, if_neg (by omega), rowH_a]
theorem rowH_put (s : St) (hn : s.n ≤ 64) {i : Nat} (hi : i < s.n) (x : Pl) : putRow (rowH s) (i * 9) x.c.toList = rowH { s with P := up s.P i x } := by
  have hl : x.c.toList.length = 9 := rfl
  have h := rowP_put (n := 64) (clip s.n s.P) (i := i) (by omega) x
  refine rowH_ext (by rw [putRow_size, rowH_size]) (fun y hy => ?_) ?_ ?_
  · show _ = (rowP 64 (clip s.n (up s.P i x)))[y]?
    rw [clip_up _ hi, ← h, putRow_at _ _ _ _ (by rw [hl, rowH_size]; omega), putRow_at _ _ _ _ (by rw [hl, rowP_size]; omega), rowH_lo s hy]
  · rw [putRow_at _ _ _ _ (by rw [hl, rowH_size]; omega), if_neg (by rw [hl]; omega), rowH_n]
  · rw [putRow_at _ _ _ _ (by rw [hl, rowH_size]; omega), if_neg (by rw [hl]; omega), rowH_a]
theorem rowH_to (s : St) (a : Nat) : (rowH s).setIfInBounds 577 (.int .i64 (a : Int)) = rowH { s with a := a } := by
  refine rowH_ext (by rw [Array.size_setIfInBounds, rowH_size]) (fun y hy => ?_) ?_ ?_
  · rw [Array.getElem?_setIfInBounds, if_neg (by omega), rowH_lo s hy]
  · rw [Array.getElem?_setIfInBounds, if_neg (by decide), rowH_n]
  · rw [Array.getElem?_setIfInBounds, if_pos rfl, if_pos (by rw [rowH_size]; decide)]

/-- Cells that lie ahead of a cache, behind it, and the block's type. -/
structure At where
  pre : Array Value
  suf : Array Value
  t : TypeId
def At.c (A : At) (s : St) : Array Value := A.pre ++ rowH s ++ A.suf
section
variable {A : At} {s : St} {o : Nat}
theorem At.size (ho : A.pre.size = o) : (A.c s).size = o + 578 + A.suf.size := by
  unfold At.c
  rw [Array.size_append, Array.size_append, rowH_size, ho]
theorem At.at_ (ho : A.pre.size = o) {x : Nat} (h : x < 578) : (A.c s)[o + x]? = (rowH s)[x]? := by
  unfold At.c
  rw [Array.getElem?_append_left (by rw [Array.size_append, rowH_size, ho]; omega), Array.getElem?_append_right (by rw [ho]; omega), ho, Nat.add_sub_cancel_left]
theorem At.far (ho : A.pre.size = o) {s' : St} {y : Nat} (h : y < o ∨ o + 578 ≤ y) : (A.c s)[y]? = (A.c s')[y]? := by
  unfold At.c
  rcases h with h | h
  · rw [Array.getElem?_append_left (by rw [Array.size_append, rowH_size, ho]; omega), Array.getElem?_append_left (by rw [ho]; omega), Array.getElem?_append_left (by rw [Array.size_append, rowH_size, ho]; omega), Array.getElem?_append_left (by rw [ho]; omega)]
  · rw [Array.getElem?_append_right (by rw [Array.size_append, rowH_size, ho]; omega), Array.getElem?_append_right (by rw [Array.size_append, rowH_size, ho]; omega), Array.size_append, Array.size_append, rowH_size, rowH_size]
theorem At.ext (ho : A.pre.size = o) {r : Array Value} (h2 : ∀ x, x < 578 → r[o + x]? = (rowH s)[x]?) (h3 : ∀ y, y < o ∨ o + 578 ≤ y → r[y]? = (A.c s)[y]?) : r = A.c s := by
  apply Array.ext_getElem?
  intro y
  by_cases e : y < o ∨ o + 578 ≤ y
  · exact h3 y e
  · have h := h2 (y - o) (by omega)
    rw [show o + (y - o) = y by omega] at h
    rw [h, ← At.at_ (A := A) (s := s) ho (x := y - o) (by omega), show o + (y - o) = y by omega]
theorem At.set (ho : A.pre.size = o) {s' : St} {x : Nat} (hx : x < 578) {v : Value} (h : (rowH s).setIfInBounds x v = rowH s') : (A.c s).setIfInBounds (o + x) v = A.c s' := by
  have hs := At.size (A := A) (s := s) ho
  refine At.ext ho (fun y hy => ?_) (fun y hy => ?_)
  · rw [← h, Array.getElem?_setIfInBounds, Array.getElem?_setIfInBounds, At.at_ ho hy, hs, rowH_size]
    by_cases e : x = y
    · rw [if_pos (by omega), if_pos e, if_pos (by omega), if_pos (by omega)]
    · rw [if_neg (by omega), if_neg e]
  · rw [Array.getElem?_setIfInBounds, if_neg (by omega)]
    exact At.far ho hy
theorem At.put (ho : A.pre.size = o) {s' : St} {x : Nat} {l : List Value} (hx : x + l.length ≤ 578) (h : putRow (rowH s) x l = rowH s') : putRow (A.c s) (o + x) l = A.c s' := by
  have hs := At.size (A := A) (s := s) ho
  refine At.ext ho (fun y hy => ?_) (fun y hy => ?_)
  · rw [← h, putRow_at _ _ _ _ (by rw [hs]; omega), putRow_at _ _ _ _ (by rw [rowH_size]; omega), At.at_ ho hy]
    by_cases e : x ≤ y ∧ y < x + l.length
    · rw [if_pos (by omega), if_pos e, show o + y - (o + x) = y - x by omega]
    · rw [if_neg (by omega), if_neg e]
  · rw [putRow_at _ _ _ _ (by rw [hs]; omega), if_neg (by omega)]
    exact At.far ho hy
end

/-- The cache s lies in block g from cell o on. -/
structure HA (w : World) (g o : Nat) (A : At) (s : St) : Prop where
  hg : w.heap[g]? = some (.cells (A.c s) A.t (0, 0))
  lo : A.pre.size = o
  la : s.a < s.n
  ln : s.n ≤ 64

section
variable {w w' : World} {g o : Nat} {A : At} {s : St}
theorem HA.lg (h : HA w g o A s) : g < w.heap.size := (Array.getElem?_eq_some_iff.1 h.hg).1
theorem HA.cell (h : HA w g o A s) {i j : Nat} (hi : i < s.n) (hj : j < 9) : w.cell? ⟨g, o + i * 9 + j, none⟩ = (s.P i).c[j]? := by
  have := h.ln
  rw [(cell_of h.hg _).1, Nat.add_assoc, At.at_ h.lo (by omega), rowH_at s h.ln hi hj]
theorem HA.froz (h : HA w g o A s) (x : Nat) : w.frozen? ⟨g, x, none⟩ = false := (cell_of h.hg x).2
theorem HA.c0 (h : HA w g o A s) : w.cell? ⟨g, o + 576, none⟩ = some (.int .i64 (s.n : Int)) := (cell_of h.hg _).1.trans ((At.at_ h.lo (by decide)).trans (rowH_n s))
theorem HA.c1 (h : HA w g o A s) : w.cell? ⟨g, o + 577, none⟩ = some (.int .i64 (s.a : Int)) := (cell_of h.hg _).1.trans ((At.at_ h.lo (by decide)).trans (rowH_a s))
theorem HA.f1 (h : HA w g o A s) : w.frozen? ⟨g, o + 577, none⟩ = false := (cell_of h.hg _).2
theorem HA.same (h : HA w g o A s) (h2 : w'.heap[g]? = w.heap[g]?) : HA w' g o A s := ⟨h2.trans h.hg, h.lo, h.la, h.ln⟩
theorem HA.below (h : HA w g o A s) {B : Nat} (hb : Below B w w') (h2 : g < B) : HA w' g o A s := h.same (hb.block g h2)
theorem HA.on (h : HA w g o A s) (hb : Below w.heap.size w w') : HA w' g o A s := h.below hb h.lg
theorem HA.drew (h : HA w g o A s) : HA w.drew g o A s := h.same rfl
theorem HA.drewN (h : HA w g o A s) (m : Nat) : HA (w.drewN m) g o A s := h.same rfl
theorem HA.fr (h : HA w g o A s) {B : Nat} {S : Nat → Prop} (hb : Fr B S w w') (h2 : g < B) (n2 : ¬ S g) : HA w' g o A s := h.same (hb.block g h2 n2)
theorem HA.set (h : HA w g o A s) {i j : Nat} (hi : i < s.n) (hj : j < 9) (v : Value) (x : Pl) (hx : (s.P i).c.setIfInBounds j v = x.c) : HA (w.setCell ⟨g, o + i * 9 + j, none⟩ v) g o A { s with P := up s.P i x } := by
  have := h.ln
  refine ⟨?_, h.lo, h.la, h.ln⟩
  rw [setCell_eq_setRow w g (o + i * 9 + j) _ _ (0, 0) v h.hg]
  rw [setRow_heap w g _ _ _ _ h.hg]
  rw [Nat.add_assoc, At.set h.lo (by omega) (rowH_set s h.ln hi hj v x hx)]
theorem HA.at_ (h : HA w g o A s) {a : Nat} (ha : a < s.n) : HA (w.setCell ⟨g, o + 577, none⟩ (.int .i64 (a : Int))) g o A { s with a := a } := by
  refine ⟨?_, h.lo, ha, h.ln⟩
  rw [setCell_eq_setRow w g (o + 577) _ _ (0, 0) _ h.hg, setRow_heap w g _ _ _ _ h.hg, At.set h.lo (by decide) (rowH_to s a)]
theorem HA.put (h : HA w g o A s) {i : Nat} (hi : i < s.n) (x : Pl) : HA (w.setRow g (putRow (A.c s) (o + i * 9) x.c.toList)) g o A { s with P := up s.P i x } := by
  have := h.ln
  refine ⟨?_, h.lo, h.la, h.ln⟩
  rw [setRow_heap w g _ _ _ _ h.hg, At.put h.lo (by show i * 9 + 9 ≤ 578; omega) (rowH_put s h.ln hi x)]
end
def One (g : Nat) : Nat → Prop := fun k => k = g

/-- The first place of which f holds, or n. -/
structure First (n : Nat) (f : Nat → Bool) (i : Nat) : Prop where
  le : i ≤ n
  no : ∀ j, j < i → f j = false
  yes : i < n → f i = true
theorem First.one {n : Nat} {f : Nat → Bool} {i j : Nat} (h : First n f i) (k : First n f j) : i = j := by
  rcases Nat.lt_trichotomy i j with e | e | e
  · have h1 := h.yes (by have := k.le; omega)
    rw [k.no i e] at h1; cases h1
  · exact e
  · have h1 := k.yes (by have := h.le; omega)
    rw [h.no j e] at h1; cases h1
/-- A pointer to place i, nil if there is none. -/
def ptr (g o n i : Nat) : Value := .pointer (if i < n then some ⟨g, o + i * 9, none⟩ else none)
theorem ptr_some {g o n i : Nat} (h : i < n) : ptr g o n i = .pointer (some ⟨g, o + i * 9, none⟩) := by unfold ptr; rw [if_pos h]
theorem ptr_none {g o n : Nat} : ptr g o n n = .pointer none := by unfold ptr; rw [if_neg (Nat.lt_irrefl _)]

def hit (s : St) (k : Int) : Nat → Bool := fun i => (s.P i).u && decide ((s.P i).k = k)
def vac (s : St) : Nat → Bool := fun i => !(s.P i).u
end Go.Proofs.YtljbhdldfffpfaaGreat.Hp
namespace Go.Proofs.YtljbhdldfffpfaaGreat.Hp
open Go.RowKit Go.Proofs.YtljbhdldfffpfaaGreat

theorem hmf : ∀ (fn : Fn) (first cap : Array Value) (w : World), (Instr.makeFunc fn first cap).run Tryz.prog w = .ok (.func fn first cap) w := fun _ _ _ _ => rfl

theorem recov_idle (w : World) :
    CallsD Tryz.prog 114 #[] .returning w fun e u' w' => e = .returned (.tuple #[]) ∧ u' = .returning ∧ w' = w := by
  refine callsD_of_wpS Tryz.func114 rfl fun c₀ cs hu => ?_
  apply wpS_region
  simp [wpOpsS, go_sem, recoverD, hu, Tryz.ntmps114, bodyPostS, results, Tryz.results114]
  cases c₀
  simp_all

theorem same_any (w : World) (x y : Int) : Calls Tryz.prog 100 #[.int .i64 x, .int .i64 y] w fun e w' => e = .returned (.bool (decide (x = y))) ∧ w' = w := by
  have hmf := hmf
  have hd : (decide (x = y)) = (x == y) := by by_cases h : x = y <;> simp [h]
  rw [hd]
  go_enter_defers Tryz.func100, Tryz.ntmps100
  go_wp2
  refine leaves_cons (f := 114) (args := #[]) (by simp) (by simp [go_sem]) ?_
  refine (recov_idle _).mono ?_
  rintro e u' w'' ⟨rfl, rfl, rfl⟩
  simp [Leaves, settle, results, Tryz.results100, go_sem]

theorem isHit (w : World) {g o q : Nat} {A : At} {s : St} {k : Int} {i : Nat} (h : HA w g o A s) (hi : i < s.n) (hk : w.cell? ⟨q, 0, none⟩ = some (.int .i64 k)) :
    Calls Tryz.prog 99 #[.pointer (some ⟨g, o + i * 9, none⟩), .pointer (some ⟨q, 0, none⟩)] w fun e w' => e = .returned (.bool (hit s k i)) ∧ ∃ m, w' = w.drewN m := by
  have c0 := h.cell hi (j := 0) (by omega)
  rw [Nat.add_zero] at c0
  have c1 := h.cell hi (j := 1) (by omega)
  rw [show (s.P i).c[0]? = some (.bool (s.P i).u) from rfl] at c0
  rw [show (s.P i).c[1]? = some (.int .i64 (s.P i).k) from rfl] at c1
  cases hu : (s.P i).u with
  | false =>
    rw [hu] at c0
    rw [show hit s k i = false by simp [hit, hu]]
    clear c1
    go_enter Tryz.func99, Tryz.ntmps99
    go_wp2_with fail
    go_quiet (fail)
    go_wp2
    go_ret
    exact ⟨rfl, _, rfl⟩
  | true =>
    rw [hu] at c0
    rw [show hit s k i = decide ((s.P i).k = k) by simp [hit, hu]]
    go_enter Tryz.func99, Tryz.ntmps99
    go_wp2_with fail
    go_quiet ((first | (go_at_call 100; exact Calls.quiet_of_same (same_any _ _ _))))
    go_wp2
    go_ret
    exact ⟨rfl, _, rfl⟩
theorem isVac (w : World) {g o : Nat} {A : At} {s : St} {i : Nat} (h : HA w g o A s) (hi : i < s.n) :
    Calls Tryz.prog 101 #[.pointer (some ⟨g, o + i * 9, none⟩)] w fun e w' => e = .returned (.bool (vac s i)) ∧ w' = w := by
  have c0 := h.cell hi (j := 0) (by omega)
  rw [Nat.add_zero] at c0
  rw [show (s.P i).c[0]? = some (.bool (s.P i).u) from rfl] at c0
  have hnot : ∀ (x : Bool) (w : World), (Op.unary .not (.bool x)).run Tryz.prog w = .ok (.bool (!x)) w := fun _ _ => rfl
  unfold vac
  go_enter Tryz.func101, Tryz.ntmps101
  go_wp2
  go_ret
  exact ⟨rfl, rfl⟩
end Go.Proofs.YtljbhdldfffpfaaGreat.Hp
namespace Go.Proofs.YtljbhdldfffpfaaGreat.Hp
open Go.RowKit Go.Proofs.YtljbhdldfffpfaaGreat

theorem all_any (w : World) {g o : Nat} {A : At} {s : St} (h : HA w g o A s) : Calls Tryz.prog 113 #[.pointer (some ⟨g, o, none⟩)] w fun e w' => e = .returned (.slice (some ⟨g, o, none⟩) s.n 64) ∧ ∃ m, w' = w.drewN m := by
  have c0 := h.c0
  have hn := h.ln
  have hnI : (s.n : Int) ≤ 64 := by omega
  clear h
  go_enter Tryz.func113, Tryz.ntmps113
  go_wp2_with fail
  go_quiet (fail)
  go_wp2_with fail
  go_ret
  exact ⟨rfl, _, rfl⟩

set_option maxHeartbeats 1000000 in
theorem firstHit (w : World) {g o : Nat} {A : At} {s : St} {q : Nat} {k : Int} {i : Nat} (hh : HA w g o A s) (hq : w.cell? ⟨q, 0, none⟩ = some (.int .i64 k)) (hf : First s.n (hit s k) i) :
    Calls Tryz.prog 98 #[.pointer (some ⟨g, o, none⟩), .func (.func 99) #[] #[.pointer (some ⟨q, 0, none⟩)]] w fun e w' => e = .returned (ptr g o s.n i) ∧ ∃ m, w' = w.drewN m := by
  have hN := hh.ln
  have HH := Lib.hid hh
  have HF := Lib.hid hf
  have hi := hf.le
  have HQ := Lib.hid hq
  clear hq
  clear hh hf
  go_enter Tryz.func98, Tryz.ntmps98
  go_wp2_with (first | (go_at_call 113; refine (all_any _ HH.out).mono ?_; rintro e w' ⟨rfl, m0, hw⟩; obtain rfl := hw.symm; clear hw))
  go_loopw [11] (fun v wr => ∃ t m : Nat, t ≤ i ∧ v = .int .i64 (t : Int) ∧ wr = w.drewN m) (fun v _ => s.n - (RowKit.intOf v).toNat)
  case atStart => exact ⟨0, m0, Nat.zero_le _, rfl, rfl⟩
  case round =>
    obtain ⟨t, m, ht, rfl, rfl⟩ := hrel
    by_cases hlt : t < s.n
    · have HLT := Lib.hid hlt
      by_cases he : t = i
      · have hfi := HF.out.yes (he ▸ hlt)
        subst he
        clear hi ht
        go_wp2_with (first | (go_at_call 99; refine (isHit _ (HH.out.drewN m) (i := t) HLT.out HQ.out).mono ?_; rintro e w2 ⟨rfl, m2, hw2⟩; obtain rfl := hw2.symm; clear hw2; rw [hfi]))
        go_ret
        exact ⟨by rw [ptr_some HLT.out]; rfl, _, rfl⟩
      · have hfi := HF.out.no t (by omega)
        have HT : Hid (t + 1 ≤ i) := Lib.hid (by omega)
        clear he hi ht
        go_wp2_with (first | (go_at_call 99; refine (isHit _ (HH.out.drewN m) (i := t) HLT.out HQ.out).mono ?_; rintro e w2 ⟨rfl, m2, hw2⟩; obtain rfl := hw2.symm; clear hw2; rw [hfi]))
        go_roundw
        case rel => exact ⟨t + 1, m + m2, HT.out, by go_num, rfl⟩
        case measure => simp [RowKit.intOf]; omega
    · have he : t = i := by omega
      subst he
      obtain rfl : t = s.n := by omega
      go_wp2_with fail
      go_ret
      exact ⟨by rw [ptr_none]; rfl, _, rfl⟩
set_option maxHeartbeats 1000000 in
theorem firstVac (w : World) {g o : Nat} {A : At} {s : St} {i : Nat} (hh : HA w g o A s) (hf : First s.n (vac s) i) :
    Calls Tryz.prog 98 #[.pointer (some ⟨g, o, none⟩), .func (.func 101) #[] #[]] w fun e w' => e = .returned (ptr g o s.n i) ∧ ∃ m, w' = w.drewN m := by
  have hN := hh.ln
  have HH := Lib.hid hh
  have HF := Lib.hid hf
  have hi := hf.le
  clear hh hf
  go_enter Tryz.func98, Tryz.ntmps98
  go_wp2_with (first | (go_at_call 113; refine (all_any _ HH.out).mono ?_; rintro e w' ⟨rfl, m0, hw⟩; obtain rfl := hw.symm; clear hw))
  go_loopw [11] (fun v wr => ∃ t m : Nat, t ≤ i ∧ v = .int .i64 (t : Int) ∧ wr = w.drewN m) (fun v _ => s.n - (RowKit.intOf v).toNat)
  case atStart => exact ⟨0, m0, Nat.zero_le _, rfl, rfl⟩
  case round =>
    obtain ⟨t, m, ht, rfl, rfl⟩ := hrel
    by_cases hlt : t < s.n
    · have HLT := Lib.hid hlt
      by_cases he : t = i
      · have hfi := HF.out.yes (he ▸ hlt)
        subst he
        clear hi ht
        go_wp2_with (first | (go_at_call 101; refine (isVac _ (HH.out.drewN m) (i := t) HLT.out).mono ?_; rintro e w2 ⟨rfl, hw2⟩; obtain rfl := hw2.symm; clear hw2; rw [hfi]))
        go_ret
        exact ⟨by rw [ptr_some HLT.out]; rfl, _, rfl⟩
      · have hfi := HF.out.no t (by omega)
        have HT : Hid (t + 1 ≤ i) := Lib.hid (by omega)
        clear he hi ht
        go_wp2_with (first | (go_at_call 101; refine (isVac _ (HH.out.drewN m) (i := t) HLT.out).mono ?_; rintro e w2 ⟨rfl, hw2⟩; obtain rfl := hw2.symm; clear hw2; rw [hfi]))
        go_roundw
        case rel => exact ⟨t + 1, m, HT.out, by go_num, rfl⟩
        case measure => simp [RowKit.intOf]; omega
    · have he : t = i := by omega
      subst he
      obtain rfl : t = s.n := by omega
      go_wp2_with fail
      go_ret
      exact ⟨by rw [ptr_none]; rfl, _, rfl⟩
end Go.Proofs.YtljbhdldfffpfaaGreat.Hp
namespace Go.Proofs.YtljbhdldfffpfaaGreat.Hp
open Go.RowKit Go.Proofs.YtljbhdldfffpfaaGreat

theorem find_any (w : World) {g o : Nat} {A : At} {s : St} {k : Int} {i : Nat} (hh : HA w g o A s) (hf : First s.n (hit s k) i) :
    Calls Tryz.prog 79 #[.pointer (some ⟨g, o, none⟩), .int .i64 k] w fun e w' => e = .returned (ptr g o s.n i) ∧ Below w.heap.size w w' := by
  have hmf := hmf
  have HH := Lib.hid hh
  have HF := Lib.hid hf
  clear hh hf
  go_enter Tryz.func79, Tryz.ntmps79
  go_wp2_with (first | (go_at_call 98; refine (firstHit _ (HH.out.on ((Below.refl _ _).alloc (Nat.le_refl _) _)) ((cell_of (heap_alloc_new w (.cells #[.int .i64 k] 3)) 0).1.trans rfl) HF.out).mono ?_; rintro e w1 ⟨rfl, m, hw⟩; obtain rfl := hw.symm; clear hw))
  go_ret
  exact ⟨rfl, below_dN ((Below.refl _ _).alloc (Nat.le_refl _) _) m⟩

theorem empty_any (w : World) {g o : Nat} {A : At} {s : St} {i : Nat} (hh : HA w g o A s) (hf : First s.n (vac s) i) :
    Calls Tryz.prog 80 #[.pointer (some ⟨g, o, none⟩)] w fun e w' => e = .returned (ptr g o s.n i) ∧ Below w.heap.size w w' := by
  have HH := Lib.hid hh
  have HF := Lib.hid hf
  clear hh hf
  go_enter Tryz.func80, Tryz.ntmps80
  go_wp2_with (first | (go_at_call 98; refine (firstVac _ HH.out HF.out).mono ?_; rintro e w1 ⟨rfl, m, hw⟩; obtain rfl := hw.symm; clear hw))
  go_ret
  exact ⟨rfl, below_dN (Below.refl _ _) m⟩

end Go.Proofs.YtljbhdldfffpfaaGreat.Hp
