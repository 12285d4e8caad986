/- A cache in memory: its places, what they lead to, and what stays as it was. -/
import Derived.Test.YtnpgiboapckgpaaRowAt
import Derived.Deep.Onto
import Derived.Lib.Hide
import Derived.WalkKit
import Derived.WalkSpells
import Derived.WalkLawsBesides
import Derived.Defers
import Derived.Recover
import Derived.Deep.QuietTactic
import Derived.BigQuiet
import Derived.Laws.Rows
namespace Go.Proofs.Ytnpgiboapckgpaa
open Go.RowKit

/-- What is the same but for the blocks in S, below B. -/
structure Fr (B : Nat) (S : Nat → Prop) (w w' : World) : Prop where
  os : w'.os = w.os
  tape : w'.tape = w.tape
  output : w'.output = w.output
  size : w.heap.size ≤ w'.heap.size
  block : ∀ k, k < B → ¬ S k → w'.heap[k]? = w.heap[k]?

section
variable {B : Nat} {S : Nat → Prop} {a w w' : World}
theorem Fr.refl (B : Nat) (S : Nat → Prop) (w : World) : Fr B S w w := ⟨rfl, rfl, rfl, Nat.le_refl _, fun _ _ _ => rfl⟩
theorem Fr.trans {b c : World} {B' : Nat} {S' : Nat → Prop} (h : Fr B S a b) (k : Fr B' S' b c) (hB : B ≤ B') (hS : ∀ x, x < B → S' x → S x) : Fr B S a c :=
  ⟨k.os.trans h.os, k.tape.trans h.tape, k.output.trans h.output, Nat.le_trans h.size k.size, fun i hi hn => (k.block i (by omega) (fun e => hn (hS i hi e))).trans (h.block i hi hn)⟩
theorem Fr.below {b c : World} {B' : Nat} (h : Fr B S a b) (k : Below B' b c) (hB : B ≤ B') : Fr B S a c :=
  ⟨k.os.trans h.os, k.tape.trans h.tape, k.output.trans h.output, Nat.le_trans h.size k.size, fun i hi hn => (k.block i (by omega)).trans (h.block i hi hn)⟩
theorem Fr.of_below (k : Below B a w) : Fr B S a w := ⟨k.os, k.tape, k.output, k.size, fun i hi _ => k.block i hi⟩
theorem Fr.drew (h : Fr B S a w) : Fr B S a w.drew := ⟨h.os, h.tape, h.output, h.size, h.block⟩
theorem Fr.alloc (h : Fr B S a w) (hB : B ≤ w.heap.size) (o : Obj) : Fr B S a (w.alloc o) :=
  ⟨h.os, h.tape, h.output, by have := h.size; simp; omega, fun k hk hn => (Below.heap_alloc _ _ _ (by omega)).trans (h.block k hk hn)⟩
theorem Fr.setCell (h : Fr B S a w) {p : Addr} (hp : S p.block ∨ B ≤ p.block) (u : Value) : Fr B S a (w.setCell p u) :=
  ⟨h.os, h.tape, h.output, by have := h.size; simpa [World.setCell] using this, fun k hk hn => (Below.heap_setCell _ _ _ _ (by rintro rfl; rcases hp with hp | hp; exact hn hp; omega)).trans (h.block k hk hn)⟩
theorem Fr.setRow (h : Fr B S a w) {b : Nat} (hp : S b ∨ B ≤ b) (r : Array Value) : Fr B S a (w.setRow b r) := by
  refine ⟨h.os, h.tape, h.output, by have := h.size; simpa [World.setRow] using this, fun k hk hn => ?_⟩
  rw [← h.block k hk hn]
  show (w.heap.modify b _)[k]? = _
  rw [Array.getElem?_modify, if_neg]
  rintro rfl; rcases hp with hp | hp; exact hn hp; omega
theorem Fr.toBelow {B' : Nat} (h : Fr B S a w) (hB : B' ≤ B) (hS : ∀ k, S k → B' ≤ k) : Below B' a w :=
  ⟨h.os, h.tape, h.output, h.size, fun k hk => h.block k (by omega) (fun e => by have := hS k e; omega)⟩
end

/-- A place. -/
structure Pl where
  u : Bool
  k : Int
  v : ByteArray
  b : Bool
  n : Nat
def Pl.c (x : Pl) : Array Value := #[.bool x.u, .int .i64 x.k, .string x.v, .bool x.b, .int .i64 (x.n : Int)]
def Pl.zero : Pl := ⟨false, 0, ⟨#[]⟩, false, 0⟩
theorem Pl.c_size (x : Pl) : x.c.size = 5 := rfl
def up (P : Nat → Pl) (i : Nat) (x : Pl) : Nat → Pl := fun j => if j = i then x else P j
theorem up_same (P : Nat → Pl) (i : Nat) (x : Pl) : up P i x i = x := if_pos rfl
theorem up_other (P : Nat → Pl) {i j : Nat} (h : j ≠ i) (x : Pl) : up P i x j = P j := if_neg h

/-- A cache. -/
structure St where
  n : Nat
  P : Nat → Pl
  a : Nat
def rowP (n : Nat) (P : Nat → Pl) : Array Value := rowV n 5 fun i => (P i).c
theorem rowP_size (n : Nat) (P : Nat → Pl) : (rowP n P).size = n * 5 := rowV_size ..
theorem rowP_at {n : Nat} (P : Nat → Pl) {i j : Nat} (hi : i < n) (hj : j < 5) : (rowP n P)[i * 5 + j]? = (P i).c[j]? := rowV_at (fun i => (P i).c_size) hi hj
theorem rowP_set {n : Nat} (P : Nat → Pl) {i j : Nat} (hi : i < n) (hj : j < 5) (v : Value) (x : Pl) (hx : (P i).c.setIfInBounds j v = x.c) : (rowP n P).setIfInBounds (i * 5 + j) v = rowP n (up P i x) := by
  unfold rowP
  rw [rowV_set (fun i => (P i).c_size) hi hj, hx]
  congr 1
  funext m
  unfold updV up
  split <;> rfl
theorem rowP_put {n : Nat} (P : Nat → Pl) {i : Nat} (hi : i < n) (x : Pl) : putRow (rowP n P) (i * 5) x.c.toList = rowP n (up P i x) := by
  unfold rowP
  rw [rowV_put (fun i => (P i).c_size) (by omega) hi x.c_size]
  congr 1
  funext m
  unfold updV up
  split <;> rfl

theorem cell_of {w : World} {p : Nat} {cs : Array Value} {t : TypeId} (h : w.heap[p]? = some (.cells cs t (0, 0))) (i : Nat) : w.cell? ⟨p, i, none⟩ = cs[i]? ∧ w.frozen? ⟨p, i, none⟩ = false := by
  simp [World.cell?, World.frozen?, h]

/-- Places from n on are empty. -/
def clip (n : Nat) (P : Nat → Pl) : Nat → Pl := fun i => if i < n then P i else Pl.zero
theorem clip_lt {n : Nat} (P : Nat → Pl) {i : Nat} (h : i < n) : clip n P i = P i := if_pos h
theorem clip_up {n : Nat} (P : Nat → Pl) {i : Nat} (h : i < n) (x : Pl) : clip n (up P i x) = up (clip n P) i x := by
  funext j
  unfold clip up
  by_cases e : j = i
  · subst e; rw [if_pos h, if_pos rfl, if_pos rfl]
  · rw [if_neg e, if_neg e]
theorem clip_congr {n : Nat} {P P' : Nat → Pl} (h : ∀ i, i < n → P i = P' i) : clip n P = clip n P' := by
  funext j
  unfold clip
  split
  · exact h j (by assumption)
  · rfl
/-- The block of a cache: 64 places, how many of them are in use, and where the hand is. -/
def rowH (s : St) : Array Value := rowP 64 (clip s.n s.P) ++ #[.int .i64 (s.n : Int), .int .i64 (s.a : Int)]
theorem rowH_size (s : St) : (rowH s).size = 322 := by
  unfold rowH
  rw [Array.size_append, rowP_size]
  rfl
theorem rowH_lo (s : St) {x : Nat} (h : x < 320) : (rowH s)[x]? = (rowP 64 (clip s.n s.P))[x]? := by
  unfold rowH
  rw [Array.getElem?_append_left (by rw [rowP_size]; exact h)]
theorem rowH_at (s : St) (hn : s.n ≤ 64) {i j : Nat} (hi : i < s.n) (hj : j < 5) : (rowH s)[i * 5 + j]? = (s.P i).c[j]? := by
  rw [rowH_lo s (by omega), rowP_at _ (by omega) hj, clip_lt _ hi]
theorem rowH_n (s : St) : (rowH s)[320]? = some (.int .i64 (s.n : Int)) := by
  unfold rowH
  rw [Array.getElem?_append_right (by rw [rowP_size]; decide), rowP_size]
  rfl
theorem rowH_a (s : St) : (rowH s)[321]? = some (.int .i64 (s.a : Int)) := by
  unfold rowH
  rw [Array.getElem?_append_right (by rw [rowP_size]; decide), rowP_size]
  rfl
theorem rowH_ext {s : St} {r : Array Value} (h1 : r.size = 322) (h2 : ∀ x, x < 320 → r[x]? = (rowP 64 (clip s.n s.P))[x]?) (h3 : r[320]? = some (.int .i64 (s.n : Int))) (h4 : r[321]? = some (.int .i64 (s.a : Int))) : r = rowH s := by
  apply Array.ext_getElem?
  intro x
  by_cases e1 : x < 320
  · rw [rowH_lo s e1, h2 x e1]
  · by_cases e2 : x = 320
    · subst e2; rw [h3, rowH_n]
    · by_cases e3 : x = 321
      · subst e3; rw [h4, rowH_a]
      · rw [Array.getElem?_eq_none (by rw [h1]; omega), Array.getElem?_eq_none (by rw [rowH_size]; omega)]
theorem rowH_set (s : St) (hn : s.n ≤ 64) {i j : Nat} (hi : i < s.n) (hj : j < 5) (v : Value) (x : Pl) (hx : (s.P i).c.setIfInBounds j v = x.c) : (rowH s).setIfInBounds (i * 5 + j) v = rowH { s with P := up s.P i x } := by
  have h := rowP_set (n := 64) (clip s.n s.P) (i := i) (by omega) hj v x (by rw [clip_lt _ hi]; exact hx)
  refine rowH_ext (by rw [Array.size_setIfInBounds, rowH_size]) (fun y hy => ?_) ?_ ?_
  · show _ = (rowP 64 (clip s.n (up s.P i x)))[y]?
    rw [clip_up _ hi, ← h, Array.getElem?_setIfInBounds, Array.getElem?_setIfInBounds, rowH_lo s hy, rowH_size, rowP_size]
    by_cases e : i * 5 + j = y
    · rw [if_pos e, if_pos e, if_pos (by omega), if_pos (by omega)]
    · rw [if_neg e, if_neg e]
  · rw [Array.getElem?_setIfInBounds, if_neg (by omega), rowH_n]
  · rw [Array.getElem?_setIfInBounds, if_neg (by omega), rowH_a]
theorem rowH_put (s : St) (hn : s.n ≤ 64) {i : Nat} (hi : i < s.n) (x : Pl) : putRow (rowH s) (i * 5) x.c.toList = rowH { s with P := up s.P i x } := by
  have hl : x.c.toList.length = 5 := rfl
  have h := rowP_put (n := 64) (clip s.n s.P) (i := i) (by omega) x
  refine rowH_ext (by rw [putRow_size, rowH_size]) (fun y hy => ?_) ?_ ?_
  · show _ = (rowP 64 (clip s.n (up s.P i x)))[y]?
    rw [clip_up _ hi, ← h, putRow_at _ _ _ _ (by rw [hl, rowH_size]; omega), putRow_at _ _ _ _ (by rw [hl, rowP_size]; omega), rowH_lo s hy]
  · rw [putRow_at _ _ _ _ (by rw [hl, rowH_size]; omega), if_neg (by rw [hl]; omega), rowH_n]
  · rw [putRow_at _ _ _ _ (by rw [hl, rowH_size]; omega), if_neg (by rw [hl]; omega), rowH_a]
theorem rowH_to (s : St) (a : Nat) : (rowH s).setIfInBounds 321 (.int .i64 (a : Int)) = rowH { s with a := a } := by
  refine rowH_ext (by rw [Array.size_setIfInBounds, rowH_size]) (fun y hy => ?_) ?_ ?_
  · rw [Array.getElem?_setIfInBounds, if_neg (by omega), rowH_lo s hy]
  · rw [Array.getElem?_setIfInBounds, if_neg (by decide), rowH_n]
  · rw [Array.getElem?_setIfInBounds, if_pos rfl, if_pos (by rw [rowH_size]; decide)]

structure HA (w : World) (p g : Nat) (s : St) : Prop where
  hg : w.heap[g]? = some (.cells (rowH s) 65 (0, 0))
  eq : g = p
  la : s.a < s.n
  ln : s.n ≤ 64

section
variable {w w' : World} {p g : Nat} {s : St}
theorem HA.hp (h : HA w p g s) : w.heap[p]? = some (.cells (rowH s) 65 (0, 0)) := h.eq ▸ h.hg
theorem HA.lp (h : HA w p g s) : p < w.heap.size := (Array.getElem?_eq_some_iff.1 h.hp).1
theorem HA.lg (h : HA w p g s) : g < w.heap.size := (Array.getElem?_eq_some_iff.1 h.hg).1
theorem HA.cell (h : HA w p g s) {i j : Nat} (hi : i < s.n) (hj : j < 5) : w.cell? ⟨g, i * 5 + j, none⟩ = (s.P i).c[j]? := by
  rw [(cell_of h.hg (i * 5 + j)).1, rowH_at s h.ln hi hj]
theorem HA.froz (h : HA w p g s) (o : Nat) : w.frozen? ⟨g, o, none⟩ = false := (cell_of h.hg o).2
theorem HA.c0 (h : HA w p g s) : w.cell? ⟨p, 320, none⟩ = some (.int .i64 (s.n : Int)) := (cell_of h.hp 320).1.trans (rowH_n s)
theorem HA.c1 (h : HA w p g s) : w.cell? ⟨p, 321, none⟩ = some (.int .i64 (s.a : Int)) := (cell_of h.hp 321).1.trans (rowH_a s)
theorem HA.f1 (h : HA w p g s) : w.frozen? ⟨p, 321, none⟩ = false := (cell_of h.hp 321).2
theorem HA.same (h : HA w p g s) (_ : w'.heap[p]? = w.heap[p]?) (h2 : w'.heap[g]? = w.heap[g]?) : HA w' p g s := ⟨h2.trans h.hg, h.eq, h.la, h.ln⟩
theorem HA.below (h : HA w p g s) {B : Nat} (hb : Below B w w') (h1 : p < B) (h2 : g < B) : HA w' p g s := h.same (hb.block p h1) (hb.block g h2)
theorem HA.on (h : HA w p g s) (hb : Below w.heap.size w w') : HA w' p g s := h.below hb h.lp h.lg
theorem HA.drew (h : HA w p g s) : HA w.drew p g s := h.same rfl rfl
theorem HA.fr (h : HA w p g s) {B : Nat} {S : Nat → Prop} (hb : Fr B S w w') (h1 : p < B) (h2 : g < B) (n1 : ¬ S p) (n2 : ¬ S g) : HA w' p g s := h.same (hb.block p h1 n1) (hb.block g h2 n2)
theorem HA.set (h : HA w p g s) {i j : Nat} (hi : i < s.n) (hj : j < 5) (v : Value) (x : Pl) (hx : (s.P i).c.setIfInBounds j v = x.c) : HA (w.setCell ⟨g, i * 5 + j, none⟩ v) p g { s with P := up s.P i x } := by
  refine ⟨?_, h.eq, h.la, h.ln⟩
  rw [setCell_eq_setRow w g (i * 5 + j) _ _ (0, 0) v h.hg]
  rw [setRow_heap w g _ _ _ _ h.hg]
  rw [rowH_set s h.ln hi hj v x hx]
theorem HA.at_ (h : HA w p g s) {a : Nat} (ha : a < s.n) : HA (w.setCell ⟨p, 321, none⟩ (.int .i64 (a : Int))) p g { s with a := a } := by
  refine ⟨?_, h.eq, ha, h.ln⟩
  rw [← h.eq]
  rw [setCell_eq_setRow w g 321 _ _ (0, 0) _ h.hg, setRow_heap w g _ _ _ _ h.hg, rowH_to]
theorem HA.put (h : HA w p g s) {i : Nat} (hi : i < s.n) (x : Pl) : HA (w.setRow g (putRow (rowH s) (i * 5) x.c.toList)) p g { s with P := up s.P i x } := by
  refine ⟨?_, h.eq, h.la, h.ln⟩
  rw [setRow_heap w g _ _ _ _ h.hg, rowH_put s h.ln hi x]
end
def Two (p g : Nat) : Nat → Prop := fun k => k = p ∨ k = g

/-- The first place of which f holds, or n. -/
structure First (n : Nat) (f : Nat → Bool) (i : Nat) : Prop where
  le : i ≤ n
  no : ∀ j, j < i → f j = false
  yes : i < n → f i = true
theorem First.one {n : Nat} {f : Nat → Bool} {i j : Nat} (h : First n f i) (k : First n f j) : i = j := by
  rcases Nat.lt_trichotomy i j with e | e | e
  · have h1 := h.yes (by have := k.le; omega)
    rw [k.no i e] at h1; cases h1
  · exact e
  · have h1 := k.yes (by have := h.le; omega)
    rw [h.no j e] at h1; cases h1
theorem First.some (n : Nat) (f : Nat → Bool) : ∃ i, First n f i := by
  induction n with
  | zero => exact ⟨0, Nat.le_refl _, fun _ h => by omega, fun h => by omega⟩
  | succ n ih =>
    obtain ⟨i, h⟩ := ih
    by_cases e : i < n
    · exact ⟨i, by omega, h.no, fun _ => h.yes e⟩
    · have e2 : i = n := by have := h.le; omega
      subst e2
      by_cases hf : f i = true
      · exact ⟨i, by omega, h.no, fun _ => hf⟩
      · exact ⟨i + 1, by omega, fun j hj => by by_cases e3 : j = i; (subst e3; simpa using hf); exact h.no j (by omega), fun h => by omega⟩
/-- A pointer to place i, nil if there is none. -/
def ptr (g n i : Nat) : Value := .pointer (if i < n then some ⟨g, i * 5, none⟩ else none)
theorem ptr_some {g n i : Nat} (h : i < n) : ptr g n i = .pointer (some ⟨g, i * 5, none⟩) := by unfold ptr; rw [if_pos h]
theorem ptr_none {g n : Nat} : ptr g n n = .pointer none := by unfold ptr; rw [if_neg (Nat.lt_irrefl _)]

def hit (s : St) (k : Int) : Nat → Bool := fun i => (s.P i).u && decide ((s.P i).k = k)
def vac (s : St) : Nat → Bool := fun i => !(s.P i).u
def loose (s : St) : Nat → Bool := fun i => decide ((s.P i).n = 0)
end Go.Proofs.Ytnpgiboapckgpaa
