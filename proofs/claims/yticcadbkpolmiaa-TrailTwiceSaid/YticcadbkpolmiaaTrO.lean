/- The log in memory: where it lies; Left, Count, Stable, within. -/
import Derived.Test.YticcadbkpolmiaaTrP
import Derived.Test.YticcadbkpolmiaaWriP
namespace Go.Proofs.Yticcadbkpolmiaa
open Go.RowKit Go.Maps

/-- What a log is, plainly. -/
structure Tr where
  dp : Nat
  first : Int
  tiles : Int
  S : List Int
  count : Int
  stable : Int
structure Tr.Ok (t : Tr) : Prop where
  ok : bytesOk t.S
  f0 : 0 ≤ t.first
  f1 : t.first ≤ 2000
  t0 : 0 ≤ t.tiles
  t1 : t.tiles ≤ 2000
  len : (t.S.length : Int) ≤ 63 * t.tiles
  c0 : 0 ≤ t.count
  c1 : t.count ≤ t.S.length
structure TrAt (w : World) (p bm : Nat) (t : Tr) : Prop where
  bx : w.heap[p]? = some (.cells #[.pointer (some ⟨t.dp, 0, none⟩), .int .i64 t.first, .int .i64 t.tiles, .map (some bm), .int .i64 t.S.length, .int .i64 t.count, .int .i64 t.stable] 64 (0, 0))
  mp : fm w Try.prog 3 bm (blkM t.S)
  ok : t.Ok
  ne : p ≠ bm
def Two (p bm : Nat) : Nat → Prop := fun k => k = p ∨ k = bm
section
variable {w w' : World} {p bm : Nat} {t : Tr}
theorem TrAt.c (h : TrAt w p bm t) (i : Nat) : w.cell? ⟨p, i, none⟩ = (#[.pointer (some ⟨t.dp, 0, none⟩), .int .i64 t.first, .int .i64 t.tiles, .map (some bm), .int .i64 t.S.length, .int .i64 t.count, .int .i64 t.stable] : Array Value)[i]? := (cell_of h.bx i).1
theorem TrAt.fz (h : TrAt w p bm t) (i : Nat) : w.frozen? ⟨p, i, none⟩ = false := (cell_of h.bx i).2
theorem TrAt.kept (h : TrAt w p bm t) (hb : ∀ k, k < w.heap.size → w'.heap[k]? = w.heap[k]?) : TrAt w' p bm t :=
  ⟨(hb p (Array.getElem?_eq_some_iff.1 h.bx).1).trans h.bx, h.mp.of_block (hb bm h.mp.lt), h.ok, h.ne⟩
theorem TrAt.lt (h : TrAt w p bm t) : p < w.heap.size ∧ bm < w.heap.size := ⟨(Array.getElem?_eq_some_iff.1 h.bx).1, h.mp.lt⟩
end

set_option maxRecDepth 100000 in
theorem left_any (w : World) {p bm : Nat} {t : Tr} (h : TrAt w p bm t) : Calls Try.prog 12 #[.pointer (some ⟨p, 0, none⟩)] w fun e w' => e = .returned (.int .i64 (t.tiles * 63 - t.S.length)) ∧ Below w.heap.size w w' := by
  have h0 := h.ok.t0
  have h1 := h.ok.t1
  have h2 := h.ok.len
  have x2 : w.drew.cell? ⟨p, 2, none⟩ = some (.int .i64 t.tiles) := h.c 2
  have x4 : w.drew.cell? ⟨p, 4, none⟩ = some (.int .i64 t.S.length) := h.c 4
  obtain ⟨n, hn⟩ : ∃ n : Int, n = t.S.length := ⟨_, rfl⟩
  obtain ⟨k, hk⟩ : ∃ k : Int, k = t.tiles := ⟨_, rfl⟩
  rw [← hn] at x4 h2 ⊢
  rw [← hk] at x2 h0 h1 h2 ⊢
  have hn0 : 0 ≤ n := by omega
  have t1 : IntKind.i64.wrap (k * 63) = k * 63 := IntWalk.i64_in _ (by omega)
  have t2 : IntKind.i64.wrap (k * 63 - n) = k * 63 - n := IntWalk.i64_in _ (by omega)
  clear hn hk
  go_enter Try.func12, Try.ntmps12
  go_wp2
  go_region
  all_goals go_wp2
  all_goals go_ret
  all_goals exact ⟨rfl, (Below.refl _ _).drew⟩

theorem count_any (w : World) {p bm : Nat} {t : Tr} (h : TrAt w p bm t) : Calls Try.prog 15 #[.pointer (some ⟨p, 0, none⟩)] w fun e w' => e = .returned (.int .i64 t.count) ∧ w' = w := by
  have x : w.cell? ⟨p, 5, none⟩ = some (.int .i64 t.count) := h.c 5
  go_enter Try.func15, Try.ntmps15
  go_wp2
  go_ret
  exact ⟨rfl, rfl⟩
theorem stable_any (w : World) {p bm : Nat} {t : Tr} (h : TrAt w p bm t) : Calls Try.prog 14 #[.pointer (some ⟨p, 0, none⟩)] w fun e w' => e = .returned (.int .i64 t.stable) ∧ w' = w := by
  have x : w.cell? ⟨p, 6, none⟩ = some (.int .i64 t.stable) := h.c 6
  go_enter Try.func14, Try.ntmps14
  go_wp2
  go_ret
  exact ⟨rfl, rfl⟩
theorem within_any (w : World) (a f k : Int) (ha : 0 ≤ a ∧ a ≤ 2000) (hf : 0 ≤ f ∧ f ≤ 2000) (hk : 0 ≤ k ∧ k ≤ 2000) (h : f + k ≤ a) : Calls Try.prog 23 #[.int .i64 a, .int .i64 f, .int .i64 k] w fun e w' => e = .returned (.bool true) ∧ w' = w := by
  have t1 : IntKind.i64.wrap (a - f) = a - f := IntWalk.i64_in _ (by omega)
  have t2 : k ≤ a - f := by omega
  have h0 := hf.1
  have h1 := hk.1
  go_enter Try.func23, Try.ntmps23
  go_wp2
  go_ret
  exact ⟨rfl, rfl⟩
end Go.Proofs.Yticcadbkpolmiaa
