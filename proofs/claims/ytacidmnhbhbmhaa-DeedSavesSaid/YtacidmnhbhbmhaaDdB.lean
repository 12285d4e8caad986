/- deed: rows of numbers, what may be appended, what has turned; slices.Repeat of one number; New. -/
import Derived.Test.YtacidmnhbhbmhaaRow
import Derived.Test.YtacidmnhbhbmhaaShelf
import Derived.Test.YtacidmnhbhbmhaaRows
import Derived.WalkKit
import Derived.WalkSpells
import Derived.Lib.Hide
import Derived.Lib.SliceRun
import Derived.Laws.CopyRow
import Derived.Laws.AppendOwnNone
import Derived.Lib.OwnBridge
import Derived.Deep.AppendLies
import Derived.Deep.RegionLaw
import Derived.Deep.QuietTactic
import Derived.Deep.LoopGhost
import Derived.Deep.DeepCutAuto
import Derived.Deep.CutBlock
import Derived.Deep.RegionWith
import Derived.Deep.Onto
import Derived.Maps.AppendAt
import Derived.BigQuiet
import Derived.OwnWalk
import Derived.Deep.OwnRows
namespace Go.Proofs.Ytacidmnhbhbmhaa
open Go.RowKit

theorem cell_of {w : World} {p : Nat} {cs : Array Value} {t : TypeId} (h : w.heap[p]? = some (.cells cs t (0, 0))) (i : Nat) : w.cell? ⟨p, i, none⟩ = cs[i]? ∧ w.frozen? ⟨p, i, none⟩ = false := by
  simp [World.cell?, World.frozen?, h]
theorem lt_of {w : World} {p : Nat} {o : Obj} (h : w.heap[p]? = some o) : p < w.heap.size := (Array.getElem?_eq_some_iff.1 h).1
theorem infoI64 : (Try.prog.info? 3).map (fun i => (i.zero, i.size, i.bytes)) = some (some (.int .i64 0), 1, 8) := by kernel_rfl
theorem info_of {o : Option TypeInfo} {z : Value} {s b : Nat} (h : o.map (fun i => (i.zero, i.size, i.bytes)) = some (some z, s, b)) : ∃ i, o = some i ∧ i.zero = some z ∧ i.size = s ∧ i.bytes = b := by
  cases o with
  | none => cases h
  | some i =>
    simp only [Option.map_some, Option.some.injEq, Prod.mk.injEq] at h
    exact ⟨i, rfl, h.1, h.2.1, h.2.2⟩
def intV (l : List Int) : List Value := l.map (Value.int .i64)
theorem intV_len (l : List Int) : (intV l).length = l.length := by simp [intV]
theorem intV_one (l : List Int) : ∀ v ∈ intV l, v.oneCell' = true := by
  intro v hv
  obtain ⟨x, _, rfl⟩ := List.mem_map.1 hv
  rfl
def ivN (v : Value) : Nat := match v with | .int _ i => i.toNat | _ => 0

/-- What is the same but for the blocks in S, below B. -/
structure Fr (B : Nat) (S : Nat → Prop) (w w' : World) : Prop where
  os : w'.os = w.os
  tape : w'.tape = w.tape
  output : w'.output = w.output
  size : w.heap.size ≤ w'.heap.size
  block : ∀ k, k < B → ¬ S k → w'.heap[k]? = w.heap[k]?
section
variable {B : Nat} {S : Nat → Prop} {a w w' : World}
theorem Fr.refl (B : Nat) (S : Nat → Prop) (w : World) : Fr B S w w := ⟨rfl, rfl, rfl, Nat.le_refl _, fun _ _ _ => rfl⟩
theorem Fr.trans {b c : World} {B' : Nat} {S' : Nat → Prop} (h : Fr B S a b) (k : Fr B' S' b c) (hB : B ≤ B') (hS : ∀ x, x < B → S' x → S x) : Fr B S a c :=
  ⟨k.os.trans h.os, k.tape.trans h.tape, k.output.trans h.output, Nat.le_trans h.size k.size, fun i hi hn => (k.block i (by omega) (fun e => hn (hS i hi e))).trans (h.block i hi hn)⟩
theorem Fr.mono (h : Fr B S a w) {S' : Nat → Prop} (hS : ∀ x, S x → S' x) : Fr B S' a w := ⟨h.os, h.tape, h.output, h.size, fun k hk hn => h.block k hk fun e => hn (hS k e)⟩
theorem Fr.drew (h : Fr B S a w) : Fr B S a w.drew := ⟨h.os, h.tape, h.output, h.size, h.block⟩
theorem Fr.alloc (h : Fr B S a w) (hB : B ≤ w.heap.size) (o : Obj) : Fr B S a (w.alloc o) :=
  ⟨h.os, h.tape, h.output, by have := h.size; simp; omega, fun k hk hn => (Below.heap_alloc _ _ _ (by omega)).trans (h.block k hk hn)⟩
theorem Fr.setCell (h : Fr B S a w) {p : Addr} (hp : S p.block ∨ B ≤ p.block) (u : Value) : Fr B S a (w.setCell p u) :=
  ⟨h.os, h.tape, h.output, by have := h.size; simpa [World.setCell] using this, fun k hk hn => (Below.heap_setCell _ _ _ _ (by rintro rfl; rcases hp with hp | hp; exact hn hp; omega)).trans (h.block k hk hn)⟩
theorem Fr.grown (h : Fr B S a w) {b : Option Nat} (hg : w.grownBy w' b) (hb : ∀ k, b = some k → S k ∨ B ≤ k) (hB : B ≤ w.heap.size) : Fr B S a w' :=
  ⟨hg.os.trans h.os, hg.tape.trans h.tape, hg.output.trans h.output, Nat.le_trans h.size hg.size, fun k hk hn => (hg.block k (by omega) (fun e => by rcases hb k e.symm with h | h; exact hn h; omega)).trans (h.block k hk hn)⟩
theorem Fr.below {B' : Nat} (h : Fr B S a w) (hB : B' ≤ B) (hS : ∀ k, S k → B' ≤ k) : Below B' a w :=
  ⟨h.os, h.tape, h.output, h.size, fun k hk => h.block k (by omega) (fun e => by have := hS k e; omega)⟩
theorem fr_of (h : Below B a w) : Fr B (fun _ => False) a w := ⟨h.os, h.tape, h.output, h.size, fun k hk _ => h.block k hk⟩
theorem Fr.on (h : Fr B S a w) (hb : Below w.heap.size w w') (hB : B ≤ w.heap.size) : Fr B S a w' :=
  ⟨hb.os.trans h.os, hb.tape.trans h.tape, hb.output.trans h.output, Nat.le_trans h.size hb.size, fun k hk hn => (hb.block k (by omega)).trans (h.block k hk hn)⟩
end

/-! ### rows of one's own -/
section
variable {w w' : World} {B k n c cp : Nat} {e : TypeId} {v : Value} {p : Option Addr} {xs ys : List Value}
theorem own_up (h : w.ownsRow B e k v n xs) (hb : Below w.heap.size w w') : w'.ownsRow B e k v n xs :=
  h.kept (row := none) ⟨hb.os, hb.tape, hb.output, hb.size, fun j hj _ => hb.block j hj⟩ (by
    rcases h.2 with ⟨rfl, _⟩ | ⟨q, cap, cur, rfl, _⟩
    · exact Or.inl rfl
    · exact Or.inr (by simp [Value.ownBlock]))
theorem own_fr {S : Nat → Prop} (h : w.ownsRow B e k v n xs) (hf : Fr w.heap.size S w w') (hS : ∀ b, v.ownBlock = some b → ¬ S b) : w'.ownsRow B e k v n xs := by
  refine ⟨h.1, ?_⟩
  have hlt := h.lt
  rcases h.2 with h2 | ⟨g, cap, cur, rfl, hb, hg, h4⟩
  · exact .inl h2
  · exact .inr ⟨g, cap, cur, rfl, hb, (hf.block g (hlt g rfl).2 (hS g rfl)).trans hg, h4⟩
theorem own_sl (h : w.ownsRow B e k v n xs) : ∃ p c, v = .slice p n c := by
  rcases h.2 with ⟨rfl, h2⟩ | ⟨q, cap, cur, rfl, _⟩
  · exact ⟨none, 0, by rw [h2]⟩
  · exact ⟨_, _, rfl⟩
theorem own_cap {A : Option Addr} (h : w.ownsRow B e k (.slice A n cp) n xs) : n ≤ cp ∧ cp ≤ maxLen := by
  rcases h.2 with ⟨h2, h3⟩ | ⟨g, cap, cur, h2, _, _, h4, h5, _⟩
  · cases h2
    exact ⟨by omega, by unfold maxLen; omega⟩
  · cases h2
    exact ⟨h4, h5⟩
theorem own_base {B' : Nat} (h : w.ownsRow B' e k v n xs) (hB : B ≤ B') : w.ownsRow B e k v n xs := by
  refine ⟨h.1, ?_⟩
  rcases h.2 with h2 | ⟨g, cap, cur, h1, h2, h3⟩
  · exact .inl h2
  · exact .inr ⟨g, cap, cur, h1, Nat.le_trans hB h2, h3⟩
theorem own_at (h : w.ownsRow B e 1 (.slice p n c) n xs) : ∀ j, j < n → ∃ g x, p = some ⟨g, 0, none⟩ ∧ B ≤ g ∧ g < w.heap.size ∧ xs[j]? = some x ∧ w.cell? ⟨g, j, none⟩ = some x := by
  intro j hj
  have hl := h.1
  rcases h.2 with ⟨h2, h3⟩ | ⟨g, cap, cur, h2, hB, hg, h4, h5, h6, h7⟩
  · omega
  · cases h2
    refine ⟨g, xs[j]'(by omega), rfl, hB, lt_of hg, by simp, ?_⟩
    rw [(cell_of hg j).1, ← Array.getElem?_toList]
    have : (cur.toList.take (n * 1))[j]? = cur.toList[j]? := by rw [List.getElem?_take, if_pos (by omega)]
    rw [← this, h7]
    simp
end

/-- What may be appended: so many elements, and where they lie. -/
def Src (w : World) (sv : Value) (m : Nat) (news : List Value) : Prop :=
  (sv = .slice none 0 0 ∧ m = 0 ∧ news = []) ∨ ∃ ad c, sv = .slice (some ad) m c ∧ ∀ j u, news[j]? = some u → w.cell? (ad.add j) = some u
theorem Src.up {w w' : World} {sv : Value} {m : Nat} {news : List Value} (h : Src w sv m news) (hb : Below w.heap.size w w') : Src w' sv m news := by
  rcases h with h | ⟨ad, c, h1, h2⟩
  · exact .inl h
  · exact .inr ⟨ad, c, h1, fun j u hu => (World.cell?_of_block (hb.block _ (World.block_lt_of_cell? w _ (h2 j u hu)))).trans (h2 j u hu)⟩
theorem add_more (g i j : Nat) : (⟨g, i, none⟩ : Addr).add j = ⟨g, i + j, none⟩ := by unfold Addr.add; split <;> simp_all
/-- The elements l to r of a row. -/
theorem own_src {w : World} {B n c : Nat} {e : TypeId} {p : Option Addr} {xs : List Value} (h : w.ownsRow B e 1 (.slice p n c) n xs) {l r : Nat} (hl : l ≤ r) (hr : r ≤ n) : Src w (sliced p l r c 1) (r - l) ((xs.take r).drop l) := by
  have hx := h.1
  rcases h.2 with ⟨hv, hn⟩ | ⟨g, cap, cur, hv, _, hg, hnc, _, _, hxs⟩
  · injection hv with h1 h2 h3
    subst h1 h2 h3
    obtain rfl : r = 0 := by omega
    obtain rfl : l = 0 := by omega
    exact .inl ⟨rfl, rfl, rfl⟩
  · injection hv with h1 h2 h3
    subst h1 h3
    refine .inr ?_
    by_cases hc : c = l
    · refine ⟨⟨g, 0, none⟩, c - l, by unfold sliced; rw [if_pos hc], fun j u hu => ?_⟩
      rw [List.drop_of_length_le (by rw [List.length_take]; omega)] at hu
      cases hu
    · refine ⟨⟨g, l, none⟩, c - l, by unfold sliced; rw [if_neg hc, Option.map_some, add_more, Nat.zero_add, Nat.mul_one], fun j u hu => ?_⟩
      rw [add_more, (cell_of hg _).1]
      rw [List.getElem?_drop, List.getElem?_take] at hu
      split at hu
      · rw [← hxs, List.getElem?_take, if_pos (by omega), Array.getElem?_toList] at hu
        exact hu
      · cases hu
theorem sliced_zero (p : Option Addr) (i c s : Nat) : sliced p 0 i c s = .slice p i c := by
  unfold sliced
  cases p <;> simp [Addr.add]

/-! ### copy -/
def lay (cur : Array Value) (o : Nat) (cs : List Value) : Array Value := (cur.toList.take o ++ cs ++ cur.toList.drop (o + cs.length)).toArray
section
variable {P : Program}
theorem run_copy_k (w : World) (dT sT ty elem : TypeId) (g o dLen dCap : Nat) (a : Addr) (sLen sCap k : Nat) (cur : Array Value) (t : TypeId) (cs : List Value) (hu : P.underlying dT = some (.slice elem)) (hs : (P.info? elem).map (·.size) = some k)
    (hg : w.heap[g]? = some (.cells cur t (0, 0))) (hn : cs.length = Nat.min sLen dLen * k) (hsrc : ∀ j v, cs[j]? = some v → w.cell? (a.add j) = some v) (hfit : o + cs.length ≤ cur.size) (h1 : ∀ v ∈ cs, v.oneCell' = true) :
    (Builtin.copy_ #[dT, sT] ty #[.slice (some ⟨g, o, none⟩) dLen dCap, .slice (some a) sLen sCap]).run P w =
      .ok (goInt (Nat.min sLen dLen)) (w.setRow g (lay cur o cs)) := by
  have hl := run_loadCells_list (P := P) w a cs hsrc
  have hst := Go.run_storeCells_at P g o t cs 0 cur w hg (by simpa using hfit) h1
  cases hq : P.info? elem with
  | none => simp [hq] at hs
  | some i =>
    have hi : i.size = k := by simpa [hq] using hs
    simp [Builtin.copy_, run_underlying hu, Builtin.lenOf, Builtin.firstCells, sizeOf, typeInfo, hq, hi, ← hn, hl, hst, lay]
theorem wpList_copy_r (w : World) {ops : Array Oper} {rest : List Oper} {o : Oper} {a : Act} {Q : Exit → Act → World → Prop} (hgd : o.guard = none) (d s : Operand) (dT sT : TypeId)
    (ho : o.op = .call { callee := .builtin .copy, args := #[d, s], argTypes := #[dT, sT] }) (v u : Value) (hd : a.eval d = v) (hs : a.eval s = u) {v' : Value} {w' : World}
    (hr : (Builtin.copy_ #[dT, sT] o.type #[v, u]).run P w = .ok v' w') (h : wpList P ops Q rest (a.put o.dst v') w') : wpList P ops Q (o :: rest) a w :=
  wpList_plain hgd fun _ hK => by
    unfold Oper.wp execOp
    simp only [ho, resolve, invoke, builtin, Sem.run_bind, Sem.run_pure, Result.andThen_ok, List.map_toArray, List.map_cons, List.map_nil, hd, hs, hr]
    exact hK _ _ h
theorem step_copy_r {ops : Array Oper} {o : Oper} {a : Act} {w : World} {K : Act → World → Prop} {Q : Exit → Act → World → Prop} {E : Prop} (hg : o.guard = none) (d x : Operand) (dT sT : TypeId)
    (ho : o.op = .call { callee := .builtin .copy, args := #[d, x], argTypes := #[dT, sT] }) (v u : Value) (hd : a.eval d = v) (hx : a.eval x = u) {v' : Value} {w' : World}
    (hr : (Builtin.copy_ #[dT, sT] o.type #[v, u]).run P w = .ok v' w') (h : K (a.put o.dst v') w') : if Region.wanted o (yielded ops a.tmps) = true then Oper.wp P o a w K Q else E := by
  have hw : Region.wanted o (yielded ops a.tmps) = true := by simp [Region.wanted, hg]
  rw [if_pos hw]
  unfold Oper.wp execOp
  simp only [ho, resolve, invoke, builtin, Sem.run_bind, Sem.run_pure, Result.andThen_ok, List.map_toArray, List.map_cons, List.map_nil, hd, hx, hr]
  exact h
theorem wpList_append_r (w : World) {ops : Array Oper} {rest : List Oper} {o : Oper} {a : Act} {Q : Exit → Act → World → Prop} (hgd : o.guard = none) (d s : Operand) (dT sT : TypeId)
    (ho : o.op = .call { callee := .builtin .append, args := #[d, s], argTypes := #[dT, sT] }) (v u : Value) (hd : a.eval d = v) (hs : a.eval s = u) {v' : Value} {w' : World}
    (hr : (Builtin.append_ #[dT, sT] o.type #[v, u]).run P w = .ok v' w') (h : wpList P ops Q rest (a.put o.dst v') w') : wpList P ops Q (o :: rest) a w :=
  wpList_plain hgd fun _ hK => by
    unfold Oper.wp execOp
    simp only [ho, resolve, invoke, builtin, Sem.run_bind, Sem.run_pure, Result.andThen_ok, List.map_toArray, List.map_cons, List.map_nil, hd, hs, hr]
    exact hK _ _ h
end

/-- Four cells, n of them -1. -/
def rep4 (n : Nat) : Array Value := #[.int .i64 (if 0 < n then -1 else 0), .int .i64 (if 1 < n then -1 else 0), .int .i64 (if 2 < n then -1 else 0), .int .i64 (if 3 < n then -1 else 0)]
theorem copy1 (w : World) {N g c : Nat} (h0 : w.heap[N]? = some (.cells (rep4 0) 3 (0, 0))) (h1 : w.cell? ⟨g, 0, none⟩ = some (.int .i64 (-1))) (ty : TypeId) :
    (Builtin.copy_ #[27, 27] ty #[.slice (some ⟨N, 0, none⟩) 4 4, .slice (some ⟨g, 0, none⟩) 1 c]).run Try.prog w = .ok (goInt 1) (w.setRow N (rep4 1)) :=
  run_copy_k (P := Try.prog) w 27 27 ty 3 N 0 4 4 ⟨g, 0, none⟩ 1 c 1 (rep4 0) 3 [.int .i64 (-1)] Try.underlying27 (by kernel_rfl) h0 rfl (fun j u hu => by
    obtain ⟨h, rfl⟩ := List.getElem?_eq_some_iff.1 hu
    have h : j < 1 := h
    obtain rfl : j = 0 := by omega
    rw [add_more]; exact h1) (by decide) (by decide)
theorem copy2 (w : World) {N : Nat} (h0 : w.heap[N]? = some (.cells (rep4 1) 3 (0, 0))) (ty : TypeId) :
    (Builtin.copy_ #[27, 27] ty #[.slice (some ⟨N, 1, none⟩) 3 3, .slice (some ⟨N, 0, none⟩) 1 4]).run Try.prog w = .ok (goInt 1) (w.setRow N (rep4 2)) :=
  run_copy_k (P := Try.prog) w 27 27 ty 3 N 1 3 3 ⟨N, 0, none⟩ 1 4 1 (rep4 1) 3 [.int .i64 (-1)] Try.underlying27 (by kernel_rfl) h0 rfl (fun j u hu => by
    obtain ⟨h, rfl⟩ := List.getElem?_eq_some_iff.1 hu
    have h : j < 1 := h
    obtain rfl : j = 0 := by omega
    rw [add_more, (cell_of h0 _).1]; rfl) (by decide) (by decide)
theorem copy4 (w : World) {N : Nat} (h0 : w.heap[N]? = some (.cells (rep4 2) 3 (0, 0))) (ty : TypeId) :
    (Builtin.copy_ #[27, 27] ty #[.slice (some ⟨N, 2, none⟩) 2 2, .slice (some ⟨N, 0, none⟩) 2 4]).run Try.prog w = .ok (goInt 2) (w.setRow N (rep4 4)) :=
  run_copy_k (P := Try.prog) w 27 27 ty 3 N 2 2 2 ⟨N, 0, none⟩ 2 4 1 (rep4 2) 3 [.int .i64 (-1), .int .i64 (-1)] Try.underlying27 (by kernel_rfl) h0 rfl (fun j u hu => by
    obtain ⟨h, rfl⟩ := List.getElem?_eq_some_iff.1 hu
    have h : j < 2 := h
    rw [add_more, (cell_of h0 _).1]
    rcases (by omega : j = 0 ∨ j = 1) with rfl | rfl <;> rfl) (by decide) (by decide)
theorem below_row {B : Nat} {a w : World} (h : Below B a w) {N : Nat} (hN : B ≤ N) (cs : Array Value) : Below B a (w.setRow N cs) :=
  ⟨h.os, h.tape, h.output, by simpa [World.setRow] using h.size, fun k hk => (setRow_other _ _ _ _ (by omega)).trans (h.block k hk)⟩

set_option maxRecDepth 100000 in
set_option maxHeartbeats 1000000 in
/-- slices.Repeat of one number, four times. -/
theorem repeat_any (w : World) (g : Nat) (h1 : w.cell? ⟨g, 0, none⟩ = some (.int .i64 (-1))) :
    Calls Try.prog 18 #[.slice (some ⟨g, 0, none⟩) 1 1, .int .i64 4] w fun e w' => e = .returned (.slice (some ⟨w.heap.size, 0, none⟩) 4 4) ∧ w'.heap[w.heap.size]? = some (.cells (rep4 4) 3 (0, 0)) ∧ Below w.heap.size w w' := by
  obtain ⟨ii, hii, hy0, hy1, hy2⟩ := info_of infoI64
  have CM := fun W => Try.bits_Mul 1 4 (by decide) (by decide) W
  have hmk : ∃ W, W = w.alloc (.cells (madeCells #[.int .i64 0] 4) 3) := ⟨_, rfl⟩
  obtain ⟨W1, hW1⟩ := hmk
  have hr0 : W1.heap[w.heap.size]? = some (.cells (rep4 0) 3 (0, 0)) := by rw [hW1, show madeCells #[.int .i64 0] 4 = rep4 0 from by kernel_rfl]; exact heap_alloc_new _ _
  have hg1 : W1.cell? ⟨g, 0, none⟩ = some (.int .i64 (-1)) := by rw [hW1]; exact Lib.cell?_alloc_some _ h1
  have hb1 : Below w.heap.size w W1 := by rw [hW1]; exact (Below.refl _ _).alloc (Nat.le_refl _) _
  have HC1 := Lib.hid (copy1 (c := 1) W1 hr0 hg1)
  have hr1 : (W1.setRow w.heap.size (rep4 1)).heap[w.heap.size]? = some (.cells (rep4 1) 3 (0, 0)) := setRow_heap _ _ _ _ _ _ hr0
  have HR1 := Lib.hid hr1
  have HB1 := Lib.hid (below_row hb1 (Nat.le_refl _) (rep4 1))
  have HBY : Hid (ii.bytes * 4 ≤ 281474976710656) := by rw [hy2]; exact Lib.hid (by decide)
  clear hr0 hg1 hb1 hr1 h1
  have HWM : Hid (w.alloc (.cells (madeCells #[.int .i64 0] 4) 3) = W1) := hW1.symm
  obtain ⟨N, hN⟩ : ∃ N, w.heap.size = N := ⟨_, rfl⟩
  clear hW1
  have HMK : Hid (∀ (ops : Array Oper) (rest : List Oper) (o : Oper) (a : Act) (Q : Exit → Act → World → Prop) (l c : Operand), o.guard = none → o.op = Op.makeSlice 27 l c → a.eval l = .int .i64 ((4 : Nat) : Int) → a.eval c = .int .i64 ((4 : Nat) : Int) → wpList Try.prog ops Q rest (a.put o.dst (.slice (some ⟨w.heap.size, 0, none⟩) 4 4)) W1 → wpList Try.prog ops Q (o :: rest) a w) := fun ops rest o a Q l c h1 h2 h3 h4 h5 =>
    wpList_make_row w h1 l c 27 h2 3 ii (.int .i64 0) Try.underlying27 hii hy0 hy1 rfl .i64 .i64 4 h3 h4 HBY.out (by decide) (by rw [HWM.out]; exact h5)
  rw [hN] at HC1 HR1 HB1 HMK ⊢
  clear HBY HWM hN hii hy0 hy1 hy2
  go_enter Try.func18, Try.ntmps18
  go_upto_region 6 with (first | (go_at_call 25; refine (CM _).mono ?_; rintro e w1 ⟨rfl, hw⟩; obtain rfl := hw.symm; clear hw))
  go_upto_region 7 with (at_make; refine HMK.out _ _ _ _ _ _ _ rfl rfl rfl rfl ?_)
  go_upto_region 8 with (with_reducible refine wpList_copy_r _ rfl (.tmp 31) (.tmp 32) 27 27 rfl (.slice (some ⟨N, 0, none⟩) 4 4) (.slice (some ⟨g, 0, none⟩) 1 1) rfl rfl (HC1.out _) ?_)
  generalize W1.setRow N (rep4 1) = W2 at *
  go_loopw [8] (fun nv wr => Hid (∃ n : Nat, (n = 1 ∨ n = 2 ∨ n = 4) ∧ nv = .int .i64 (n : Int) ∧ wr.heap[N]? = some (.cells (rep4 n) 3 (0, 0)) ∧ Below N w wr)) (fun nv _ => 4 - ivN nv)
  case atStart => exact ⟨1, Or.inl rfl, rfl, HR1.out, HB1.out⟩
  case round =>
    obtain ⟨n, hn, rfl, hr, hb⟩ := hrel.out
    have HB := Lib.hid hb
    have HR := Lib.hid hr
    clear hrel hb
    rcases hn with rfl | rfl | rfl
    · have HC := Lib.hid (copy2 wr.drew hr)
      have hw2 : IntKind.i64.wrap 2 = 2 := by decide
      clear hr
      go_upto_region 9 with fail
      go_region_law (refine step_copy_r (v' := goInt 1) (w' := wr.drew.setRow N (rep4 2)) rfl (.tmp 41) (.tmp 44) 27 27 rfl (.slice (some ⟨N, 1, none⟩) 3 3) (.slice (some ⟨N, 0, none⟩) 1 4) (by go_simp) (by go_simp) (HC.out _) ?_)
      simp only [List.getElem_toArray, List.getElem_cons_succ, List.getElem_cons_zero, Act.put, List.setIfInBounds_toArray, List.set_cons_zero, List.set_cons_succ]
      go_wp2
      exact ⟨⟨2, Or.inr (Or.inl rfl), rfl, setRow_heap _ _ _ _ _ _ HR.out, below_row (HB.out.drew) (Nat.le_refl _) _⟩, by simp [ivN]⟩
    · have HC := Lib.hid (copy4 wr.drew hr)
      have hw4 : IntKind.i64.wrap 4 = 4 := by decide
      clear hr
      go_upto_region 9 with fail
      go_region_law (refine step_copy_r (v' := goInt 2) (w' := wr.drew.setRow N (rep4 4)) rfl (.tmp 41) (.tmp 44) 27 27 rfl (.slice (some ⟨N, 2, none⟩) 2 2) (.slice (some ⟨N, 0, none⟩) 2 4) (by go_simp) (by go_simp) (HC.out _) ?_)
      simp only [List.getElem_toArray, List.getElem_cons_succ, List.getElem_cons_zero, Act.put, List.setIfInBounds_toArray, List.set_cons_zero, List.set_cons_succ]
      go_wp2
      exact ⟨⟨4, Or.inr (Or.inr rfl), rfl, setRow_heap _ _ _ _ _ _ HR.out, below_row (HB.out.drew) (Nat.le_refl _) _⟩, by simp [ivN]⟩
    · clear hr
      go_wp2
      go_ret
      exact ⟨rfl, HR.out, HB.out⟩

/-- A stack in memory: its two structs, its savepoints' row, its numbers. -/
structure DdAt (w : World) (B p b g : Nat) (v : Value) (L : List Int) (S : Nat → Int) : Prop where
  hp : w.heap[p]? = some (.cells #[.pointer (some ⟨b, 0, none⟩)] 50 (0, 0))
  hb : w.heap[b]? = some (.cells #[v, .slice (some ⟨g, 0, none⟩) 4 4] 48 (0, 0))
  hs : ∃ cur, w.heap[g]? = some (.cells cur 3 (0, 0)) ∧ cur.size = 4 ∧ ∀ i, i < 4 → cur[i]? = some (.int .i64 (S i))
  hl : w.ownsRow B 3 1 v L.length (intV L)
  ne : v.ownBlock ≠ some g
  lo : B ≤ p ∧ B ≤ b ∧ B ≤ g
def Dd (b g : Nat) (v : Value) : Nat → Prop := fun k => k = b ∨ k = g ∨ v.ownBlock = some k
section
variable {w w' : World} {B p b g : Nat} {v : Value} {L : List Int} {S : Nat → Int}
theorem DdAt.gb (h : DdAt w B p b g v L S) : g ≠ b := by
  obtain ⟨cur, h1, h2, _⟩ := h.hs
  intro e
  rw [e, h.hb] at h1
  injection h1 with h1
  injection h1 with h1
  rw [← h1] at h2
  cases h2
theorem DdAt.pb (h : DdAt w B p b g v L S) : p ≠ b := by
  intro e
  have h1 := h.hp
  rw [e, h.hb] at h1
  injection h1 with h1
  injection h1 with h1
  have := congrArg Array.size h1
  cases this
theorem DdAt.pg (h : DdAt w B p b g v L S) : p ≠ g := by
  obtain ⟨cur, h1, h2, _⟩ := h.hs
  intro e
  rw [← e, h.hp] at h1
  injection h1 with h1
  injection h1 with h1
  rw [← h1] at h2
  cases h2
theorem own_ty {w : World} {B k n : Nat} {e : TypeId} {v : Value} {xs : List Value} (h : w.ownsRow B e k v n xs) {q : Nat} (hq : v.ownBlock = some q) {cs : Array Value} {t : TypeId} (hb : w.heap[q]? = some (.cells cs t (0, 0))) : t = e := by
  rcases h.2 with ⟨rfl, _⟩ | ⟨g, cap, cur, rfl, _, hg, _⟩
  · cases hq
  · obtain rfl : g = q := by simpa [Value.ownBlock] using hq
    rw [hg] at hb
    injection hb with hb
    injection hb with _ h2
    exact h2.symm
theorem DdAt.vb (h : DdAt w B p b g v L S) : v.ownBlock ≠ some b := fun e => absurd (own_ty h.hl e h.hb) (by decide)
theorem DdAt.vp (h : DdAt w B p b g v L S) : v.ownBlock ≠ some p := fun e => absurd (own_ty h.hl e h.hp) (by decide)
theorem DdAt.dlt (h : DdAt w B p b g v L S) {k : Nat} (hk : Dd b g v k) : k < w.heap.size ∧ B ≤ k := by
  rcases hk with rfl | rfl | hk
  · exact ⟨lt_of h.hb, h.lo.2.1⟩
  · obtain ⟨cur, h1, _⟩ := h.hs
    exact ⟨lt_of h1, h.lo.2.2⟩
  · exact ⟨(h.hl.lt k hk).2, (h.hl.lt k hk).1⟩
theorem DdAt.dp (h : DdAt w B p b g v L S) : ¬ Dd b g v p := by
  rintro (e | e | e)
  · exact h.pb e
  · exact h.pg e
  · exact h.vp e
/-- Nothing of it has turned. -/
theorem DdAt.kept (h : DdAt w B p b g v L S) {X : Nat → Prop} (hf : Fr w.heap.size X w w') (hp : ¬ X p) (hX : ∀ k, Dd b g v k → ¬ X k) : DdAt w' B p b g v L S := by
  obtain ⟨cur, h1, h2, h3⟩ := h.hs
  exact ⟨(hf.block p (lt_of h.hp) hp).trans h.hp, (hf.block b (lt_of h.hb) (hX b (.inl rfl))).trans h.hb, ⟨cur, (hf.block g (lt_of h1) (hX g (.inr (.inl rfl)))).trans h1, h2, h3⟩, own_fr h.hl hf fun k hk => hX k (.inr (.inr hk)), h.ne, h.lo⟩
theorem DdAt.on (h : DdAt w B p b g v L S) (hb : Below w.heap.size w w') : DdAt w' B p b g v L S := h.kept (fr_of hb) (fun e => e) (fun _ _ e => e)
theorem DdAt.c0 (h : DdAt w B p b g v L S) : w.cell? ⟨p, 0, none⟩ = some (.pointer (some ⟨b, 0, none⟩)) := (cell_of h.hp 0).1
theorem DdAt.b0 (h : DdAt w B p b g v L S) : w.cell? ⟨b, 0, none⟩ = some v ∧ w.frozen? ⟨b, 0, none⟩ = false := cell_of h.hb 0
theorem DdAt.b1 (h : DdAt w B p b g v L S) : w.cell? ⟨b, 1, none⟩ = some (.slice (some ⟨g, 0, none⟩) 4 4) := (cell_of h.hb 1).1
theorem DdAt.si (h : DdAt w B p b g v L S) {i : Nat} (hi : i < 4) : w.cell? ⟨g, i, none⟩ = some (.int .i64 (S i)) ∧ w.frozen? ⟨g, i, none⟩ = false := by
  obtain ⟨cur, h1, h2, h3⟩ := h.hs
  exact ⟨(cell_of h1 i).1.trans (h3 i hi), (cell_of h1 i).2⟩
end

def none4 : Nat → Int := fun _ => -1
set_option maxRecDepth 100000 in
set_option maxHeartbeats 1000000 in
theorem new_any (w : World) : Calls Try.prog 7 #[] w fun e w' => ∃ p b g, e = .returned (.pointer (some ⟨p, 0, none⟩)) ∧ DdAt w' w.heap.size p b g (.slice none 0 0) [] none4 ∧ Below w.heap.size w w' := by
  have CR := repeat_any (w.alloc (.cells #[.int .i64 (-1)] 3)) w.heap.size ((cell_of (heap_alloc_new w (.cells #[.int .i64 (-1)] 3)) 0).1)
  have hs : (w.alloc (.cells #[.int .i64 (-1)] 3)).heap.size = w.heap.size + 1 := by simp
  have hb : Below w.heap.size w (w.alloc (.cells #[.int .i64 (-1)] 3)) := (Below.refl _ _).alloc (Nat.le_refl _) _
  have HS := Lib.hid hs
  have HB := Lib.hid hb
  clear hs hb
  go_enter Try.func7, Try.ntmps7
  go_wp2_with (first | (go_at_call 18; refine CR.mono ?_; rintro e w2 ⟨rfl, hr, hb2⟩))
  go_ret
  generalize w.alloc (.cells #[.int .i64 (-1)] 3) = w1 at *
  have hg : w1.heap.size < w2.heap.size := lt_of hr
  have hz := HS.out
  rw [hz] at hr hg hb2
  refine ⟨w2.heap.size + 1, w2.heap.size, w.heap.size + 1, rfl, ⟨?_, ?_, ⟨rep4 4, ?_, rfl, ?_⟩, World.ownsRow_nil _ _ _ _, by simp [Value.ownBlock], by omega, by omega, by omega⟩, ((HB.out.trans (hb2.mono (by omega))).alloc (by omega) _).alloc (by simp; omega) _⟩
  · have := heap_alloc_new (w2.alloc (.cells #[.slice none 0 0, .slice (some ⟨w.heap.size + 1, 0, none⟩) 4 4] 48)) (.cells #[.pointer (some ⟨w2.heap.size, 0, none⟩)] 50)
    simpa using this
  · exact (Below.heap_alloc _ _ _ (by simp)).trans (heap_alloc_new _ _)
  · exact (Below.heap_alloc _ _ _ (by simp; omega)).trans ((Below.heap_alloc _ _ _ hg).trans hr)
  · intro i hi
    rcases (by omega : i = 0 ∨ i = 1 ∨ i = 2 ∨ i = 3) with rfl | rfl | rfl | rfl <;> rfl
end Go.Proofs.Ytacidmnhbhbmhaa
