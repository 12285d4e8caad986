/- What is appended: slices of a row, new rows; a row's step by append. -/
import Derived.Test.YtcfibmbeojdifaaWtE
import Derived.Test.YtcfibmbeojdifaaHeldF
import Derived.Laws.AppendOwnNone
import Derived.Maps.AppendAt
namespace Go.Proofs.Ytcfibmbeojdifaa
open Go.RowKit

/-- What may be appended: so many elements, and where they lie. -/
def Src (w : World) (sv : Value) (m : Nat) (news : List Value) : Prop :=
  (sv = .slice none 0 0 ∧ m = 0 ∧ news = []) ∨ ∃ ad c, sv = .slice (some ad) m c ∧ ∀ j u, news[j]? = some u → w.cell? (ad.add j) = some u
theorem Src.up {w w' : World} {sv : Value} {m : Nat} {news : List Value} (h : Src w sv m news) (hb : Below w.heap.size w w') : Src w' sv m news := by
  rcases h with h | ⟨ad, c, h1, h2⟩
  · exact .inl h
  · exact .inr ⟨ad, c, h1, fun j u hu => (World.cell?_of_block (hb.block _ (World.block_lt_of_cell? w _ (h2 j u hu)))).trans (h2 j u hu)⟩
theorem add_more (g i j : Nat) : (⟨g, i, none⟩ : Addr).add j = ⟨g, i + j, none⟩ := by unfold Addr.add; split <;> simp_all
/-- The cells of elements l to r of a row. -/
def cutV (k l r : Nat) (xs : List Value) : List Value := (xs.take (r * k)).drop (l * k)
theorem cutV_len {k l r n : Nat} {xs : List Value} (hx : xs.length = n * k) (hr : r ≤ n) : (cutV k l r xs).length = (r - l) * k := by
  have h1 := Nat.mul_le_mul_right k hr
  unfold cutV
  rw [List.length_drop, List.length_take, hx, Nat.min_eq_left h1, Nat.sub_mul]
theorem own_src {w : World} {B k n c : Nat} {e : TypeId} {p : Option Addr} {xs : List Value} (h : w.ownsRow B e k (.slice p n c) n xs) {l r : Nat} (hl : l ≤ r) (hr : r ≤ n) : Src w (sliced p l r c k) (r - l) (cutV k l r xs) := by
  have hlen := cutV_len h.1 (l := l) hr
  rcases h.2 with ⟨hv, hn⟩ | ⟨g, cap, cur, hv, _, hg, hnc, _, _, hxs⟩
  · injection hv with h1 h2 h3
    subst h1 h2 h3
    obtain rfl : r = 0 := by omega
    obtain rfl : l = 0 := by omega
    refine .inl ⟨rfl, rfl, ?_⟩
    exact List.eq_nil_of_length_eq_zero (by simpa using hlen)
  · injection hv with h1 h2 h3
    subst h1 h3
    refine .inr ?_
    by_cases hc : c = l
    · refine ⟨⟨g, 0, none⟩, c - l, by unfold sliced; rw [if_pos hc], fun j u hu => ?_⟩
      have : cutV k l r xs = [] := List.eq_nil_of_length_eq_zero (by rw [hlen, show r - l = 0 by omega, Nat.zero_mul])
      rw [this] at hu
      cases hu
    · refine ⟨⟨g, l * k, none⟩, c - l, by unfold sliced; rw [if_neg hc, Option.map_some, add_at, Nat.zero_add], fun j u hu => ?_⟩
      have hj : j < (r - l) * k := by
        rw [← hlen]
        exact (List.getElem?_eq_some_iff.1 hu).1
      rw [add_more, (cell_of hg _).1]
      unfold cutV at hu
      have h1 := Nat.mul_le_mul_right k hr
      rw [Nat.sub_mul] at hj
      rw [List.getElem?_drop, List.getElem?_take, if_pos (by omega), ← hxs, List.getElem?_take, if_pos (by omega), Array.getElem?_toList] at hu
      exact hu

theorem flat_take {α : Type} {f : α → List Value} {k : Nat} (hf : ∀ x, (f x).length = k) : ∀ (xs : List α) (r : Nat), (xs.flatMap f).take (r * k) = (xs.take r).flatMap f
  | [], r => by simp
  | x :: xs, 0 => by simp
  | x :: xs, r + 1 => by
    rw [List.flatMap_cons, List.take_succ_cons, List.flatMap_cons, List.take_append, hf, Nat.succ_mul, Nat.add_sub_cancel, flat_take hf xs r, List.take_of_length_le (by rw [hf]; omega)]
theorem flat_drop {α : Type} {f : α → List Value} {k : Nat} (hf : ∀ x, (f x).length = k) : ∀ (xs : List α) (r : Nat), (xs.flatMap f).drop (r * k) = (xs.drop r).flatMap f
  | [], r => by simp
  | x :: xs, 0 => by simp
  | x :: xs, r + 1 => by
    rw [List.flatMap_cons, List.drop_succ_cons, List.drop_append, hf, Nat.succ_mul, Nat.add_sub_cancel, flat_drop hf xs r, List.drop_of_length_le (by rw [hf]; omega), List.nil_append]
theorem grown_refl (w : World) (b : Option Nat) : w.grownBy w b := ⟨rfl, rfl, rfl, Nat.le_refl _, fun _ _ _ => rfl⟩
/-- append, whatever is appended. -/
theorem step_append_src {P : Program} {w : World} {ops : Array Oper} {o : Oper} {a : Act} {K : Act → World → Prop} {Q : Exit → Act → World → Prop} {E : Prop} (hgd : o.guard = none) (s x : Operand) (t : TypeId)
    (ho : o.op = .call { callee := .builtin .append, args := #[s, x], argTypes := #[t, t] })
    (base : Nat) (e : TypeId) (i : TypeInfo) (z : Value) (size bytes : Nat) (ht : P.underlying t = some (.slice e)) (hi : P.info? e = some i) (hz : i.zero = some z)
    (hsize : i.size = size) (hby : i.bytes = bytes) (hzs : z.cells.size = size) (hsz : 0 < size)
    (g0 c0 n : Nat) (xs : List Value) (hs : a.eval s = .slice (some ⟨g0, 0, none⟩) n c0) (hown : w.ownsRow base e size (.slice (some ⟨g0, 0, none⟩) n c0) n xs)
    (sv : Value) (m : Nat) (news : List Value) (hx : a.eval x = sv) (hsrc : Src w sv m news) (hl : news.length = m * size) (h1 : ∀ u ∈ news, u.oneCell' = true)
    (h63 : n + m ≤ maxLen) (hbytes : (n + m) * bytes ≤ 140737488355328) (hbase : base ≤ w.heap.size)
    (h : ∀ g cap w', w'.ownsRow base e size (.slice (some ⟨g, 0, none⟩) (n + m) cap) (n + m) (xs ++ news) → w.grownBy w' (some g0) → (g = g0 ∨ g = w.heap.size) → K (a.put o.dst (.slice (some ⟨g, 0, none⟩) (n + m) cap)) w') :
    if Region.wanted o (yielded ops a.tmps) = true then Oper.wp P o a w K Q else E := by
  have hw : Region.wanted o (yielded ops a.tmps) = true := by simp [Region.wanted, hgd]
  rw [if_pos hw]
  rcases hsrc with ⟨rfl, rfl, rfl⟩ | ⟨ad, c, rfl, hnews⟩
  · have hrun := run_append_owned_none (P := P) (w := w) base t o.type e i size ht hi _ n xs hown
    unfold Oper.wp execOp
    simp only [ho, resolve, invoke, builtin, Sem.run_bind, Sem.run_pure, Result.andThen_ok, List.map_toArray, List.map_cons, List.map_nil, hs, hx, hrun]
    exact h g0 c0 w (by simpa using hown) (grown_refl _ _) (.inl rfl)
  · obtain ⟨v', w', hr, h2, h3, h4, h5⟩ := run_append_own_at (P := P) w base t o.type e i z size bytes ht hi hz hsize hby hzs hsz _ n xs hown ad m c news hl hnews h1 h63 hbytes hbase
    unfold Oper.wp execOp
    simp only [ho, resolve, invoke, builtin, Sem.run_bind, Sem.run_pure, Result.andThen_ok, List.map_toArray, List.map_cons, List.map_nil, hs, hx, hr]
    rcases id h2.2 with ⟨h6, _⟩ | ⟨g, cap, cur, rfl, _⟩
    · have := (h4.1 h6).1
      cases this
    · refine h g cap w' h2 h3 ?_
      rcases h5 with h5 | h5
      · left; simpa [Value.ownBlock] using h5
      · right; simpa [Value.ownBlock] using h5

theorem own_lt {w : World} {B sz n : Nat} {e : TypeId} {v : Value} {xs : List Value} (h : w.ownsRow B e sz v n xs) {b : Nat} (hb : v.ownBlock = some b) : b < w.heap.size := (h.lt b hb).2
theorem own_up {w w' : World} {B k n : Nat} {e : TypeId} {v : Value} {xs : List Value} (h : w.ownsRow B e k v n xs) (hb : Below w.heap.size w w') : w'.ownsRow B e k v n xs :=
  h.kept (row := none) ⟨hb.os, hb.tape, hb.output, hb.size, fun j hj _ => hb.block j hj⟩ (by
    rcases h.2 with ⟨rfl, _⟩ | ⟨q, cap, cur, rfl, _⟩
    · exact Or.inl rfl
    · exact Or.inr (by simp [Value.ownBlock]))
theorem own_sl {w : World} {B k n : Nat} {e : TypeId} {v : Value} {xs : List Value} (h : w.ownsRow B e k v n xs) : ∃ p c, v = .slice p n c := by
  rcases h.2 with ⟨rfl, h2⟩ | ⟨q, cap, cur, rfl, _⟩
  · exact ⟨none, 0, by rw [h2]⟩
  · exact ⟨_, _, rfl⟩
theorem own_cap {w : World} {B k n cp : Nat} {e : TypeId} {A : Option Addr} {xs : List Value} (h : w.ownsRow B e k (.slice A n cp) n xs) : n ≤ cp ∧ cp ≤ maxLen := by
  rcases h.2 with ⟨h2, h3⟩ | ⟨g, cap, cur, h2, _, _, h4, h5, _⟩
  · cases h2
    exact ⟨by omega, by unfold maxLen; omega⟩
  · cases h2
    exact ⟨h4, h5⟩
theorem own_base {w : World} {B B' k n : Nat} {e : TypeId} {v : Value} {xs : List Value} (h : w.ownsRow B' e k v n xs) (hB : B ≤ B') : w.ownsRow B e k v n xs := by
  refine ⟨h.1, ?_⟩
  rcases h.2 with h2 | ⟨g, cap, cur, h1, h2, h3⟩
  · exact .inl h2
  · exact .inr ⟨g, cap, cur, h1, Nat.le_trans hB h2, h3⟩
theorem own_cut {w : World} {B k n : Nat} {e : TypeId} {v : Value} {xs ys : List Value} (h : w.ownsRow B e k v n xs) (e2 : xs = ys) : w.ownsRow B e k v n ys := e2 ▸ h
theorem below_grown {w0 w w' : World} {B k n : Nat} {e : TypeId} {v : Value} {xs : List Value} (h : Below B w0 w) (ho : w.ownsRow B e k v n xs) (g : w.grownBy w' v.ownBlock) (hB : B ≤ w.heap.size) : Below B w0 w' :=
  ⟨g.os.trans h.os, g.tape.trans h.tape, g.output.trans h.output, Nat.le_trans h.size g.size, fun k hk => (g.block k (by omega) (fun e => by have := (ho.lt k e.symm).1; omega)).trans (h.block k hk)⟩
theorem sliced_zero (p : Option Addr) (i c s : Nat) : sliced p 0 i c s = .slice p i c := by
  unfold sliced
  cases p <;> simp [Addr.add]
theorem src_new {W : World} {g n c m : Nat} {cs : Array Value} {t : TypeId} {news : List Value} (h : W.heap[g]? = some (.cells cs t (0, 0))) (hm : m = n) (hn : news = cs.toList) : Src W (.slice (some ⟨g, 0, none⟩) n c) m news := by
  subst hm hn
  refine .inr ⟨_, _, rfl, fun j u hu => ?_⟩
  rw [add_more, (cell_of h _).1, Nat.zero_add]
  rwa [Array.getElem?_toList] at hu
theorem grown_keep {w w' : World} {g k : Nat} {o : Obj} (hg : w.grownBy w' (some g)) (h : w.heap[k]? = some o) (hn : k ≠ g) : w'.heap[k]? = some o :=
  (hg.block k (Array.getElem?_eq_some_iff.1 h).1 (fun e => hn (Option.some.inj e))).trans h
theorem lt_of_heap {w : World} {k : Nat} {o : Obj} (h : w.heap[k]? = some o) : k < w.heap.size := (Array.getElem?_eq_some_iff.1 h).1
theorem own_blk_lt {w : World} {B k n g c : Nat} {e : TypeId} {xs : List Value} (h : w.ownsRow B e k (.slice (some ⟨g, 0, none⟩) n c) n xs) : g < w.heap.size := own_lt h rfl
def StT (n : Nat) {ι : Type} (_ : ι) (i : Nat) : Bool := i == n
theorem one_ints (l : List Int) : ∀ u ∈ l.map (Value.int .i64), u.oneCell' = true := by
  intro u hu
  obtain ⟨x, _, rfl⟩ := List.mem_map.1 hu
  rfl
theorem cut_ints (l r : Nat) (xs : List Int) : cutV 1 l r (xs.map (Value.int .i64)) = ((xs.take r).drop l).map (Value.int .i64) := by
  unfold cutV
  rw [Nat.mul_one, Nat.mul_one, List.map_drop, List.map_take]
/-- Edges in memory. -/
def eV (q : Int × Int) : List Value := [.int .i64 q.1, .int .i64 q.2]
theorem one_edges (l : List (Int × Int)) : ∀ u ∈ l.flatMap eV, u.oneCell' = true := by
  intro u hu
  obtain ⟨q, _, hq⟩ := List.mem_flatMap.1 hu
  simp only [eV, List.mem_cons, List.not_mem_nil, or_false] at hq
  rcases hq with rfl | rfl <;> rfl
theorem edges_len (l : List (Int × Int)) : (l.flatMap eV).length = l.length * 2 := by
  induction l with
  | nil => rfl
  | cons q l ih => rw [List.flatMap_cons, List.length_append, ih]; simp [eV]; omega
theorem cut_edges (l r : Nat) (xs : List (Int × Int)) : cutV 2 l r (xs.flatMap eV) = ((xs.take r).drop l).flatMap eV := by
  unfold cutV
  rw [flat_take (f := eV) (k := 2) (fun _ => rfl), flat_drop (f := eV) (k := 2) (fun _ => rfl)]
end Go.Proofs.Ytcfibmbeojdifaa
