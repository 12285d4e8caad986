/- WaitWays: who comes round, by all ways: what its walk leans on. -/
import Derived.Test.YtcfibmbeojdifaaWtE
import Derived.Test.YtcfibmbeojdifaaWtV
import Derived.Maps.AppendAt
namespace Go.Proofs.Ytcfibmbeojdifaa
open Go.RowKit Go.Maps Go.WideMaps

/-- For whom x waits, of these pairs. -/
def onL (ps : List (Int × Int)) (x : Nat) : List Int := (ps.filter fun q => decide (q.1 = (x : Int))).map Prod.snd
theorem mem_onL {ps : List (Int × Int)} {x : Nat} {y : Int} : y ∈ onL ps x ↔ ((x : Int), y) ∈ ps := by
  simp only [onL, List.mem_map, List.mem_filter, decide_eq_true_eq, Prod.exists]
  constructor
  · rintro ⟨a, b, ⟨h, rfl⟩, rfl⟩; exact h
  · intro h; exact ⟨_, _, ⟨h, rfl⟩, rfl⟩
theorem onL_snoc (ps : List (Int × Int)) (a x : Nat) (b : Int) : onL (ps ++ [((a : Int), b)]) x = if x = a then onL ps x ++ [b] else onL ps x := by
  unfold onL
  rw [List.filter_append, List.map_append]
  by_cases e : x = a
  · subst e; simp
  · rw [if_neg e]
    have : ¬ (a : Int) = (x : Int) := by omega
    simp [this]
theorem onL_length (ps : List (Int × Int)) (x : Nat) : (onL ps x).length ≤ ps.length := by
  have := List.length_filter_le (fun q : Int × Int => decide (q.1 = (x : Int))) ps
  simpa [onL] using this
/-- What the table says of these pairs. -/
def cI (ps : List (Int × Int)) (x y : Nat) : Bool := decide (((x : Int), (y : Int)) ∈ ps ∧ x ≠ y)
theorem cI_snoc (ps : List (Int × Int)) (a b x y : Nat) : cI (ps ++ [((a : Int), (b : Int))]) x y = setC (cI ps) a b (cI ps a b || (a != b)) x y := by
  unfold setC cI
  by_cases e : x = a ∧ y = b
  · obtain ⟨rfl, rfl⟩ := e
    by_cases h : x = y
    · subst h; simp
    · simp [h]
  · rw [if_neg e]
    have : ¬ ((x : Int) = (a : Int) ∧ (y : Int) = (b : Int)) := fun h => e ⟨by omega, by omega⟩
    simp only [List.mem_append, List.mem_singleton, Prod.mk.injEq, this, or_false]
/-- The edges of the first i of them. -/
def wE (ps : List (Int × Int)) (i : Nat) : List (Int × Int) := ps.filter fun q => decide (q.1 < (i : Int)) && decide (q.1 ≠ q.2)
theorem mem_wE {ps : List (Int × Int)} {i : Nat} {x y : Int} : (x, y) ∈ wE ps i ↔ (x, y) ∈ ps ∧ x < (i : Int) ∧ x ≠ y := by
  simp [wE]
theorem wE_set (ps : List (Int × Int)) (i : Nat) (x y : Int) : (x, y) ∈ setE (wE ps i) (i : Int) (onL ps i) ↔ (x, y) ∈ wE ps (i + 1) := by
  rw [mem_setE, mem_wE, mem_wE, mem_onL]
  constructor
  · rintro (⟨⟨h1, h2, h3⟩, _⟩ | ⟨rfl, h1, h2⟩)
    · exact ⟨h1, by omega, h3⟩
    · exact ⟨h1, by omega, fun e => h2 e.symm⟩
  · rintro ⟨h1, h2, h3⟩
    by_cases e : x = (i : Int)
    · subst e; exact Or.inr ⟨rfl, h1, fun e => h3 e.symm⟩
    · exact Or.inl ⟨⟨h1, by omega, h3⟩, e⟩
theorem wE_length (ps : List (Int × Int)) (i : Nat) : (wE ps i).length ≤ ps.length := List.length_filter_le _ _

def upd {α : Type} (f : Nat → α) (a : Nat) (v : α) : Nat → α := fun x => if x = a then v else f x
/-- The rows and the table in memory. -/
structure Wy (wr w2 : World) (Q po pc : Nat) (S : Nat → Value) (L : Nat → List Int) (C : Nat → Nat → Bool) : Prop where
  on : ∃ cur, wr.heap[po]? = some (.cells cur 40 (0, 0)) ∧ cur.size = 8 ∧ ∀ i, i < 8 → cur[i]? = some (S i)
  cn : ∃ cur, wr.heap[pc]? = some (.cells cur 42 (0, 0)) ∧ cur.size = 64 ∧ ∀ i j, i < 8 → j < 8 → cur[8 * i + j]? = some (.bool (C i j))
  sl : ∀ i, i < 8 → SlR wr Q (S i) (L i)
  ap : ∀ i j, i < 8 → j < 8 → i ≠ j → ∀ k, (S i).ownBlock = some k → (S j).ownBlock ≠ some k
  fr : Fr Q (fun k => k = po ∨ k = pc) w2 wr
  hpo : po < Q
  hpc : pc < Q
  hne : po ≠ pc
  hq : Q ≤ w2.heap.size
section
variable {wr w2 : World} {Q po pc : Nat} {S : Nat → Value} {L : Nat → List Int} {C : Nat → Nat → Bool}
theorem Wy.size (h : Wy wr w2 Q po pc S L C) : Q ≤ wr.heap.size := Nat.le_trans h.hq h.fr.size
theorem Wy.oncell (h : Wy wr w2 Q po pc S L C) {i : Nat} (hi : i < 8) : wr.cell? ⟨po, i, none⟩ = some (S i) ∧ wr.frozen? ⟨po, i, none⟩ = false := by
  obtain ⟨cur, h1, h2, h3⟩ := h.on
  exact ⟨(cell_of h1 i).1.trans (h3 i hi), (cell_of h1 i).2⟩
theorem Wy.cncell (h : Wy wr w2 Q po pc S L C) {i j : Nat} (hi : i < 8) (hj : j < 8) : wr.cell? ⟨pc, 8 * i + j, none⟩ = some (.bool (C i j)) ∧ wr.frozen? ⟨pc, 8 * i + j, none⟩ = false := by
  obtain ⟨cur, h1, h2, h3⟩ := h.cn
  exact ⟨(cell_of h1 _).1.trans (h3 i j hi hj), (cell_of h1 _).2⟩
theorem Wy.append (h : Wy wr w2 Q po pc S L C) {a : Nat} (ha : a < 8) {b : Int} {v' : Value} {w6 : World}
    (hown : w6.ownsRow Q 3 1 v' ((L a).length + 1) (intV (L a) ++ [.int .i64 b])) (hg : (wr.alloc (.cells #[.int .i64 b] 3)).grownBy w6 (S a).ownBlock)
    (hat : v'.ownBlock = (S a).ownBlock ∨ v'.ownBlock = some (wr.alloc (.cells #[.int .i64 b] 3)).heap.size) :
    Wy (w6.setCell ⟨po, a, none⟩ v') w2 Q po pc (upd S a v') (upd L a (L a ++ [b])) C := by
  have hs := h.size
  have h5 : (wr.alloc (.cells #[.int .i64 b] 3)).heap.size = wr.heap.size + 1 := by simp
  have hown' : SlR w6 Q v' (L a ++ [b]) := by
    unfold SlR intV
    rw [List.length_append, List.map_append]
    exact hown
  have hblk : ∀ k, k < wr.heap.size → (S a).ownBlock ≠ some k → w6.heap[k]? = wr.heap[k]? := fun k hk hn =>
    (hg.block k (by omega) (fun e => hn e.symm)).trans (Below.heap_alloc _ _ _ hk)
  have hlow : ∀ k, k < Q → (S a).ownBlock ≠ some k := fun k hk e => by have := ((h.sl a ha).lt k e).1; omega
  have h6 : w6.heap.size ≤ (w6.setCell ⟨po, a, none⟩ v').heap.size := by simp
  have hgr : w6.grownBy (w6.setCell ⟨po, a, none⟩ v') (some po) := ⟨rfl, rfl, rfl, h6, fun k _ hk => heap_setCell_other _ ⟨po, a, none⟩ k _ fun e => hk (by rw [e])⟩
  have hoth : ∀ k, k ≠ po → (w6.setCell ⟨po, a, none⟩ v').heap[k]? = w6.heap[k]? := fun k hk => heap_setCell_other _ ⟨po, a, none⟩ k _ hk
  obtain ⟨c1, h11, h12, h13⟩ := h.on
  obtain ⟨c2, h21, h22, h23⟩ := h.cn
  have e1 := (hblk po (by have := h.hpo; omega) (hlow po h.hpo)).trans h11
  have e2 := (hblk pc (by have := h.hpc; omega) (hlow pc h.hpc)).trans h21
  refine ⟨⟨_, heap_setCell_same _ po a _ _ _ e1, by rw [Array.size_setIfInBounds]; exact h12, fun i hi => ?_⟩, ⟨c2, (hoth pc h.hne.symm).trans e2, h22, h23⟩, fun i hi => ?_, fun i j hi hj hij k => ?_, ?_, h.hpo, h.hpc, h.hne, h.hq⟩
  · unfold upd
    by_cases e : i = a
    · subst e; rw [if_pos rfl, Array.getElem?_setIfInBounds_self_of_lt (by omega)]
    · rw [if_neg e, Array.getElem?_setIfInBounds_ne (by omega)]; exact h13 i hi
  · unfold upd
    by_cases e : i = a
    · subst e
      rw [if_pos rfl, if_pos rfl]
      exact hown'.kept hgr (Or.inr fun e => by have := (hown'.lt po e).1; have := h.hpo; omega)
    · rw [if_neg e, if_neg e]
      have k1 : SlR (wr.alloc (.cells #[.int .i64 b] 3)) Q (S i) (L i) := (h.sl i hi).alloc _
      have k2 : SlR w6 Q (S i) (L i) := by
        refine k1.kept hg ?_
        cases ho : (S i).ownBlock with
        | none => exact Or.inl rfl
        | some k => exact Or.inr (fun e2 => h.ap i a hi ha e k ho e2.symm)
      exact k2.kept hgr (Or.inr fun e => by have := (k2.lt po e).1; have := h.hpo; omega)
  · unfold upd
    have hnew : ∀ x, x < 8 → ∀ k, (S x).ownBlock = some k → k ≠ (wr.alloc (.cells #[.int .i64 b] 3)).heap.size := fun x hx k e => by have := ((h.sl x hx).lt k e).2; omega
    by_cases e : i = a
    · subst e
      rw [if_pos rfl, if_neg (by omega)]
      intro hk hk2
      rcases hat with e2 | e2
      · exact h.ap i j hi hj hij k (e2.symm.trans hk) hk2
      · exact hnew j hj k hk2 (Option.some.inj (hk.symm.trans e2))
    · rw [if_neg e]
      by_cases e' : j = a
      · subst e'
        rw [if_pos rfl]
        intro hk hk2
        rcases hat with e2 | e2
        · exact h.ap i j hi hj hij k hk (e2.symm.trans hk2)
        · exact hnew i hi k hk (Option.some.inj (hk2.symm.trans e2))
      · rw [if_neg e']
        exact h.ap i j hi hj hij k
  · have f5 := h.fr.alloc hs (.cells #[.int .i64 b] 3)
    have f6 := f5.grown hg (fun k hk => Or.inr ((h.sl a ha).lt k hk).1) (by omega)
    exact f6.grown hgr (fun k hk => by cases hk; exact Or.inl (Or.inl rfl)) (by have := hg.size; omega)
theorem Wy.put (h : Wy wr w2 Q po pc S L C) {i j : Nat} (hi : i < 8) (hj : j < 8) (v : Bool) : Wy (wr.setCell ⟨pc, 8 * i + j, none⟩ (.bool v)) w2 Q po pc S L (setC C i j v) := by
  have hs := h.size
  have hgr : wr.grownBy (wr.setCell ⟨pc, 8 * i + j, none⟩ (.bool v)) (some pc) := ⟨rfl, rfl, rfl, by simp, fun k _ hk => heap_setCell_other _ ⟨pc, 8 * i + j, none⟩ k _ fun e => hk (by rw [e])⟩
  obtain ⟨c1, h11, h12, h13⟩ := h.on
  obtain ⟨c2, h21, h22, h23⟩ := h.cn
  refine ⟨⟨c1, (heap_setCell_other _ ⟨pc, 8 * i + j, none⟩ po _ h.hne).trans h11, h12, h13⟩, ⟨_, heap_setCell_same _ pc (8 * i + j) _ _ _ h21, by rw [Array.size_setIfInBounds]; exact h22, fun x y hx hy => ?_⟩, fun x hx => ?_, h.ap, ?_, h.hpo, h.hpc, h.hne, h.hq⟩
  · unfold setC
    by_cases e : x = i ∧ y = j
    · obtain ⟨rfl, rfl⟩ := e
      rw [if_pos ⟨rfl, rfl⟩, Array.getElem?_setIfInBounds_self_of_lt (by omega)]
    · rw [if_neg e, Array.getElem?_setIfInBounds_ne (by intro he; exact e ⟨by omega, by omega⟩)]
      exact h23 x y hx hy
  · exact (h.sl x hx).kept hgr (Or.inr fun e => by have := ((h.sl x hx).lt pc e).1; have := h.hpc; omega)
  · exact h.fr.grown hgr (fun k hk => by cases hk; exact Or.inl (Or.inr rfl)) hs
theorem Wy.drew (h : Wy wr w2 Q po pc S L C) : Wy wr.drew w2 Q po pc S L C := ⟨h.on, h.cn, h.sl, h.ap, ⟨h.fr.os, h.fr.tape, h.fr.output, h.fr.size, h.fr.block⟩, h.hpo, h.hpc, h.hne, h.hq⟩
theorem Wy.congr (h : Wy wr w2 Q po pc S L C) {S' : Nat → Value} {L' : Nat → List Int} {C' : Nat → Nat → Bool} (h1 : ∀ i, i < 8 → S i = S' i) (h2 : ∀ i, i < 8 → L i = L' i) (h3 : ∀ i j, i < 8 → j < 8 → C i j = C' i j) : Wy wr w2 Q po pc S' L' C' := by
  obtain ⟨c1, h11, h12, h13⟩ := h.on
  obtain ⟨c2, h21, h22, h23⟩ := h.cn
  exact ⟨⟨c1, h11, h12, fun i hi => by rw [← h1 i hi]; exact h13 i hi⟩, ⟨c2, h21, h22, fun i j hi hj => by rw [← h3 i j hi hj]; exact h23 i j hi hj⟩, fun i hi => by rw [← h1 i hi, ← h2 i hi]; exact h.sl i hi, fun i j hi hj => by rw [← h1 i hi, ← h1 j hj]; exact h.ap i j hi hj, h.fr, h.hpo, h.hpc, h.hne, h.hq⟩
end
/-- The table alone, since w4. -/
structure Cn (wr w4 : World) (pc : Nat) (C : Nat → Nat → Bool) : Prop where
  cn : ∃ cur, wr.heap[pc]? = some (.cells cur 42 (0, 0)) ∧ cur.size = 64 ∧ ∀ i j, i < 8 → j < 8 → cur[8 * i + j]? = some (.bool (C i j))
  fr : Fr w4.heap.size (fun k => k = pc) w4 wr
theorem Cn.cell {wr w4 : World} {pc : Nat} {C : Nat → Nat → Bool} (h : Cn wr w4 pc C) {i j : Nat} (hi : i < 8) (hj : j < 8) : wr.cell? ⟨pc, i * 8 + j, none⟩ = some (.bool (C i j)) ∧ wr.frozen? ⟨pc, i * 8 + j, none⟩ = false := by
  obtain ⟨cur, h1, h2, h3⟩ := h.cn
  rw [Nat.mul_comm]
  exact ⟨(cell_of h1 _).1.trans (h3 i j hi hj), (cell_of h1 _).2⟩
theorem Cn.put {wr w4 : World} {pc : Nat} {C : Nat → Nat → Bool} (h : Cn wr w4 pc C) {i j : Nat} (hi : i < 8) (hj : j < 8) (v : Bool) : Cn (wr.setCell ⟨pc, i * 8 + j, none⟩ (.bool v)).drew w4 pc (setC C i j v) := by
  rw [Nat.mul_comm]
  have hgr : wr.grownBy (wr.setCell ⟨pc, 8 * i + j, none⟩ (.bool v)) (some pc) := ⟨rfl, rfl, rfl, by simp, fun k _ hk => heap_setCell_other _ ⟨pc, 8 * i + j, none⟩ k _ fun e => hk (by rw [e])⟩
  obtain ⟨c2, h21, h22, h23⟩ := h.cn
  have hf := h.fr.grown hgr (fun k hk => by cases hk; exact Or.inl rfl) h.fr.size
  refine ⟨⟨_, heap_setCell_same _ pc (8 * i + j) _ _ _ h21, by rw [Array.size_setIfInBounds]; exact h22, fun x y hx hy => ?_⟩, ⟨hf.os, hf.tape, hf.output, hf.size, hf.block⟩⟩
  unfold setC
  by_cases e : x = i ∧ y = j
  · obtain ⟨rfl, rfl⟩ := e
    rw [if_pos ⟨rfl, rfl⟩, Array.getElem?_setIfInBounds_self_of_lt (by omega)]
  · rw [if_neg e, Array.getElem?_setIfInBounds_ne (by intro he; exact e ⟨by omega, by omega⟩)]
    exact h23 x y hx hy
theorem wE_bd {ps : List (Int × Int)} {x y : Int} (hb : ∀ x y, (x, y) ∈ ps → 0 ≤ x ∧ x < 8 ∧ 0 ≤ y ∧ y < 8) {i : Nat} (h : (x, y) ∈ wE ps i) : ∃ b : Nat, y = (b : Int) ∧ b < 8 := by
  obtain ⟨h1, _⟩ := mem_wE.1 h
  obtain ⟨_, _, h3, h4⟩ := hb x y h1
  exact ⟨y.toNat, by omega, by omega⟩
theorem wsh_cy {es : List (Int × Int)} (hb : ∀ x y, (x, y) ∈ es → ∃ b : Nat, y = (b : Int) ∧ b < 8) {C : Nat → Nat → Bool} (h : Wsh es 8 C) {i : Nat} (hi : i < 8) : cyB es (i : Int) = C i i := by
  cases hc : C i i with
  | true => exact cyB_yes (h.sound i i hi hi hc)
  | false =>
    refine cyB_no fun hw => ?_
    obtain ⟨b, hb1, hb2⟩ := wayB_of hb hw
    have : b = i := by omega
    subst this
    rw [h.full b b hi hi hb2] at hc
    cases hc
theorem wsh_start (ps : List (Int × Int)) : Wsh (wE ps 8) 0 (cI ps) := by
  refine ⟨fun i j hi hj hc => .one ?_, fun i j hi hj hw => ?_⟩
  · simp only [cI, decide_eq_true_eq] at hc
    exact mem_wE.2 ⟨hc.1, by omega, by omega⟩
  · obtain ⟨h1, _, h3⟩ := mem_wE.1 hw.zero
    simp only [cI, decide_eq_true_eq]
    exact ⟨h1, by omega⟩
theorem wy_start (w : World) : Wy ((w.alloc (.cells #[.slice none 0 0, .slice none 0 0, .slice none 0 0, .slice none 0 0, .slice none 0 0, .slice none 0 0, .slice none 0 0, .slice none 0 0] 40)).alloc (.cells #[.bool false, .bool false, .bool false, .bool false, .bool false, .bool false, .bool false, .bool false, .bool false, .bool false, .bool false, .bool false, .bool false, .bool false, .bool false, .bool false, .bool false, .bool false, .bool false, .bool false, .bool false, .bool false, .bool false, .bool false, .bool false, .bool false, .bool false, .bool false, .bool false, .bool false, .bool false, .bool false, .bool false, .bool false, .bool false, .bool false, .bool false, .bool false, .bool false, .bool false, .bool false, .bool false, .bool false, .bool false, .bool false, .bool false, .bool false, .bool false, .bool false, .bool false, .bool false, .bool false, .bool false, .bool false, .bool false, .bool false, .bool false, .bool false, .bool false, .bool false, .bool false, .bool false, .bool false, .bool false] 42)) ((w.alloc (.cells #[.slice none 0 0, .slice none 0 0, .slice none 0 0, .slice none 0 0, .slice none 0 0, .slice none 0 0, .slice none 0 0, .slice none 0 0] 40)).alloc (.cells #[.bool false, .bool false, .bool false, .bool false, .bool false, .bool false, .bool false, .bool false, .bool false, .bool false, .bool false, .bool false, .bool false, .bool false, .bool false, .bool false, .bool false, .bool false, .bool false, .bool false, .bool false, .bool false, .bool false, .bool false, .bool false, .bool false, .bool false, .bool false, .bool false, .bool false, .bool false, .bool false, .bool false, .bool false, .bool false, .bool false, .bool false, .bool false, .bool false, .bool false, .bool false, .bool false, .bool false, .bool false, .bool false, .bool false, .bool false, .bool false, .bool false, .bool false, .bool false, .bool false, .bool false, .bool false, .bool false, .bool false, .bool false, .bool false, .bool false, .bool false, .bool false, .bool false, .bool false, .bool false] 42)) (w.heap.size + 2) w.heap.size (w.heap.size + 1) (fun _ => .slice none 0 0) (onL []) (cI []) := by
  have e8 : (#[.slice none 0 0, .slice none 0 0, .slice none 0 0, .slice none 0 0, .slice none 0 0, .slice none 0 0, .slice none 0 0, .slice none 0 0] : Array Value) = Array.replicate 8 (.slice none 0 0) := rfl
  have e64 : (#[.bool false, .bool false, .bool false, .bool false, .bool false, .bool false, .bool false, .bool false, .bool false, .bool false, .bool false, .bool false, .bool false, .bool false, .bool false, .bool false, .bool false, .bool false, .bool false, .bool false, .bool false, .bool false, .bool false, .bool false, .bool false, .bool false, .bool false, .bool false, .bool false, .bool false, .bool false, .bool false, .bool false, .bool false, .bool false, .bool false, .bool false, .bool false, .bool false, .bool false, .bool false, .bool false, .bool false, .bool false, .bool false, .bool false, .bool false, .bool false, .bool false, .bool false, .bool false, .bool false, .bool false, .bool false, .bool false, .bool false, .bool false, .bool false, .bool false, .bool false, .bool false, .bool false, .bool false, .bool false] : Array Value) = Array.replicate 64 (.bool false) := rfl
  rw [e8, e64]
  have s1 : (w.alloc (.cells (Array.replicate 8 (.slice none 0 0)) 40)).heap.size = w.heap.size + 1 := by simp
  refine ⟨⟨Array.replicate 8 (.slice none 0 0), (Below.heap_alloc _ _ _ (by omega)).trans (heap_alloc_new _ _), by simp, fun i hi => ?_⟩, ⟨Array.replicate 64 (.bool false), by rw [← s1]; exact heap_alloc_new _ _, by simp, fun i j hi hj => ?_⟩, fun i hi => World.ownsRow_nil _ _ _ _, fun i j _ _ _ k hk => (by cases hk), Fr.refl _ _ _, by omega, by omega, by omega, by simp⟩
  · rw [Array.getElem?_replicate, if_pos hi]
  · rw [Array.getElem?_replicate, if_pos (by omega)]
    simp [cI]
end Go.Proofs.Ytcfibmbeojdifaa
