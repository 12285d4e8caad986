/- tree: trees with their blocks: what they have, where they lie, what is theirs. -/
import Derived.Test.YtejbbojephiifaaTeS
namespace Go.Proofs.Ytejbbojephiifaa
open Go.RowKit

structure Lf where
  b : Nat
  v : Value
  l : List KV
structure Nd (α : Type) where
  b : Nat
  v : Value
  l : List (ByteArray × α)
/-- A tree of a height. -/
def G : Nat → Type
  | 0 => Lf
  | h + 1 => Nd (G h)
def leastK : List KV → ByteArray
  | [] => ⟨#[]⟩
  | x :: _ => x.k
def own1 (v : Value) : List Nat := v.ownBlock.toList
def gb : (h : Nat) → G h → Nat
  | 0, g => Lf.b g
  | _ + 1, g => Nd.b g
def cnt : (h : Nat) → G h → Nat
  | 0, g => (Lf.l g).length
  | _ + 1, g => (Nd.l g).length
def kvs : (h : Nat) → G h → List KV
  | 0, g => Lf.l g
  | h + 1, g => (Nd.l g).flatMap fun x => kvs h x.2
/-- Its blocks. -/
def fp : (h : Nat) → G h → List Nat
  | 0, g => Lf.b g :: own1 (Lf.v g)
  | h + 1, g => Nd.b g :: (own1 (Nd.v g) ++ (Nd.l g).flatMap fun x => fp h x.2)
def kf (h : Nat) (l : List (ByteArray × G h)) : List Nat := l.flatMap fun x => fp h x.2
def kk (h : Nat) (l : List (ByteArray × G h)) : List KV := l.flatMap fun x => kvs h x.2
def kns (h : Nat) (l : List (ByteArray × G h)) : List KN := l.map fun x => ⟨x.1, gb h x.2⟩
/-- It lies in a world. -/
def At : (h : Nat) → Rest → World → G h → Prop
  | 0, R, w, g => PAP w (Lf.b g) R (Lf.v g) (Lf.l g)
  | h + 1, R, w, g => PAQ w (Nd.b g) R (Nd.v g) (kns h (Nd.l g)) ∧ ∀ x ∈ (Nd.l g), At h R0 w x.2
/-- Its children have two to four each, and stand under their least keys. -/
def Kid (h : Nat) (ok : G h → Prop) (x : ByteArray × G h) : Prop := 2 ≤ cnt h x.2 ∧ cnt h x.2 ≤ 4 ∧ ok x.2 ∧ x.1 = leastK (kvs h x.2)
def Ok : (h : Nat) → G h → Prop
  | 0, _ => True
  | h + 1, g => ∀ x ∈ (Nd.l g), Kid h (Ok h) x

theorem fp_s (h : Nat) (g : Nd (G h)) : fp (h + 1) g = g.b :: (own1 g.v ++ kf h g.l) := rfl
theorem kvs_s (h : Nat) (g : Nd (G h)) : kvs (h + 1) g = kk h g.l := rfl
theorem kf_app (h : Nat) (A B : List (ByteArray × G h)) : kf h (A ++ B) = kf h A ++ kf h B := by simp [kf]
theorem kk_app (h : Nat) (A B : List (ByteArray × G h)) : kk h (A ++ B) = kk h A ++ kk h B := by simp [kk]
theorem kns_app (h : Nat) (A B : List (ByteArray × G h)) : kns h (A ++ B) = kns h A ++ kns h B := by simp [kns]
theorem kns_len (h : Nat) (A : List (ByteArray × G h)) : (kns h A).length = A.length := by simp [kns]
theorem kns_take (h : Nat) (A : List (ByteArray × G h)) (n : Nat) : (kns h A).take n = kns h (A.take n) := by simp [kns]
theorem kns_drop (h : Nat) (A : List (ByteArray × G h)) (n : Nat) : (kns h A).drop n = kns h (A.drop n) := by simp [kns]
theorem kf_cons (h : Nat) (x : ByteArray × G h) (B : List (ByteArray × G h)) : kf h (x :: B) = fp h x.2 ++ kf h B := rfl
theorem kk_cons (h : Nat) (x : ByteArray × G h) (B : List (ByteArray × G h)) : kk h (x :: B) = kvs h x.2 ++ kk h B := rfl
theorem kns_cons (h : Nat) (x : ByteArray × G h) (B : List (ByteArray × G h)) : kns h (x :: B) = ⟨x.1, gb h x.2⟩ :: kns h B := rfl
theorem gb_mem (h : Nat) (g : G h) : gb h g ∈ fp h g := by cases h <;> exact List.mem_cons_self ..
theorem own1_mem {v : Value} {k : Nat} : k ∈ own1 v ↔ v.ownBlock = some k := by unfold own1; simp
theorem own1_count (v : Value) (a : Nat) : (own1 v).count a ≤ 1 := by
  unfold own1
  cases v.ownBlock with
  | none => simp
  | some k => simp only [Option.toList_some, List.count_singleton]; split <;> omega
theorem own1_same {v v' : Value} (h : v'.ownBlock = v.ownBlock) : own1 v' = own1 v := by unfold own1; rw [h]

theorem At.lt : ∀ {h : Nat} {R : Rest} {w : World} {g : G h}, At h R w g → ∀ a ∈ fp h g, a < w.heap.size
  | 0, _, _, g, ha, a, hm => by
    rcases List.mem_cons.1 hm with rfl | hm
    · exact PAP.lt ha
    · exact own_lt (PAP.own ha) (own1_mem.1 hm)
  | h + 1, _, _, g, ha, a, hm => by
    rcases List.mem_cons.1 hm with rfl | hm
    · exact ha.1.lt
    · rcases List.mem_append.1 hm with hm | hm
      · exact own_lt ha.1.own (own1_mem.1 hm)
      · obtain ⟨x, hx, hm⟩ := List.mem_flatMap.1 hm
        exact At.lt (ha.2 x hx) a hm
theorem At.same : ∀ {h : Nat} {R : Rest} {w w' : World} {g : G h}, At h R w g → (∀ a ∈ fp h g, w'.heap[a]? = w.heap[a]?) → At h R w' g
  | 0, _, _, _, _, ha, hs => PAP.same ha (hs _ (List.mem_cons_self ..)) (fun k hk => hs k (List.mem_cons_of_mem _ (own1_mem.2 hk)))
  | _ + 1, _, _, _, _, ha, hs => ⟨ha.1.same (hs _ (List.mem_cons_self ..)) (fun k hk => hs k (List.mem_cons_of_mem _ (List.mem_append_left _ (own1_mem.2 hk)))),
      fun x hx => At.same (ha.2 x hx) (fun a hm => hs a (List.mem_cons_of_mem _ (List.mem_append_right _ (List.mem_flatMap.2 ⟨x, hx, hm⟩))))⟩
theorem At.fr {h : Nat} {R : Rest} {w w' : World} {g : G h} (ha : At h R w g) {B : Nat} {S : Nat → Prop} (hf : Fr B S w w') (hB : w.heap.size ≤ B) (hn : ∀ a ∈ fp h g, ¬ S a) : At h R w' g :=
  ha.same (fun a hm => hf.block a (Nat.lt_of_lt_of_le (ha.lt a hm) hB) (hn a hm))
theorem At.below {h : Nat} {R : Rest} {w w' : World} {g : G h} (ha : At h R w g) (hb : Below w.heap.size w w') : At h R w' g := ha.same (fun a hm => hb.block a (ha.lt a hm))
def KidsAt (h : Nat) (w : World) (l : List (ByteArray × G h)) : Prop := ∀ x ∈ l, At h R0 w x.2
theorem KidsAt.fr {h : Nat} {w w' : World} {l : List (ByteArray × G h)} (ha : KidsAt h w l) {B : Nat} {S : Nat → Prop} (hf : Fr B S w w') (hB : w.heap.size ≤ B) (hn : ∀ a ∈ kf h l, ¬ S a) : KidsAt h w' l :=
  fun x hx => (ha x hx).fr hf hB (fun a hm => hn a (List.mem_flatMap.2 ⟨x, hx, hm⟩))
theorem KidsAt.lt {h : Nat} {w : World} {l : List (ByteArray × G h)} (ha : KidsAt h w l) : ∀ a ∈ kf h l, a < w.heap.size := fun a hm => by
  obtain ⟨x, hx, hm⟩ := List.mem_flatMap.1 hm
  exact (ha x hx).lt a hm

/-- Blocks that were, and new ones: none twice. -/
structure Foot (N : Nat) (L L' : List Nat) : Prop where
  lo : ∀ a, a < N → L'.count a ≤ L.count a
  hi : ∀ a, N ≤ a → L'.count a ≤ 1
theorem nd_count {L : List Nat} : L.Nodup ↔ ∀ a, L.count a ≤ 1 := List.nodup_iff_count
theorem mem_count {L : List Nat} {a : Nat} : a ∈ L ↔ 0 < L.count a := List.count_pos_iff.symm
theorem count_zero {L : List Nat} {N a : Nat} (h : ∀ x ∈ L, x < N) (ha : N ≤ a) : L.count a = 0 := List.count_eq_zero.2 (fun hm => by have := h a hm; omega)
theorem Foot.nodup {N : Nat} {L L' : List Nat} (f : Foot N L L') (hL : L.Nodup) : L'.Nodup := nd_count.2 fun a => by
  rcases Nat.lt_or_ge a N with h | h
  · exact Nat.le_trans (f.lo a h) (nd_count.1 hL a)
  · exact f.hi a h
theorem Foot.mem {N : Nat} {L L' : List Nat} (f : Foot N L L') {a : Nat} (h : a ∈ L') : a ∈ L ∨ N ≤ a := by
  rcases Nat.lt_or_ge a N with h1 | h1
  · exact .inl (mem_count.2 (Nat.lt_of_lt_of_le (mem_count.1 h) (f.lo a h1)))
  · exact .inr h1
theorem Foot.trans {N N1 : Nat} {L L1 L2 : List Nat} (f : Foot N L L1) (g : Foot N1 L1 L2) (h : N ≤ N1) : Foot N L L2 :=
  ⟨fun a ha => Nat.le_trans (g.lo a (by omega)) (f.lo a ha), fun a ha => by
    rcases Nat.lt_or_ge a N1 with h1 | h1
    · exact Nat.le_trans (g.lo a h1) (f.hi a ha)
    · exact g.hi a h1⟩
theorem Foot.refl {N : Nat} {L : List Nat} (h : ∀ a ∈ L, a < N) : Foot N L L := ⟨fun _ _ => Nat.le_refl _, fun a ha => by rw [count_zero h ha]; omega⟩
theorem Foot.mid {N : Nat} {X Y Y' Z : List Nat} (f : Foot N Y Y') (hX : ∀ a ∈ X, a < N) (hZ : ∀ a ∈ Z, a < N) : Foot N (X ++ (Y ++ Z)) (X ++ (Y' ++ Z)) :=
  ⟨fun a ha => by simp only [List.count_append]; have := f.lo a ha; omega, fun a ha => by
    simp only [List.count_append]
    rw [count_zero hX ha, count_zero hZ ha]
    have := f.hi a ha
    omega⟩
theorem cnt_pos_kvs : ∀ {h : Nat} {g : G h}, Ok h g → 0 < cnt h g → kvs h g ≠ []
  | 0, g, _, hc => List.length_pos_iff.1 hc
  | h + 1, g, ho, hc => by
    obtain ⟨b, v, l⟩ : Nd (G h) := g
    cases l with
    | nil => cases hc
    | cons x r =>
      rw [kvs_s]
      show kk h (x :: r) ≠ []
      rw [kk_cons]
      have hk := ho x (List.mem_cons_self ..)
      have := cnt_pos_kvs hk.2.2.1 (by have := hk.1; omega)
      intro e
      exact this (List.append_eq_nil_iff.1 e).1
theorem leastK_app {A B : List KV} (h : A ≠ []) : leastK (A ++ B) = leastK A := by
  cases A with
  | nil => exact absurd rfl h
  | cons x r => rfl
end Go.Proofs.Ytejbbojephiifaa
