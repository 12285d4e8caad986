/- Maps of any elements, told as functions of their keys; maps of maps; no program in it. -/
import Derived.WalkKit
import Derived.WalkSpells
import Derived.WalkLawsBesides
import Derived.Maps.RangeWalk
import Derived.Maps.OwnSet
import Derived.Sort.KeysCollected
import Derived.Lib.SlKeysI
import Derived.Lib.Hide
import Derived.StringKeys
namespace Go.Proofs.Ytffflafafpdjdaa
open Go.RowKit Go.Maps Go.ChangeMaps Go.MapKept

/-- An element reads as itself. -/
def tokR (v : Value) : Option (DataW Value × List MemPlace) := some (.held v, [])
def atL (D : DataW Value) (l : Lit) : Option Value := match D.atKey l .nil with | .held v => some v | _ => none

/-- Block b holds a map of at most n entries that has m at its keys. -/
def gm (w : World) (P : Program) (k b n : Nat) (m : Lit → Option Value) : Prop := ∃ D, w.ownsMap P k tokR b n D ∧ ∀ l, WideAt.IsKeyLit l → m l = atL D l

open Classical in
noncomputable def updL {α : Type} (m : Lit → α) (l : Lit) (v : α) : Lit → α := fun j => if j = l then v else m j
theorem updL_same {α : Type} (m : Lit → α) (l : Lit) (v : α) : updL m l v l = v := by simp [updL]
theorem updL_other {α : Type} (m : Lit → α) {l j : Lit} (h : j ≠ l) (v : α) : updL m l v j = m j := by simp [updL, h]

theorem block_turned {w w' : World} {b k : Nat} (ht : w.mapTurned w' b) (hk : k ≠ b) : w'.heap[k]? = w.heap[k]? := by
  obtain ⟨es, clock, es', clock', hb, rfl⟩ := ht
  exact ChangeMaps.heap_setBlock_other hb _ hk

section
variable {P : Program} {k t e b n : Nat} {m : Lit → Option Value} {w : World} {D : DataW Value}

theorem atKey_has {l : Lit} (h : has D l = true) (z z' : DataW Value) : D.atKey l z = D.atKey l z' := by
  cases D <;> try (cases h; done)
  rename_i es
  unfold DataW.atKey
  cases hf : es.find? (fun p => p.1.sameKey l) with
  | some p => simp [hf]
  | none =>
    rw [has_eq] at h
    obtain ⟨p, hp, hs⟩ := List.any_eq_true.1 h
    exact absurd hs (by simpa using List.find?_eq_none.1 hf p hp)

theorem gm.lt (h : gm w P k b n m) : b < w.heap.size := by obtain ⟨D, hD, _⟩ := h; exact hD.lt
theorem gm.mono (h : gm w P k b n m) {n' : Nat} (hn : n ≤ n') : gm w P k b n' m := by obtain ⟨D, hD, h⟩ := h; exact ⟨D, hD.mono hn, h⟩
theorem gm.of_block {w' : World} (h : gm w P k b n m) (hb : w'.heap[b]? = w.heap[b]?) : gm w' P k b n m := by
  obtain ⟨D, ⟨es, clock, h1, h2⟩, hm⟩ := h
  exact ⟨D, ⟨es, clock, hb.trans h1, h2⟩, hm⟩
theorem gm_made (w : World) (P : Program) (k : Nat) : gm (w.alloc (.map #[] 0)) P k w.heap.size 0 (fun _ => none) :=
  ⟨.map [], World.ownsMap_made w P k tokR, fun _ _ => rfl⟩

theorem IsKeyLit_of (K : Keyed P k) {key : Value} {kl : Lit} (hkey : keyOf P k key = some kl) : WideAt.IsKeyLit kl := K.key hkey

/-- What stands at a key, by a look-up. -/
theorem look_at (h : w.ownsMap P k tokR b n D) (K : Keyed P k) (ht : P.underlying t = some (.map k e)) {z : Value} (hz : (zeroValue e).run P w = .ok z w) {key : Value} {kl : Lit} (hkey : keyOf P k key = some kl) :
    (Instr.lookup t (.map (some b)) key false).run P w = .ok ((atL D kl).getD z) w ∧ has D kl = (atL D kl).isSome := by
  obtain ⟨v, ps, hrun, hv⟩ := h.lookup K ht hz (zd := .held z) (zp := []) rfl hkey
  have e1 : D.atKey kl (.held z) = .held v := by have := congrArg (Option.map Prod.fst) hv; simpa [tokR] using this.symm
  cases hh : has D kl with
  | true =>
    have e4 : atL D kl = some v := by unfold atL; rw [atKey_has hh .nil (.held z), e1]
    rw [e4]
    exact ⟨hrun, rfl⟩
  | false =>
    have e4 : atL D kl = none := by unfold atL; rw [atKey_of_not_has hh]
    have e5 : v = z := by have := e1.symm.trans (atKey_of_not_has hh _); simpa using this
    subst e5
    rw [e4]
    exact ⟨hrun, rfl⟩

theorem gm.look (h : gm w P k b n m) (K : Keyed P k) (ht : P.underlying t = some (.map k e)) {z : Value} (hz : (zeroValue e).run P w = .ok z w) {key : Value} {kl : Lit} (hkey : keyOf P k key = some kl) :
    (Instr.lookup t (.map (some b)) key false).run P w = .ok ((m kl).getD z) w := by
  obtain ⟨D, hD, hm⟩ := h
  rw [hm kl (IsKeyLit_of K hkey)]; exact (look_at hD K ht hz hkey).1

theorem atL_put (h : IsMap D) {l : Lit} (hl : WideAt.IsKeyLit l) (v : Value) (j : Lit) : atL (D.put l (.held v)) j = updL (atL D) l (some v) j := by
  unfold updL
  by_cases hj : j = l
  · subst hj
    rw [if_pos rfl]
    unfold atL
    rw [atKey_put_same h hl]
  · rw [if_neg hj]
    unfold atL
    rw [atKey_put_other hj]

theorem gm.store (h : gm w P k b n m) (K : Keyed P k) (ht : P.underlying t = some (.map k e)) (hn : n < maxLen) {key : Value} {kl : Lit} (hkey : keyOf P k key = some kl) (v : Value) :
    ∃ w', (Instr.mapUpdate t (.map (some b)) key v).run P w = .ok () w' ∧ gm w' P k b (n + 1) (updL m kl (some v)) ∧ w.mapTurned w' b := by
  obtain ⟨D, hD, hm⟩ := h
  obtain ⟨w', r1, r2, r3⟩ := hD.store K ht hn hkey (d := .held v) (ps := []) (val := v) rfl
  refine ⟨w', r1, ⟨_, r2, fun j hj => ?_⟩, r3⟩
  rw [atL_put hD.isMap (IsKeyLit_of K hkey) v j]
  unfold updL
  rw [hm j hj]
end

/-- What is the same but for the blocks in S, below B. -/
structure Fr (B : Nat) (S : Nat → Prop) (w w' : World) : Prop where
  os : w'.os = w.os
  tape : w'.tape = w.tape
  output : w'.output = w.output
  size : w.heap.size ≤ w'.heap.size
  block : ∀ k, k < B → ¬ S k → w'.heap[k]? = w.heap[k]?
section
variable {B : Nat} {S : Nat → Prop} {a w w' : World}
theorem Fr.refl (B : Nat) (S : Nat → Prop) (w : World) : Fr B S w w := ⟨rfl, rfl, rfl, Nat.le_refl _, fun _ _ _ => rfl⟩
theorem Fr.alloc (h : Fr B S a w) (hB : B ≤ w.heap.size) (o : Obj) : Fr B S a (w.alloc o) :=
  ⟨h.os, h.tape, h.output, by have := h.size; simp; omega, fun k hk hn => (Below.heap_alloc _ _ _ (by omega)).trans (h.block k hk hn)⟩
theorem Fr.turned (h : Fr B S a w) {b : Nat} (hb : S b ∨ B ≤ b) (ht : w.mapTurned w' b) : Fr B S a w' := by
  have hblk := @block_turned w w' b
  obtain ⟨es, clock, es', clock', hb', rfl⟩ := ht
  refine ⟨h.os, h.tape, h.output, by rw [show (setBlock w b (.map es' clock')).heap.size = w.heap.size by simp [setBlock]]; exact h.size, fun k hk hn => ?_⟩
  rw [hblk ⟨es, clock, es', clock', hb', rfl⟩ (by rintro rfl; rcases hb with hb | hb; exact hn hb; omega)]
  exact h.block k hk hn
theorem Fr.below {B' : Nat} (h : Fr B S a w) (hB : B' ≤ B) (hS : ∀ k, S k → B' ≤ k) : Below B' a w :=
  ⟨h.os, h.tape, h.output, h.size, fun k hk => h.block k (by omega) (fun e => by have := hS k e; omega)⟩
end
theorem turned_size {w w' : World} {b : Nat} (ht : w.mapTurned w' b) : w'.heap.size = w.heap.size := by
  obtain ⟨es, clock, es', clock', hb', rfl⟩ := ht
  simp [setBlock]

/-- A map of maps: block b holds the outer one, block c the inner one at l if 'ob l = some c'. -/
structure MM (w : World) (P : Program) (k1 k2 b n : Nat) (F : Lit → Lit → Option Value) (ob : Lit → Option Nat) : Prop where
  out : gm w P k1 b n (fun l => (ob l).map fun c => .map (some c))
  inn : ∀ l c, ob l = some c → gm w P k2 c n (F l)
  non : ∀ l, ob l = none → F l = fun _ => none
  inj : ∀ l l' c, ob l = some c → ob l' = some c → l = l'
  ne : ∀ l c, ob l = some c → c ≠ b
/-- The blocks of it. -/
def MMb (b : Nat) (ob : Lit → Option Nat) : Nat → Prop := fun c => c = b ∨ ∃ l, ob l = some c
section
variable {w w' : World} {P : Program} {k1 k2 b n : Nat} {F : Lit → Lit → Option Value} {ob : Lit → Option Nat}
theorem MM.kept (h : MM w P k1 k2 b n F ob) (hb : ∀ c, MMb b ob c → w'.heap[c]? = w.heap[c]?) : MM w' P k1 k2 b n F ob :=
  ⟨h.out.of_block (hb b (Or.inl rfl)), fun l c e => (h.inn l c e).of_block (hb c (Or.inr ⟨l, e⟩)), h.non, h.inj, h.ne⟩
theorem MM.lt (h : MM w P k1 k2 b n F ob) {c : Nat} (hc : MMb b ob c) : c < w.heap.size := by
  rcases hc with rfl | ⟨l, hl⟩
  · exact h.out.lt
  · exact (h.inn l c hl).lt
theorem MM.on (h : MM w P k1 k2 b n F ob) (hb : Below w.heap.size w w') : MM w' P k1 k2 b n F ob := h.kept fun _ hc => hb.block _ (h.lt hc)
theorem MM.made (w : World) (P : Program) (k1 k2 : Nat) : MM (w.alloc (.map #[] 0)) P k1 k2 w.heap.size 0 (fun _ _ => none) (fun _ => none) :=
  ⟨(gm_made w P k1), fun _ _ e => (by cases e), fun _ _ => rfl, fun _ _ _ e => (by cases e), fun _ _ e => (by cases e)⟩

open Classical in
noncomputable def upd2 (F : Lit → Lit → Option Value) (a c : Lit) (v : Value) : Lit → Lit → Option Value := updL F a (updL (F a) c (some v))

/-- An entry of an inner map that is there has been put. -/
theorem MM.put_in (h : MM w P k1 k2 b n F ob) {a k : Lit} {c : Nat} {v : Value} (ha : ob a = some c) (ht : w.mapTurned w' c) (hg : gm w' P k2 c (n + 1) (updL (F a) k (some v))) : MM w' P k1 k2 b (n + 1) (upd2 F a k v) ob := by
  refine ⟨(h.out.of_block (block_turned ht (h.ne a c ha).symm)).mono (Nat.le_succ _), fun l d hd => ?_, fun l hl => ?_, h.inj, h.ne⟩
  · by_cases e : l = a
    · subst e
      obtain rfl : c = d := Option.some.inj (ha.symm.trans hd)
      unfold upd2
      rw [updL_same]
      exact hg
    · unfold upd2
      rw [updL_other _ e]
      exact ((h.inn l d hd).of_block (block_turned ht (fun e2 => e (h.inj l a c (e2 ▸ hd) ha)))).mono (Nat.le_succ _)
  · by_cases e : l = a
    · subst e; rw [ha] at hl; cases hl
    · unfold upd2
      rw [updL_other _ e]
      exact h.non l hl

/-- A new inner map has been put. -/
theorem MM.put_new (h : MM w P k1 k2 b n F ob) {a : Lit} {c : Nat} (ha : ob a = none) (hc : w.heap.size ≤ c) (hb : ∀ d, d < w.heap.size → d ≠ b → w'.heap[d]? = w.heap[d]?) (ho : gm w' P k1 b (n + 1) (updL (fun l => (ob l).map fun c => .map (some c)) a (some (.map (some c))))) (hi : gm w' P k2 c 0 (fun _ => none)) :
    MM w' P k1 k2 b (n + 1) F (updL ob a (some c)) := by
  have hF := h.non a ha
  refine ⟨?_, fun l d hd => ?_, fun l hl => ?_, fun l l' d hd hd' => ?_, fun l d hd => ?_⟩
  · have e : (fun l => (updL ob a (some c) l).map fun c => Value.map (some c)) = updL (fun l => (ob l).map fun c => .map (some c)) a (some (.map (some c))) := by
      funext l
      by_cases e : l = a
      · subst e; rw [updL_same, updL_same]; rfl
      · rw [updL_other _ e, updL_other _ e]
    rw [e]
    exact ho
  · by_cases e : l = a
    · subst e
      rw [updL_same] at hd
      obtain rfl := Option.some.inj hd
      rw [hF]
      exact hi.mono (Nat.zero_le _)
    · rw [updL_other _ e] at hd
      exact ((h.inn l d hd).of_block (hb d (h.inn l d hd).lt (h.ne l d hd))).mono (Nat.le_succ _)
  · by_cases e : l = a
    · subst e; rw [updL_same] at hl; cases hl
    · rw [updL_other _ e] at hl; exact h.non l hl
  · by_cases e : l = a
    · subst e
      rw [updL_same] at hd
      obtain rfl := Option.some.inj hd
      by_cases e' : l' = l
      · exact e'.symm
      · rw [updL_other _ e'] at hd'
        have := (h.inn l' c hd').lt
        omega
    · rw [updL_other _ e] at hd
      by_cases e' : l' = a
      · subst e'
        rw [updL_same] at hd'
        obtain rfl := Option.some.inj hd'
        have := (h.inn l c hd).lt
        omega
      · rw [updL_other _ e'] at hd'
        exact h.inj l l' d hd hd'
  · by_cases e : l = a
    · subst e
      rw [updL_same] at hd
      obtain rfl := Option.some.inj hd
      have := h.out.lt
      omega
    · rw [updL_other _ e] at hd
      exact h.ne l d hd
end
end Go.Proofs.Ytffflafafpdjdaa
