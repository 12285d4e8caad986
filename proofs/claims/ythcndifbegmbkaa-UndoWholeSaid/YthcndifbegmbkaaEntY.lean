/- The reader: open units; The reader: an entry. -/
import Derived.Test.YthcndifbegmbkaaEntV
namespace Go.Proofs.Ythcndifbegmbkaa
open Go.RowKit

theorem Els.at {w w' : World} {v : Value} {k : Nat} {xs : List (List Value)} (h : Els w v k xs) (hb : xs ≠ [] → ∀ b, v.ownBlock = some b → b < w.heap.size → w'.heap[b]? = w.heap[b]?) : Els w' v k xs := by
  obtain ⟨A, cap, rfl, h1, h2, h3⟩ := h
  refine ⟨A, cap, rfl, h1, h2, fun a ha hne => ?_⟩
  obtain ⟨h5, h6, h7⟩ := h3 a ha hne
  subst ha
  have e := hb hne a.block rfl h6
  refine ⟨h5, ?_, fun i j hi hj => ?_⟩
  · by_cases h0 : a.block < w'.heap.size
    · exact h0
    · rw [Array.getElem?_eq_none (by omega), Array.getElem?_eq_getElem h6] at e
      cases e
  · rw [← h7 i j hi hj]
    exact World.cell?_of_block e



/-- Open units in memory, all from block B on. -/
def OpF (w : World) (B : Nat) (sv : Value) (ops : List Opn) : Prop := ∃ os : List (Opn × Value), ops = os.map Prod.fst ∧ Els w sv 3 (os.map opV) ∧ (∀ b, sv.ownBlock = some b → B ≤ b) ∧ ∀ o ∈ os, Els w o.2 4 (o.1.2.2.map mvV) ∧ (o.1.2.2 ≠ [] → ∀ b, o.2.ownBlock = some b → B ≤ b)
theorem OpF.opAt {w : World} {B : Nat} {sv : Value} {ops : List Opn} (h : OpF w B sv ops) : OpAt w sv ops := by
  obtain ⟨os, e, h1, _, h2⟩ := h
  exact ⟨os, e, h1, fun o ho => (h2 o ho).1⟩
theorem OpF.at {w w' : World} {B : Nat} {sv : Value} {ops : List Opn} (h : OpF w B sv ops) (hb : ∀ b, B ≤ b → b < w.heap.size → w'.heap[b]? = w.heap[b]?) : OpF w' B sv ops := by
  obtain ⟨os, e, h1, h3, h2⟩ := h
  refine ⟨os, e, h1.at fun _ b hbb hlt => hb b (h3 b hbb) hlt, h3, fun o ho => ⟨(h2 o ho).1.at fun hne b hbb hlt => hb b ((h2 o ho).2 (fun e => hne (by rw [e]; rfl)) b hbb) hlt, (h2 o ho).2⟩⟩



theorem Els.blk {w : World} {v : Value} {k : Nat} {xs : List (List Value)} (h : Els w v k xs) (hne : xs ≠ []) {b : Nat} (hb : v.ownBlock = some b) : b < w.heap.size := by
  obtain ⟨A, cap, rfl, h1, h2, h3⟩ := h
  cases A with
  | none => cases hb
  | some a =>
    cases hb
    exact (h3 a rfl hne).2.1

theorem infoROpen : (Try.prog.info? 55).map (fun i => (i.zero, i.size, i.bytes)) = some (some (.agg #[.int .i64 0, .slice none 0 0, .int .i64 0]), 3, 40) := by kernel_rfl

end Go.Proofs.Ythcndifbegmbkaa
namespace Go.Proofs.Ythcndifbegmbkaa
open Go.RowKit

/-- What lies from block B on is as it was. -/
structure Kpt (B : Nat) (w w' : World) : Prop where
  size : w.heap.size ≤ w'.heap.size
  block : ∀ b, B ≤ b → b < w.heap.size → w'.heap[b]? = w.heap[b]?
theorem Kpt.trans {B : Nat} {a b c : World} (h : Kpt B a b) (k : Kpt B b c) : Kpt B a c := ⟨Nat.le_trans h.size k.size, fun i hi hl => (k.block i hi (Nat.lt_of_lt_of_le hl h.size)).trans (h.block i hi hl)⟩
theorem Kpt.rd {p B : Nat} {w w' : World} (h : Rd p w w') (hB : p < B) : Kpt B w w' := ⟨h.size, fun b hb hl => h.block b hl (by omega)⟩
theorem Kpt.set {q i B : Nat} (w : World) (v : Value) (hB : q < B) : Kpt B w (w.setCell ⟨q, i, none⟩ v) := ⟨by simp, fun b hb _ => setCell_far _ _ _ _ (by omega)⟩
def SlF (w : World) (B : Nat) (sv : Value) (l : List Int) : Prop := SlK .u8 w sv l ∧ ∀ b, sv.ownBlock = some b → B ≤ b
def ElF (w : World) (B : Nat) (sv : Value) (k : Nat) (xs : List (List Value)) : Prop := Els w sv k xs ∧ ∀ b, sv.ownBlock = some b → B ≤ b
theorem SlF.at {w w' : World} {B : Nat} {sv : Value} {l : List Int} (h : SlF w B sv l) (hk : Kpt B w w') : SlF w' B sv l := by
  obtain ⟨⟨p, cap, rfl, h1, h2, h3, h4⟩, hf⟩ := h
  refine ⟨⟨p, cap, rfl, h1, h2, h3, fun a ha => ?_⟩, hf⟩
  obtain ⟨h5, h6, h7⟩ := h4 a ha
  subst ha
  have e := hk.block a.block (hf a.block rfl) h6
  refine ⟨h5, Nat.lt_of_lt_of_le h6 hk.size, fun j hj => ?_⟩
  rw [← h7 j hj]
  exact World.cell?_of_block e
theorem ElF.at {w w' : World} {B k : Nat} {sv : Value} {xs : List (List Value)} (h : ElF w B sv k xs) (hk : Kpt B w w') : ElF w' B sv k xs := ⟨h.1.at fun _ b hb hl => hk.block b (h.2 b hb) hl, h.2⟩
theorem OpF.kpt {w w' : World} {B : Nat} {sv : Value} {ops : List Opn} (h : OpF w B sv ops) (hk : Kpt B w w') : OpF w' B sv ops := h.at hk.block
theorem OpF.low {w : World} {B B' : Nat} {sv : Value} {ops : List Opn} (h : OpF w B sv ops) (hB : B' ≤ B) : OpF w B' sv ops := by
  obtain ⟨os, e, h1, h3, h2⟩ := h
  exact ⟨os, e, h1, fun b hb => Nat.le_trans hB (h3 b hb), fun o ho => ⟨(h2 o ho).1, fun hne b hb => Nat.le_trans hB ((h2 o ho).2 hne b hb)⟩⟩
theorem own_slF {w : World} {B B' n : Nat} {v : Value} {l : List Int} (h : w.ownsRow B 5 1 v n (byteV l)) (hok : bytesOk l) (hB : B' ≤ B) : SlF w B' v l := ⟨own_slK h hok, fun b hb => Nat.le_trans hB (h.lt b hb).1⟩
theorem celR_ok {l : List Int} (h : bytesOk l) : bytesOk (celR l).1 := ok_take (ok_drop h 1) _
theorem celR_len {l : List Int} {w : World} {B : Nat} {A : Option Addr} {m c : Nat} {k : Nat} (h : w.ownsRow B 5 1 (.slice A m c) k (byteV l)) (hk : k = l.length) : m = l.length := by rw [own_n h, hk]

/-- An entry that lies from block B on. -/
structure EntF (w : World) (B : Nat) (s1 s2 s3 s4 s5 s6 : Value) (e : Ent) : Prop where
  old : SlF w B s1 e.old
  new : SlF w B s2 e.new
  moves : ElF w B s3 4 (e.moves.map mvV)
  lives : ElF w B s4 4 (e.lives.map lvV)
  dirty : ElF w B s5 2 (e.dirty.map dtV)
  opens : OpF w B s6 e.opens
theorem EntF.entS {w : World} {B : Nat} {s1 s2 s3 s4 s5 s6 : Value} {e : Ent} (h : EntF w B s1 s2 s3 s4 s5 s6 e) : EntS w s1 s2 s3 s4 s5 s6 e := ⟨h.old.1.sw, h.new.1.sw, h.moves.1, h.lives.1, h.dirty.1, h.opens.opAt⟩
theorem EntF.at {w w' : World} {B : Nat} {s1 s2 s3 s4 s5 s6 : Value} {e : Ent} (h : EntF w B s1 s2 s3 s4 s5 s6 e) (hk : Kpt B w w') : EntF w' B s1 s2 s3 s4 s5 s6 e := ⟨h.old.at hk, h.new.at hk, h.moves.at hk, h.lives.at hk, h.dirty.at hk, h.opens.kpt hk⟩



end Go.Proofs.Ythcndifbegmbkaa
