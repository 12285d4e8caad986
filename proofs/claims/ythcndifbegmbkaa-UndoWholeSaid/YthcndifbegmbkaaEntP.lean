/- The writer: open units, and their list; The writer: an entry; encode, May, Put; encode, May, Put. -/
import Derived.Test.YthcndifbegmbkaaEntS
import Derived.Laws.Rows
import Derived.Deep.Onto
namespace Go.Proofs.Ythcndifbegmbkaa
open Go.RowKit

/-- An open unit's cells, with the slice of its moves. -/
def opV (o : Opn × Value) : List Value := [.int .i64 o.1.1, o.2, .int .i64 o.1.2.1]
def opL1 (o : Opn × Value) : List Int := opL o.1
def opB1 (o : Opn × Value) : Bool := opB o.1
def opI1 (o : Opn) : Prop := I64 o.1 ∧ I64 o.2.1 ∧ ∀ m ∈ o.2.2, mvI m
def opI (o : Opn × Value) : Prop := opI1 o.1
theorem lstL_len {α : Type} (f : α → List Int) {n : Nat} (hf : ∀ x, (f x).length ≤ n) (xs : List α) : (lstL f xs).length ≤ n * 40 + 1 := by
  unfold lstL
  split
  · rename_i h
    have := flat_pre f hf xs xs.length h
    rw [List.take_length] at this
    rw [List.length_append, numL_len]
    omega
  · simp
theorem opL_len (o : Opn) : (opL o).length ≤ 164 := by
  unfold opL
  have := lstL_len mvL (n := 4) (fun x => by rw [mvL_len]; exact Nat.le_refl _) o.2.2
  rw [List.length_append, List.length_append, numL_len, numL_len]
  omega



end Go.Proofs.Ythcndifbegmbkaa
namespace Go.Proofs.Ythcndifbegmbkaa
open Go.RowKit

def OpAt (w : World) (sv : Value) (ops : List Opn) : Prop := ∃ os : List (Opn × Value), ops = os.map Prod.fst ∧ Els w sv 3 (os.map opV) ∧ ∀ o ∈ os, Els w o.2 4 (o.1.2.2.map mvV)
theorem OpAt.below {B : Nat} {w w' : World} {v : Value} {ops : List Opn} (h : OpAt w v ops) (hb : Below B w w') (hB : w.heap.size ≤ B) : OpAt w' v ops := by
  obtain ⟨os, e, h1, h2⟩ := h
  exact ⟨os, e, h1.below hb hB, fun o ho => (h2 o ho).below hb hB⟩

/-- An entry's numbers are numbers. -/
structure EntI (e : Ent) : Prop where
  kind : I64 e.kind
  txn : I64 e.txn
  unit : I64 e.unit
  half : I64 e.half
  prev : I64 e.prev
  next : I64 e.next
  ap : I64 e.ap
  ac : I64 e.ac
  tp : I64 e.tp
  tc : I64 e.tc
  moves : ∀ m ∈ e.moves, mvI m
  lives : ∀ m ∈ e.lives, lvI m
  dirty : ∀ m ∈ e.dirty, dtI m
  opens : ∀ m ∈ e.opens, opI1 m

/-- Where an entry's bytes and lists lie. -/
structure EntS (w : World) (s1 s2 s3 s4 s5 s6 : Value) (e : Ent) : Prop where
  old : SlW w s1 e.old
  new : SlW w s2 e.new
  moves : Els w s3 4 (e.moves.map mvV)
  lives : Els w s4 4 (e.lives.map lvV)
  dirty : Els w s5 2 (e.dirty.map dtV)
  opens : OpAt w s6 e.opens

theorem EntS.below {B : Nat} {w w' : World} {s1 s2 s3 s4 s5 s6 : Value} {e : Ent} (h : EntS w s1 s2 s3 s4 s5 s6 e) (hb : Below B w w') (hB : w.heap.size ≤ B) : EntS w' s1 s2 s3 s4 s5 s6 e :=
  ⟨h.old.below hb hB, h.new.below hb hB, h.moves.below hb hB, h.lives.below hb hB, h.dirty.below hb hB, h.opens.below hb hB⟩

def entC (e : Ent) (s1 s2 s3 s4 s5 s6 : Value) : Array Value := #[.int .i64 e.kind, .int .i64 e.txn, .int .i64 e.unit, .int .i64 e.half, .int .i64 e.prev, .int .i64 e.next, .int .i64 e.ap, .int .i64 e.ac, .int .i64 e.tp, .int .i64 e.tc, s1, s2, s3, s4, s5, s6]


theorem Els.form {w : World} {v : Value} {k : Nat} {xs : List (List Value)} (h : Els w v k xs) : ∃ A c, v = .slice A xs.length c ∧ xs.length ≤ c := by
  obtain ⟨A, c, e, h1, _⟩ := h
  exact ⟨A, c, e, h1⟩
theorem SlK.form {q : IntKind} {w : World} {v : Value} {l : List Int} (h : SlK q w v l) : ∃ A c, v = .slice A l.length c ∧ l.length ≤ c := by
  obtain ⟨A, c, e, h1, _⟩ := h
  exact ⟨A, c, e, h1⟩
theorem celL_len {c : List Int} : (celL c).length ≤ 27 := by
  unfold celL
  split
  · rename_i h
    simp only [celOk, Bool.or_eq_true, decide_eq_true_eq] at h
    rw [List.length_append, numL_len]
    omega
  · simp

theorem or_not1 (a b : Bool) : (!a || !b) = !(a && b) := by cases a <;> cases b <;> rfl

/-- The box of an entry. -/
def entO (e : Ent) (s1 s2 s3 s4 s5 s6 : Value) : Obj := .cells (entC e s1 s2 s3 s4 s5 s6) 30 (0, 0)


end Go.Proofs.Ythcndifbegmbkaa
namespace Go.Proofs.Ythcndifbegmbkaa
open Go.RowKit

def putL (e : Ent) : List Int := if entB e = true then entL e else []
theorem putL_yes {e : Ent} (h : entB e = true) : putL e = entL e := if_pos h
theorem putL_no {e : Ent} (h : entB e = false) : putL e = [] := by unfold putL; rw [h]; rfl

theorem EntS.form {w : World} {s1 s2 s3 s4 s5 s6 : Value} {e : Ent} (hs : EntS w s1 s2 s3 s4 s5 s6 e) : ∃ A1 c1 A2 c2 A3 c3 A4 c4 A5 c5 A6 c6, s1 = .slice A1 e.old.length c1 ∧ s2 = .slice A2 e.new.length c2 ∧ s3 = .slice A3 e.moves.length c3 ∧ s4 = .slice A4 e.lives.length c4 ∧ s5 = .slice A5 e.dirty.length c5 ∧ s6 = .slice A6 e.opens.length c6 := by
  obtain ⟨A1, c1, rfl, q1⟩ := hs.old.form
  obtain ⟨A2, c2, rfl, q2⟩ := hs.new.form
  obtain ⟨A3, c3, rfl, q3⟩ := hs.moves.form
  obtain ⟨A4, c4, rfl, q4⟩ := hs.lives.form
  obtain ⟨A5, c5, rfl, q5⟩ := hs.dirty.form
  obtain ⟨os, ho, h6, _⟩ := hs.opens
  obtain ⟨A6, c6, rfl, q6⟩ := h6.form
  have hos : (os.map opV).length = e.opens.length := by rw [ho, List.length_map, List.length_map]
  simp only [List.length_map] at hos ⊢
  exact ⟨A1, c1, A2, c2, A3, c3, A4, c4, A5, c5, A6, c6, rfl, rfl, rfl, rfl, rfl, by rw [hos]⟩

theorem infoEnt : (Try.prog.info? 30).map (·.size) = some 16 := by kernel_rfl
theorem infoEntC (e : Ent) (s1 s2 s3 s4 s5 s6 : Value) : (Try.prog.info? 30).map (·.size) = some (entC e s1 s2 s3 s4 s5 s6).size := infoEnt

def EncPost (w : World) (e : Ent) (r : Ending) (w' : World) : Prop := ∃ A m c, r = .returned (.tuple #[.slice A m c, .bool (entB e)]) ∧ w'.ownsRow w.heap.size 5 1 (.slice A m c) (putL e).length (byteV (putL e)) ∧ Below w.heap.size w w'




end Go.Proofs.Ythcndifbegmbkaa
