/- Entries in memory, as redo meets them; what an entry gives, plainly. -/
import Derived.Test.YtmijdjlpfjfjoaaLeafMade
import Derived.Test.YtmijdjlpfjfjoaaLeafSp
import Derived.Test.YtmijdjlpfjfjoaaLoadAt
namespace Go.Proofs.Ytmijdjlpfjfjoaa.Rx
open Go.RowKit

/-! ### slices of structs -/
/-- A slice of elements of k cells each. -/
def Els (w : World) (sv : Value) (k : Nat) (xs : List (List Value)) : Prop := ∃ A cap, sv = .slice A xs.length cap ∧ xs.length ≤ cap ∧ (A = none → xs = []) ∧ ∀ a, A = some a → xs ≠ [] →
  a.spot = none ∧ a.block < w.heap.size ∧ ∀ i j, i < xs.length → j < k → w.cell? ⟨a.block, a.off + i * k + j, none⟩ = (xs[i]?.bind fun c => c[j]?)
theorem Els.below {B k : Nat} {w w' : World} {v : Value} {xs : List (List Value)} (h : Els w v k xs) (hb : Below B w w') (hB : w.heap.size ≤ B) : Els w' v k xs := by
  obtain ⟨A, cap, rfl, h1, h2, h3⟩ := h
  refine ⟨A, cap, rfl, h1, h2, fun a ha hne => ?_⟩
  obtain ⟨h5, h6, h7⟩ := h3 a ha hne
  refine ⟨h5, Nat.lt_of_lt_of_le h6 hb.size, fun i j hi hj => ?_⟩
  rw [← h7 i j hi hj]
  exact World.cell?_of_block (hb.block a.block (by omega))
theorem Els.one {w : World} {A : Option Addr} {n cap k : Nat} {xs : List (List Value)} (h : Els w (.slice A n cap) k xs) {i : Nat} (hi : i < xs.length) : ∃ b off, A = some ⟨b, off, none⟩ ∧ b < w.heap.size ∧ ∀ j, j < k → w.cell? ⟨b, off + i * k + j, none⟩ = xs[i][j]? := by
  obtain ⟨A', cap', e, h1, h2, h3⟩ := h
  cases e
  have hne : xs ≠ [] := fun e => by rw [e] at hi; cases hi
  cases A with
  | none => exact absurd (h2 rfl) hne
  | some a =>
    obtain ⟨h5, h6, h7⟩ := h3 a rfl hne
    obtain ⟨b, off, sp⟩ := a
    cases h5
    refine ⟨b, off, rfl, h6, fun j hj => ?_⟩
    rw [h7 i j hi hj, List.getElem?_eq_getElem hi]
    rfl

/-! ### entries -/
abbrev Mv := Int × Int × Int × Int
def mvV (m : Mv) : List Value := [.int .i64 m.1, .int .i64 m.2.1, .int .i64 m.2.2.1, .int .i64 m.2.2.2]
/-- What redo reads of an entry. -/
structure En where
  k : Int
  ap : Int
  ac : Int
  tp : Int
  tc : Int
  new : List Int
  mv : List Mv
/-- What an entry's value has besides. -/
structure Ex where
  t : Int
  u : Int
  h : Int
  p : Int
  n : Int
  old : Value
  NA : Option Addr
  NK : Nat
  MA : Option Addr
  MK : Nat
  lv : Value
  dt : Value
  op : Value
def enC (e : En) (x : Ex) : Array Value := #[.int .i64 e.k, .int .i64 x.t, .int .i64 x.u, .int .i64 x.h, .int .i64 x.p, .int .i64 x.n, .int .i64 e.ap, .int .i64 e.ac, .int .i64 e.tp, .int .i64 e.tc, x.old, .slice x.NA e.new.length x.NK, .slice x.MA e.mv.length x.MK, x.lv, x.dt, x.op]
def enO (e : En) (x : Ex) : Obj := .cells (enC e x) 31
/-- An entry's bytes and moves in memory. -/
structure EnIn (w : World) (e : En) (x : Ex) : Prop where
  new : SlK .u8 w (.slice x.NA e.new.length x.NK) e.new
  mv : Els w (.slice x.MA e.mv.length x.MK) 4 (e.mv.map mvV)
  len : e.mv.length ≤ 100000
  nlen : e.new.length ≤ 100000
theorem EnIn.below {w w' : World} {e : En} {x : Ex} (h : EnIn w e x) {B : Nat} (hb : Below B w w') (hB : w.heap.size ≤ B) : EnIn w' e x := ⟨h.new.below hb hB, h.mv.below hb hB, h.len, h.nlen⟩

theorem infoE : (Try.prog.info? 31).map (·.size) = some 16 := by kernel_rfl

/-! ### what an entry gives -/
abbrev Gv := Int × Int × List Int
def stubE (p c : Int) : List Int := if placeB p c = true then stubL p c else []
def tl (e : En) : List Gv :=
  if e.k = 1 ∨ e.k = 2 then [(e.ap, e.ac, e.new)]
  else if e.k = 7 then [(e.ap, e.ac, stubE e.tp e.tc), (e.tp, e.tc, e.new)]
  else if e.k = 8 then e.mv.map fun m => (m.1, m.2.1, [])
  else []
def tch (l : List Gv) (n : Int) : Bool := l.any fun t => decide (t.1 = n)
def inC (c : Int) : Bool := decide (0 ≤ c ∧ c < 4)
def giv1 (n : Int) (c : Nat → List Int) (t : Gv) : Nat → List Int := if t.1 = n ∧ inC t.2.1 = true then (fun i => if i = t.2.1.toNat then t.2.2 else c i) else c
def giv (n : Int) (c : Nat → List Int) (l : List Gv) : Nat → List Int := l.foldl (giv1 n) c
theorem giv_snoc (n : Int) (c : Nat → List Int) (l : List Gv) (t : Gv) : giv n c (l ++ [t]) = giv1 n (giv n c l) t := by simp [giv]
theorem tch_snoc (l : List Gv) (t : Gv) (n : Int) : tch (l ++ [t]) n = (tch l n || decide (t.1 = n)) := by simp [tch]
theorem tch_nil (n : Int) : tch [] n = false := rfl
theorem giv_nil (n : Int) (c : Nat → List Int) : giv n c [] = c := rfl
theorem tch_pre {l m : List Gv} (h : l <+: m) {n : Int} (ht : tch l n = true) : tch m n = true := by
  obtain ⟨r, rfl⟩ := h
  simp only [tch, List.any_append, Bool.or_eq_true] at ht ⊢
  exact .inl ht
/-- Nothing that isn't touched is given anything. -/
theorem giv_no (n : Int) (c : Nat → List Int) (l : List Gv) (h : tch l n = false) : giv n c l = c := by
  induction l generalizing c with
  | nil => rfl
  | cons t l ih =>
    simp only [tch, List.any_cons, Bool.or_eq_false_iff, decide_eq_false_iff_not] at h
    show giv n (giv1 n c t) l = c
    rw [giv1, if_neg (fun q => h.1 q.1)]
    exact ih c h.2
def apc (lsn n : Int) (e : En) (now : Int) : Bool := decide (lsn < now) && tch (tl e) n
def apC (c : Nat → List Int) (lsn n : Int) (e : En) (now : Int) : Nat → List Int := if apc lsn n e now = true then giv n c (tl e) else c
def apN (lsn n : Int) (e : En) (now : Int) : Int := if apc lsn n e now = true then now else lsn
def pgs (l : List Gv) : List Nat := (List.range 32).filter fun n => tch l (n : Int)

/-! ### what the iterator hands over -/
structure Tx where
  p : Int
  c : Int
  A : Option Addr
  k : Nat
  l : List Int
def Tx.t (x : Tx) : Gv := (x.p, x.c, x.l)
def encT (x : Tx) : Array Value := #[.agg #[.int .i64 x.p, .int .i64 x.c], .slice x.A x.l.length x.k]
def Gd (x : Tx) (W : World) : Prop := SlK .u8 W (.slice x.A x.l.length x.k) x.l
def tls (xs : List Tx) : List Gv := xs.map Tx.t
theorem tls_snoc (xs : List Tx) (x : Tx) : tls (xs ++ [x]) = tls xs ++ [x.t] := by simp [tls]
end Go.Proofs.Ytmijdjlpfjfjoaa.Rx
