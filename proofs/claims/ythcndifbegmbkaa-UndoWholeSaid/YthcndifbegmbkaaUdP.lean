/- UndoWhole, plainly: cells, and notes; and both in memory. -/
import Derived.Test.YthcndifbegmbkaaUdL
import Derived.Test.YthcndifbegmbkaaLoadAt
namespace Go.Proofs.Ythcndifbegmbkaa.Ud
open Go.RowKit

/-- Where a slice lies, and its room. -/
abbrev Sp := Option Addr × Nat
abbrev Nt := Ent × Sp × Sp
def s1V (x : Nt) : Value := .slice x.2.1.1 x.1.old.length x.2.1.2
def s2V (x : Nt) : Value := .slice x.2.2.1 x.1.new.length x.2.2.2
def ntC (x : Nt) : Array Value := entC x.1 (s1V x) (s2V x) (.slice none 0 0) (.slice none 0 0) (.slice none 0 0) (.slice none 0 0)
def ntV (x : Nt) : List Value := (ntC x).toList
theorem ntV_len (x : Nt) : (ntV x).length = 16 := rfl
theorem ntC_all (x : Nt) : (ntC x).all (·.oneCell') = true := entC_all x.1 _ _ none none none none _ _ _ _ 0 0 0 0 0 0 0 0
theorem ntV_one (x : Nt) : ∀ v ∈ ntV x, v.oneCell' = true := fun v hv => by
  have h := ntC_all x
  rw [Array.all_eq_true_iff_forall_mem] at h
  exact h v (by simpa [ntV] using hv)

def kk (l : List Int) (i : Nat) : Nat := (l.getD i 0 % 4).toNat
theorem kk_lt (l : List Int) (i : Nat) : kk l i < 4 := by unfold kk; omega
def upd (c : Nat → List Int) (k : Nat) (x : List Int) : Nat → List Int := fun j => if j = k then x else c j
/-- The cells behind the first i sets. -/
def cst (l : List Int) : Nat → Nat → List Int
  | 0 => fun _ => []
  | i + 1 => upd (cst l i) (kk l i) [l.getD i 0]
theorem cst_back (l : List Int) (i : Nat) : upd (cst l (i + 1)) (kk l i) (cst l i (kk l i)) = cst l i := by
  funext j
  by_cases e : j = kk l i
  · simp [upd, e]
  · simp [upd, cst, e]
def setE (l : List Int) (i : Nat) : Ent := ⟨1, 1, 0, 0, (i : Int), 0, 0, (kk l i : Int), 0, 0, cst l i (kk l i), [l.getD i 0], [], [], [], []⟩
theorem cst_len (l : List Int) : ∀ i j, (cst l i j).length ≤ 1
  | 0, _ => by show 0 ≤ 1; omega
  | i + 1, j => by
    show (if j = kk l i then [l.getD i 0] else cst l i j).length ≤ 1
    split
    · exact Nat.le_refl 1
    · exact cst_len l i j
theorem cst_ok {l : List Int} (h : bytesOk l) : ∀ i j, bytesOk (cst l i j)
  | 0, _ => fun x hx => by cases hx
  | i + 1, j => by
    show bytesOk (if j = kk l i then [l.getD i 0] else cst l i j)
    split
    · intro x hx
      obtain rfl := List.mem_singleton.1 hx
      by_cases hj : i < l.length
      · have := h l[i] (List.getElem_mem hj)
        simpa [List.getD_eq_getElem?_getD, hj] using this
      · rw [List.getD_eq_getElem?_getD, List.getElem?_eq_none (by omega)]
        decide
    · exact cst_ok h i j

def cV (c : Nat → List Int) : Array Value := #[.string (bstr (c 0)), .string (bstr (c 1)), .string (bstr (c 2)), .string (bstr (c 3))]
theorem cV_at (c : Nat → List Int) {k : Nat} (h : k < 4) : (cV c)[k]? = some (.string (bstr (c k))) := by
  match k, h with
  | 0, _ => rfl
  | 1, _ => rfl
  | 2, _ => rfl
  | 3, _ => rfl
theorem cV_set (c : Nat → List Int) {k : Nat} (h : k < 4) (x : List Int) : (cV c).setIfInBounds k (.string (bstr x)) = cV (upd c k x) := by
  match k, h with
  | 0, _ => rfl
  | 1, _ => rfl
  | 2, _ => rfl
  | 3, _ => rfl

/-- A slice of bytes that lies among bytes. -/
structure SlU (w : World) (v : Value) (l : List Int) : Prop where
  k : SlK .u8 w v l
  b : ∀ a n c, v = .slice (some a) n c → ∃ cs fr, w.heap[a.block]? = some (.cells cs 5 fr)
theorem SlU.keep {w w' : World} {v : Value} {l : List Int} (h : SlU w v l) (hs : w.heap.size ≤ w'.heap.size) (hk : ∀ (b : Nat) cs fr, w.heap[b]? = some (.cells cs 5 fr) → w'.heap[b]? = w.heap[b]?) : SlU w' v l := by
  obtain ⟨⟨p, cap, rfl, h1, h2, h3, h4⟩, hb⟩ := h
  refine ⟨⟨p, cap, rfl, h1, h2, h3, fun a ha => ?_⟩, fun a n c e => ?_⟩
  · obtain ⟨q1, q2, q3⟩ := h4 a ha
    obtain ⟨cs, fr, hc⟩ := hb a _ _ (by rw [ha])
    exact ⟨q1, Nat.lt_of_lt_of_le q2 hs, fun j hj => by
      rw [← q3 j hj]
      exact World.cell?_of_block (hk _ _ _ hc)⟩
  · obtain ⟨cs, fr, hc⟩ := hb a n c e
    exact ⟨cs, fr, (hk _ _ _ hc).trans hc⟩
theorem SlU.on {w w' : World} {v : Value} {l : List Int} (h : SlU w v l) (hb : Below w.heap.size w w') : SlU w' v l := h.keep hb.size (fun b _ _ hc => hb.block b (Array.getElem?_eq_some_iff.1 hc).1)

/-- What UndoWhole holds: its four cells in block gc, its notes in nv. -/
structure Wh (w wr : World) (gc : Nat) (nv : Value) (c : Nat → List Int) (ns : List Nt) : Prop where
  low : Below w.heap.size w wr
  gcl : w.heap.size ≤ gc
  cc : wr.heap[gc]? = some (.cells (cV c) 37 (0, 0))
  own : wr.ownsRow w.heap.size 30 16 nv ns.length (ns.flatMap ntV)
  sl : ∀ x ∈ ns, x.1.kind = 1 → SlU wr (s1V x) x.1.old

theorem Wh.on {w wr wr' : World} {gc : Nat} {nv : Value} {c : Nat → List Int} {ns : List Nt} (h : Wh w wr gc nv c ns) (hb : Below wr.heap.size wr wr') : Wh w wr' gc nv c ns :=
  ⟨h.low.trans (hb.mono h.low.size), h.gcl, (hb.block _ (Array.getElem?_eq_some_iff.1 h.cc).1).trans h.cc, own_bel h.own hb, fun x hx hk => (h.sl x hx hk).on hb⟩
theorem ty_ne {w : World} {b b' : Nat} {cs cs' : Array Value} {t t' : TypeId} {fr fr' : Nat × Nat} (h : w.heap[b]? = some (.cells cs t fr)) (h' : w.heap[b']? = some (.cells cs' t' fr')) (hne : ¬ t = t') : ¬ b = b' := fun e => by
  subst e
  rw [h] at h'
  injection h' with h'
  injection h' with _ h2 _
  exact hne h2
theorem own_ty {w : World} {B n sz : Nat} {v : Value} {xs : List Value} {e : TypeId} (h : w.ownsRow B e sz v n xs) {b : Nat} (hb : v.ownBlock = some b) : ∃ cs, w.heap[b]? = some (.cells cs e (0, 0)) := by
  obtain ⟨h1, ⟨rfl, h2⟩ | ⟨g, cap, cur, rfl, a, b', r⟩⟩ := h
  · cases hb
  · cases hb
    exact ⟨cur, b'⟩
theorem Wh.set {w wr : World} {gc : Nat} {nv : Value} {c : Nat → List Int} {ns : List Nt} (h : Wh w wr gc nv c ns) {k : Nat} (hk : k < 4) (x : List Int) : Wh w (wr.setCell ⟨gc, k, none⟩ (.string (bstr x))) gc nv (upd c k x) ns := by
  have far : ∀ b, ¬ b = gc → (wr.setCell ⟨gc, k, none⟩ (.string (bstr x))).heap[b]? = wr.heap[b]? := fun b hb => setCell_far _ _ _ _ hb
  refine ⟨h.low.setCell (p := ⟨gc, k, none⟩) h.gcl _, h.gcl, ?_, own_at h.own (fun b hb => ?_), fun y hy hk => (h.sl y hy hk).keep (by simp) (fun b cs fr hc => far b (ty_ne hc h.cc (by decide)))⟩
  · rw [heap_setCell_same wr gc k _ _ _ h.cc, cV_set c hk]
  · obtain ⟨cs, hc⟩ := own_ty h.own hb
    exact far b (ty_ne hc h.cc (by decide))
theorem Wh.push {w wr wr' : World} {gc : Nat} {nv v' : Value} {c : Nat → List Int} {ns : List Nt} (h : Wh w wr gc nv c ns) (x : Nt) (ho : wr'.ownsRow w.heap.size 30 16 v' (ns.length + 1) (ns.flatMap ntV ++ ntV x)) (hg : wr.grownBy wr' nv.ownBlock) (hx : x.1.kind = 1 → SlU wr (s1V x) x.1.old) : Wh w wr' gc v' c (ns ++ [x]) := by
  have keep : ∀ (b : Nat) cs t fr, wr.heap[b]? = some (.cells cs t fr) → ¬ t = 30 → wr'.heap[b]? = wr.heap[b]? := fun b cs t fr hc ht => hg.block b (Array.getElem?_eq_some_iff.1 hc).1 (fun e => by
    obtain ⟨cs', hc'⟩ := own_ty h.own e.symm
    exact ty_ne hc hc' ht rfl)
  have sk : ∀ {v : Value} {l : List Int}, SlU wr v l → SlU wr' v l := fun hs => hs.keep hg.size (fun b cs fr hc => keep b cs _ fr hc (by decide))
  refine ⟨h.low.grown hg h.low.size (fun k hk => (h.own.lt k hk).1), h.gcl, (keep gc _ _ _ h.cc (by decide)).trans h.cc, ?_, fun y hy hk => ?_⟩
  · rw [List.length_append, List.flatMap_append, List.flatMap_cons, List.flatMap_nil, List.append_nil]
    exact ho
  · rcases List.mem_append.1 hy with hy | hy
    · exact sk (h.sl y hy hk)
    · obtain rfl := List.mem_singleton.1 hy
      exact sk (hx hk)
theorem Wh.form {w wr : World} {gc : Nat} {nv : Value} {c : Nat → List Int} {ns : List Nt} (h : Wh w wr gc nv c ns) : ∃ A q, nv = .slice A ns.length q := by
  obtain ⟨A, m, q, rfl⟩ := own_shape h.own
  obtain rfl := own_n h.own
  exact ⟨A, q, rfl⟩
/-- A note's cells. -/
theorem Wh.row {w wr : World} {gc : Nat} {nv : Value} {c : Nat → List Int} {ns : List Nt} (h : Wh w wr gc nv c ns) (h0 : 0 < ns.length) : ∃ g q, nv = .slice (some ⟨g, 0, none⟩) ns.length q ∧ ∀ i (hi : i < ns.length) j v, (ntC ns[i])[j]? = some v → wr.cell? ⟨g, i * 16 + j, none⟩ = some v := by
  obtain ⟨h1, ⟨rfl, h2⟩ | ⟨g, cap, cur, rfl, hB, hg, hle, hm, hsz, htake⟩⟩ := id h.own
  · omega
  · refine ⟨g, cap, rfl, fun i hi j v hv => ?_⟩
    have hj : j < 16 := (Array.getElem?_eq_some_iff.1 hv).1
    have e1 : (ns.flatMap ntV)[i * 16 + j]? = some v := by
      rw [flat_at (f := ntV) (fun x => ntV_len x) ns i j hi hj, List.getElem?_map, List.getElem?_eq_getElem hi]
      show (ntC ns[i]).toList[j]? = _
      rw [Array.getElem?_toList, hv]
    rw [← htake, List.getElem?_take] at e1
    split at e1
    · rw [(cell_of hg _).1]
      simpa using e1
    · cases e1
end Go.Proofs.Ythcndifbegmbkaa.Ud
