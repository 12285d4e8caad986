/- Entries, plainly: what they are as bytes, whether they may be, and what bytes are read as; no program in it; The writer: its state, need, number. -/
import Derived.Test.YthcndifbegmbkaaLow
import Derived.Deep.AppendLies
import Derived.Deep.RegionLaw
namespace Go.Proofs.Ythcndifbegmbkaa

/-- n in k bytes, the highest first. -/
def numL (n : Int) : Nat → List Int
  | 0 => []
  | k + 1 => (n / 256 ^ k % 256) :: numL n k
def fitB (n : Int) (k : Nat) : Bool := decide (0 ≤ n ∧ n < 256 ^ k)
/-- What the first k bytes are as a number (of those that are there). -/
def numR (l : List Int) : Nat → Int
  | 0 => 0
  | k + 1 => if k < l.length then numR l k * 256 + l.getD k 0 else numR l k
termination_by k => k
theorem numR_0 (l : List Int) : numR l 0 = 0 := by rw [numR]
theorem numR_s (l : List Int) (k : Nat) : numR l (k + 1) = if k < l.length then numR l k * 256 + l.getD k 0 else numR l k := by rw [numR]

abbrev Mv := Int × Int × Int × Int
abbrev Lv := Int × Int × Int × Bool
abbrev Dt := Int × Int
abbrev Opn := Int × Int × List Mv
structure Ent where
  kind : Int
  txn : Int
  unit : Int
  half : Int
  prev : Int
  next : Int
  ap : Int
  ac : Int
  tp : Int
  tc : Int
  old : List Int
  new : List Int
  moves : List Mv
  lives : List Lv
  dirty : List Dt
  opens : List Opn

def b01 (b : Bool) : Int := if b then 1 else 0
def plL (p c : Int) : List Int := numL p 1 ++ numL c 1
def mvL (m : Mv) : List Int := plL m.1 m.2.1 ++ plL m.2.2.1 m.2.2.2
def lvL (m : Lv) : List Int := numL m.1 1 ++ numL m.2.1 3 ++ numL m.2.2.1 3 ++ numL (b01 m.2.2.2) 1
def dtL (m : Dt) : List Int := numL m.1 1 ++ numL m.2 3
def lstL {α : Type} (f : α → List Int) (l : List α) : List Int := if l.length ≤ 40 then numL l.length 1 ++ l.flatMap f else []
def opL (m : Opn) : List Int := numL m.1 2 ++ numL m.2.1 1 ++ lstL mvL m.2.2
def celOk (c : List Int) : Bool := decide (c.length = 0) || decide (c.length = 26)
def celL (c : List Int) : List Int := if celOk c = true then numL c.length 1 ++ c else []
def plB (p c : Int) : Bool := fitB p 1 && fitB c 1
def mvB (m : Mv) : Bool := plB m.1 m.2.1 && plB m.2.2.1 m.2.2.2
def lvB (m : Lv) : Bool := fitB m.1 1 && fitB m.2.1 3 && fitB m.2.2.1 3
def dtB (m : Dt) : Bool := fitB m.1 1 && fitB m.2 3
def lstB {α : Type} (f : α → Bool) (l : List α) : Bool := decide (l.length ≤ 40) && l.all f
def opB (m : Opn) : Bool := fitB m.1 2 && fitB m.2.1 1 && lstB mvB m.2.2
def kindB (n : Int) : Bool := decide (1 ≤ n ∧ n ≤ 10)
def entL (e : Ent) : List Int := numL e.kind 1 ++ numL e.txn 1 ++ numL e.unit 2 ++ numL e.half 1 ++ numL e.prev 3 ++ numL e.next 3 ++ plL e.ap e.ac ++ plL e.tp e.tc ++ celL e.old ++ celL e.new ++ lstL mvL e.moves ++ lstL lvL e.lives ++ lstL dtL e.dirty ++ lstL opL e.opens
def entB (e : Ent) : Bool := kindB e.kind && fitB e.kind 1 && fitB e.txn 1 && fitB e.unit 2 && fitB e.half 1 && fitB e.prev 3 && fitB e.next 3 && plB e.ap e.ac && plB e.tp e.tc && celOk e.old && celOk e.new && lstB mvB e.moves && lstB lvB e.lives && lstB dtB e.dirty && lstB opB e.opens

def mvR (l : List Int) : Mv × List Int := ((numR l 1, numR (l.drop 1) 1, numR (l.drop 2) 1, numR (l.drop 3) 1), l.drop 4)
def lvR (l : List Int) : Lv × List Int := ((numR l 1, numR (l.drop 1) 3, numR (l.drop 4) 3, decide (numR (l.drop 7) 1 = 1)), l.drop 8)
def dtR (l : List Int) : Dt × List Int := ((numR l 1, numR (l.drop 1) 3), l.drop 4)
def celN (l : List Int) : Nat := min (numR l 1).toNat (l.drop 1).length
def celR (l : List Int) : List Int × List Int := ((l.drop 1).take (celN l), (l.drop 1).drop (celN l))
def nR {α : Type} (f : List Int → α × List Int) : Nat → List Int → List α × List Int
  | 0, l => ([], l)
  | k + 1, l => ((nR f k l).1 ++ [(f (nR f k l).2).1], (f (nR f k l).2).2)
def lstR {α : Type} (f : List Int → α × List Int) (l : List Int) : List α × List Int := nR f (numR l 1).toNat (l.drop 1)
def opR (l : List Int) : Opn × List Int := ((numR l 2, numR (l.drop 2) 1, (lstR mvR (l.drop 3)).1), (lstR mvR (l.drop 3)).2)
def r1 (l : List Int) := celR (l.drop 15)
def r2 (l : List Int) := celR (r1 l).2
def r3 (l : List Int) := lstR mvR (r2 l).2
def r4 (l : List Int) := lstR lvR (r3 l).2
def r5 (l : List Int) := lstR dtR (r4 l).2
def r6 (l : List Int) := lstR opR (r5 l).2
def entR (l : List Int) : Ent := ⟨numR l 1, numR (l.drop 1) 1, numR (l.drop 2) 2, numR (l.drop 4) 1, numR (l.drop 5) 3, numR (l.drop 8) 3, numR (l.drop 11) 1, numR (l.drop 12) 1, numR (l.drop 13) 1, numR (l.drop 14) 1, (r1 l).1, (r2 l).1, (r3 l).1, (r4 l).1, (r5 l).1, (r6 l).1⟩

theorem fit_iff {n : Int} {k : Nat} : fitB n k = true ↔ 0 ≤ n ∧ n < 256 ^ k := by simp [fitB]
theorem numL_len (n : Int) (k : Nat) : (numL n k).length = k := by
  induction k with
  | zero => rfl
  | succ k ih => simp [numL, ih]
theorem numL_ok (n : Int) (k : Nat) : bytesOk (numL n k) := by
  induction k with
  | zero => intro x hx; cases hx
  | succ k ih =>
    intro x hx
    rcases List.mem_cons.1 hx with rfl | hx
    · omega
    · exact ih x hx
theorem numR_1 (n : Int) (t : List Int) (h : fitB n 1 = true) : numR (numL n 1 ++ t) 1 = n := by
  have := fit_iff.1 h
  simp [numR, numL]; omega
theorem numR_2 (n : Int) (t : List Int) (h : fitB n 2 = true) : numR (numL n 2 ++ t) 2 = n := by
  have := fit_iff.1 h
  simp [numR, numL]; omega
theorem numR_3 (n : Int) (t : List Int) (h : fitB n 3 = true) : numR (numL n 3 ++ t) 3 = n := by
  have := fit_iff.1 h
  simp [numR, numL]; omega
theorem numL_drop (n : Int) (k : Nat) (t : List Int) : (numL n k ++ t).drop k = t := List.drop_left' (numL_len n k)

theorem mvR_mvL {m : Mv} (h : mvB m = true) (t : List Int) : mvR (mvL m ++ t) = (m, t) := by
  obtain ⟨a, b, c, d⟩ := m
  simp only [mvB, plB, Bool.and_eq_true] at h
  obtain ⟨⟨h1, h2⟩, h3, h4⟩ := h
  have := fit_iff.1 h1; have := fit_iff.1 h2; have := fit_iff.1 h3; have := fit_iff.1 h4
  simp [mvR, mvL, plL, numL, numR]
  omega
theorem b01_eq (b : Bool) : decide (b01 b % 256 = 1) = b := by cases b <;> rfl
theorem lvR_lvL {m : Lv} (h : lvB m = true) (t : List Int) : lvR (lvL m ++ t) = (m, t) := by
  obtain ⟨a, b, c, d⟩ := m
  simp only [lvB, Bool.and_eq_true] at h
  obtain ⟨⟨h1, h2⟩, h3⟩ := h
  have := fit_iff.1 h1; have := fit_iff.1 h2; have := fit_iff.1 h3
  have := b01_eq d
  simp [lvR, lvL, numL, numR]
  refine ⟨by omega, by omega, by omega, this⟩
theorem dtR_dtL {m : Dt} (h : dtB m = true) (t : List Int) : dtR (dtL m ++ t) = (m, t) := by
  obtain ⟨a, b⟩ := m
  simp only [dtB, Bool.and_eq_true] at h
  obtain ⟨h1, h2⟩ := h
  have := fit_iff.1 h1; have := fit_iff.1 h2
  simp [dtR, dtL, numL, numR]
  omega
theorem nR_flat {α : Type} {f : List Int → α × List Int} {g : α → List Int} (xs : List α) (h : ∀ x ∈ xs, ∀ t, f (g x ++ t) = (x, t)) (t : List Int) : ∀ k, k ≤ xs.length → nR f k (xs.flatMap g ++ t) = (xs.take k, (xs.drop k).flatMap g ++ t)
  | 0, _ => by simp [nR]
  | k + 1, hk => by
    have e : xs.drop k = xs[k] :: xs.drop (k + 1) := List.drop_eq_getElem_cons (by omega)
    have hf := h xs[k] (List.getElem_mem _) ((xs.drop (k + 1)).flatMap g ++ t)
    unfold nR
    rw [nR_flat xs h t k (by omega), e]
    simp only [List.flatMap_cons, List.append_assoc]
    rw [hf, List.take_succ_eq_append_getElem (by omega)]
theorem lstR_lstL {α : Type} {f : List Int → α × List Int} {g : α → List Int} {xs : List α} {B : α → Bool} (hb : lstB B xs = true) (h : ∀ x, B x = true → ∀ t, f (g x ++ t) = (x, t)) (t : List Int) : lstR f (lstL g xs ++ t) = (xs, t) := by
  simp only [lstB, Bool.and_eq_true, decide_eq_true_eq, List.all_eq_true] at hb
  unfold lstR lstL
  rw [if_pos hb.1, List.append_assoc, numR_1 _ _ (fit_iff.2 (by omega)), numL_drop, Int.toNat_natCast, nR_flat xs (fun x hx => h x (hb.2 x hx)) t _ (Nat.le_refl _)]
  simp
theorem opR_opL {m : Opn} (h : opB m = true) (t : List Int) : opR (opL m ++ t) = (m, t) := by
  obtain ⟨a, b, c⟩ := m
  simp only [opB, Bool.and_eq_true] at h
  obtain ⟨⟨h1, h2⟩, h3⟩ := h
  unfold opR opL
  have e : (numL a 2 ++ numL b 1 ++ lstL mvL c ++ t).drop 3 = lstL mvL c ++ t := by
    rw [List.append_assoc]
    exact List.drop_left' (by simp [numL_len])
  rw [e, lstR_lstL h3 (fun x hx t => mvR_mvL hx t)]
  simp only [List.append_assoc]
  rw [numR_2 _ _ h1, numL_drop, numR_1 _ _ h2]
theorem celR_celL {c : List Int} (h : celOk c = true) (t : List Int) : celR (celL c ++ t) = (c, t) := by
  have hl : c.length ≤ 26 := by simp only [celOk, Bool.or_eq_true, decide_eq_true_eq] at h; omega
  have e : celN (celL c ++ t) = c.length := by
    unfold celN celL
    rw [if_pos h, List.append_assoc, numR_1 _ _ (fit_iff.2 (by omega)), numL_drop, Int.toNat_natCast]
    simp
  unfold celR
  rw [e]
  unfold celL
  rw [if_pos h, List.append_assoc, numL_drop]
  simp
theorem entR_entL {e : Ent} (h : entB e = true) : entR (entL e) = e := by
  obtain ⟨a1, a2, a3, a4, a5, a6, a7, a8, a9, a10, o, n, mo, li, di, op⟩ := e
  simp only [entB, Bool.and_eq_true, plB] at h
  obtain ⟨⟨⟨⟨⟨⟨⟨⟨⟨⟨⟨⟨⟨⟨hk, h1⟩, h2⟩, h3⟩, h4⟩, h5⟩, h6⟩, h7, h8⟩, h9, h10⟩, ho⟩, hn⟩, hm⟩, hl⟩, hd⟩, hp⟩ := h
  clear hk
  have e15 : ∀ X : List Int, (numL a1 1 ++ (numL a2 1 ++ (numL a3 2 ++ (numL a4 1 ++ (numL a5 3 ++ (numL a6 3 ++ (plL a7 a8 ++ (plL a9 a10 ++ X)))))))).drop 15 = X := fun X => by
    simp [plL, numL]
  have E : entL ⟨a1, a2, a3, a4, a5, a6, a7, a8, a9, a10, o, n, mo, li, di, op⟩ = numL a1 1 ++ (numL a2 1 ++ (numL a3 2 ++ (numL a4 1 ++ (numL a5 3 ++ (numL a6 3 ++ (plL a7 a8 ++ (plL a9 a10 ++ (celL o ++ (celL n ++ (lstL mvL mo ++ (lstL lvL li ++ (lstL dtL di ++ (lstL opL op ++ []))))))))))))) := by
    simp [entL]
  rw [E]
  obtain ⟨X, hX⟩ : ∃ X, X = celL o ++ (celL n ++ (lstL mvL mo ++ (lstL lvL li ++ (lstL dtL di ++ (lstL opL op ++ []))))) := ⟨_, rfl⟩
  rw [← hX]
  obtain ⟨L, hL⟩ : ∃ L, L = numL a1 1 ++ (numL a2 1 ++ (numL a3 2 ++ (numL a4 1 ++ (numL a5 3 ++ (numL a6 3 ++ (plL a7 a8 ++ (plL a9 a10 ++ X))))))) := ⟨_, rfl⟩
  have k1 : r1 L = (o, celL n ++ (lstL mvL mo ++ (lstL lvL li ++ (lstL dtL di ++ (lstL opL op ++ []))))) := by
    unfold r1; rw [hL, e15, hX, celR_celL ho]
  have k2 : r2 L = (n, lstL mvL mo ++ (lstL lvL li ++ (lstL dtL di ++ (lstL opL op ++ [])))) := by
    unfold r2; rw [k1]; exact celR_celL hn _
  have k3 : r3 L = (mo, lstL lvL li ++ (lstL dtL di ++ (lstL opL op ++ []))) := by
    unfold r3; rw [k2]; exact lstR_lstL hm (fun x hx t => mvR_mvL hx t) _
  have k4 : r4 L = (li, lstL dtL di ++ (lstL opL op ++ [])) := by
    unfold r4; rw [k3]; exact lstR_lstL hl (fun x hx t => lvR_lvL hx t) _
  have k5 : r5 L = (di, lstL opL op ++ []) := by
    unfold r5; rw [k4]; exact lstR_lstL hd (fun x hx t => dtR_dtL hx t) _
  have k6 : r6 L = (op, []) := by
    unfold r6; rw [k5]; exact lstR_lstL hp (fun x hx t => opR_opL hx t) _
  rw [← hL]
  unfold entR
  rw [k1, k2, k3, k4, k5, k6]
  have := fit_iff.1 h1; have := fit_iff.1 h2; have := fit_iff.1 h3; have := fit_iff.1 h4; have := fit_iff.1 h5; have := fit_iff.1 h6; have := fit_iff.1 h7; have := fit_iff.1 h8; have := fit_iff.1 h9; have := fit_iff.1 h10
  clear k1 k2 k3 k4 k5 k6 hX E e15
  subst hL
  simp [plL, numL, numR]
  refine ⟨?_, ?_, ?_, ?_, ?_, ?_, ?_, ?_, ?_, ?_⟩ <;> omega

end Go.Proofs.Ythcndifbegmbkaa
namespace Go.Proofs.Ythcndifbegmbkaa
open Go.RowKit


/-- Only the writer and its row have turned. -/
structure Wr (p : Nat) (w : World) (v : Value) (w' : World) (v' : Value) : Prop where
  os : w'.os = w.os
  tape : w'.tape = w.tape
  output : w'.output = w.output
  size : w.heap.size ≤ w'.heap.size
  block : ∀ k, k < w.heap.size → k ≠ p → v.ownBlock ≠ some k → w'.heap[k]? = w.heap[k]? ∧ v'.ownBlock ≠ some k

theorem Wr.refl (p : Nat) (w : World) (v : Value) : Wr p w v w v := ⟨rfl, rfl, rfl, Nat.le_refl _, fun _ _ _ h => ⟨rfl, h⟩⟩
theorem Wr.trans {p : Nat} {a b c : World} {u v x : Value} (h : Wr p a u b v) (k : Wr p b v c x) : Wr p a u c x :=
  ⟨k.os.trans h.os, k.tape.trans h.tape, k.output.trans h.output, Nat.le_trans h.size k.size, fun i hi h1 h2 => by
    obtain ⟨a1, a2⟩ := h.block i hi h1 h2
    obtain ⟨b1, b2⟩ := k.block i (Nat.lt_of_lt_of_le hi h.size) h1 a2
    exact ⟨b1.trans a1, b2⟩⟩
theorem Wr.alloc (p : Nat) (w : World) (v : Value) (o : Obj) : Wr p w v (w.alloc o) v := ⟨rfl, rfl, rfl, by simp, fun k hk _ h => ⟨Below.heap_alloc w _ k hk, h⟩⟩
theorem own_bel {w w' : World} {B n : Nat} {v : Value} {xs : List Value} {e : TypeId} {sz : Nat} (h : w.ownsRow B e sz v n xs) (hb : Below w.heap.size w w') : w'.ownsRow B e sz v n xs := by
  obtain ⟨h1, ⟨e, h2⟩ | ⟨g, cap, cur, e, a, b, r⟩⟩ := h
  · exact ⟨h1, .inl ⟨e, h2⟩⟩
  · exact ⟨h1, .inr ⟨g, cap, cur, e, a, (hb.block g (Array.getElem?_eq_some_iff.1 b).1).trans b, r⟩⟩
theorem own_at {w w' : World} {B n : Nat} {v : Value} {xs : List Value} {e : TypeId} {sz : Nat} (h : w.ownsRow B e sz v n xs) (hb : ∀ k, v.ownBlock = some k → w'.heap[k]? = w.heap[k]?) : w'.ownsRow B e sz v n xs := by
  obtain ⟨h1, ⟨e, h2⟩ | ⟨g, cap, cur, e, a, b, r⟩⟩ := h
  · exact ⟨h1, .inl ⟨e, h2⟩⟩
  · subst e
    exact ⟨h1, .inr ⟨g, cap, cur, rfl, a, (hb g rfl).trans b, r⟩⟩
theorem setCell_far (w : World) (g i : Nat) (v : Value) {k : Nat} (h : k ≠ g) : (w.setCell ⟨g, i, none⟩ v).heap[k]? = w.heap[k]? := Below.heap_setCell _ _ _ _ h




end Go.Proofs.Ythcndifbegmbkaa
