/- PoolNone, a part. -/
import Derived.Test.YtljbhdldfffpfaaGreatRows
import Derived.Test.YtljbhdldfffpfaaGreatQn1
import Derived.WalkKit
import Derived.WalkSpells
import Derived.WalkLawsBesides
import Derived.Deep.QuietTactic
import Derived.BigQuiet
import Derived.Deep.WholeRow
import Derived.Laws.Rows
import Derived.Deep.RegionHeld3
import Derived.OrdersHeld
import Derived.StillTail
import Derived.Deep.RegionHeld
import Derived.Laws.Tables
namespace Go.Proofs.YtljbhdldfffpfaaGreat
open Go.RowKit Go.Maps

/-- What a disk is, plainly. -/
structure Dk where
  tiles : Int
  now : Int → Option Value
  old : Int → Option Value
  dead : Bool
  set : Bool
  left : Int
  mv : Value
  mask : List Int

/-- A slice value that reads as bytes, out of block g, or none. -/
def SlB (w : World) (v : Value) (l : List Int) (g : Nat) : Prop := ∃ p len cap, v = .slice p len cap ∧ len = l.length ∧ len ≤ cap ∧ len ≤ 1000000 ∧ (p = none → l = []) ∧ ∀ a, p = some a → l ≠ [] → a.block = g ∧ a.spot = none ∧ ∀ j (h : j < l.length), w.cell? ⟨g, a.off + j, none⟩ = some (.int .u8 l[j])

def IsBlk (v : Value) : Prop := ∃ l : List Int, l.length = 64 ∧ (∀ x ∈ l, 0 ≤ x ∧ x < 256) ∧ v = .agg (l.map (Value.int .u8)).toArray


structure Dk.Ok (d : Dk) : Prop where
  lo : 0 ≤ d.tiles
  hi : d.tiles ≤ 2000
  now : ∀ i v, d.now i = some v → 0 ≤ i ∧ i < d.tiles ∧ IsBlk v
  old : ∀ i v, d.old i = some v → 0 ≤ i ∧ i < d.tiles ∧ IsBlk v
  llo : 0 ≤ d.left
  lhi : d.left ≤ 9223372036854775807
  mok : bytesOk d.mask

/-- The disk d lies in block p; its maps in bn and bo; its mask in g. -/
structure DiskAt (w : World) (p bn bo g : Nat) (d : Dk) : Prop where
  cells : w.heap[p]? = some (.cells #[.int .i64 d.tiles, .map (some bn), .map (some bo), .bool d.dead, .bool d.set, .int .i64 d.left, d.mv] 84 (0, 0))
  now : fm w Tryz.prog 3 bn d.now
  old : fm w Tryz.prog 3 bo d.old
  mask : SlB w d.mv d.mask g
  ne : bn ≠ bo ∧ p ≠ bn ∧ p ≠ bo ∧ g ≠ p
  ok : d.Ok


section
variable {w : World} {p bn bo g : Nat} {d : Dk}
theorem DiskAt.c0 (h : DiskAt w p bn bo g d) : w.cell? ⟨p, 0, none⟩ = some (.int .i64 d.tiles) := (cell_of h.cells 0).1
theorem DiskAt.c1 (h : DiskAt w p bn bo g d) : w.cell? ⟨p, 1, none⟩ = some (.map (some bn)) := (cell_of h.cells 1).1
theorem DiskAt.c2 (h : DiskAt w p bn bo g d) : w.cell? ⟨p, 2, none⟩ = some (.map (some bo)) := (cell_of h.cells 2).1
theorem DiskAt.c3 (h : DiskAt w p bn bo g d) : w.cell? ⟨p, 3, none⟩ = some (.bool d.dead) := (cell_of h.cells 3).1
theorem DiskAt.c4 (h : DiskAt w p bn bo g d) : w.cell? ⟨p, 4, none⟩ = some (.bool d.set) := (cell_of h.cells 4).1
theorem DiskAt.c5 (h : DiskAt w p bn bo g d) : w.cell? ⟨p, 5, none⟩ = some (.int .i64 d.left) := (cell_of h.cells 5).1
theorem DiskAt.fz (h : DiskAt w p bn bo g d) (i : Nat) : w.frozen? ⟨p, i, none⟩ = false := (cell_of h.cells i).2
end

theorem dead_any (w : World) {p bn bo g : Nat} {d : Dk} (h : DiskAt w p bn bo g d) : Calls Tryz.prog 20 #[.pointer (some ⟨p, 0, none⟩)] w fun e w' => e = .returned (.bool d.dead) ∧ w' = w := by
  have c3 := h.c3
  go_enter Tryz.func20, Tryz.ntmps20
  go_wp2
  go_ret
  exact ⟨rfl, rfl⟩

theorem tiles_any (w : World) {p bn bo g : Nat} {d : Dk} (h : DiskAt w p bn bo g d) : Calls Tryz.prog 34 #[.pointer (some ⟨p, 0, none⟩)] w fun e w' => e = .returned (.int .i64 d.tiles) ∧ w' = w := by
  have c0 := h.c0
  go_enter Tryz.func34, Tryz.ntmps34
  go_wp2
  go_ret
  exact ⟨rfl, rfl⟩

theorem ready_any (w : World) {p bn bo g : Nat} {d : Dk} (h : DiskAt w p bn bo g d) : Calls Tryz.prog 60 #[.pointer (some ⟨p, 0, none⟩)] w fun e w' => e = .returned (.int .i64 (if d.dead then 2 else 0)) ∧ w' = w := by
  have c3 := h.c3
  cases hd : d.dead
  all_goals
    rw [hd] at c3
    go_enter Tryz.func60, Tryz.ntmps60
    go_wp2
    go_ret
    exact ⟨rfl, rfl⟩

theorem ready_nil (w : World) : Calls Tryz.prog 60 #[.pointer none] w fun e w' => e = .returned (.int .i64 1) ∧ w' = w := by
  go_enter Tryz.func60, Tryz.ntmps60
  go_wp2
  go_ret
  exact ⟨rfl, rfl⟩

theorem has_any (w : World) {p bn bo g : Nat} {d : Dk} (h : DiskAt w p bn bo g d) (at_ : Int) : Calls Tryz.prog 61 #[.pointer (some ⟨p, 0, none⟩), .int .i64 at_] w fun e w' => e = .returned (.bool (decide (0 ≤ at_ ∧ at_ < d.tiles))) ∧ w' = w := by
  have c0 := h.c0
  by_cases h0 : 0 ≤ at_
  · by_cases h1 : at_ < d.tiles
    · have e1 : decide (0 ≤ at_ ∧ at_ < d.tiles) = true := by simp; omega
      rw [e1]
      go_enter Tryz.func61, Tryz.ntmps61
      go_wp2
      go_ret
      exact ⟨rfl, rfl⟩
    · have e1 : decide (0 ≤ at_ ∧ at_ < d.tiles) = false := by simp; omega
      rw [e1]
      go_enter Tryz.func61, Tryz.ntmps61
      go_wp2
      go_ret
      exact ⟨rfl, rfl⟩
  · have e1 : decide (0 ≤ at_ ∧ at_ < d.tiles) = false := by simp; omega
    rw [e1]
    go_enter Tryz.func61, Tryz.ntmps61
    go_wp2
    go_ret
    exact ⟨rfl, rfl⟩

/-- What is the same but for the disk's three blocks. -/
structure Fr (B : Nat) (S : Nat → Prop) (w w' : World) : Prop where
  os : w'.os = w.os
  tape : w'.tape = w.tape
  output : w'.output = w.output
  size : w.heap.size ≤ w'.heap.size
  block : ∀ k, k < B → ¬ S k → w'.heap[k]? = w.heap[k]?

def Three (p bn bo : Nat) : Nat → Prop := fun k => k = p ∨ k = bn ∨ k = bo

section
variable {B : Nat} {S : Nat → Prop} {a w w' : World}
theorem Fr.refl (B : Nat) (S : Nat → Prop) (w : World) : Fr B S w w := ⟨rfl, rfl, rfl, Nat.le_refl _, fun _ _ _ => rfl⟩
theorem Fr.trans {b c : World} {B' : Nat} {S' : Nat → Prop} (h : Fr B S a b) (k : Fr B' S' b c) (hB : B ≤ B') (hS : ∀ x, x < B → S' x → S x) : Fr B S a c :=
  ⟨k.os.trans h.os, k.tape.trans h.tape, k.output.trans h.output, Nat.le_trans h.size k.size, fun i hi hn => (k.block i (by omega) (fun e => hn (hS i hi e))).trans (h.block i hi hn)⟩
theorem Fr.drew (h : Fr B S a w) : Fr B S a w.drew := ⟨h.os, h.tape, h.output, h.size, h.block⟩
theorem Fr.alloc (h : Fr B S a w) (hB : B ≤ w.heap.size) (o : Obj) : Fr B S a (w.alloc o) :=
  ⟨h.os, h.tape, h.output, by have := h.size; simp; omega, fun k hk hn => (Below.heap_alloc _ _ _ (by omega)).trans (h.block k hk hn)⟩
theorem Fr.setCell (h : Fr B S a w) {p : Addr} (hp : S p.block ∨ B ≤ p.block) (u : Value) : Fr B S a (w.setCell p u) :=
  ⟨h.os, h.tape, h.output, by have := h.size; simpa [World.setCell] using this, fun k hk hn => (Below.heap_setCell _ _ _ _ (by rintro rfl; rcases hp with hp | hp; exact hn hp; omega)).trans (h.block k hk hn)⟩
theorem Fr.turned (h : Fr B S a w) {b : Nat} (hb : S b ∨ B ≤ b) (ht : w.mapTurned w' b) : Fr B S a w' := by
  have hg := ht.grown
  refine ⟨hg.os.trans h.os, hg.tape.trans h.tape, hg.output.trans h.output, Nat.le_trans h.size hg.size, fun k hk hn => ?_⟩
  obtain ⟨es, clock, es', clock', hb2, rfl⟩ := ht
  exact (ChangeMaps.heap_setBlock_other hb2 _ (by rintro rfl; rcases hb with hb | hb; exact hn hb; omega)).trans (h.block k hk hn)
end

theorem cutNow_un (w : World) {p bn bo g : Nat} {d : Dk} (h : DiskAt w p bn bo g d) (hs : d.set = false) : Calls Tryz.prog 67 #[.pointer (some ⟨p, 0, none⟩)] w fun e w' => e = .returned (.bool false) ∧ w' = w := by
  have c4 := h.c4
  rw [hs] at c4
  go_enter Tryz.func67, Tryz.ntmps67
  go_wp2
  go_ret
  exact ⟨rfl, rfl⟩

end Go.Proofs.YtljbhdldfffpfaaGreat
namespace Go.Proofs.YtljbhdldfffpfaaGreat

end Go.Proofs.YtljbhdldfffpfaaGreat
namespace Go.Proofs.YtljbhdldfffpfaaGreat
open Go

section
variable {P : Program} {ops : Array Oper} {Q : Exit → Act → World → Prop} {md : Region.Mode} {S : World → Prop} {T : Nat → Bool}

/-- Whatever order is picked from here on, and S stays behind every operation that is none of T's. -/
def wpAnyG (P : Program) (md : Region.Mode) (ops : Array Oper) (Q : Exit → Act → World → Prop) (S : World → Prop) (T : Nat → Bool) : Nat → Array Bool → Act → World → Prop
  | 0, listed, a, w => Region.ready md ops listed = [] ∧ Q .normal a w
  | fuel + 1, listed, a, w =>
    (Region.ready md ops listed = [] → Q .normal a w) ∧
    ∀ i ∈ Region.ready md ops listed, wpOp P ops Q i (fun a' w' => (T i = false → S w → S w') ∧ wpAnyG P md ops Q S T fuel (listed.setIfInBounds i true) a' w') a w

def AllReadyG (P : Program) (md : Region.Mode) (ops : Array Oper) (Q : Exit → Act → World → Prop) (S : World → Prop) (T : Nat → Bool) (fuel : Nat) (listed : Array Bool) (a : Act) (w : World) (rs : List Nat) : Prop :=
  ∀ i ∈ rs, wpOp P ops Q i (fun a' w' => (T i = false → S w → S w') ∧ wpAnyG P md ops Q S T fuel (listed.setIfInBounds i true) a' w') a w
theorem AllReadyG.nil {fuel : Nat} {listed : Array Bool} {a : Act} {w : World} : AllReadyG P md ops Q S T fuel listed a w [] := fun _ h => by cases h
theorem AllReadyG.cons {fuel : Nat} {listed : Array Bool} {a : Act} {w : World} {i : Nat} {o : Oper} {rs : List Nat} (ho : ops[i]? = some o)
    (h : ∀ K' : Act → World → Prop, Shut (∀ a w', (T i = false → S w → S w') → wpAnyG P md ops Q S T fuel (listed.setIfInBounds i true) a w' → K' a w') → if Region.wanted o (yielded ops a.tmps) = true then Oper.wp P o a w K' Q else K' (a.put o.dst undef) w)
    (hs : AllReadyG P md ops Q S T fuel listed a w rs) : AllReadyG P md ops Q S T fuel listed a w (i :: rs) := fun j hj => by
  rcases List.mem_cons.1 hj with rfl | hj
  · exact wpOp_step ho (fun K' hK => h K' (fun a w hS hW => hK a w ⟨hS, hW⟩))
  · exact hs j hj
end
end Go.Proofs.YtljbhdldfffpfaaGreat
namespace Go.Proofs.YtljbhdldfffpfaaGreat.Hp
open Go.Proofs.YtljbhdldfffpfaaGreat

section
variable {P : Program}
theorem add_off (g off j : Nat) : (⟨g, off, none⟩ : Addr).add j = ⟨g, off + j, none⟩ := by unfold Addr.add; split <;> simp_all
theorem run_loadVar_at (w : World) (g off : Nat) (ty : TypeId) (cs : Array Value) (d : TypeDesc) (hc : ∀ j v, cs[j]? = some v → w.cell? ⟨g, off + j, none⟩ = some v)
    (hu : P.underlying ty = some d) (hd : (match d with | .struct _ | .array _ _ => true | _ => false) = true) (hi : (P.info? ty).map (·.size) = some cs.size) :
    (loadVar ty ⟨g, off, none⟩).run P w = .ok (.agg cs) w := by
  have hl : (loadCells ⟨g, off, none⟩ cs.toList.length).run P w = .ok cs.toList.toArray w :=
    run_loadCells_list (P := P) w ⟨g, off, none⟩ cs.toList (fun j v hv => by
      rw [add_off]
      exact hc j v (by simpa using hv))
  cases hq : P.info? ty with
  | none => simp [hq] at hi
  | some i =>
    have hs : i.size = cs.size := by simpa [hq] using hi
    have hagg : (isAgg ty).run P w = .ok true w := by
      unfold isAgg
      rw [Sem.run_bind, run_underlying hu w]
      cases d <;> simp_all
    simp only [Array.length_toList, Array.toArray_toList] at hl
    simp [loadVar, Sem.run_bind, hagg, sizeOf, typeInfo, hq, hs, hl]
theorem wp_load_at {o : Oper} {a : Act} {w : World} {K : Act → World → Prop} {Q : Exit → Act → World → Prop} (ty : TypeId) (x : Operand) (ho : o.op = .load ty x)
    (g off : Nat) (hx : a.eval x = .pointer (some ⟨g, off, none⟩)) (cs : Array Value) (d : TypeDesc) (hc : ∀ j v, cs[j]? = some v → w.cell? ⟨g, off + j, none⟩ = some v)
    (hu : P.underlying ty = some d) (hd : (match d with | .struct _ | .array _ _ => true | _ => false) = true) (hi : (P.info? ty).map (·.size) = some cs.size)
    (h : K (a.put o.dst (.agg cs)) w) : o.wp P a w K Q := by
  unfold Oper.wp execOp
  simp only [ho, hx, Instr.loadAt, Instr.sureAddr, Sem.run_bind, Sem.run_pure, Result.andThen_ok, run_loadVar_at w g off ty cs d hc hu hd hi]
  exact h
theorem wpList_load_at {ops : Array Oper} {rest : List Oper} {o : Oper} {a : Act} {w : World} {Q : Exit → Act → World → Prop} (hw : Region.wanted o (yielded ops a.tmps) = true) (ty : TypeId) (x : Operand) (ho : o.op = .load ty x)
    (g off : Nat) (hx : a.eval x = .pointer (some ⟨g, off, none⟩)) (cs : Array Value) (d : TypeDesc) (hc : ∀ j v, cs[j]? = some v → w.cell? ⟨g, off + j, none⟩ = some v)
    (hu : P.underlying ty = some d) (hd : (match d with | .struct _ | .array _ _ => true | _ => false) = true) (hi : (P.info? ty).map (·.size) = some cs.size)
    (h : wpList P ops Q rest (a.put o.dst (.agg cs)) w) : wpList P ops Q (o :: rest) a w :=
  wpList_step fun _ hK => by
    rw [if_pos hw]
    exact wp_load_at ty x ho g off hx cs d hc hu hd hi (hK _ _ h)

/-- Values laid one behind the other, from place k on. -/
def putRow (cur : Array Value) : Nat → List Value → Array Value
  | _, [] => cur
  | k, v :: r => putRow (cur.setIfInBounds k v) (k + 1) r
theorem putRow_size (r : List Value) : ∀ (k : Nat) (cur : Array Value), (putRow cur k r).size = cur.size := by
  induction r with
  | nil => intro k cur; rfl
  | cons v r ih => intro k cur; show (putRow (cur.setIfInBounds k v) (k + 1) r).size = _; rw [ih]; simp
theorem putRow_at (r : List Value) : ∀ (k : Nat) (cur : Array Value) (x : Nat), k + r.length ≤ cur.size → (putRow cur k r)[x]? = if k ≤ x ∧ x < k + r.length then r[x - k]? else cur[x]? := by
  induction r with
  | nil => intro k cur x _; rw [if_neg (by simp)]; rfl
  | cons v r ih =>
    intro k cur x h
    rw [List.length_cons] at h ⊢
    show (putRow (cur.setIfInBounds k v) (k + 1) r)[x]? = _
    rw [ih (k + 1) _ x (by simp; omega)]
    by_cases h1 : k + 1 ≤ x ∧ x < k + 1 + r.length
    · rw [if_pos h1, if_pos (by omega), show x - k = (x - (k + 1)) + 1 by omega]
      rfl
    · rw [if_neg h1, Array.getElem?_setIfInBounds]
      by_cases h2 : k = x
      · subst h2
        rw [if_pos rfl, if_pos (by omega), if_pos (by omega), Nat.sub_self]
        rfl
      · rw [if_neg h2, if_neg (by omega)]
theorem setRow_self' (w : World) (g : Nat) (cs : Array Value) (t : TypeId) (fr : Nat × Nat) (hg : w.heap[g]? = some (.cells cs t fr)) : w.setRow g cs = w := by
  have hlt : g < w.heap.size := (Array.getElem?_eq_some_iff.1 hg).1
  have hv : w.heap[g] = .cells cs t fr := (Array.getElem?_eq_some_iff.1 hg).2
  unfold World.setRow
  cases w with
  | mk heap tape drawn os output =>
    congr 1
    apply Array.ext
    · simp
    · intro k h1 h2
      simp only [Array.getElem_modify]
      split
      · rename_i hk; subst hk; simp at hv; simp [hv]
      · rfl
theorem run_storeCells_at (g off : Nat) (t : TypeId) : ∀ (vs : List Value) (i : Nat) (cur : Array Value) (w : World), w.heap[g]? = some (.cells cur t (0, 0)) → off + i + vs.length ≤ cur.size → (∀ v ∈ vs, v.oneCell' = true) →
    (storeCells ⟨g, off, none⟩ vs i).run P w = .ok () (w.setRow g (putRow cur (off + i) vs))
  | [], i, cur, w, hg, _, _ => by
    show Result.ok () w = _
    rw [show putRow cur (off + i) [] = cur from rfl, setRow_self' w g cur t _ hg]
  | v :: rest, i, cur, w, hg, hl, h1 => by
    have hi : off + i < cur.size := by simp at hl; omega
    have hcell : w.cell? ⟨g, off + i, none⟩ = some cur[off + i] := by simp [World.cell?, hg, hi]
    have hfro : w.frozen? ⟨g, off + i, none⟩ = false := by simp [World.frozen?, hg]
    have hst : (store ((⟨g, off, none⟩ : Addr).add i) v).run P w = .ok () (w.setRow g (cur.setIfInBounds (off + i) v)) := by
      rw [add_off, run_store P w _ v _ (h1 v (by simp)), hcell]
      simp [hfro, setCell_eq_setRow w g (off + i) cur t (0, 0) v hg]
    have ih := run_storeCells_at g off t rest (i + 1) (cur.setIfInBounds (off + i) v) (w.setRow g (cur.setIfInBounds (off + i) v)) (setRow_heap w g cur _ t _ hg) (by simp at hl ⊢; omega) (fun x hx => h1 x (by simp [hx]))
    simp only [storeCells, Sem.run_bind, hst, Result.andThen_ok, ih, setRow_setRow]
    rfl
theorem run_storeVar_at (w : World) (g off : Nat) (t ty : TypeId) (old cells : Array Value) (hg : w.heap[g]? = some (.cells old t (0, 0))) (hi : (P.info? ty).map (·.size) = some cells.size)
    (ho : off + cells.size ≤ old.size) (h1 : cells.all (·.oneCell') = true) :
    (storeVar ty ⟨g, off, none⟩ (.agg cells)).run P w = .ok () (w.setRow g (putRow old off cells.toList)) := by
  have := run_storeCells_at (P := P) g off t cells.toList 0 old w hg (by simp; omega) (fun v hv => (Array.all_eq_true_iff_forall_mem.1 h1) v (by simpa using hv))
  cases hq : P.info? ty with
  | none => simp [hq] at hi
  | some i =>
    have hs : cells.size = i.size := by simp [hq] at hi; omega
    simp [storeVar, sizeOf, typeInfo, hq, Value.cells, hs, this]
theorem wpList_store_at {ops : Array Oper} {rest : List Oper} {o : Oper} {a : Act} {w : World} {Q : Exit → Act → World → Prop} (hgd : o.guard = none) (ty : TypeId) (x y : Operand) (ho : o.op = .store ty x y)
    (g off : Nat) (cells : Array Value) (hx : a.eval x = .pointer (some ⟨g, off, none⟩)) (hy : a.eval y = .agg cells)
    (t : TypeId) (old : Array Value) (hg : w.heap[g]? = some (.cells old t (0, 0))) (hi : (P.info? ty).map (·.size) = some cells.size)
    (hold : off + cells.size ≤ old.size) (h1 : cells.all (·.oneCell') = true)
    (h : wpList P ops Q rest (a.put o.dst undef) (w.setRow g (putRow old off cells.toList))) : wpList P ops Q (o :: rest) a w :=
  wpList_plain hgd fun _ hK => by
    unfold Oper.wp execOp
    simp only [ho, hx, hy, Instr.storeAt, Instr.sureAddr, Sem.run_bind, Sem.run_pure, Result.andThen_ok, run_storeVar_at w g off t ty old cells hg hi hold h1]
    exact hK _ _ h
end

/-- A row of n structs of k cells. -/
def rowV (n k : Nat) (V : Nat → Array Value) : Array Value := Array.ofFn fun i : Fin (n * k) => (V (i.1 / k)).getD (i.1 % k) undef
def updV (V : Nat → Array Value) (i : Nat) (c : Array Value) : Nat → Array Value := fun j => if j = i then c else V j
theorem rowV_size (n k : Nat) (V : Nat → Array Value) : (rowV n k V).size = n * k := by simp [rowV]
theorem rowV_at {n k : Nat} {V : Nat → Array Value} (hV : ∀ i, (V i).size = k) {i j : Nat} (hi : i < n) (hj : j < k) : (rowV n k V)[i * k + j]? = (V i)[j]? := by
  have hk : 0 < k := by omega
  have h : i * k + j < n * k := by
    have := Nat.mul_le_mul_right k (show i + 1 ≤ n by omega)
    rw [Nat.succ_mul] at this
    omega
  have e1 : (i * k + j) / k = i := by rw [Nat.mul_comm, Nat.mul_add_div hk, Nat.div_eq_of_lt hj, Nat.add_zero]
  have e2 : (i * k + j) % k = j := by rw [Nat.mul_comm, Nat.mul_add_mod, Nat.mod_eq_of_lt hj]
  rw [Array.getElem?_eq_getElem (by rw [rowV_size]; exact h)]
  simp only [rowV, Array.getElem_ofFn, e1, e2]
  rw [Array.getD_eq_getD_getElem?, Array.getElem?_eq_getElem (by rw [hV]; exact hj)]
  rfl
theorem rowV_ext {n k : Nat} {V : Nat → Array Value} (hV : ∀ i, (V i).size = k) (hk : 0 < k) {a : Array Value} (hs : a.size = n * k) (h : ∀ i j, i < n → j < k → a[i * k + j]? = (V i)[j]?) : a = rowV n k V := by
  apply Array.ext_getElem?
  intro x
  by_cases hx : x < n * k
  · have hq : x / k < n := (Nat.div_lt_iff_lt_mul hk).2 hx
    have hr : x % k < k := Nat.mod_lt _ hk
    have e : x / k * k + x % k = x := by rw [Nat.mul_comm]; exact Nat.div_add_mod ..
    have h1 := h _ _ hq hr
    have h2 := rowV_at (n := n) hV hq hr
    rw [e] at h1 h2
    rw [h1, h2]
  · rw [Array.getElem?_eq_none (by omega), Array.getElem?_eq_none (by rw [rowV_size]; omega)]
theorem updV_size {k : Nat} {V : Nat → Array Value} (hV : ∀ i, (V i).size = k) {i : Nat} {c : Array Value} (hc : c.size = k) : ∀ j, (updV V i c j).size = k := fun j => by
  unfold updV
  split
  · exact hc
  · exact hV j
theorem pos_iff {k i i' j j' : Nat} (hj : j < k) (hj' : j' < k) : i * k + j = i' * k + j' ↔ i = i' ∧ j = j' := by
  constructor
  · intro h
    have hk : 0 < k := by omega
    have e1 : (i * k + j) / k = (i' * k + j') / k := by rw [h]
    have e2 : (i * k + j) % k = (i' * k + j') % k := by rw [h]
    rw [Nat.mul_comm i, Nat.mul_comm i', Nat.mul_add_div hk, Nat.mul_add_div hk, Nat.div_eq_of_lt hj, Nat.div_eq_of_lt hj'] at e1
    rw [Nat.mul_comm i, Nat.mul_comm i', Nat.mul_add_mod, Nat.mul_add_mod, Nat.mod_eq_of_lt hj, Nat.mod_eq_of_lt hj'] at e2
    exact ⟨by omega, e2⟩
  · rintro ⟨rfl, rfl⟩; rfl
theorem rowV_set {n k : Nat} {V : Nat → Array Value} (hV : ∀ i, (V i).size = k) {i j : Nat} (hi : i < n) (hj : j < k) (v : Value) : (rowV n k V).setIfInBounds (i * k + j) v = rowV n k (updV V i ((V i).setIfInBounds j v)) := by
  refine rowV_ext (updV_size hV (by simp [hV])) (by omega) (by simp [rowV_size]) fun i' j' hi' hj' => ?_
  rw [Array.getElem?_setIfInBounds, rowV_at hV hi' hj']
  have hlt : i * k + j < (rowV n k V).size := by
    rw [rowV_size]
    have := Nat.mul_le_mul_right k (show i + 1 ≤ n by omega)
    rw [Nat.succ_mul] at this
    omega
  unfold updV
  by_cases h : i * k + j = i' * k + j'
  · obtain ⟨rfl, rfl⟩ := (pos_iff hj hj').1 h
    rw [if_pos rfl, if_pos hlt, if_pos rfl, Array.getElem?_setIfInBounds, if_pos rfl, if_pos (by rw [hV]; exact hj)]
  · rw [if_neg h]
    by_cases h2 : i' = i
    · subst h2
      have hne : j ≠ j' := fun e => h ((pos_iff hj hj').2 ⟨rfl, e⟩)
      rw [if_pos rfl, Array.getElem?_setIfInBounds, if_neg hne]
    · rw [if_neg h2]
theorem rowV_put {n k : Nat} {V : Nat → Array Value} (hV : ∀ i, (V i).size = k) (hk : 0 < k) {i : Nat} (hi : i < n) {c : Array Value} (hc : c.size = k) : putRow (rowV n k V) (i * k) c.toList = rowV n k (updV V i c) := by
  have hle : i * k + k ≤ n * k := by
    have := Nat.mul_le_mul_right k (show i + 1 ≤ n by omega)
    rw [Nat.succ_mul] at this
    exact this
  refine rowV_ext (updV_size hV hc) hk (by rw [putRow_size, rowV_size]) fun i' j' hi' hj' => ?_
  rw [putRow_at _ _ _ _ (by rw [rowV_size]; simp [hc]; exact hle), rowV_at hV hi' hj']
  simp only [Array.length_toList, hc]
  unfold updV
  by_cases h2 : i' = i
  · subst h2
    rw [if_pos (by omega), if_pos rfl, show i' * k + j' - i' * k = j' by omega, Array.getElem?_toList]
  · rw [if_neg h2, if_neg]
    rintro ⟨a, b⟩
    have e1 : i' * k + j' = i * k + (i' * k + j' - i * k) := by omega
    have := (pos_iff hj' (show i' * k + j' - i * k < k by omega)).1 e1
    exact h2 this.1
end Go.Proofs.YtljbhdldfffpfaaGreat.Hp
