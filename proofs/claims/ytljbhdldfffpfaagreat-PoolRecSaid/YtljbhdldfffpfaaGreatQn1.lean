/- PoolNone, a part. -/
import Derived.WalkKit
import Derived.WalkSpells
import Derived.WalkLawsBesides
import Derived.Maps.OwnSet
import Derived.Lib.SlKeysI
import Derived.StillTailTactics
import Derived.Laws.Rows
import Derived.Test.YtljbhdldfffpfaaGreatRows
import Derived.ProofKit
import Derived.OpenShut
import Derived.Below
import Derived.Carry
import Derived.Lib.Hide
import Derived.Lib.AppendZerosOnto
import Derived.Lib.SliceRun
import Derived.Laws.CopyOwn
import Derived.Laws.BytesString
import Derived.OwnWalk
import Derived.Deep.LoopGhost
import Derived.Deep.DeepCutAuto
import Derived.Deep.RegionWith
import Derived.BigQuiet
namespace Go.Proofs.YtljbhdldfffpfaaGreat
open Go.RowKit Go.Maps Go.ChangeMaps Go.MapKept
open Go.WideElems (Fit rd rg pl rd_val elemAt)

/-- An element reads as itself. -/
def tokR (v : Value) : Option (DataW Value × List MemPlace) := some (.held v, [])

def atF (D : DataW Value) (i : Int) : Option Value := match D.atKey (.int .i64 i) .nil with | .held v => some v | _ => none

/-- Block b holds a map that is m. -/
def fm (w : World) (P : Program) (k b : Nat) (m : Int → Option Value) : Prop := ∃ D : DataW Value, w.ownsMap P k tokR b (size D) D ∧ ∀ i, m i = atF D i

def upd {α : Type} (m : Int → α) (i : Int) (v : α) : Int → α := fun j => if j = i then v else m j

theorem upd_same {α : Type} (m : Int → α) (i : Int) (v : α) : upd m i v i = v := by simp [upd]
theorem upd_other {α : Type} (m : Int → α) {i j : Int} (h : j ≠ i) (v : α) : upd m i v j = m j := by simp [upd, h]

section
variable {P : Program} {k t e b : Nat} {m : Int → Option Value} {w : World} {D : DataW Value} {n : Nat}

theorem owns_size (h : w.ownsMap P k tokR b n D) : w.ownsMap P k tokR b (size D) D := by
  obtain ⟨es, clock, hb, F, hs, hD⟩ := h
  exact ⟨es, clock, hb, F, by subst hD; simp [size, length_sorted], hD⟩

theorem keyLit (i : Int) : WideAt.IsKeyLit (.int .i64 i) := by trivial

theorem fm.lt (h : fm w P k b m) : b < w.heap.size := by obtain ⟨D, hD, _⟩ := h; exact hD.lt

theorem fm.of_block {w' : World} (h : fm w P k b m) (hb : w'.heap[b]? = w.heap[b]?) : fm w' P k b m := by
  obtain ⟨D, ⟨es, clock, h1, h2⟩, hm⟩ := h
  exact ⟨D, ⟨es, clock, hb.trans h1, h2⟩, hm⟩

theorem fm_made (w : World) (P : Program) (k : Nat) : fm (w.alloc (.map #[] 0)) P k w.heap.size (fun _ => none) :=
  ⟨.map [], World.ownsMap_made w P k tokR, fun _ => rfl⟩

theorem atKey_has {i : Int} (h : has D (.int .i64 i) = true) (z z' : DataW Value) : D.atKey (.int .i64 i) z = D.atKey (.int .i64 i) z' := by
  cases D <;> try (cases h; done)
  rename_i es
  unfold DataW.atKey
  cases hf : es.find? (fun p => p.1.sameKey (.int .i64 i)) with
  | some p => simp [hf]
  | none =>
    rw [has_eq] at h
    obtain ⟨p, hp, hs⟩ := List.any_eq_true.1 h
    exact absurd hs (by simpa using List.find?_eq_none.1 hf p hp)

/-- What stands at a key, by a look-up. -/
theorem look_atF (h : w.ownsMap P k tokR b n D) (K : Keyed P k) (ht : P.underlying t = some (.map k e)) (hk : P.underlying k = some (.int .i64)) {z : Value} (hz : (zeroValue e).run P w = .ok z w) {i : Int} (hw : (Lit.int .i64 i).wf = true) :
    (Instr.lookup t (.map (some b)) (.int .i64 i) true).run P w = .ok (.tuple #[(atF D i).getD z, .bool (atF D i).isSome]) w ∧ (Instr.lookup t (.map (some b)) (.int .i64 i) false).run P w = .ok ((atF D i).getD z) w ∧ has D (.int .i64 i) = (atF D i).isSome := by
  have hkey := keyOf_int_mk hk hw
  obtain ⟨v, ps, hrun, hv⟩ := h.look_ok K ht hz (zd := .held z) (zp := []) rfl hkey
  obtain ⟨v', ps', hrun', hv'⟩ := h.lookup K ht hz (zd := .held z) (zp := []) rfl hkey
  have e1 : D.atKey (.int .i64 i) (.held z) = .held v := by have := congrArg (Option.map Prod.fst) hv; simpa [tokR] using this.symm
  have e2 : D.atKey (.int .i64 i) (.held z) = .held v' := by have := congrArg (Option.map Prod.fst) hv'; simpa [tokR] using this.symm
  have e3 : v' = v := by have := e2.symm.trans e1; simpa using this
  subst e3
  cases hh : has D (.int .i64 i) with
  | true =>
    have e4 : atF D i = some v' := by unfold atF; rw [atKey_has hh .nil (.held z), e1]
    rw [hh] at hrun
    rw [e4]
    exact ⟨hrun, hrun', rfl⟩
  | false =>
    have e4 : atF D i = none := by unfold atF; rw [atKey_of_not_has hh]
    have e5 : v' = z := by have := e1.symm.trans (atKey_of_not_has hh _); simpa using this
    subst e5
    rw [hh] at hrun
    rw [e4]
    exact ⟨hrun, hrun', rfl⟩

theorem fm.look (h : fm w P k b m) (K : Keyed P k) (ht : P.underlying t = some (.map k e)) (hk : P.underlying k = some (.int .i64)) {z : Value} (hz : (zeroValue e).run P w = .ok z w) {i : Int} (hw : (Lit.int .i64 i).wf = true) :
    (Instr.lookup t (.map (some b)) (.int .i64 i) false).run P w = .ok ((m i).getD z) w := by
  obtain ⟨D, hD, hm⟩ := h
  rw [hm i]; exact (look_atF hD K ht hk hz hw).2.1

theorem fm.look_ok (h : fm w P k b m) (K : Keyed P k) (ht : P.underlying t = some (.map k e)) (hk : P.underlying k = some (.int .i64)) {z : Value} (hz : (zeroValue e).run P w = .ok z w) {i : Int} (hw : (Lit.int .i64 i).wf = true) :
    (Instr.lookup t (.map (some b)) (.int .i64 i) true).run P w = .ok (.tuple #[(m i).getD z, .bool (m i).isSome]) w := by
  obtain ⟨D, hD, hm⟩ := h
  rw [hm i]; exact (look_atF hD K ht hk hz hw).1

theorem atF_put (h : w.ownsMap P k tokR b n D) {i : Int} (v : Value) (j : Int) : atF (D.put (.int .i64 i) (.held v)) j = upd (atF D) i (some v) j := by
  unfold upd
  by_cases hj : j = i
  · subst hj
    rw [if_pos rfl]
    unfold atF
    rw [atKey_put_same h.isMap (keyLit _)]
  · rw [if_neg hj]
    unfold atF
    rw [atKey_put_other (by intro e; exact hj (by simpa using e))]

/-- The keys, as a list without repeats. -/
theorem keys_facts (h : w.ownsMap P k tokR b n D) (K : Keyed P k) (hk : P.underlying k = some (.int .i64)) : (intKeys D).Nodup ∧ (∀ x, x ∈ intKeys D ↔ has D (.int .i64 x) = true) ∧ (intKeys D).length = size D := by
  obtain ⟨es, hD, hpw, _⟩ := h.entries K
  obtain ⟨es', hD', hko⟩ := h.keysOf
  obtain rfl : es = es' := by rw [hD] at hD'; simpa using hD'
  subst hD
  have hks : ∀ p ∈ es, ∃ x, p.1 = .int .i64 x := fun p hp => by obtain ⟨v, hv⟩ := hko p hp; obtain ⟨x, _, hx, _⟩ := Maps.keyOf_i64 hk hv; exact ⟨x, hx⟩
  refine ⟨?_, fun x => ?_, by simp [intKeys, size]⟩
  · show (es.map fun p => intOf p.1).Nodup
    refine List.pairwise_map.2 (hpw.imp_of_mem fun {p q} hp' hq' hne e => hne ?_)
    obtain ⟨a, ha⟩ := hks p hp'
    obtain ⟨b, hb⟩ := hks q hq'
    rw [ha, hb] at e ⊢
    exact congrArg _ e
  · rw [has_eq, List.any_eq_true]
    show x ∈ es.map (fun p => intOf p.1) ↔ _
    rw [List.mem_map]
    constructor
    · rintro ⟨p, hp', rfl⟩
      obtain ⟨a, ha⟩ := hks p hp'
      exact ⟨p, hp', by rw [ha]; simp [Lit.sameKey, intOf]⟩
    · rintro ⟨p, hp', hs⟩
      obtain ⟨a, ha⟩ := hks p hp'
      rw [ha] at hs
      exact ⟨p, hp', by rw [ha]; simpa [Lit.sameKey, intOf] using hs⟩

theorem nodup_bound {l : List Int} (h : l.Nodup) {N : Nat} (hb : ∀ x ∈ l, 0 ≤ x ∧ x < N) : l.length ≤ N := by
  have h1 : (l.map Int.toNat).Nodup := by
    refine List.pairwise_map.2 (h.imp_of_mem fun {p q} hp hq hne e => hne ?_)
    have := hb p hp; have := hb q hq; omega
  have h2 := List.Nodup.length_le_of_subset h1 (l₂ := List.range N) (by
    intro x hx
    obtain ⟨y, hy, rfl⟩ := List.mem_map.1 hx
    have := hb y hy
    exact List.mem_range.2 (by omega))
  simpa using h2

theorem size_bound (h : w.ownsMap P k tokR b n D) (K : Keyed P k) (ht : P.underlying t = some (.map k e)) (hk : P.underlying k = some (.int .i64)) {z : Value} (hz : (zeroValue e).run P w = .ok z w) {N : Nat} (hb : ∀ i, (atF D i).isSome = true → 0 ≤ i ∧ i < N) : size D ≤ N := by
  obtain ⟨h1, h2, h3⟩ := keys_facts h K hk
  rw [← h3]
  refine nodup_bound h1 fun x hx => hb x ?_
  have hw := intKeys_wf h hk x hx
  rw [← (look_atF h K ht hk hz hw).2.2]
  exact (h2 x).1 hx

theorem fm.store (h : fm w P k b m) (K : Keyed P k) (ht : P.underlying t = some (.map k e)) (hk : P.underlying k = some (.int .i64)) {z : Value} (hz : (zeroValue e).run P w = .ok z w) {N : Nat} (hN : N < maxLen) (hb : ∀ i, (m i).isSome = true → 0 ≤ i ∧ i < N)
    {i : Int} (hw : (Lit.int .i64 i).wf = true) (v : Value) : ∃ w', (Instr.mapUpdate t (.map (some b)) (.int .i64 i) v).run P w = .ok () w' ∧ fm w' P k b (upd m i (some v)) ∧ w.mapTurned w' b := by
  obtain ⟨D, hD, hm⟩ := h
  have hs := size_bound hD K ht hk hz (N := N) (fun i hi => hb i (by rw [hm i]; exact hi))
  obtain ⟨w', r1, r2, r3⟩ := hD.store K ht (by omega) (keyOf_int_mk hk hw) (d := .held v) (ps := []) (val := v) rfl
  refine ⟨w', r1, ⟨_, owns_size r2, fun j => ?_⟩, r3⟩
  rw [atF_put hD v j]
  unfold upd
  rw [hm j]

theorem fm.clear (h : fm w P k b m) (ht : P.underlying t = some (.map k e)) (ty : TypeId) : ∃ w', (Builtin.clear_ #[t] ty #[.map (some b)]).run P w = .ok (.tuple #[]) w' ∧ fm w' P k b (fun _ => none) ∧ w.mapTurned w' b := by
  obtain ⟨D, ⟨es, clock, hb, F, hs, hD⟩, hm⟩ := h
  refine ⟨setBlock w b (.map #[] clock), ?_, ⟨.map [], ⟨#[], clock, heap_setBlock_same hb _, ⟨by simp, stamped_empty clock, by simp⟩, by simp [size], rfl⟩, fun _ => rfl⟩, ⟨es, clock, #[], clock, hb, rfl⟩⟩
  simp [Builtin.clear_, run_underlying ht, MapKept.run_getObj_map hb, MapKept.run_setObj_map _ hb, Result.andThen, setBlock]
end

section
variable {P : Program} {w : World}
theorem wpList_clear {ops : Array Oper} {rest : List Oper} {o : Oper} {a : Act} {Q : Exit → Act → World → Prop} (hg : o.guard = none) (x : Operand) (t : TypeId) (hop : o.op = Op.call { callee := Callee.builtin Builtin.clear, args := #[x], argTypes := #[t] })
    (k e b : Nat) (m : Int → Option Value) (ht : P.underlying t = some (.map k e)) (hx : a.eval x = .map (some b)) (h : fm w P k b m)
    (hK : ∀ w', fm w' P k b (fun _ => none) → w.mapTurned w' b → wpList P ops Q rest (a.put o.dst (.tuple #[])) w') : wpList P ops Q (o :: rest) a w := by
  refine wpList_plain hg fun K' hK' => ?_
  obtain ⟨w', hrun, r1, r2⟩ := h.clear ht o.type
  unfold Oper.wp
  simp [execOp, hop, resolve, invoke, builtin, hx, hrun, Result.andThen]
  exact hK' _ _ (hK w' r1 r2)

/-- A whole array out of a variable, as one step of a region that draws. -/
theorem wpStill_load_row {ops : Array Oper} {rest : List Oper} {o : Oper} {a : Act} {Q : Act → Prop} (hgd : o.guard = none) (ty : TypeId) (x : Operand) (ho : o.op = .load ty x)
    (g : Nat) (hx : a.eval x = .pointer (some ⟨g, 0, none⟩)) (t : TypeId) (cs : Array Value) (fr : Nat × Nat) (d : TypeDesc) (hg : w.heap[g]? = some (.cells cs t fr))
    (hu : P.underlying ty = some d) (hd : (match d with | .struct _ | .array _ _ => true | _ => false) = true) (hi : (P.info? ty).map (·.size) = some cs.size)
    (h : wpStill P ops w Q rest (a.put o.dst (.agg cs))) : wpStill P ops w Q (o :: rest) a := by
  refine wpStill_step fun K hK => ?_
  have hw : Region.wanted o (yielded ops a.tmps) = true := by simp [Region.wanted, hgd]
  rw [if_pos hw]
  unfold Oper.still execOp
  simp only [ho, hx, Instr.loadAt, Instr.sureAddr, Sem.run_bind, Sem.run_pure, Result.andThen_ok, run_loadVar_row w g t ty cs fr d hg hu hd hi]
  exact ⟨rfl, hK _ h⟩
end
end Go.Proofs.YtljbhdldfffpfaaGreat
namespace Go.Proofs.YtljbhdldfffpfaaGreat
open Go.ChangeShapes Go.WideShapes Go.ChangeAt Go.RowKit

section
variable {H : Type} {enc : TypeId × Value → H} {P : Program}

theorem trodAll_below (hl : laidOutB P = true) {W W' : World} (hb : Below W.heap.size W W') : ∀ (ts : List TypeId) (vs : List Value) (ds : List (DataW H)) (ps : List MemPlace), (∀ t ∈ ts, P.readableRec t = true ∧ t < P.types.size) →
    DataW.TrodAll enc P W 0 (fun _ => true) true ts vs ds ps → (∀ x ∈ ps, x.block < W.heap.size) → DataW.TrodAll enc P W' 0 (fun b => decide (b < W.heap.size)) true ts vs ds ps
  | [], [], [], _, _, h, _ => h
  | t :: ts, v :: vs, d :: ds, _, hr, h, hlt => by
    obtain ⟨p, q, h1, h2, rfl⟩ := h
    exact ⟨p, q, Below.trod hl (hr t (by simp)).1 (hr t (by simp)).2 h1 hb (fun x hx => hlt x (by simp [hx])),
      trodAll_below hl hb ts vs ds q (fun t ht => hr t (by simp [ht])) h2 (fun x hx => hlt x (by simp [hx])), rfl⟩
  | [], _ :: _, _, _, _, h, _ => h.elim
  | [], [], _ :: _, _, _, h, _ => h.elim
  | _ :: _, [], _, _, _, h, _ => h.elim
  | _ :: _, _ :: _, [], _, _, h, _ => h.elim

theorem law_post {f : Func} {s : ChangeSpec} {W W' : World} {args : Array Value} {ds : List (DataW H)} {ps : List MemPlace} (hl : laidOutB P = true) {tb : TypeId} (hu : P.underlying tb = some .bool) (hrt : f.resultTypes = #[tb])
    (hr : ∀ t ∈ f.params.toList, P.readableRec t = true ∧ t < P.types.size) (hv : s.vars = []) (hW : DataW.Whole enc P f.params.toList s.vars false W args.toList ds [] ps)
    (hfn : s.fn H ds = { results := [.lit (.bool true)], args := ds }) (hb : Below W.heap.size W W') : s.post enc P f false true false false W args (.bool true) W' := by
  have hlt := hW.lt
  have hW0 := hW
  obtain ⟨p, q, hA, hV, rfl, _, _⟩ := hW
  rw [hv] at hV
  obtain ⟨_, rfl⟩ := trodVars_none hV
  refine ⟨ds, [], p ++ [], [], p, [], hW0, ?_, ?_, ?_, hb.frame _, fun h => by cases h⟩
  · rw [List.append_nil, hfn, hrt]
    exact trodAll_cons_mk (shut_bool hu _) trodAll_mk0
  · rw [List.append_nil, hfn]
    exact trodAll_below hl hb _ _ _ _ hr hA (fun x hx => hlt x (by simp [hx]))
  · rw [List.append_nil, hfn, hv]
    rfl

/-- A slice value that reads as integers of a kind. -/
def SlK (q : IntKind) (w : World) (v : Value) (l : List Int) : Prop := ∃ p cap, v = .slice p l.length cap ∧ l.length ≤ cap ∧ (∀ x ∈ l, (Lit.int q x).wf = true) ∧ (p = none → l = [] ∧ cap = 0) ∧
  ∀ a, p = some a → a.spot = none ∧ a.block < w.heap.size ∧ ∀ j (h : j < l.length), w.cell? ⟨a.block, a.off + j, none⟩ = some (.int q l[j])

end
end Go.Proofs.YtljbhdldfffpfaaGreat
namespace Go.Proofs.YtljbhdldfffpfaaGreat
open Go.RowKit

def byteV (l : List Int) : List Value := l.map (Value.int .u8)
def bytesOk (l : List Int) : Prop := ∀ x ∈ l, 0 ≤ x ∧ x < 256
theorem byteV_one (l : List Int) : ∀ v ∈ byteV l, v.oneCell' = true := by
  intro v hv
  obtain ⟨x, _, rfl⟩ := List.mem_map.1 hv
  rfl

theorem cell_of {w : World} {p : Nat} {cs : Array Value} {t : TypeId} (h : w.heap[p]? = some (.cells cs t (0, 0))) (i : Nat) : w.cell? ⟨p, i, none⟩ = cs[i]? ∧ w.frozen? ⟨p, i, none⟩ = false := by
  simp [World.cell?, World.frozen?, h]

/-- A block is a row of these bytes. -/
def Blk (w : World) (g : Nat) (l : List Int) : Prop := w.heap[g]? = some (.cells (byteV l).toArray 5 (0, 0))

/-- A slice that lies somewhere and reads as these bytes. -/
def Pt (w : World) (v : Value) (l : List Int) : Prop := ∃ b off cap, v = .slice (some ⟨b, off, none⟩) l.length cap ∧ l.length ≤ cap ∧ b < w.heap.size ∧ ∀ j (h : j < l.length), w.cell? ⟨b, off + j, none⟩ = some (.int .u8 l[j])

theorem Blk.lt {w : World} {g : Nat} {l : List Int} (h : Blk w g l) : g < w.heap.size := (Array.getElem?_eq_some_iff.1 h).1
theorem Blk.cell {w : World} {g : Nat} {l : List Int} (h : Blk w g l) {j : Nat} (hj : j < l.length) : w.cell? ⟨g, j, none⟩ = some (.int .u8 l[j]) := by
  rw [(cell_of h j).1]; simp [byteV, hj]
theorem Blk.old {B : Nat} {w w' : World} {g : Nat} {l : List Int} (h : Blk w g l) (hb : Below B w w') (hB : g < B) : Blk w' g l := (hb.block g hB).trans h
theorem Blk.pt {w : World} {g : Nat} {l : List Int} (h : Blk w g l) {n c : Nat} (hn : n = l.length) (hc : n ≤ c) : Pt w (.slice (some ⟨g, 0, none⟩) n c) l :=
  ⟨g, 0, c, by rw [hn], by omega, h.lt, fun j hj => by rw [Nat.zero_add]; exact h.cell hj⟩
theorem Pt.below {B : Nat} {w w' : World} {v : Value} {l : List Int} (h : Pt w v l) (hb : Below B w w') (hB : w.heap.size ≤ B) : Pt w' v l := by
  obtain ⟨b, off, cap, rfl, h1, h2, h3⟩ := h
  have := hb.size
  refine ⟨b, off, cap, rfl, h1, ?_, fun j hj => ?_⟩
  · by_cases h0 : b < w'.heap.size
    · exact h0
    · have h4 := hb.block b (by omega)
      rw [Array.getElem?_eq_none (by omega), Array.getElem?_eq_getElem h2] at h4
      cases h4
  · rw [← h3 j hj]
    exact World.cell?_of_block (hb.block b (by omega))

theorem SlK.below {q : IntKind} {B : Nat} {w w' : World} {v : Value} {l : List Int} (h : SlK q w v l) (hb : Below B w w') (hB : w.heap.size ≤ B) : SlK q w' v l := by
  obtain ⟨p, cap, rfl, h1, h2, h3, h4⟩ := h
  refine ⟨p, cap, rfl, h1, h2, h3, fun a ha => ?_⟩
  obtain ⟨h5, h6, h7⟩ := h4 a ha
  refine ⟨h5, ?_, fun j hj => ?_⟩
  · by_cases h0 : a.block < w'.heap.size
    · exact h0
    · have h8 := hb.block a.block (by omega)
      rw [Array.getElem?_eq_none (by omega), Array.getElem?_eq_getElem h6] at h8
      cases h8
  · rw [← h7 j hj]
    exact World.cell?_of_block (hb.block a.block (by omega))

theorem Pt.slK {w : World} {v : Value} {l : List Int} (h : Pt w v l) (hb : bytesOk l) : SlK .u8 w v l := by
  obtain ⟨b, off, cap, rfl, h1, h2, h3⟩ := h
  refine ⟨_, cap, rfl, h1, fun x hx => ?_, (fun e => by cases e), fun a e => by cases e; exact ⟨rfl, h2, h3⟩⟩
  have := hb x hx
  exact WalkArith.wf_u8 (by omega)

theorem SlK.ok {w : World} {v : Value} {l : List Int} (h : SlK .u8 w v l) : bytesOk l := by
  obtain ⟨p, cap, rfl, h1, h2, h3, h4⟩ := h
  exact fun x hx => by have := bounds_u8 (h2 x hx); omega

theorem infoU8 : (Tryz.prog.info? 5).map (fun i => (i.zero, i.size, i.bytes)) = some (some (.int .u8 0), 1, 1) := by kernel_rfl
theorem info5 : (Tryz.prog.info? 5).map (·.size) = some 1 := by kernel_rfl
end Go.Proofs.YtljbhdldfffpfaaGreat
