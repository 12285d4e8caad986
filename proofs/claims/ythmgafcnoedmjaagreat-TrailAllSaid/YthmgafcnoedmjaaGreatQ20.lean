/- TrailAll, a part. -/
import Derived.Test.YthmgafcnoedmjaaGreatQ8
import Derived.Laws.BytesString
import Derived.Laws.IdiomStrings
import Derived.Lib.ConvBytes
import Derived.StillTailTactics
import Derived.Test.YthmgafcnoedmjaaGreatQ1
import Derived.Deep.RegionLaw
import Derived.OwnWalk
namespace Go.Proofs.YthmgafcnoedmjaaGreat
open Go.RowKit Go.Maps
structure Rf where
 k : Nat
 now : Nat → ByteArray
 was : Nat → ByteArray
 wet : Nat → Bool
 off : Bool
 on : Bool
 at_ : Int
 mv : Value
 mask : List Int
def RowF (w : World) (g : Nat) (t : TypeId) (k : Nat) (f : Nat → Value) : Prop := ∃ cur, w.heap[g]? = some (.cells cur t (0, 0)) ∧ ∀ i, i < k → cur[i]? = some (f i)
def SlR (v : Value) (g k : Nat) : Prop := ∃ p c, v = .slice p k c ∧ k ≤ c ∧ (p = none → k = 0) ∧ ∀ a, p = some a → a = ⟨g, 0, none⟩
theorem RowF.cell {w : World} {g k : Nat} {t : TypeId} {f : Nat → Value} (h : RowF w g t k f) {i : Nat} (hi : i < k) : w.cell? ⟨g, i, none⟩ = some (f i) ∧ w.frozen? ⟨g, i, none⟩ = false := by
 obtain ⟨cur, h1, h2⟩ := h
 exact ⟨(c_o h1 i).1.trans (h2 i hi), (c_o h1 i).2⟩
theorem RowF.of_block {w w' : World} {g k : Nat} {t : TypeId} {f : Nat → Value} (h : RowF w g t k f) (hb : w'.heap[g]? = w.heap[g]?) : RowF w' g t k f := by
 obtain ⟨cur, h1, h2⟩ := h
 exact ⟨cur, hb.trans h1, h2⟩
def updN {α : Type} (f : Nat → α) (i : Nat) (v : α) : Nat → α := fun j => if j = i then v else f j
theorem RowF.set {w : World} {g k : Nat} {t : TypeId} {f : Nat → Value} (h : RowF w g t k f) (i : Nat) (v : Value) : RowF (w.setCell ⟨g, i, none⟩ v) g t k (updN f i v) := by
 obtain ⟨cur, h1, h2⟩ := h
 refine ⟨cur.setIfInBounds i v, heap_setCell_same w g i _ _ _ h1, fun j hj => ?_⟩
 unfold updN
 have h3 := h2 j hj
 rw [Array.getElem?_setIfInBounds]
 by_cases e : j = i
 ·subst e
  have : j < cur.size := (Array.getElem?_eq_some_iff.1 h3).1
  simp [this]
 ·rw [if_neg e, if_neg (fun e' => e e'.symm)]; exact h3
theorem SlR.some {v : Value} {g k : Nat} (h : SlR v g k) (hk : 0 < k) : ∃ c, v = .slice (some ⟨g, 0, none⟩) k c ∧ k ≤ c := by
 obtain ⟨p, c, rfl, h1, h2, h3⟩ := h
 cases p with
 | none => have := h2 rfl; omega
 | some a => obtain rfl := h3 a rfl; exact ⟨c, rfl, h1⟩
structure RfAt (w : World) (r gn gw gt gm : Nat) (vn vw vt : Value) (d : Rf) : Prop where
 cells : w.heap[r]? = some (.cells #[vn, vw, vt, .bool d.off, .bool d.on, .int .i64 d.at_, d.mv] 57 (0, 0))
 sn : SlR vn gn d.k
 sw : SlR vw gw d.k
 st : SlR vt gt d.k
 now : 0 < d.k → RowF w gn 9 d.k (fun i => .string (d.now i))
 was : 0 < d.k → RowF w gw 9 d.k (fun i => .string (d.was i))
 wet : 0 < d.k → RowF w gt 4 d.k (fun i => .bool (d.wet i))
 mask : SlB w d.mv d.mask gm
 ne : r ≠ gn ∧ r ≠ gw ∧ r ≠ gt ∧ gn ≠ gw ∧ gn ≠ gt ∧ gw ≠ gt ∧ gm ≠ r ∧ gm ≠ gn ∧ gm ≠ gw ∧ gm ≠ gt
 kle : d.k ≤ 2000
 ok : d.on = true → -1 ≤ d.at_ ∧ d.at_ ≤ 9223372036854775807
 mok : bytesOk d.mask
 nil0 : d.k = 0 → ∀ g, SlR vn g d.k ∧ SlR vw g d.k ∧ SlR vt g d.k
section
variable {w : World} {r gn gw gt gm : Nat} {vn vw vt : Value} {d : Rf}
theorem RfAt.c0 (h : RfAt w r gn gw gt gm vn vw vt d) : w.cell? ⟨r, 0, none⟩ = some vn := (c_o h.cells 0).1
theorem RfAt.c1 (h : RfAt w r gn gw gt gm vn vw vt d) : w.cell? ⟨r, 1, none⟩ = some vw := (c_o h.cells 1).1
theorem RfAt.c2 (h : RfAt w r gn gw gt gm vn vw vt d) : w.cell? ⟨r, 2, none⟩ = some vt := (c_o h.cells 2).1
theorem RfAt.c3 (h : RfAt w r gn gw gt gm vn vw vt d) : w.cell? ⟨r, 3, none⟩ = some (.bool d.off) := (c_o h.cells 3).1
theorem RfAt.c4 (h : RfAt w r gn gw gt gm vn vw vt d) : w.cell? ⟨r, 4, none⟩ = some (.bool d.on) := (c_o h.cells 4).1
theorem RfAt.c5 (h : RfAt w r gn gw gt gm vn vw vt d) : w.cell? ⟨r, 5, none⟩ = some (.int .i64 d.at_) := (c_o h.cells 5).1
theorem RfAt.c6 (h : RfAt w r gn gw gt gm vn vw vt d) : w.cell? ⟨r, 6, none⟩ = some d.mv := (c_o h.cells 6).1
theorem RfAt.fz (h : RfAt w r gn gw gt gm vn vw vt d) (i : Nat) : w.frozen? ⟨r, i, none⟩ = false := (c_o h.cells i).2
theorem SlB.keep {w w' : World} {v : Value} {l : List Int} {g : Nat} (h : SlB w v l g) (hb : w'.heap[g]? = w.heap[g]?) : SlB w' v l g := by
 obtain ⟨p0, len, cap, e, e2, hle, hcap, hn, ha⟩ := h
 refine ⟨p0, len, cap, e, e2, hle, hcap, hn, fun a hpa hne => ?_⟩
 obtain ⟨h1, h2, h3⟩ := ha a hpa hne
 exact ⟨h1, h2, fun j hj => (World.cell?_of_block hb).trans (h3 j hj)⟩
theorem RfAt.kept {w' : World} (h : RfAt w r gn gw gt gm vn vw vt d) (hb : ∀ g, g = r ∨ g = gn ∨ g = gw ∨ g = gt ∨ g = gm → w'.heap[g]? = w.heap[g]?) : RfAt w' r gn gw gt gm vn vw vt d :=
 ⟨(hb r (by simp)).trans h.cells, h.sn, h.sw, h.st, fun k => (h.now k).of_block (hb _ (by simp)), fun k => (h.was k).of_block (hb _ (by simp)), fun k => (h.wet k).of_block (hb _ (by simp)), h.mask.keep (hb _ (by simp)), h.ne, h.kle, h.ok, h.mok, h.nil0⟩
theorem rcut_off (h : RfAt w r gn gw gt gm vn vw vt d) (ho : d.on = false) : Calls Tryz.prog 48 #[.pointer (some ⟨r, 0, none⟩)] w fun e w' => e = .returned (.bool false) ∧ w' = w := by
 have c4 := h.c4
 rw [ho] at c4
 go_enter Tryz.func48, Tryz.ntmps48
 go_wp2
 go_ret
 exact ⟨rfl, rfl⟩
theorem rcut_on (h : RfAt w r gn gw gt gm vn vw vt d) (ho : d.on = true) (b0 : 0 ≤ d.at_) : Calls Tryz.prog 48 #[.pointer (some ⟨r, 0, none⟩)] w fun e w' => e = .returned (.bool (decide (d.at_ = 0))) ∧ w' = w.setCell ⟨r, 5, none⟩ (.int .i64 (d.at_ - 1)) := by
 have c4 := h.c4
 rw [ho] at c4
 have c5 := h.c5
 have f5 := h.fz 5
 obtain ⟨-, b1⟩ := h.ok ho
 go_enter Tryz.func48, Tryz.ntmps48
 go_wp2
 go_ret
 refine ⟨?_, rfl⟩
 by_cases e : d.at_ = 0
 ·simp [e]
 ·have e2 : ¬ d.at_ - 1 < 0 := by omega
  simp [e, e2]
theorem below_bytes {B : Nat} {w : World} (hB : B ≤ w.heap.size) (e : TypeId) (s : ByteArray) : Below B w (Lib.bytesWorld w e s) :=
 ⟨rfl, rfl, rfl, by rw [Lib.bytesWorld_size]; omega, fun k hk => Lib.bytesWorld_at_old w e s k (by omega)⟩
end
open Go.RowKit Go.Maps
theorem and_one (y : Int) : bits BinOp.and IntKind.u8 y 1 = 0 ∨ bits BinOp.and IntKind.u8 y 1 = 1 := by
 have h : bits BinOp.and IntKind.u8 y 1 = IntKind.u8.wrap ((BitVec.ofInt 8 y &&& BitVec.ofInt 8 1).toNat : Int) := rfl
 rw [h, BitVec.toNat_and, show (BitVec.ofInt 8 1).toNat = 1 from rfl, Nat.and_one_is_mod, IntWalk.u8_in _ (by omega)]
 omega
def bitR (ms : List Int) (i : Nat) : Bool := match ms[i / 8]? with | some x => (bits BinOp.and IntKind.u8 (x / 2 ^ (i % 8)) 1 == 1) | none => false
def wetK (f : Nat → Bool) : Nat → Nat
 | 0 => 0
 | i + 1 => if f i = true then wetK f i + 1 else wetK f i
theorem wetK_le (f : Nat → Bool) (i : Nat) : wetK f i ≤ i := by
 induction i with
 | zero => exact Nat.le_refl _
 | succ i ih => unfold wetK; split <;> omega
def Rf.cr (d : Rf) (ms : List Int) (i : Nat) : Rf := { d with
 now := fun j => if j < i ∧ d.wet j = true ∧ bitR ms (wetK d.wet j) = false then d.was j else d.now j
 was := fun j => if j < i ∧ d.wet j = true then (if bitR ms (wetK d.wet j) = false then d.was j else d.now j) else d.was j
 wet := fun j => if j < i then false else d.wet j }
def Rf.crashed (d : Rf) (ms : List Int) : Rf := { d.cr ms d.k with off := true, on := false }
def Four (r gn gw gt : Nat) (k : Nat) : Prop := k = r ∨ k = gn ∨ k = gw ∨ k = gt
section
variable {w : World} {r gn gw gt gm : Nat} {vn vw vt : Value} {d : Rf}
theorem RfAt.of_fields {d' : Rf} (h : RfAt w r gn gw gt gm vn vw vt d) (hk : d'.k = d.k) (hn : ∀ i, i < d.k → d'.now i = d.now i) (hw : ∀ i, i < d.k → d'.was i = d.was i) (ht : ∀ i, i < d.k → d'.wet i = d.wet i)
  (ho : d'.off = d.off) (hon : d'.on = d.on) (ha : d'.at_ = d.at_) (hv : d'.mv = d.mv) (hm : d'.mask = d.mask) : RfAt w r gn gw gt gm vn vw vt d' := by
 refine ⟨by rw [ho, hon, ha, hv]; exact h.cells, by rw [hk]; exact h.sn, by rw [hk]; exact h.sw, by rw [hk]; exact h.st, fun k => ?_, fun k => ?_, fun k => ?_, by rw [hv, hm]; exact h.mask, h.ne, by rw [hk]; exact h.kle, by rw [hon, ha]; exact h.ok, by rw [hm]; exact h.mok, by rw [hk]; exact h.nil0⟩
 all_goals rw [hk] at k ⊢
 ·obtain ⟨cur, h1, h2⟩ := h.now k
  exact ⟨cur, h1, fun i hi => by show cur[i]? = some (.string (d'.now i)); rw [hn i hi]; exact h2 i hi⟩
 ·obtain ⟨cur, h1, h2⟩ := h.was k
  exact ⟨cur, h1, fun i hi => by show cur[i]? = some (.string (d'.was i)); rw [hw i hi]; exact h2 i hi⟩
 ·obtain ⟨cur, h1, h2⟩ := h.wet k
  exact ⟨cur, h1, fun i hi => by show cur[i]? = some (.bool (d'.wet i)); rw [ht i hi]; exact h2 i hi⟩
theorem RfAt.putNow (h : RfAt w r gn gw gt gm vn vw vt d) {i : Nat} (s : ByteArray) : RfAt (w.setCell ⟨gn, i, none⟩ (.string s)) r gn gw gt gm vn vw vt { d with now := updN d.now i s } := by
 obtain ⟨n1, n2, n3, n4, n5, n6, n7, n8, n9, n10⟩ := h.ne
 have o := fun k (hk : k ≠ gn) => Below.heap_setCell w ⟨gn, i, none⟩ (.string s) k hk
 refine ⟨(o r n1).trans h.cells, h.sn, h.sw, h.st, fun k => ?_, fun k => (h.was k).of_block (o gw n4.symm), fun k => (h.wet k).of_block (o gt n5.symm), h.mask.keep (o gm n8), h.ne, h.kle, h.ok, h.mok, h.nil0⟩
 obtain ⟨cur, h1, h2⟩ := (h.now k).set i (.string s)
 exact ⟨cur, h1, fun j hj => by rw [h2 j hj]; show some (updN (fun i => Value.string (d.now i)) i (.string s) j) = some (.string (updN d.now i s j)); unfold updN; split <;> rfl⟩
theorem RfAt.putWas (h : RfAt w r gn gw gt gm vn vw vt d) {i : Nat} (s : ByteArray) : RfAt (w.setCell ⟨gw, i, none⟩ (.string s)) r gn gw gt gm vn vw vt { d with was := updN d.was i s } := by
 obtain ⟨n1, n2, n3, n4, n5, n6, n7, n8, n9, n10⟩ := h.ne
 have o := fun k (hk : k ≠ gw) => Below.heap_setCell w ⟨gw, i, none⟩ (.string s) k hk
 refine ⟨(o r n2).trans h.cells, h.sn, h.sw, h.st, fun k => (h.now k).of_block (o gn n4), fun k => ?_, fun k => (h.wet k).of_block (o gt n6.symm), h.mask.keep (o gm n9), h.ne, h.kle, h.ok, h.mok, h.nil0⟩
 obtain ⟨cur, h1, h2⟩ := (h.was k).set i (.string s)
 exact ⟨cur, h1, fun j hj => by rw [h2 j hj]; show some (updN (fun i => Value.string (d.was i)) i (.string s) j) = some (.string (updN d.was i s j)); unfold updN; split <;> rfl⟩
theorem RfAt.putWet (h : RfAt w r gn gw gt gm vn vw vt d) {i : Nat} (b : Bool) : RfAt (w.setCell ⟨gt, i, none⟩ (.bool b)) r gn gw gt gm vn vw vt { d with wet := updN d.wet i b } := by
 obtain ⟨n1, n2, n3, n4, n5, n6, n7, n8, n9, n10⟩ := h.ne
 have o := fun k (hk : k ≠ gt) => Below.heap_setCell w ⟨gt, i, none⟩ (.bool b) k hk
 refine ⟨(o r n3).trans h.cells, h.sn, h.sw, h.st, fun k => (h.now k).of_block (o gn n5), fun k => (h.was k).of_block (o gw n6), fun k => ?_, h.mask.keep (o gm n10), h.ne, h.kle, h.ok, h.mok, h.nil0⟩
 obtain ⟨cur, h1, h2⟩ := (h.wet k).set i (.bool b)
 exact ⟨cur, h1, fun j hj => by rw [h2 j hj]; show some (updN (fun i => Value.bool (d.wet i)) i (.bool b) j) = some (.bool (updN d.wet i b j)); unfold updN; split <;> rfl⟩
theorem RfAt.poke {d' : Rf} (h : RfAt w r gn gw gt gm vn vw vt d) (i : Nat) (u : Value)
  (hc : (#[vn, vw, vt, .bool d.off, .bool d.on, .int .i64 d.at_, d.mv] : Array Value).setIfInBounds i u = #[vn, vw, vt, .bool d'.off, .bool d'.on, .int .i64 d'.at_, d'.mv])
  (hk : d'.k = d.k) (hn : d'.now = d.now) (hw : d'.was = d.was) (ht : d'.wet = d.wet) (hm : SlB w d'.mv d'.mask gm) (hok : d'.on = true → -1 ≤ d'.at_ ∧ d'.at_ ≤ 9223372036854775807) (hmok : bytesOk d'.mask) : RfAt (w.setCell ⟨r, i, none⟩ u) r gn gw gt gm vn vw vt d' := by
 obtain ⟨n1, n2, n3, n4, n5, n6, n7, n8, n9, n10⟩ := h.ne
 have o := fun k (hk : k ≠ r) => Below.heap_setCell w ⟨r, i, none⟩ u k hk
 refine ⟨?_, by rw [hk]; exact h.sn, by rw [hk]; exact h.sw, by rw [hk]; exact h.st, ?_, ?_, ?_, hm.keep (o gm n7), h.ne, by rw [hk]; exact h.kle, hok, hmok, by rw [hk]; exact h.nil0⟩
 ·rw [heap_setCell_same w r i _ _ _ h.cells, hc]
 ·rw [hk, hn]; exact fun k => (h.now k).of_block (o gn n1.symm)
 ·rw [hk, hw]; exact fun k => (h.was k).of_block (o gw n2.symm)
 ·rw [hk, ht]; exact fun k => (h.wet k).of_block (o gt n3.symm)
end
open Go.RowKit Go.Maps
section
variable {w : World} {r gn gw gt gm : Nat} {vn vw vt : Value} {d : Rf}
theorem RfAt.drew (h : RfAt w r gn gw gt gm vn vw vt d) : RfAt w.drew r gn gw gt gm vn vw vt d := h.kept fun _ _ => rfl
def CrR (w : World) (r gn gw gt gm gx : Nat) (vn vw vt mv : Value) (ms : List Int) (d : Rf) (i : Nat) (wr : World) : Prop :=
 RfAt wr r gn gw gt gm vn vw vt (d.cr ms i) ∧ SlB wr mv ms gx ∧ Fr w.heap.size (Four r gn gw gt) w wr
theorem CrR.skip {gx : Nat} {mv : Value} {ms : List Int} {i : Nat} {wr : World} (h : CrR w r gn gw gt gm gx vn vw vt mv ms d i wr) (hf : d.wet i = false) : CrR w r gn gw gt gm gx vn vw vt mv ms d (i + 1) wr := by
 refine ⟨h.1.of_fields rfl ?_ ?_ ?_ rfl rfl rfl rfl rfl, h.2.1, h.2.2⟩
 all_goals intro j _; simp only [Rf.cr]; by_cases e : j = i
 ·subst e; simp [hf]
 ·simp only [show j < i + 1 ↔ j < i by omega]
 ·subst e; simp [hf]
 ·simp only [show j < i + 1 ↔ j < i by omega]
 ·subst e; simp [hf]
 ·simp only [show j < i + 1 ↔ j < i by omega]
theorem SlB.off {wr : World} {mv : Value} {ms : List Int} {gx g i : Nat} {v : Value} (h : SlB wr mv ms gx) (hg : gx ≠ g) : SlB (wr.setCell ⟨g, i, none⟩ v) mv ms gx := h.keep (Below.heap_setCell _ _ _ _ hg)
theorem CrR.back {gx : Nat} {mv : Value} {ms : List Int} {i : Nat} {wr : World} (h : CrR w r gn gw gt gm gx vn vw vt mv ms d i wr) (hx : ¬ Four r gn gw gt gx) (ht : d.wet i = true) (hb : bitR ms (wetK d.wet i) = false) :
  CrR w r gn gw gt gm gx vn vw vt mv ms d (i + 1) ((((wr.drew.setCell ⟨gn, i, none⟩ (.string (d.was i))).drew.setCell ⟨gw, i, none⟩ (.string (d.was i)))).setCell ⟨gt, i, none⟩ (.bool false)) := by
 refine ⟨(((((h.1.drew.putNow (i := i) (d.was i)).drew).putWas (i := i) (d.was i)).putWet (i := i) false)).of_fields rfl ?_ ?_ ?_ rfl rfl rfl rfl rfl, ?_, ?_⟩
 ·intro j _; simp only [Rf.cr, updN]; by_cases e : j = i
  ·subst e; simp [ht, hb]
  ·have e1 : j < i + 1 ↔ j < i := by omega
   simp only [e1, if_neg e]
 ·intro j _; simp only [Rf.cr, updN]; by_cases e : j = i
  ·subst e; simp [ht, hb]
  ·have e1 : j < i + 1 ↔ j < i := by omega
   simp only [e1, if_neg e]
 ·intro j _; simp only [Rf.cr, updN]; by_cases e : j = i
  ·subst e; simp
  ·have e1 : j < i + 1 ↔ j < i := by omega
   simp only [e1, if_neg e]
 ·have h1 : SlB wr.drew mv ms gx := h.2.1
  have h2 : SlB (wr.drew.setCell ⟨gn, i, none⟩ (.string (d.was i))).drew mv ms gx := h1.off (fun e => hx (Or.inr (Or.inl e)))
  exact (h2.off (fun e => hx (Or.inr (Or.inr (Or.inl e))))).off (fun e => hx (Or.inr (Or.inr (Or.inr e))))
 ·exact (((h.2.2.drew.setCell (Or.inl (Or.inr (Or.inl rfl))) _).drew).setCell (Or.inl (Or.inr (Or.inr (Or.inl rfl)))) _).setCell (Or.inl (Or.inr (Or.inr (Or.inr rfl)))) _
theorem CrR.keep {gx : Nat} {mv : Value} {ms : List Int} {i : Nat} {wr : World} (h : CrR w r gn gw gt gm gx vn vw vt mv ms d i wr) (hx : ¬ Four r gn gw gt gx) (ht : d.wet i = true) (hb : bitR ms (wetK d.wet i) = true) :
  CrR w r gn gw gt gm gx vn vw vt mv ms d (i + 1) (((wr.drew.setCell ⟨gw, i, none⟩ (.string (d.now i)))).setCell ⟨gt, i, none⟩ (.bool false)) := by
 refine ⟨((((h.1.drew).putWas (i := i) (d.now i)).putWet (i := i) false)).of_fields rfl ?_ ?_ ?_ rfl rfl rfl rfl rfl, ?_, ?_⟩
 ·intro j _; simp only [Rf.cr]; by_cases e : j = i
  ·subst e; simp [hb]
  ·simp only [show j < i + 1 ↔ j < i by omega]
 ·intro j _; simp only [Rf.cr, updN]; by_cases e : j = i
  ·subst e; simp [ht, hb]
  ·have e1 : j < i + 1 ↔ j < i := by omega
   simp only [e1, if_neg e]
 ·intro j _; simp only [Rf.cr, updN]; by_cases e : j = i
  ·subst e; simp
  ·have e1 : j < i + 1 ↔ j < i := by omega
   simp only [e1, if_neg e]
 ·have h1 : SlB wr.drew mv ms gx := h.2.1
  exact (h1.off (fun e => hx (Or.inr (Or.inr (Or.inl e))))).off (fun e => hx (Or.inr (Or.inr (Or.inr e))))
 ·exact ((h.2.2.drew).setCell (Or.inl (Or.inr (Or.inr (Or.inl rfl)))) _).setCell (Or.inl (Or.inr (Or.inr (Or.inr rfl)))) _
theorem cr_now (d : Rf) (ms : List Int) (i : Nat) : (d.cr ms i).now i = d.now i ∧ (d.cr ms i).was i = d.was i ∧ (d.cr ms i).wet i = d.wet i := by
 simp [Rf.cr]
end
set_option maxRecDepth 100000
open Go.RowKit Go.Maps
def ivN : Value → Nat | .int _ q => q.toNat | _ => 0
theorem bitR_out {ms : List Int} {i : Nat} (h : ms.length ≤ i / 8) : bitR ms i = false := by
 unfold bitR; rw [List.getElem?_eq_none h]
theorem bitR_in {ms : List Int} {i : Nat} (h : i / 8 < ms.length) : bitR ms i = (bits BinOp.and IntKind.u8 (ms[i / 8] / 2 ^ (i % 8)) 1 == 1) := by
 unfold bitR; rw [List.getElem?_eq_getElem h]
section
variable {w : World} {r gn gw gt gm : Nat} {vn vw vt : Value} {d : Rf}
theorem SlB.parts {wr : World} {a : Addr} {n c gx : Nat} {ms : List Int} (h : SlB wr (.slice (some a) n c) ms gx) (hne : ms ≠ []) : a.block = gx ∧ a.spot = none ∧ ∀ j (h : j < ms.length), wr.cell? ⟨gx, a.off + j, none⟩ = some (.int .u8 ms[j]) := by
 obtain ⟨p0, len, cap, e, e2, hle, hcap, hn, ha⟩ := h
 cases e
 exact ha a rfl hne
theorem CrR.done {gx : Nat} {mv : Value} {ms : List Int} {wr : World} (h : CrR w r gn gw gt gm gx vn vw vt mv ms d d.k wr) :
  RfAt ((wr.setCell ⟨r, 4, none⟩ (.bool false)).setCell ⟨r, 3, none⟩ (.bool true)) r gn gw gt gm vn vw vt (d.crashed ms) ∧ Fr w.heap.size (Four r gn gw gt) w ((wr.setCell ⟨r, 4, none⟩ (.bool false)).setCell ⟨r, 3, none⟩ (.bool true)) := by
 have h1 : RfAt (wr.setCell ⟨r, 4, none⟩ (.bool false)) r gn gw gt gm vn vw vt { d.cr ms d.k with on := false } := h.1.poke 4 _ rfl rfl rfl rfl rfl h.1.mask (by intro e; cases e) h.1.mok
 refine ⟨h1.poke 3 _ rfl rfl rfl rfl rfl h1.mask (by intro e; cases e) h1.mok, (h.2.2.setCell (Or.inl (Or.inl rfl)) _).setCell (Or.inl (Or.inl rfl)) _⟩
set_option maxHeartbeats 4000000 in
theorem rcrash (h : RfAt w r gn gw gt gm vn vw vt d) {mv : Value} {ms : List Int} {gx : Nat} (hm : SlB w mv ms gx) (hmb : bytesOk ms) (hx : ¬ Four r gn gw gt gx) :
  Calls Tryz.prog 17 #[.pointer (some ⟨r, 0, none⟩), mv] w fun e w' => e = .returned (.tuple #[]) ∧ RfAt w' r gn gw gt gm vn vw vt (d.crashed ms) ∧ Fr w.heap.size (Four r gn gw gt) w w' := by
 have hI : CrR w r gn gw gt gm gx vn vw vt mv ms d 0 w := by
  refine ⟨h.of_fields rfl ?_ ?_ ?_ rfl rfl rfl rfl rfl, hm, Fr.refl _ _ _⟩ <;> intro j _ <;> simp [Rf.cr]
 have hkle := h.kle
 have hne := h.ne
 obtain ⟨pm, lm, cm, rfl, rfl, hmle, hmcap, hmn, hma⟩ := hm
 have HN := Lib.hid hmn
 obtain ⟨pn, cn, rfl, sn1, sn2, sn3⟩ := h.sn
 obtain ⟨pw, cw, rfl, sw1, sw2, sw3⟩ := h.sw
 obtain ⟨pt, ct, rfl, st1, st2, st3⟩ := h.st
 clear hmn hma h
 go_enter Tryz.func17, Tryz.ntmps17
 go_wp2
 go_loopw [4, 5] (fun kv iv wr => ∃ i : Nat, i ≤ d.k ∧ iv = .int .i64 i ∧ kv = .int .i64 (wetK d.wet i) ∧ CrR w r gn gw gt gm gx (.slice pn d.k cn) (.slice pw d.k cw) (.slice pt d.k ct) (.slice pm ms.length cm) ms d i wr) (fun kv iv _ => d.k - ivN iv)
 case atStart => exact ⟨0, Nat.zero_le _, rfl, rfl, hI⟩
 case round =>
  obtain ⟨i, hi, rfl, rfl, hI⟩ := hrel
  have HI := Lib.hid hI
  have c0 := hI.1.c0
  have c1 := hI.1.c1
  have c2 := hI.1.c2
  by_cases hlt : i < d.k
  ·obtain ⟨an, rfl⟩ : ∃ a, pn = some a := by cases pn with | none => exact absurd (sn2 rfl) (by omega) | some a => exact ⟨a, rfl⟩
   obtain rfl := sn3 an rfl
   obtain ⟨aw, rfl⟩ : ∃ a, pw = some a := by cases pw with | none => exact absurd (sw2 rfl) (by omega) | some a => exact ⟨a, rfl⟩
   obtain rfl := sw3 aw rfl
   obtain ⟨at', rfl⟩ : ∃ a, pt = some a := by cases pt with | none => exact absurd (st2 rfl) (by omega) | some a => exact ⟨a, rfl⟩
   obtain rfl := st3 at' rfl
   have hk0 : 0 < d.k := by omega
   obtain ⟨x1, x2, x3⟩ := cr_now d ms i
   have ct0 : wr.cell? ⟨gt, i, none⟩ = some (.bool (d.wet i)) := ((hI.1.wet hk0).cell hlt).1.trans (by rw [x3])
   have cw0 : wr.cell? ⟨gw, i, none⟩ = some (.string (d.was i)) := ((hI.1.was hk0).cell hlt).1.trans (by rw [x2])
   have cn0 : wr.cell? ⟨gn, i, none⟩ = some (.string (d.now i)) := ((hI.1.now hk0).cell hlt).1.trans (by rw [x1])
   have fn0 := ((hI.1.now hk0).cell hlt).2
   have fw0 := ((hI.1.was hk0).cell hlt).2
   have ft0 := ((hI.1.wet hk0).cell hlt).2
   cases hw : d.wet i with
   | false =>
    rw [hw] at ct0
    have hkk : wetK d.wet (i + 1) = wetK d.wet i := by rw [wetK, if_neg (by simp [hw])]
    have HS := Lib.hid (HI.out.skip hw)
    clear hI sn1 sn2 sn3 sw1 sw2 sw3 st1 st2 st3 x1 x2 x3 fn0 fw0 ft0 cw0 cn0 hk0 hmb hx hne c0 c1
    have c0 := HI.out.1.c0
    go_wp2
    go_roundw
    case rel => exact ⟨i + 1, by omega, by go_num, by rw [hkk], HS.out⟩
    case measure => simp [ivN]; omega
   | true =>
    rw [hw] at ct0
    have hkk : wetK d.wet (i + 1) = wetK d.wet i + 1 := by rw [wetK, if_pos hw]
    have hKle := wetK_le d.wet i
    obtain ⟨K, hK⟩ : ∃ K, wetK d.wet i = K := ⟨_, rfl⟩
    rw [hK] at hkk hKle ⊢
    have hmb2 := Lib.hid hmb
    have HX := Lib.hid hx
    have HNE := Lib.hid hne
    clear hI sn1 sn2 sn3 sw1 sw2 sw3 st1 st2 st3 x1 x2 x3 fn0 fw0 ft0 cn0 hk0 hmb hx hne
    by_cases hin : K / 8 < ms.length
    ·obtain ⟨am, rfl⟩ : ∃ a, pm = some a := by
      cases pm with
      | none => have := HN.out rfl; subst this; simp at hin
      | some a => exact ⟨a, rfl⟩
     obtain ⟨q1, q2, q3⟩ := HI.out.2.1.parts (by intro e; rw [e] at hin; cases hin)
     have hmc := q3 (K / 8) hin
     obtain ⟨xlo, xhi⟩ := hmb2.out _ (List.getElem_mem hin)
     have hbr := bitR_in hin
     generalize ms[K / 8] = x at hmc xlo xhi hbr
     have dr : decide ((ms.length : Int) ≤ (K : Int) / 8) = false := by simp; omega
     obtain ⟨ab, ao, asp⟩ := am
     simp only at q1 q2 hmc
     subst q1 q2
     clear q3
     rcases and_one (x / 2 ^ (K % 8)) with hz | hz
     ·have hb : bitR ms K = false := by rw [hbr, hz]; rfl
      clear hbr
      have HS := Lib.hid (HI.out.back HX.out hw (by rw [hK]; exact hb))
      have R1 := Lib.hid HI.out.1.drew
      have R2 := Lib.hid (HI.out.1.putNow (i := i) (d.was i))
      have X3 := Lib.hid ((cr_now d ms i).2.2.trans hw)
      generalize d.was i = S at cw0 HS R2
      clear hb hw hK
      go_wp2
      refine wp_region_still_tail 13 (by kernel_rfl) (by kernel_rfl) ?_
      simp only [List.take_succ_cons, List.take_zero, List.drop_succ_cons, List.drop_zero]
      change wpStill _ _ (World.drew wr) _ _ _
      iterate 13 still_step
      refine wpStill_nil ?_
      change wpList _ _ _ _ _ (World.drew wr)
      obtain ⟨vv, cn0⟩ : ∃ vv, wr.drew.cell? ⟨gn, i, none⟩ = some vv := ⟨_, ((R1.out.now (show 0 < d.k by omega)).cell hlt).1⟩
      have fn0 : wr.drew.frozen? ⟨gn, i, none⟩ = false := ((R1.out.now (show 0 < d.k by omega)).cell hlt).2
      clear c0 c1 c2 ct0 cw0
      go_wp2_with fail
      clear fn0 cn0
      have hk0 : 0 < d.k := by omega
      have hne6 : gt ≠ gw := HNE.out.2.2.2.2.2.1.symm
      have c0 := R2.out.c0
      have c1 := R2.out.c1
      have c2 := R2.out.c2
      have cn0 : (wr.setCell ⟨gn, i, none⟩ (.string S)).cell? ⟨gn, i, none⟩ = some (.string S) := ((R2.out.now hk0).cell hlt).1.trans (by simp [updN])
      obtain ⟨vv, cw1⟩ : ∃ vv, (wr.setCell ⟨gn, i, none⟩ (.string S)).cell? ⟨gw, i, none⟩ = some vv := ⟨_, ((R2.out.was hk0).cell hlt).1⟩
      have fw0 := ((R2.out.was hk0).cell hlt).2
      have ft1 : ((wr.setCell ⟨gn, i, none⟩ (.string S)).setCell ⟨gw, i, none⟩ (.string S)).frozen? ⟨gt, i, none⟩ = false := (World.frozen?_of_block (w := (wr.setCell ⟨gn, i, none⟩ (.string S))) (Below.heap_setCell _ _ _ _ hne6)).trans ((R2.out.wet hk0).cell hlt).2
      have ct1 : ((wr.setCell ⟨gn, i, none⟩ (.string S)).setCell ⟨gw, i, none⟩ (.string S)).cell? ⟨gt, i, none⟩ = some (.bool true) := (World.cell?_of_block (w := (wr.setCell ⟨gn, i, none⟩ (.string S))) (Below.heap_setCell _ _ _ _ hne6)).trans (((R2.out.wet hk0).cell hlt).1.trans (by show some (Value.bool ((d.cr ms i).wet i)) = _; rw [X3.out]))
      clear hk0 hne6
      go_region
      all_goals go_wp2
      go_roundw
      case rel => exact ⟨i + 1, by omega, by go_num, by rw [hkk]; go_num, HS.out⟩
      case measure => simp [ivN]; omega
     ·have hb : bitR ms K = true := by rw [hbr, hz]; rfl
      clear hbr
      have HS := Lib.hid (HI.out.keep HX.out hw (by rw [hK]; exact hb))
      have R2 := Lib.hid HI.out.1
      have X3 := Lib.hid ((cr_now d ms i).2.2.trans hw)
      have X1 := Lib.hid (cr_now d ms i).1
      generalize d.now i = S at HS X1
      clear hb hw hK
      go_wp2_with fail
      clear c0 c1 c2 ct0 cw0
      have hk0 : 0 < d.k := by omega
      have hne6 : gt ≠ gw := HNE.out.2.2.2.2.2.1.symm
      have c0 := R2.out.c0
      have c1 := R2.out.c1
      have c2 := R2.out.c2
      have cn0 : wr.cell? ⟨gn, i, none⟩ = some (.string S) := ((R2.out.now hk0).cell hlt).1.trans (by rw [X1.out])
      obtain ⟨vv, cw1⟩ : ∃ vv, wr.cell? ⟨gw, i, none⟩ = some vv := ⟨_, ((R2.out.was hk0).cell hlt).1⟩
      have fw0 := ((R2.out.was hk0).cell hlt).2
      have ft1 : (wr.setCell ⟨gw, i, none⟩ (.string S)).frozen? ⟨gt, i, none⟩ = false := (World.frozen?_of_block (w := wr) (Below.heap_setCell _ _ _ _ hne6)).trans ((R2.out.wet hk0).cell hlt).2
      have ct1 : (wr.setCell ⟨gw, i, none⟩ (.string S)).cell? ⟨gt, i, none⟩ = some (.bool true) := (World.cell?_of_block (w := wr) (Below.heap_setCell _ _ _ _ hne6)).trans (((R2.out.wet hk0).cell hlt).1.trans (by show some (Value.bool ((d.cr ms i).wet i)) = _; rw [X3.out]))
      clear hk0 hne6
      go_region
      all_goals go_wp2
      go_roundw
      case rel => exact ⟨i + 1, by omega, by go_num, by rw [hkk]; go_num, HS.out⟩
      case measure => simp [ivN]; omega
    ·have hb : bitR ms K = false := bitR_out (by omega)
     have dr : decide ((ms.length : Int) ≤ (K : Int) / 8) = true := by simp; omega
     have HS := Lib.hid (HI.out.back HX.out hw (by rw [hK]; exact hb))
     have R1 := Lib.hid HI.out.1.drew
     have R2 := Lib.hid (HI.out.1.putNow (i := i) (d.was i))
     have X3 := Lib.hid ((cr_now d ms i).2.2.trans hw)
     generalize d.was i = S at cw0 HS R2
     clear hb hw hK
     go_wp2
     refine wp_region_still_tail 13 (by kernel_rfl) (by kernel_rfl) ?_
     simp only [List.take_succ_cons, List.take_zero, List.drop_succ_cons, List.drop_zero]
     change wpStill _ _ (World.drew wr) _ _ _
     iterate 13 still_step
     refine wpStill_nil ?_
     change wpList _ _ _ _ _ (World.drew wr)
     obtain ⟨vv, cn0⟩ : ∃ vv, wr.drew.cell? ⟨gn, i, none⟩ = some vv := ⟨_, ((R1.out.now (show 0 < d.k by omega)).cell hlt).1⟩
     have fn0 : wr.drew.frozen? ⟨gn, i, none⟩ = false := ((R1.out.now (show 0 < d.k by omega)).cell hlt).2
     clear c0 c1 c2 ct0 cw0
     go_wp2_with fail
     clear fn0 cn0
     have hk0 : 0 < d.k := by omega
     have hne6 : gt ≠ gw := HNE.out.2.2.2.2.2.1.symm
     have c0 := R2.out.c0
     have c1 := R2.out.c1
     have c2 := R2.out.c2
     have cn0 : (wr.setCell ⟨gn, i, none⟩ (.string S)).cell? ⟨gn, i, none⟩ = some (.string S) := ((R2.out.now hk0).cell hlt).1.trans (by simp [updN])
     obtain ⟨vv, cw1⟩ : ∃ vv, (wr.setCell ⟨gn, i, none⟩ (.string S)).cell? ⟨gw, i, none⟩ = some vv := ⟨_, ((R2.out.was hk0).cell hlt).1⟩
     have fw0 := ((R2.out.was hk0).cell hlt).2
     have ft1 : ((wr.setCell ⟨gn, i, none⟩ (.string S)).setCell ⟨gw, i, none⟩ (.string S)).frozen? ⟨gt, i, none⟩ = false := (World.frozen?_of_block (w := (wr.setCell ⟨gn, i, none⟩ (.string S))) (Below.heap_setCell _ _ _ _ hne6)).trans ((R2.out.wet hk0).cell hlt).2
     have ct1 : ((wr.setCell ⟨gn, i, none⟩ (.string S)).setCell ⟨gw, i, none⟩ (.string S)).cell? ⟨gt, i, none⟩ = some (.bool true) := (World.cell?_of_block (w := (wr.setCell ⟨gn, i, none⟩ (.string S))) (Below.heap_setCell _ _ _ _ hne6)).trans (((R2.out.wet hk0).cell hlt).1.trans (by show some (Value.bool ((d.cr ms i).wet i)) = _; rw [X3.out]))
     clear hk0 hne6
     go_region
     all_goals go_wp2
     go_roundw
     case rel => exact ⟨i + 1, by omega, by go_num, by rw [hkk]; go_num, HS.out⟩
     case measure => simp [ivN]; omega
  ·obtain rfl : i = d.k := by omega
   have f3 := hI.1.fz 3
   have f4 := hI.1.fz 4
   have k3 := hI.1.c3
   have k4 := hI.1.c4
   have HD := Lib.hid HI.out.done
   clear hI
   go_wp2
   go_end0
   exact ⟨rfl, HD.out⟩
end
open Go.RowKit Go.Maps
theorem conv_slB {W : World} {v : Value} {l : List Int} {g : Nat} (h : SlB W v l g) : (convert 36 9 v).run Tryz.prog W = .ok (.string (bstr l)) W := by
 obtain ⟨p, len, cap, rfl, rfl, h1, h2, h3, h4⟩ := h
 rw [run_convert_bytes_string W 36 9 5 _ _ _ Tryz.underlying36 Tryz.underlying5 Tryz.underlying9]
 cases p with
 | none =>
  obtain rfl := h3 rfl
  rfl
 | some a =>
  refine run_bytesToString W _ _ _ l ?_
  have := run_loadCells_list (P := Tryz.prog) W a (byteV l) (fun j v hv => by
   have hj : j < l.length := by have := (List.getElem?_eq_some_iff.1 hv).1; simpa [byteV] using this
   obtain ⟨rfl, hs, hc⟩ := h4 a rfl (by intro e; rw [e] at hj; cases hj)
   obtain ⟨ab, ao, asp⟩ := a
   cases hs
   have h2 : (⟨ab, ao, none⟩ : Addr).add j = ⟨ab, ao + j, none⟩ := by unfold Addr.add; split <;> simp_all
   rw [h2]
   have := hc j hj
   simp only at this
   rw [this]
   simp [byteV] at hv
   obtain ⟨x, hx, rfl⟩ := hv
   rw [List.getElem?_eq_getElem hj] at hx
   cases hx
   rfl)
  simpa [byteV] using this
def Rf.put (d : Rf) (i : Nat) (s : ByteArray) : Rf := { d with now := updN d.now i s, wet := updN d.wet i true }
def Rf.less (d : Rf) : Rf := { d with at_ := d.at_ - 1 }
section
variable {w : World} {r gn gw gt gm : Nat} {vn vw vt : Value} {d : Rf}
theorem rdone_no (w : World) (r : Nat) : Calls Tryz.prog 49 #[.pointer (some ⟨r, 0, none⟩), .bool false] w fun e w' => e = .returned (.int .i64 0) ∧ w' = w := by
 go_enter Tryz.func49, Tryz.ntmps49
 go_wp2
 go_ret
 exact ⟨rfl, rfl⟩
theorem rdone_yes (h : RfAt w r gn gw gt gm vn vw vt d) : Calls Tryz.prog 49 #[.pointer (some ⟨r, 0, none⟩), .bool true] w fun e w' => e = .returned (.int .i64 2) ∧ RfAt w' r gn gw gt gm vn vw vt (d.crashed d.mask) ∧ Fr w.heap.size (Four r gn gw gt) w w' := by
 have hx : ¬ Four r gn gw gt gm := by
  obtain ⟨n1, n2, n3, n4, n5, n6, n7, n8, n9, n10⟩ := h.ne
  rintro (e | e | e | e)
  ·exact n7 e
  ·exact n8 e
  ·exact n9 e
  ·exact n10 e
 have HC := Lib.hid (rcrash h h.mask h.mok hx)
 have c6 := h.c6
 clear h hx
 go_enter Tryz.func49, Tryz.ntmps49
 go_wp2_with fail
 refine HC.out.mono ?_
 rintro e w' ⟨rfl, h1, h2⟩
 go_wp2
 go_ret
 exact ⟨rfl, h1, h2⟩
theorem RfAt.puts (h : RfAt w r gn gw gt gm vn vw vt d) (i : Nat) (s : ByteArray) : RfAt ((w.setCell ⟨gn, i, none⟩ (.string s)).setCell ⟨gt, i, none⟩ (.bool true)) r gn gw gt gm vn vw vt (d.put i s) :=
 (h.putNow (i := i) s).putWet (i := i) true
theorem RfAt.lesser (h : RfAt w r gn gw gt gm vn vw vt d) (h0 : 0 ≤ d.at_) : RfAt (w.setCell ⟨r, 5, none⟩ (.int .i64 (d.at_ - 1))) r gn gw gt gm vn vw vt d.less :=
 h.poke 5 _ rfl rfl rfl rfl rfl h.mask (fun e => by have := h.ok e; show -1 ≤ d.at_ - 1 ∧ d.at_ - 1 ≤ _; omega) h.mok
theorem rwrite_off (h : RfAt w r gn gw gt gm vn vw vt d) (ho : d.off = true) (i : Int) (sv : Value) : Calls Tryz.prog 21 #[.pointer (some ⟨r, 0, none⟩), .int .i64 i, sv] w fun e w' => e = .returned (.int .i64 2) ∧ w' = w := by
 have c3 := h.c3
 rw [ho] at c3
 clear h
 go_enter Tryz.func21, Tryz.ntmps21
 go_wp2
 go_ret
 exact ⟨rfl, rfl⟩
theorem rwrite_bad (h : RfAt w r gn gw gt gm vn vw vt d) (ho : d.off = false) (i : Int) (p0 : Option Addr) (len cap : Nat) (hi : ¬ (0 ≤ i ∧ i < d.k) ∨ len ≠ 64) : Calls Tryz.prog 21 #[.pointer (some ⟨r, 0, none⟩), .int .i64 i, .slice p0 len cap] w fun e w' => e = .returned (.int .i64 1) ∧ w' = w := by
 have c3 := h.c3
 rw [ho] at c3
 have c0 := h.c0
 obtain ⟨p, c, rfl, _, _, _⟩ := h.sn
 clear h
 go_enter Tryz.func21, Tryz.ntmps21
 by_cases a : i < 0
 ·go_wp2
  go_ret
  exact ⟨rfl, rfl⟩
 ·have d1 : decide (i < 0) = false := by simpa using a
  by_cases b : (d.k : Int) ≤ i
  ·clear hi
   go_wp2
   go_ret
   exact ⟨rfl, rfl⟩
  ·have d2 : decide ((d.k : Int) ≤ i) = false := by simpa using b
   have d3 : ¬ ((len : Int) = 64) := by omega
   clear hi
   go_wp2
   go_ret
   exact ⟨rfl, rfl⟩
end
set_option maxRecDepth 100000
open Go.RowKit Go.Maps
section
variable {w : World} {r gn gw gt gm : Nat} {vn vw vt : Value} {d : Rf}
theorem SlB.drew {W : World} {v : Value} {l : List Int} {g : Nat} (h : SlB W v l g) : SlB W.drew v l g := h
set_option maxHeartbeats 2000000 in
theorem rwrite_gen (h : RfAt w r gn gw gt gm vn vw vt d) (ho : d.off = false) (i : Nat) (hi : i < d.k) {sv : Value} {l : List Int} {gs : Nat} {c : Bool} {w1 : World} {d1 : Rf} {post : Ending → World → Prop}
  (hcut : Calls Tryz.prog 48 #[.pointer (some ⟨r, 0, none⟩)] w fun e w' => e = .returned (.bool c) ∧ w' = w1)
  (h1 : RfAt w1 r gn gw gt gm vn vw vt d1) (hk : d1.k = d.k) (hs1 : SlB w1 sv l gs) (hl : l.length = 64)
  (hdone : ∀ W, RfAt W r gn gw gt gm vn vw vt (d1.put i (bstr l)) → Fr w1.heap.size (Four r gn gw gt) w1 W → Calls Tryz.prog 49 #[.pointer (some ⟨r, 0, none⟩), .bool c] W fun e w' => ∃ v, e = .returned v ∧ post e w') :
  Calls Tryz.prog 21 #[.pointer (some ⟨r, 0, none⟩), .int .i64 i, sv] w fun e w' => post e w' ∧ True := by
 have c3 := h.c3
 rw [ho] at c3
 have c0 := h.c0
 have hkle := h.kle
 obtain ⟨cn, rfl, _⟩ := h.sn.some (by omega)
 obtain ⟨ct, rfl, _⟩ := h.st.some (by omega)
 have v1 := conv_slB hs1
 have v2 := conv_slB hs1.drew
 obtain ⟨p, len, cap, rfl, rfl, _, _, _⟩ := hs1
 rw [hl] at v1 v2 ⊢
 have d1' : decide ((i : Int) < 0) = false := by simp
 have d2 : decide ((d.k : Int) ≤ (i : Int)) = false := by simp; omega
 have e0 := h1.c0
 have e2 := h1.c2
 have hk0 : 0 < d1.k := by omega
 obtain ⟨vv, x1⟩ : ∃ vv, w1.cell? ⟨gn, i, none⟩ = some vv := ⟨_, ((h1.now hk0).cell (by omega : i < d1.k)).1⟩
 have x2 := ((h1.now hk0).cell (by omega : i < d1.k)).2
 have n5 : gt ≠ gn := h1.ne.2.2.2.2.1.symm
 obtain ⟨vt, x3⟩ : ∃ vt, (w1.setCell ⟨gn, i, none⟩ (.string (bstr l))).cell? ⟨gt, i, none⟩ = some vt := ⟨_, (World.cell?_of_block (w := w1) (Below.heap_setCell _ _ _ _ n5)).trans ((h1.wet hk0).cell (by omega : i < d1.k)).1⟩
 have x4 : (w1.setCell ⟨gn, i, none⟩ (.string (bstr l))).frozen? ⟨gt, i, none⟩ = false := (World.frozen?_of_block (w := w1) (Below.heap_setCell _ _ _ _ n5)).trans ((h1.wet hk0).cell (by omega : i < d1.k)).2
 have HP := Lib.hid ((h1.puts i (bstr l)).drew)
 have HF : Hid (Fr w1.heap.size (Four r gn gw gt) w1 ((w1.setCell ⟨gn, i, none⟩ (.string (bstr l))).setCell ⟨gt, i, none⟩ (.bool true)).drew) := (((Fr.refl _ _ _).setCell (Or.inl (Or.inr (Or.inl rfl))) _).setCell (Or.inl (Or.inr (Or.inr (Or.inr rfl)))) _).drew
 have HD := Lib.hid hdone
 have HC := Lib.hid hcut
 generalize bstr l = s at *
 clear hdone hcut h1 h hk0 n5 hl
 go_enter Tryz.func21, Tryz.ntmps21
 go_wp2_with fail
 refine HC.out.mono ?_
 rintro e w2 ⟨rfl, rfl⟩
 clear c0 c3 d1' d2
 go_wp2
 go_region
 all_goals go_wp2_with fail
 all_goals (refine (HD.out _ HP.out HF.out).mono ?_; rintro e w3 ⟨v, rfl, hp⟩; go_wp2; go_ret; exact ⟨hp, trivial⟩)
def Rf.sy (d : Rf) (i : Nat) : Rf := { d with was := fun j => if j < i then d.now j else d.was j, wet := fun j => if j < i then false else d.wet j }
theorem sy_next {W : World} {i : Nat} (h : RfAt W r gn gw gt gm vn vw vt (d.sy i)) : RfAt ((W.setCell ⟨gw, i, none⟩ (.string (d.now i))).setCell ⟨gt, i, none⟩ (.bool false)) r gn gw gt gm vn vw vt (d.sy (i + 1)) := by
 refine ((h.putWas (i := i) (d.now i)).putWet (i := i) false).of_fields rfl (fun _ _ => rfl) ?_ ?_ rfl rfl rfl rfl rfl
 all_goals intro j _; simp only [Rf.sy, updN]; by_cases e : j = i
 ·subst e; simp
 ·have e1 : j < i + 1 ↔ j < i := by omega
  simp only [e1, if_neg e]
 ·subst e; simp
 ·have e1 : j < i + 1 ↔ j < i := by omega
  simp only [e1, if_neg e]
theorem rsync_off (h : RfAt w r gn gw gt gm vn vw vt d) (ho : d.off = true) : Calls Tryz.prog 62 #[.pointer (some ⟨r, 0, none⟩)] w fun e w' => e = .returned (.int .i64 2) ∧ w' = w := by
 have c3 := h.c3
 rw [ho] at c3
 clear h
 go_enter Tryz.func62, Tryz.ntmps62
 go_wp2
 go_ret
 exact ⟨rfl, rfl⟩
theorem rsync_cut (h : RfAt w r gn gw gt gm vn vw vt d) (ho : d.off = false) {w1 : World} {d1 : Rf}
  (hcut : Calls Tryz.prog 48 #[.pointer (some ⟨r, 0, none⟩)] w fun e w' => e = .returned (.bool true) ∧ w' = w1)
  (h1 : RfAt w1 r gn gw gt gm vn vw vt d1) : Calls Tryz.prog 62 #[.pointer (some ⟨r, 0, none⟩)] w fun e w' => e = .returned (.int .i64 2) ∧ RfAt w' r gn gw gt gm vn vw vt (d1.crashed d1.mask) ∧ Fr w1.heap.size (Four r gn gw gt) w1 w' := by
 have c3 := h.c3
 rw [ho] at c3
 have HC := Lib.hid hcut
 have HD := Lib.hid (rdone_yes h1)
 clear h h1 hcut
 go_enter Tryz.func62, Tryz.ntmps62
 go_wp2_with fail
 refine HC.out.mono ?_
 rintro e w2 ⟨rfl, rfl⟩
 go_wp2_with fail
 refine HD.out.mono ?_
 rintro e w3 ⟨rfl, q1, q2⟩
 go_wp2
 go_ret
 exact ⟨rfl, q1, q2⟩
set_option maxHeartbeats 2000000 in
theorem rsync_go (h : RfAt w r gn gw gt gm vn vw vt d) (ho : d.off = false) {w1 : World} {d1 : Rf}
  (hcut : Calls Tryz.prog 48 #[.pointer (some ⟨r, 0, none⟩)] w fun e w' => e = .returned (.bool false) ∧ w' = w1)
  (h1 : RfAt w1 r gn gw gt gm vn vw vt d1) : Calls Tryz.prog 62 #[.pointer (some ⟨r, 0, none⟩)] w fun e w' => e = .returned (.int .i64 0) ∧ RfAt w' r gn gw gt gm vn vw vt (d1.sy d1.k) ∧ Fr w1.heap.size (Four r gn gw gt) w1 w' := by
 have c3 := h.c3
 rw [ho] at c3
 have HC := Lib.hid hcut
 have h0 : RfAt w1 r gn gw gt gm vn vw vt (d1.sy 0) := h1.of_fields rfl (fun _ _ => rfl) (fun _ _ => by simp [Rf.sy]) (fun _ _ => by simp [Rf.sy]) rfl rfl rfl rfl rfl
 have H0 := Lib.hid h0
 have hkle := h1.kle
 have SN := Lib.hid h1.sn
 have SW := Lib.hid h1.sw
 have ST := Lib.hid h1.st
 have HNE := Lib.hid h1.ne
 obtain ⟨pn, cn, rfl, _, _, _⟩ := h1.sn
 obtain ⟨pw, cw, rfl, _, _, _⟩ := h1.sw
 obtain ⟨pt, ct, rfl, _, _, _⟩ := h1.st
 clear h h1 hcut h0
 go_enter Tryz.func62, Tryz.ntmps62
 go_wp2_with fail
 refine HC.out.mono ?_
 rintro e w2 ⟨rfl, rfl⟩
 clear c3
 go_wp2
 go_loopw [3] (fun iv wr => ∃ i : Nat, i ≤ d1.k ∧ iv = .int .i64 i ∧ RfAt wr r gn gw gt gm (.slice pn d1.k cn) (.slice pw d1.k cw) (.slice pt d1.k ct) (d1.sy i) ∧ Fr w2.heap.size (Four r gn gw gt) w2 wr) (fun iv _ => d1.k - ivN iv)
 case atStart => exact ⟨0, Nat.zero_le _, rfl, H0.out, Fr.refl _ _ _⟩
 case round =>
  obtain ⟨i, hi, rfl, hR, hF⟩ := hrel
  have HR := Lib.hid hR
  have HF := Lib.hid hF
  have c0 := hR.c0
  clear hF
  by_cases hlt : i < d1.k
  ·obtain ⟨c1, e1, _⟩ := SN.out.some (by omega)
   obtain ⟨c2, e2, _⟩ := SW.out.some (by omega)
   obtain ⟨c3, e3, _⟩ := ST.out.some (by omega)
   cases e1
   cases e2
   cases e3
   have hk0 : 0 < (d1.sy i).k := show 0 < d1.k by omega
   have k1 := hR.c1
   have k2 := hR.c2
   have x1 : wr.cell? ⟨gn, i, none⟩ = some (.string (d1.now i)) := ((hR.now hk0).cell hlt).1
   obtain ⟨vv, x2⟩ : ∃ vv, wr.cell? ⟨gw, i, none⟩ = some vv := ⟨_, ((hR.was hk0).cell hlt).1⟩
   have x3 := ((hR.was hk0).cell hlt).2
   have n6 : gt ≠ gw := HNE.out.2.2.2.2.2.1.symm
   obtain ⟨vt, x4⟩ : ∃ vt, (wr.setCell ⟨gw, i, none⟩ (.string (d1.now i))).cell? ⟨gt, i, none⟩ = some vt := ⟨_, (World.cell?_of_block (w := wr) (Below.heap_setCell _ _ _ _ n6)).trans ((hR.wet hk0).cell hlt).1⟩
   have x5 : (wr.setCell ⟨gw, i, none⟩ (.string (d1.now i))).frozen? ⟨gt, i, none⟩ = false := (World.frozen?_of_block (w := wr) (Below.heap_setCell _ _ _ _ n6)).trans ((hR.wet hk0).cell hlt).2
   have HS := Lib.hid (sy_next hR).drew
   have HG := Lib.hid ((HF.out.setCell (p := ⟨gw, i, none⟩) (Or.inl (Or.inr (Or.inr (Or.inl rfl)))) (.string (d1.now i))).setCell (p := ⟨gt, i, none⟩) (Or.inl (Or.inr (Or.inr (Or.inr rfl)))) (.bool false)).drew
   generalize d1.now i = s at *
   clear hR hk0 n6
   go_wp2
   go_region
   all_goals go_wp2
   go_roundw
   case rel => exact ⟨i + 1, by omega, by go_num, HS.out, HG.out⟩
   case measure => simp [ivN]; omega
  ·obtain rfl : i = d1.k := by omega
   clear hR
   go_wp2
   go_ret
   exact ⟨rfl, HR.out, HF.out⟩
end
open Go.RowKit Go.Maps
def wetL (f : Nat → Bool) : Nat → List Int
 | 0 => []
 | i + 1 => if f i = true then wetL f i ++ [(i : Int)] else wetL f i
theorem wetL_mem (f : Nat → Bool) (i : Nat) (x : Int) : x ∈ wetL f i ↔ ∃ j : Nat, j < i ∧ f j = true ∧ x = j := by
 induction i with
 | zero => simp [wetL]
 | succ i ih =>
  unfold wetL
  split
  ·rename_i h
   rw [List.mem_append, ih]
   constructor
   ·rintro (⟨j, h1, h2, h3⟩ | h1)
    ·exact ⟨j, by omega, h2, h3⟩
    ·exact ⟨i, by omega, h, by simpa using h1⟩
   ·rintro ⟨j, h1, h2, h3⟩
    by_cases e : j = i
    ·subst e; right; simp [h3]
    ·left; exact ⟨j, by omega, h2, h3⟩
  ·rename_i h
   rw [ih]
   constructor
   ·rintro ⟨j, h1, h2, h3⟩; exact ⟨j, by omega, h2, h3⟩
   ·rintro ⟨j, h1, h2, h3⟩
    by_cases e : j = i
    ·subst e; exact absurd h2 h
    ·exact ⟨j, by omega, h2, h3⟩
theorem wetL_sorted (f : Nat → Bool) (i : Nat) : (wetL f i).Pairwise (· < ·) := by
 induction i with
 | zero => simp [wetL]
 | succ i ih =>
  unfold wetL
  split
  ·rw [List.pairwise_append]
   refine ⟨ih, by simp, fun a ha b hb => ?_⟩
   obtain ⟨j, h1, _, rfl⟩ := (wetL_mem f i a).1 ha
   simp at hb
   subst hb
   omega
  ·exact ih
section
variable {w : World} {r gn gw gt gm : Nat} {vn vw vt : Value} {d : Rf}
end
end Go.Proofs.YthmgafcnoedmjaaGreat
