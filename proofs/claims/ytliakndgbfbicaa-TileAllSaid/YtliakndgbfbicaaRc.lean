/- The reference's Crash. -/
import Derived.Test.YtliakndgbfbicaaRf
import Derived.Test.YtliakndgbfbicaaStore
namespace Go.Proofs.Ytliakndgbfbicaa
open Go.RowKit Go.Maps

theorem and_one (y : Int) : bits BinOp.and IntKind.u8 y 1 = 0 ∨ bits BinOp.and IntKind.u8 y 1 = 1 := by
  have h : bits BinOp.and IntKind.u8 y 1 = IntKind.u8.wrap ((BitVec.ofInt 8 y &&& BitVec.ofInt 8 1).toNat : Int) := rfl
  rw [h, BitVec.toNat_and, show (BitVec.ofInt 8 1).toNat = 1 from rfl, Nat.and_one_is_mod, IntWalk.u8_in _ (by omega)]
  omega

/-- Bit i of a mask. -/
def bitR (ms : List Int) (i : Nat) : Bool := match ms[i / 8]? with | some x => (bits BinOp.and IntKind.u8 (x / 2 ^ (i % 8)) 1 == 1) | none => false

/-- How many of the first i are wet. -/
def wetK (f : Nat → Bool) : Nat → Nat
  | 0 => 0
  | i + 1 => if f i = true then wetK f i + 1 else wetK f i
theorem wetK_le (f : Nat → Bool) (i : Nat) : wetK f i ≤ i := by
  induction i with
  | zero => exact Nat.le_refl _
  | succ i ih => unfold wetK; split <;> omega

/-- The disk when the first i tiles have been gone through. -/
def Rf.cr (d : Rf) (ms : List Int) (i : Nat) : Rf := { d with
  now := fun j => if j < i ∧ d.wet j = true ∧ bitR ms (wetK d.wet j) = false then d.was j else d.now j
  was := fun j => if j < i ∧ d.wet j = true then (if bitR ms (wetK d.wet j) = false then d.was j else d.now j) else d.was j
  wet := fun j => if j < i then false else d.wet j }
def Rf.crashed (d : Rf) (ms : List Int) : Rf := { d.cr ms d.k with off := true, on := false }

def Four (r gn gw gt : Nat) (k : Nat) : Prop := k = r ∨ k = gn ∨ k = gw ∨ k = gt

section
variable {w : World} {r gn gw gt gm : Nat} {vn vw vt : Value} {d : Rf}

theorem RfAt.of_fields {d' : Rf} (h : RfAt w r gn gw gt gm vn vw vt d) (hk : d'.k = d.k) (hn : ∀ i, i < d.k → d'.now i = d.now i) (hw : ∀ i, i < d.k → d'.was i = d.was i) (ht : ∀ i, i < d.k → d'.wet i = d.wet i)
    (ho : d'.off = d.off) (hon : d'.on = d.on) (ha : d'.at_ = d.at_) (hv : d'.mv = d.mv) (hm : d'.mask = d.mask) : RfAt w r gn gw gt gm vn vw vt d' := by
  refine ⟨by rw [ho, hon, ha, hv]; exact h.cells, by rw [hk]; exact h.sn, by rw [hk]; exact h.sw, by rw [hk]; exact h.st, fun k => ?_, fun k => ?_, fun k => ?_, by rw [hv, hm]; exact h.mask, h.ne, by rw [hk]; exact h.kle, by rw [hon, ha]; exact h.ok, by rw [hm]; exact h.mok, by rw [hk]; exact h.nil0⟩
  all_goals rw [hk] at k ⊢
  · obtain ⟨cur, h1, h2⟩ := h.now k
    exact ⟨cur, h1, fun i hi => by show cur[i]? = some (.string (d'.now i)); rw [hn i hi]; exact h2 i hi⟩
  · obtain ⟨cur, h1, h2⟩ := h.was k
    exact ⟨cur, h1, fun i hi => by show cur[i]? = some (.string (d'.was i)); rw [hw i hi]; exact h2 i hi⟩
  · obtain ⟨cur, h1, h2⟩ := h.wet k
    exact ⟨cur, h1, fun i hi => by show cur[i]? = some (.bool (d'.wet i)); rw [ht i hi]; exact h2 i hi⟩

theorem RfAt.putNow (h : RfAt w r gn gw gt gm vn vw vt d) {i : Nat} (s : ByteArray) : RfAt (w.setCell ⟨gn, i, none⟩ (.string s)) r gn gw gt gm vn vw vt { d with now := updN d.now i s } := by
  obtain ⟨n1, n2, n3, n4, n5, n6, n7, n8, n9, n10⟩ := h.ne
  have o := fun k (hk : k ≠ gn) => Below.heap_setCell w ⟨gn, i, none⟩ (.string s) k hk
  refine ⟨(o r n1).trans h.cells, h.sn, h.sw, h.st, fun k => ?_, fun k => (h.was k).of_block (o gw n4.symm), fun k => (h.wet k).of_block (o gt n5.symm), h.mask.keep (o gm n8), h.ne, h.kle, h.ok, h.mok, h.nil0⟩
  obtain ⟨cur, h1, h2⟩ := (h.now k).set i (.string s)
  exact ⟨cur, h1, fun j hj => by rw [h2 j hj]; show some (updN (fun i => Value.string (d.now i)) i (.string s) j) = some (.string (updN d.now i s j)); unfold updN; split <;> rfl⟩
theorem RfAt.putWas (h : RfAt w r gn gw gt gm vn vw vt d) {i : Nat} (s : ByteArray) : RfAt (w.setCell ⟨gw, i, none⟩ (.string s)) r gn gw gt gm vn vw vt { d with was := updN d.was i s } := by
  obtain ⟨n1, n2, n3, n4, n5, n6, n7, n8, n9, n10⟩ := h.ne
  have o := fun k (hk : k ≠ gw) => Below.heap_setCell w ⟨gw, i, none⟩ (.string s) k hk
  refine ⟨(o r n2).trans h.cells, h.sn, h.sw, h.st, fun k => (h.now k).of_block (o gn n4), fun k => ?_, fun k => (h.wet k).of_block (o gt n6.symm), h.mask.keep (o gm n9), h.ne, h.kle, h.ok, h.mok, h.nil0⟩
  obtain ⟨cur, h1, h2⟩ := (h.was k).set i (.string s)
  exact ⟨cur, h1, fun j hj => by rw [h2 j hj]; show some (updN (fun i => Value.string (d.was i)) i (.string s) j) = some (.string (updN d.was i s j)); unfold updN; split <;> rfl⟩
theorem RfAt.putWet (h : RfAt w r gn gw gt gm vn vw vt d) {i : Nat} (b : Bool) : RfAt (w.setCell ⟨gt, i, none⟩ (.bool b)) r gn gw gt gm vn vw vt { d with wet := updN d.wet i b } := by
  obtain ⟨n1, n2, n3, n4, n5, n6, n7, n8, n9, n10⟩ := h.ne
  have o := fun k (hk : k ≠ gt) => Below.heap_setCell w ⟨gt, i, none⟩ (.bool b) k hk
  refine ⟨(o r n3).trans h.cells, h.sn, h.sw, h.st, fun k => (h.now k).of_block (o gn n5), fun k => (h.was k).of_block (o gw n6), fun k => ?_, h.mask.keep (o gm n10), h.ne, h.kle, h.ok, h.mok, h.nil0⟩
  obtain ⟨cur, h1, h2⟩ := (h.wet k).set i (.bool b)
  exact ⟨cur, h1, fun j hj => by rw [h2 j hj]; show some (updN (fun i => Value.bool (d.wet i)) i (.bool b) j) = some (.bool (updN d.wet i b j)); unfold updN; split <;> rfl⟩

/-- One of the seven cells is turned. -/
theorem RfAt.poke {d' : Rf} (h : RfAt w r gn gw gt gm vn vw vt d) (i : Nat) (u : Value)
    (hc : (#[vn, vw, vt, .bool d.off, .bool d.on, .int .i64 d.at_, d.mv] : Array Value).setIfInBounds i u = #[vn, vw, vt, .bool d'.off, .bool d'.on, .int .i64 d'.at_, d'.mv])
    (hk : d'.k = d.k) (hn : d'.now = d.now) (hw : d'.was = d.was) (ht : d'.wet = d.wet) (hm : SlB w d'.mv d'.mask gm) (hok : d'.on = true → -1 ≤ d'.at_ ∧ d'.at_ ≤ 9223372036854775807) (hmok : bytesOk d'.mask) : RfAt (w.setCell ⟨r, i, none⟩ u) r gn gw gt gm vn vw vt d' := by
  obtain ⟨n1, n2, n3, n4, n5, n6, n7, n8, n9, n10⟩ := h.ne
  have o := fun k (hk : k ≠ r) => Below.heap_setCell w ⟨r, i, none⟩ u k hk
  refine ⟨?_, by rw [hk]; exact h.sn, by rw [hk]; exact h.sw, by rw [hk]; exact h.st, ?_, ?_, ?_, hm.keep (o gm n7), h.ne, by rw [hk]; exact h.kle, hok, hmok, by rw [hk]; exact h.nil0⟩
  · rw [heap_setCell_same w r i _ _ _ h.cells, hc]
  · rw [hk, hn]; exact fun k => (h.now k).of_block (o gn n1.symm)
  · rw [hk, hw]; exact fun k => (h.was k).of_block (o gw n2.symm)
  · rw [hk, ht]; exact fun k => (h.wet k).of_block (o gt n3.symm)
end
end Go.Proofs.Ytliakndgbfbicaa
