/- Bytes that are read, and rows of bytes that are made; no program's function in it. -/
import Derived.Test.YthcndifbegmbkaaRow
import Derived.WalkKit
import Derived.WalkSpells
import Derived.Lib.Hide
import Derived.Lib.AppendZerosOnto
import Derived.Lib.SliceRun
import Derived.Laws.CopyOwn
import Derived.Laws.BytesString
import Derived.OwnWalk
import Derived.Deep.LoopGhost
import Derived.Deep.DeepCutAuto
import Derived.Deep.RegionWith
import Derived.BigQuiet
namespace Go.Proofs.Ythcndifbegmbkaa
open Go.RowKit

def byteV (l : List Int) : List Value := l.map (Value.int .u8)
def bytesOk (l : List Int) : Prop := ∀ x ∈ l, 0 ≤ x ∧ x < 256
theorem byteV_one (l : List Int) : ∀ v ∈ byteV l, v.oneCell' = true := by
  intro v hv
  obtain ⟨x, _, rfl⟩ := List.mem_map.1 hv
  rfl

theorem cell_of {w : World} {p : Nat} {cs : Array Value} {t : TypeId} (h : w.heap[p]? = some (.cells cs t (0, 0))) (i : Nat) : w.cell? ⟨p, i, none⟩ = cs[i]? ∧ w.frozen? ⟨p, i, none⟩ = false := by
  simp [World.cell?, World.frozen?, h]

/-- A block is a row of these bytes. -/
def Blk (w : World) (g : Nat) (l : List Int) : Prop := w.heap[g]? = some (.cells (byteV l).toArray 5 (0, 0))

/-- A slice that lies somewhere and reads as these bytes. -/
def Pt (w : World) (v : Value) (l : List Int) : Prop := ∃ b off cap, v = .slice (some ⟨b, off, none⟩) l.length cap ∧ l.length ≤ cap ∧ b < w.heap.size ∧ ∀ j (h : j < l.length), w.cell? ⟨b, off + j, none⟩ = some (.int .u8 l[j])

theorem blk_new (w : World) (l : List Int) : Blk (w.alloc (.cells (byteV l).toArray 5)) w.heap.size l := heap_alloc_new w _
theorem Blk.lt {w : World} {g : Nat} {l : List Int} (h : Blk w g l) : g < w.heap.size := (Array.getElem?_eq_some_iff.1 h).1
theorem Blk.cell {w : World} {g : Nat} {l : List Int} (h : Blk w g l) {j : Nat} (hj : j < l.length) : w.cell? ⟨g, j, none⟩ = some (.int .u8 l[j]) := by
  rw [(cell_of h j).1]; simp [byteV, hj]
theorem Blk.old {B : Nat} {w w' : World} {g : Nat} {l : List Int} (h : Blk w g l) (hb : Below B w w') (hB : g < B) : Blk w' g l := (hb.block g hB).trans h
theorem Blk.pt {w : World} {g : Nat} {l : List Int} (h : Blk w g l) {n c : Nat} (hn : n = l.length) (hc : n ≤ c) : Pt w (.slice (some ⟨g, 0, none⟩) n c) l :=
  ⟨g, 0, c, by rw [hn], by omega, h.lt, fun j hj => by rw [Nat.zero_add]; exact h.cell hj⟩
theorem Pt.below {B : Nat} {w w' : World} {v : Value} {l : List Int} (h : Pt w v l) (hb : Below B w w') (hB : w.heap.size ≤ B) : Pt w' v l := by
  obtain ⟨b, off, cap, rfl, h1, h2, h3⟩ := h
  have := hb.size
  refine ⟨b, off, cap, rfl, h1, ?_, fun j hj => ?_⟩
  · by_cases h0 : b < w'.heap.size
    · exact h0
    · have h4 := hb.block b (by omega)
      rw [Array.getElem?_eq_none (by omega), Array.getElem?_eq_getElem h2] at h4
      cases h4
  · rw [← h3 j hj]
    exact World.cell?_of_block (hb.block b (by omega))

theorem SlK.below {q : IntKind} {B : Nat} {w w' : World} {v : Value} {l : List Int} (h : SlK q w v l) (hb : Below B w w') (hB : w.heap.size ≤ B) : SlK q w' v l := by
  obtain ⟨p, cap, rfl, h1, h2, h3, h4⟩ := h
  refine ⟨p, cap, rfl, h1, h2, h3, fun a ha => ?_⟩
  obtain ⟨h5, h6, h7⟩ := h4 a ha
  refine ⟨h5, ?_, fun j hj => ?_⟩
  · by_cases h0 : a.block < w'.heap.size
    · exact h0
    · have h8 := hb.block a.block (by omega)
      rw [Array.getElem?_eq_none (by omega), Array.getElem?_eq_getElem h6] at h8
      cases h8
  · rw [← h7 j hj]
    exact World.cell?_of_block (hb.block a.block (by omega))

theorem Pt.slK {w : World} {v : Value} {l : List Int} (h : Pt w v l) (hb : bytesOk l) : SlK .u8 w v l := by
  obtain ⟨b, off, cap, rfl, h1, h2, h3⟩ := h
  refine ⟨_, cap, rfl, h1, fun x hx => ?_, (fun e => by cases e), fun a e => by cases e; exact ⟨rfl, h2, h3⟩⟩
  have := hb x hx
  exact WalkArith.wf_u8 (by omega)

theorem SlK.ok {w : World} {v : Value} {l : List Int} (h : SlK .u8 w v l) : bytesOk l := by
  obtain ⟨p, cap, rfl, h1, h2, h3, h4⟩ := h
  exact fun x hx => by have := bounds_u8 (h2 x hx); omega

theorem infoU8 : (Try.prog.info? 5).map (fun i => (i.zero, i.size, i.bytes)) = some (some (.int .u8 0), 1, 1) := by kernel_rfl
theorem info5 : (Try.prog.info? 5).map (·.size) = some 1 := by kernel_rfl
end Go.Proofs.Ythcndifbegmbkaa
