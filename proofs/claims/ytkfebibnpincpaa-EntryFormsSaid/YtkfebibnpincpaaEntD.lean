/- decode. -/
import Derived.Test.YtkfebibnpincpaaEntY
namespace Go.Proofs.Ytkfebibnpincpaa
open Go.RowKit

def DecPost (w : World) (l : List Int) (e : Ending) (w' : World) : Prop := ∃ A1 n1 c1 A2 n2 c2 A3 n3 c3 A4 n4 c4 A5 n5 c5 A6 n6 c6, e = .returned (.agg (entC (entR l) (.slice A1 n1 c1) (.slice A2 n2 c2) (.slice A3 n3 c3) (.slice A4 n4 c4) (.slice A5 n5 c5) (.slice A6 n6 c6))) ∧ EntF w' (w.heap.size + 1) (.slice A1 n1 c1) (.slice A2 n2 c2) (.slice A3 n3 c3) (.slice A4 n4 c4) (.slice A5 n5 c5) (.slice A6 n6 c6) (entR l) ∧ Below w.heap.size w w'

theorem EntF.low {w : World} {B B' : Nat} {s1 s2 s3 s4 s5 s6 : Value} {e : Ent} (h : EntF w B s1 s2 s3 s4 s5 s6 e) (hB : B' ≤ B) : EntF w B' s1 s2 s3 s4 s5 s6 e :=
  ⟨⟨h.old.1, fun b hb => Nat.le_trans hB (h.old.2 b hb)⟩, ⟨h.new.1, fun b hb => Nat.le_trans hB (h.new.2 b hb)⟩, ⟨h.moves.1, fun b hb => Nat.le_trans hB (h.moves.2 b hb)⟩, ⟨h.lives.1, fun b hb => Nat.le_trans hB (h.lives.2 b hb)⟩, ⟨h.dirty.1, fun b hb => Nat.le_trans hB (h.dirty.2 b hb)⟩, h.opens.low hB⟩
theorem entC_all (e : Ent) (A1 A2 A3 A4 A5 A6 : Option Addr) (n1 c1 n2 c2 n3 c3 n4 c4 n5 c5 n6 c6 : Nat) : (entC e (.slice A1 n1 c1) (.slice A2 n2 c2) (.slice A3 n3 c3) (.slice A4 n4 c4) (.slice A5 n5 c5) (.slice A6 n6 c6)).all (·.oneCell') = true := by simp [entC, Value.oneCell']
def ent0 : Array Value := #[.int .i64 0, .int .i64 0, .int .i64 0, .int .i64 0, .int .i64 0, .int .i64 0, .int .i64 0, .int .i64 0, .int .i64 0, .int .i64 0, .slice none 0 0, .slice none 0 0, .slice none 0 0, .slice none 0 0, .slice none 0 0, .slice none 0 0]
theorem setRow_far (w : World) (g : Nat) (cs : Array Value) {k : Nat} (h : k ≠ g) : (w.setRow g cs).heap[k]? = w.heap[k]? := setRow_other _ _ _ _ h
theorem setRow_size (w : World) (g : Nat) (cs : Array Value) : (w.setRow g cs).heap.size = w.heap.size := by simp [World.setRow]
theorem setRow_below (w : World) (g : Nat) (cs : Array Value) {B : Nat} (hB : B ≤ g) : Below B w (w.setRow g cs) := ⟨rfl, rfl, rfl, by rw [setRow_size]; exact Nat.le_refl _, fun k hk => setRow_far _ _ _ (by omega)⟩
theorem Kpt.row {g B : Nat} (w : World) (cs : Array Value) (hB : g < B) : Kpt B w (w.setRow g cs) := ⟨by rw [setRow_size]; exact Nat.le_refl _, fun b hb _ => setRow_far _ _ _ (by omega)⟩

set_option maxRecDepth 100000 in
set_option maxHeartbeats 1000000 in
theorem decode_any (w : World) {sv : Value} {l : List Int} (h : SlK .u8 w sv l) :
    Calls Try.prog 22 #[sv] w (DecPost w l) := by
  obtain ⟨A, c, rfl, q⟩ := h.form
  obtain ⟨W, hW⟩ : ∃ W, W = w.alloc (.cells ent0 30) := ⟨_, rfl⟩
  have hb0 : Below w.heap.size w W := by rw [hW]; exact (Below.refl _ _).alloc (Nat.le_refl _) _
  have hsz : W.heap.size = w.heap.size + 1 := by rw [hW]; simp
  have hbx : W.heap[w.heap.size]? = some (.cells ent0 30 (0, 0)) := by rw [hW]; exact heap_alloc_new w _
  have hb1 : Below W.heap.size W (W.alloc (.cells #[.slice A l.length c] 83)) := (Below.refl _ _).alloc (Nat.le_refl _) _
  have hrs : RS W (W.alloc (.cells #[.slice A l.length c] 83)) W.heap.size (.slice A l.length c) l := ⟨heap_alloc_new W _, h.below hb0 (Nat.le_refl _), hb1, Nat.le_refl _⟩
  have HRS := Lib.hid hrs
  have HB0 := Lib.hid hb0
  have HB1 := Lib.hid hb1
  have HSZ := Lib.hid hsz
  have HBX := Lib.hid ((hb1.block w.heap.size (by omega)).trans hbx)
  clear h hb0 hb1 hsz hbx hrs
  go_enter Try.func22, Try.ntmps22
  go_upto_region 1 with (fail)
  show Code.wp _ _ _ _ (w.alloc (.cells ent0 30))
  rw [← hW]
  clear hW
  go_upto_region 2 with (fail)
  generalize W.alloc (.cells #[.slice A l.length c] 83) = W2 at *
  go_wp2_with fail
  refine (rentry_any HRS.out).mono ?_
  rintro r w3 ⟨s1, s2, s3, s4, s5, s6, sv', rfl, hE, h3, g3⟩
  obtain ⟨A1, c1, A2, c2, A3, c3, A4, c4, A5, c5, A6, c6, rfl, rfl, rfl, rfl, rfl, rfl⟩ := hE.entS.form
  have hp : w.heap.size < W2.heap.size := (Array.getElem?_eq_some_iff.1 HBX.out).1
  have hq : w.heap.size < W.heap.size := by rw [HSZ.out]; omega
  have hbx3 := (g3.block w.heap.size hp (by omega)).trans HBX.out
  have hbel : Below w.heap.size w w3 := HB0.out.trans ((HB1.out.mono (by omega)).trans (g3.below (Nat.le_of_lt hq) HRS.out.lt))
  have HB3 := Lib.hid hbx3
  have HI := Lib.hid (show (Try.prog.info? 30).map (·.size) = some (entC (entR l) (.slice A1 (entR l).old.length c1) (.slice A2 (entR l).new.length c2) (.slice A3 (entR l).moves.length c3) (.slice A4 (entR l).lives.length c4) (.slice A5 (entR l).dirty.length c5) (.slice A6 (entR l).opens.length c6)).size from infoEnt)
  have HA := Lib.hid (entC_all (entR l) A1 A2 A3 A4 A5 A6 (entR l).old.length c1 (entR l).new.length c2 (entR l).moves.length c3 (entR l).lives.length c4 (entR l).dirty.length c5 (entR l).opens.length c6)
  have HN := Lib.hid (show (ent0.size : Nat) = (entC (entR l) (.slice A1 (entR l).old.length c1) (.slice A2 (entR l).new.length c2) (.slice A3 (entR l).moves.length c3) (.slice A4 (entR l).lives.length c4) (.slice A5 (entR l).dirty.length c5) (.slice A6 (entR l).opens.length c6)).size from rfl)
  have HE := Lib.hid ((hE.low (show w.heap.size + 1 ≤ W2.heap.size + 1 by omega)).at (Kpt.row w3 (entC (entR l) (.slice A1 (entR l).old.length c1) (.slice A2 (entR l).new.length c2) (.slice A3 (entR l).moves.length c3) (.slice A4 (entR l).lives.length c4) (.slice A5 (entR l).dirty.length c5) (.slice A6 (entR l).opens.length c6)) (show w.heap.size < w.heap.size + 1 by omega)))
  have HBL := Lib.hid (hbel.trans (setRow_below w3 w.heap.size (entC (entR l) (.slice A1 (entR l).old.length c1) (.slice A2 (entR l).new.length c2) (.slice A3 (entR l).moves.length c3) (.slice A4 (entR l).lives.length c4) (.slice A5 (entR l).dirty.length c5) (.slice A6 (entR l).opens.length c6)) (Nat.le_refl _)))
  have HR := Lib.hid (setRow_heap w3 w.heap.size ent0 (entC (entR l) (.slice A1 (entR l).old.length c1) (.slice A2 (entR l).new.length c2) (.slice A3 (entR l).moves.length c3) (.slice A4 (entR l).lives.length c4) (.slice A5 (entR l).dirty.length c5) (.slice A6 (entR l).opens.length c6)) _ _ hbx3)
  clear hE h3 g3 hp hq hbx3 hbel
  generalize (entR l).old.length = n1 at *
  generalize (entR l).new.length = n2 at *
  generalize (entR l).moves.length = n3 at *
  generalize (entR l).lives.length = n4 at *
  generalize (entR l).dirty.length = n5 at *
  generalize (entR l).opens.length = n6 at *
  go_wp2_with (with_reducible refine wpList_store_row rfl 30 (.tmp 2) (.tmp 6) rfl w.heap.size _ rfl rfl 30 _ HB3.out HI.out HN.out HA.out ?_)
  refine bodyPost_ret (v := .agg (entC (entR l) (.slice A1 n1 c1) (.slice A2 n2 c2) (.slice A3 n3 c3) (.slice A4 n4 c4) (.slice A5 n5 c5) (.slice A6 n6 c6))) ?_ rfl ?_
  · exact results_cell_row Try.results22 _ _ _ _ _ _ _ rfl HR.out Try.underlying30 rfl HI.out
  · exact ⟨_, _, _, _, _, _, _, _, _, _, _, _, _, _, _, _, _, _, rfl, HE.out, HBL.out⟩
end Go.Proofs.Ytkfebibnpincpaa
