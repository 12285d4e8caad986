/- begun answers true. -/
import Derived.Test.YtliakndgbfbicaaPure
namespace Go.Proofs.Ytliakndgbfbicaa
open Go.RowKit Go.Maps

theorem SlB.fr {W W' : World} {v : Value} {l : List Int} {g : Nat} {S : Nat → Prop} (h : SlB W v l g) (hf : Fr W.heap.size S W W') (hg : ¬ S g) : SlB W' v l g := by
  obtain ⟨p0, len, cap, e, e2, hle, hcap, hn, ha⟩ := h
  refine ⟨p0, len, cap, e, e2, hle, hcap, hn, fun a hpa hne => ?_⟩
  obtain ⟨h1, h2, h3⟩ := ha a hpa hne
  refine ⟨h1, h2, fun j hj => ?_⟩
  have h4 := h3 j hj
  rw [← h4]
  exact World.cell?_of_block (hf.block g (block_lt_of_cell h4) hg)

/-- The disk lies wholly among the call's own blocks. -/
structure Own (B p bn bo : Nat) : Prop where
  p : B ≤ p
  bn : B ≤ bn
  bo : B ≤ bo

theorem Own.fr {B p bn bo : Nat} (h : Own B p bn bo) {w W W' : World} (hb : Below B w W) (hB : B ≤ W.heap.size) (hf : Fr W.heap.size (Three p bn bo) W W') : Below B w W' :=
  ⟨hf.os.trans hb.os, hf.tape.trans hb.tape, hf.output.trans hb.output, Nat.le_trans hb.size hf.size, fun k hk => (hf.block k (by omega) (by have := h.p; have := h.bn; have := h.bo; rintro (e | e | e) <;> omega)).trans (hb.block k hk)⟩

theorem slB_new (w : World) (l : List Int) (t : TypeId) (hl : l.length ≤ 1000000) : SlB (w.alloc (.cells (byteV l).toArray t)) (.slice (some ⟨w.heap.size, 0, none⟩) l.length l.length) l w.heap.size :=
  ⟨_, _, _, rfl, rfl, Nat.le_refl _, hl, (fun e => by cases e), fun a e _ => by
    cases e
    refine ⟨rfl, rfl, fun j hj => ?_⟩
    have h2 := (cell_of (heap_alloc_new w (.cells (byteV l).toArray t)) (0 + j)).1
    rw [h2]
    simp [byteV, hj]⟩

set_option maxRecDepth 100000 in
set_option maxHeartbeats 1000000 in
theorem begun_true (w : World) : Calls Try.prog 4 #[] w fun e w' => e = .returned (.bool true) ∧ Below w.heap.size w w' := by
  go_enter Try.func4, Try.ntmps4
  go_wp2_with fail
  refine (new_any w 3).mono ?_
  rintro e w1 ⟨rfl, hD, hB⟩
  have hmk : ∀ W, (Instr.makeSlice 28 (.int .i64 64) (.int .i64 64)).run Try.prog W = .ok (.slice (some ⟨W.heap.size, 0, none⟩) 64 64) (W.alloc (.cells zcs 5)) := fun _ => by kernel_rfl
  have hz0 := (cell_of (heap_alloc_new w1 (.cells zcs 5)) 0).1
  rw [show zcs[0]? = some (.int .u8 0) from rfl] at hz0
  have hf0 := (cell_of (heap_alloc_new w1 (.cells zcs 5)) 0).2
  go_wp2_with fail
  rw [show zcs.setIfInBounds 0 (.int .u8 9) = (byteV nine).toArray from rfl]
  have hs := slB_new w1 nine 5 (by simp [nine])
  have hD2 := hD.kept (fun k hk => Below.heap_alloc w1 (.cells (byteV nine).toArray 5) k hk)
  have hB2 : Below w.heap.size w (w1.alloc (.cells (byteV nine).toArray 5)) := hB.alloc hB.size _
  have hgb : w.heap.size ≤ w1.heap.size := hB.size
  have hl := hD.lt
  have hO : Own w.heap.size (w.heap.size + 1 + 1) w.heap.size (w.heap.size + 1) := ⟨by omega, by omega, by omega⟩
  rw [show clampT 3 = 3 from rfl] at hD2
  generalize hp : w.heap.size + 1 + 1 = p at *
  generalize hbo : w.heap.size + 1 = bo at *
  generalize hW2 : w1.alloc (.cells (byteV nine).toArray 5) = w2 at *
  generalize w1.heap.size = gb at *
  have hB2b : w.heap.size ≤ w2.heap.size := hB2.size
  clear hp hbo hW2 hmk hz0 hf0 hD hB
  have hng : ¬ Three p w.heap.size bo gb := by rintro (e | e | e) <;> omega
  refine (tiles_any w2 hD2).mono ?_
  rintro e w' ⟨rfl, rfl⟩
  go_wp2_with fail
  refine (write_plain w' hD2 rfl 0 (by omega) (by decide) _ nine hs nine_ok.1 nine_ok.2 rfl).mono ?_
  rintro e w3 ⟨rfl, hD3, hF3⟩
  have hs3 := hs.fr hF3 hng
  have hB3 := hO.fr hB2 hB2b hF3
  have hB3b : w.heap.size ≤ w3.heap.size := hB3.size
  clear hs hF3 hB2 hB2b hD2
  go_wp2_with fail
  refine (write_plain w3 hD3 rfl 2 (by omega) (by decide) _ nine hs3 nine_ok.1 nine_ok.2 rfl).mono ?_
  rintro e w4 ⟨rfl, hD4, hF4⟩
  have hB4 := hO.fr hB3 hB3b hF4
  have hB4b : w.heap.size ≤ w4.heap.size := hB4.size
  clear hs3 hF4 hB3 hB3b hD3
  change DiskAt w4 p w.heap.size bo 0 dB at hD4
  go_wp2_with fail
  refine (loose_any w4 hD4).mono ?_
  rintro e w5 ⟨v, ls, rfl, hls, _, hsl, hb5⟩
  obtain rfl := loose_B hls
  obtain ⟨p0, cap, rfl, _, _⟩ := hsl.shape
  have hD5 := hD4.kept (fun k hk => hb5.block k hk)
  have hB5 : Below w.heap.size w w5 := hB4.trans (hb5.mono hB4b)
  have hB5b : w.heap.size ≤ w5.heap.size := hB5.size
  clear hls hsl hb5 hB4 hB4b hD4
  go_wp2_with fail
  have hD6 := hD5.kept (fun k hk => Below.heap_alloc w5 (.cells #[.int .u8 2] 5) k hk)
  have hB6 : Below w.heap.size w (w5.alloc (.cells #[.int .u8 2] 5)) := hB5.alloc hB5b _
  have hB6b : w.heap.size ≤ (w5.alloc (.cells #[.int .u8 2] 5)).heap.size := hB6.size
  refine (crash_to _ hD6 (slB_new w5 [2] 5 (by simp)) (by unfold bytesOk; simp)).mono ?_
  rintro e w7 ⟨rfl, d7, hd7, hD7, hF7⟩
  obtain rfl := crashed_B hd7
  have hB7 := hO.fr hB6 hB6b hF7
  have hB7b : w.heap.size ≤ w7.heap.size := hB7.size
  clear hd7 hF7 hB6 hB6b hD6 hB5 hB5b hD5
  go_wp2_with fail
  refine (dead_any w7 hD7).mono ?_
  rintro e w' ⟨rfl, rfl⟩
  go_wp2_with fail
  refine (power_any w' hD7).mono ?_
  rintro e w8 ⟨rfl, hw8⟩
  have hD8 : DiskAt w8 p w.heap.size bo 0 dC := by
    rw [hw8]
    have ok := hD7.ok
    exact hD7.poke (d' := dC) 3 _ rfl rfl rfl hD7.mask ⟨ok.lo, ok.hi, ok.now, ok.old, ok.llo, ok.lhi, ok.mok⟩
  have hB8 : Below w.heap.size w w8 := by rw [hw8]; exact hB7.setCell hO.p _
  clear hw8
  have hB8b : w.heap.size ≤ w8.heap.size := hB8.size
  clear hB7 hB7b hD7
  go_wp2_with fail
  refine (read_ok w8 hD8 rfl 0 (by omega) (by decide) (List.replicate 64 0) readC_0 (by simp)).mono ?_
  rintro e w9 ⟨rfl, hw9⟩
  have hD9 : DiskAt w9 p w.heap.size bo 0 dC := by rw [hw9]; exact hD8.kept (fun k hk => Below.heap_alloc w8 _ k hk)
  have hB9 : Below w.heap.size w w9 := by rw [hw9]; exact hB8.alloc hB8b _
  have hx : w9.cell? ⟨w8.heap.size, 0, none⟩ = some (.int .u8 0) := by rw [hw9, (cell_of (heap_alloc_new w8 _) 0).1]; rfl
  have hxl : w8.heap.size < w9.heap.size := by rw [hw9]; simp
  clear hw9
  have hB9b : w.heap.size ≤ w9.heap.size := hB9.size
  go_wp2_with fail
  refine (read_ok w9 hD9 rfl 2 (by omega) (by decide) nine readC_2 (by simp [nine])).mono ?_
  rintro e wA ⟨rfl, hwA⟩
  have hDA : DiskAt wA p w.heap.size bo 0 dC := by rw [hwA]; exact hD9.kept (fun k hk => Below.heap_alloc w9 _ k hk)
  have hBA : Below w.heap.size w wA := by rw [hwA]; exact hB9.alloc hB9b _
  have hxA : wA.cell? ⟨w8.heap.size, 0, none⟩ = some (.int .u8 0) := by rw [hwA, ← hx]; exact World.cell?_of_block (Below.heap_alloc w9 _ _ hxl)
  have hyA : wA.cell? ⟨w9.heap.size, 0, none⟩ = some (.int .u8 9) := by rw [hwA, (cell_of (heap_alloc_new w9 _) 0).1]; rfl
  clear hwA hx
  have hBAb : w.heap.size ≤ wA.heap.size := hBA.size
  go_wp2_with fail
  refine (sync_plain wA hDA rfl rfl).mono ?_
  rintro e wB ⟨rfl, hDB, hFB⟩
  have hBB := hO.fr hBA hBAb hFB
  clear hFB hDB hDA hD9 hD8
  go_wp2_with fail
  go_ret
  exact ⟨rfl, hBB⟩
end Go.Proofs.Ytliakndgbfbicaa
