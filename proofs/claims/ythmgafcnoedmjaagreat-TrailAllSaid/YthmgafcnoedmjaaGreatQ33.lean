/- TrailAll, a part. -/
import Derived.Test.YthmgafcnoedmjaaGreatQ32
namespace Go.Proofs.YthmgafcnoedmjaaGreat
open Go.RowKit
def dvE (n : Int) : Nat → Int
 | 0 => n | 1 => n / 256 | 2 => n / 256 / 256 | _ => n / 256 / 256 / 256
def im1 : Nat → Int
 | 0 => 0 | _ => -1
def nv1 (n : Int) : Nat → List Int
 | 0 => [0] | _ => [n % 256]
theorem nv1_numL (n : Int) : nv1 n 1 = numL n 1 := by
 simp [nv1, numL]
set_option maxRecDepth 100000 in
set_option maxHeartbeats 1000000 in
theorem rnum_1 (w : World) (n : Int) (n0 : 0 ≤ n) (n1 : n ≤ 9223372036854775807) : Calls Tryz.prog 87 #[.int .i64 n, .int .i64 1] w fun e w' => e = .returned (.slice (some ⟨w.heap.size, 0, none⟩) 1 1) ∧ w' = w.alloc (.cells (byteV (numL n 1)).toArray 5) := by
 have hmk : ∀ W, (Instr.makeSlice 36 (.int .i64 1) (.int .i64 1)).run Tryz.prog W = .ok (.slice (some ⟨W.heap.size, 0, none⟩) 1 1) (W.alloc (.cells (byteV (nv1 n 0)).toArray 5)) := fun _ => by kernel_rfl
 rw [← nv1_numL]
 go_enter Tryz.func87, Tryz.ntmps87
 go_wp2
 go_loopw [0, 6] (fun s i wr => ∃ k : Nat, k ≤ 1 ∧ i = .int .i64 (im1 k) ∧ s = .int .i64 (dvE n k) ∧ wr = w.alloc (.cells (byteV (nv1 n k)).toArray 5)) (fun _ i _ => (RowKit.intOf i + 1).toNat)
 case atStart => exact ⟨0, by omega, rfl, rfl, rfl⟩
 case round =>
  obtain ⟨k, hk, hi, hs, hw⟩ := hrel
  subst hi hs hw
  have h0 := fun j => (c_o (heap_alloc_new w (.cells (byteV (nv1 n k)).toArray 5)) j)
  obtain rfl | rfl : k = 0 ∨ k = 1 := by omega
  ·obtain ⟨e1, f1⟩ := h0 0
   rw [show (byteV (nv1 n 0)).toArray[0]? = some (.int .u8 0) from rfl] at e1
   simp only [im1, dvE] at *
   clear h0
   go_wp2
   exact ⟨⟨1, by omega, rfl, rfl, rfl⟩, by simp [RowKit.intOf]⟩
  ·clear h0
   simp only [im1, dvE]
   go_wp2
   go_ret
   exact ⟨rfl, rfl⟩
def im2 : Nat → Int
 | 0 => 1 | 1 => 0 | _ => -1
def nv2 (n : Int) : Nat → List Int
 | 0 => [0, 0] | 1 => [0, n % 256] | _ => [n / 256 % 256, n % 256]
theorem nv2_numL (n : Int) : nv2 n 2 = numL n 2 := by
 simp [nv2, numL]
set_option maxRecDepth 100000 in
set_option maxHeartbeats 1000000 in
theorem rnum_2 (w : World) (n : Int) (n0 : 0 ≤ n) (n1 : n ≤ 9223372036854775807) : Calls Tryz.prog 87 #[.int .i64 n, .int .i64 2] w fun e w' => e = .returned (.slice (some ⟨w.heap.size, 0, none⟩) 2 2) ∧ w' = w.alloc (.cells (byteV (numL n 2)).toArray 5) := by
 have hmk : ∀ W, (Instr.makeSlice 36 (.int .i64 2) (.int .i64 2)).run Tryz.prog W = .ok (.slice (some ⟨W.heap.size, 0, none⟩) 2 2) (W.alloc (.cells (byteV (nv2 n 0)).toArray 5)) := fun _ => by kernel_rfl
 rw [← nv2_numL]
 go_enter Tryz.func87, Tryz.ntmps87
 go_wp2
 go_loopw [0, 6] (fun s i wr => ∃ k : Nat, k ≤ 2 ∧ i = .int .i64 (im2 k) ∧ s = .int .i64 (dvE n k) ∧ wr = w.alloc (.cells (byteV (nv2 n k)).toArray 5)) (fun _ i _ => (RowKit.intOf i + 1).toNat)
 case atStart => exact ⟨0, by omega, rfl, rfl, rfl⟩
 case round =>
  obtain ⟨k, hk, hi, hs, hw⟩ := hrel
  subst hi hs hw
  have h0 := fun j => (c_o (heap_alloc_new w (.cells (byteV (nv2 n k)).toArray 5)) j)
  obtain rfl | rfl | rfl : k = 0 ∨ k = 1 ∨ k = 2 := by omega
  ·obtain ⟨e1, f1⟩ := h0 1
   rw [show (byteV (nv2 n 0)).toArray[1]? = some (.int .u8 0) from rfl] at e1
   simp only [im2, dvE] at *
   clear h0
   go_wp2
   exact ⟨⟨1, by omega, rfl, rfl, rfl⟩, by simp [RowKit.intOf]⟩
  ·obtain ⟨e1, f1⟩ := h0 0
   rw [show (byteV (nv2 n 1)).toArray[0]? = some (.int .u8 0) from rfl] at e1
   simp only [im2, dvE] at *
   clear h0
   go_wp2
   exact ⟨⟨2, by omega, rfl, rfl, rfl⟩, by simp [RowKit.intOf]⟩
  ·clear h0
   simp only [im2, dvE]
   go_wp2
   go_ret
   exact ⟨rfl, rfl⟩
def im3 : Nat → Int
 | 0 => 2 | 1 => 1 | 2 => 0 | _ => -1
def nv3 (n : Int) : Nat → List Int
 | 0 => [0, 0, 0] | 1 => [0, 0, n % 256] | 2 => [0, n / 256 % 256, n % 256] | _ => [n / 256 / 256 % 256, n / 256 % 256, n % 256]
theorem nv3_numL (n : Int) : nv3 n 3 = numL n 3 := by
 simp [nv3, numL]
 omega
set_option maxRecDepth 100000 in
set_option maxHeartbeats 1000000 in
theorem rnum_3 (w : World) (n : Int) (n0 : 0 ≤ n) (n1 : n ≤ 9223372036854775807) : Calls Tryz.prog 87 #[.int .i64 n, .int .i64 3] w fun e w' => e = .returned (.slice (some ⟨w.heap.size, 0, none⟩) 3 3) ∧ w' = w.alloc (.cells (byteV (numL n 3)).toArray 5) := by
 have hmk : ∀ W, (Instr.makeSlice 36 (.int .i64 3) (.int .i64 3)).run Tryz.prog W = .ok (.slice (some ⟨W.heap.size, 0, none⟩) 3 3) (W.alloc (.cells (byteV (nv3 n 0)).toArray 5)) := fun _ => by kernel_rfl
 rw [← nv3_numL]
 go_enter Tryz.func87, Tryz.ntmps87
 go_wp2
 go_loopw [0, 6] (fun s i wr => ∃ k : Nat, k ≤ 3 ∧ i = .int .i64 (im3 k) ∧ s = .int .i64 (dvE n k) ∧ wr = w.alloc (.cells (byteV (nv3 n k)).toArray 5)) (fun _ i _ => (RowKit.intOf i + 1).toNat)
 case atStart => exact ⟨0, by omega, rfl, rfl, rfl⟩
 case round =>
  obtain ⟨k, hk, hi, hs, hw⟩ := hrel
  subst hi hs hw
  have h0 := fun j => (c_o (heap_alloc_new w (.cells (byteV (nv3 n k)).toArray 5)) j)
  obtain rfl | rfl | rfl | rfl : k = 0 ∨ k = 1 ∨ k = 2 ∨ k = 3 := by omega
  ·obtain ⟨e1, f1⟩ := h0 2
   rw [show (byteV (nv3 n 0)).toArray[2]? = some (.int .u8 0) from rfl] at e1
   simp only [im3, dvE] at *
   clear h0
   go_wp2
   exact ⟨⟨1, by omega, rfl, rfl, rfl⟩, by simp [RowKit.intOf]⟩
  ·obtain ⟨e1, f1⟩ := h0 1
   rw [show (byteV (nv3 n 1)).toArray[1]? = some (.int .u8 0) from rfl] at e1
   simp only [im3, dvE] at *
   clear h0
   go_wp2
   exact ⟨⟨2, by omega, rfl, rfl, rfl⟩, by simp [RowKit.intOf]⟩
  ·obtain ⟨e1, f1⟩ := h0 0
   rw [show (byteV (nv3 n 2)).toArray[0]? = some (.int .u8 0) from rfl] at e1
   simp only [im3, dvE] at *
   clear h0
   go_wp2
   exact ⟨⟨3, by omega, rfl, rfl, rfl⟩, by simp [RowKit.intOf]⟩
  ·clear h0
   simp only [im3, dvE]
   go_wp2
   go_ret
   exact ⟨rfl, rfl⟩
end Go.Proofs.YthmgafcnoedmjaaGreat
namespace Go.Proofs.YthmgafcnoedmjaaGreat
open Go.RowKit
def WZ (w : World) (p : Nat) (v : Value) (l : List Int) : Prop := w.heap[p]? = some (.cells #[v] 110 (0, 0)) ∧ w.ownsRow (p + 1) 5 1 v l.length (byteV l)
section
variable {w w' : World} {p : Nat} {v : Value} {l : List Int}
theorem WZ.lt (h : WZ w p v l) : p < w.heap.size := (Array.getElem?_eq_some_iff.1 h.1).1
theorem WZ.far (h : WZ w p v l) {k : Nat} (hk : k ≤ p) : v.ownBlock ≠ some k := fun e => by
 have := h.2.lt k e; omega
theorem WZ.on (h : WZ w p v l) (hb : Below w.heap.size w w') : WZ w' p v l := ⟨(hb.block p h.lt).trans h.1, own_bel h.2 hb⟩
theorem WZ.alloc (h : WZ w p v l) (o : Obj) : WZ (w.alloc o) p v l := h.on ((Below.refl _ _).alloc (Nat.le_refl _) _)
theorem WZ.c0 (h : WZ w p v l) : w.cell? ⟨p, 0, none⟩ = some v := (c_o h.1 0).1
theorem WZ.f (h : WZ w p v l) (i : Nat) : w.frozen? ⟨p, i, none⟩ = false := (c_o h.1 i).2
theorem WZ.below {v' : Value} (h : WZ w p v l) (k : Wr p w v w' v') : Below p w w' :=
 ⟨k.os, k.tape, k.output, k.size, fun i hi => (k.block i (Nat.lt_trans hi h.lt) (by omega) (h.far (by omega))).1⟩
end
theorem WZ.put {w wb w1 : World} {p : Nat} {v v' : Value} {l xs : List Int} (h : WZ w p v l) (hb : Below w.heap.size w wb) (ho : w1.ownsRow (p + 1) 5 1 v' (l ++ xs).length (byteV (l ++ xs))) (hg : wb.grownBy w1 v.ownBlock)
  (hv : ∀ k, v'.ownBlock = some k → v.ownBlock = some k ∨ w.heap.size ≤ k) : WZ (w1.setCell ⟨p, 0, none⟩ v') p v' (l ++ xs) ∧ Wr p w v (w1.setCell ⟨p, 0, none⟩ v') v' := by
 have hg' : w.grownBy w1 v.ownBlock := ⟨hg.os.trans hb.os, hg.tape.trans hb.tape, hg.output.trans hb.output, Nat.le_trans hb.size hg.size, fun k hk hne => (hg.block k (Nat.lt_of_lt_of_le hk hb.size) hne).trans (hb.block k hk)⟩
 have hp : w1.heap[p]? = some (.cells #[v] 110 (0, 0)) := (hg'.block p h.lt (fun e => h.far (Nat.le_refl p) e.symm)).trans h.1
 refine ⟨⟨?_, own_at ho fun k hk => setCell_far _ _ _ _ (fun e => by have := ho.lt k hk; omega)⟩, ⟨hg'.os, hg'.tape, hg'.output, by simpa using hg'.size, fun k hk hkp h2 => ⟨(setCell_far _ _ _ _ hkp).trans (hg'.block k hk (fun e => h2 e.symm)), fun e => ?_⟩⟩⟩
 ·rw [heap_setCell_same w1 p 0 _ _ _ hp]
  rfl
 ·rcases hv k e with hv | hv
  ·exact h2 hv
  ·omega
theorem row_at {w : World} {A : Option Addr} {m c g n cap : Nat} {v' : Value} (hv : v' = .slice (some ⟨g, 0, none⟩) n cap) (h : (Value.slice A m c).ownBlock = some g ∨ w.heap.size ≤ g) : ∀ k, v'.ownBlock = some k → (Value.slice A m c).ownBlock = some k ∨ w.heap.size ≤ k := by
 intro k hk
 subst hv
 have hk' : g = k := by simpa [Value.ownBlock] using hk
 subst hk'
 exact h
def ZPost (p : Nat) (w : World) (v : Value) (L : List Int) (e : Ending) (w' : World) : Prop := e = .returned (.tuple #[]) ∧ ∃ v', WZ w' p v' L ∧ Wr p w v w' v'
set_option maxRecDepth 100000 in
set_option maxHeartbeats 2000000 in
theorem znum_1 {w : World} {p : Nat} {v : Value} {l : List Int} (h : WZ w p v l) (n : Int) (n0 : 0 ≤ n) (n1 : n ≤ 9223372036854775807) (hl : l.length ≤ 100000) :
  Calls Tryz.prog 64 #[.pointer (some ⟨p, 0, none⟩), .int .i64 n, .int .i64 1] w (ZPost p w v (l ++ numL n 1)) := by
 obtain ⟨i, hi, hz0, hz1, hz2⟩ := info_parts infoU8
 obtain ⟨A, m, c, rfl⟩ := own_shape h.2
 have HW := Lib.hid h
 have c0 := h.c0
 have f0 := h.f 0
 have hsz : p < w.heap.size := h.lt
 have hne : some p ≠ (Value.slice A m c).ownBlock := fun e => h.far (Nat.le_refl p) e.symm
 have HA : Hid (∀ o, (w.alloc o).ownsRow (p + 1) 5 1 (.slice A m c) l.length (byteV l)) := fun o => (h.alloc o).2
 have HAd : Hid (∀ o, (w.alloc o).drew.ownsRow (p + 1) 5 1 (.slice A m c) l.length (byteV l)) := fun o => (h.alloc o).2
 have HC := Lib.hid (rnum_1 w.drew n n0 n1)
 have HC0 := Lib.hid (rnum_1 w n n0 n1)
 clear h
 go_enter Tryz.func64, Tryz.ntmps64
 go_wp2
 go_region_law (first
  | (refine step_append_lies _ rfl (.tmp 10) (.tmp 13) 36 rfl (p + 1) 5 i (.int .u8 0) 1 1 Tryz.underlying36 hi hz0 hz1 hz2 rfl (by decide) (.slice A m c) _ (byteV l) rfl (HAd.out _) ⟨w.heap.size, 0, none⟩ 1 1 (byteV (numL n 1)) rfl (by simp [byteV, numL_len]) (World.news_of_block (heap_alloc_new w _)) (byteV_one _) (by omega) (by unfold maxLen; omega) (by omega) (by simp; omega) _ rfl ?_; intro g1 cap1 w5 o5 r5 p5 q5; have c5 : w5.cell? ⟨p, 0, none⟩ = some (.slice A m c) := r5.cell (HW.out.alloc _).c0 hne; have f5 : w5.frozen? ⟨p, 0, none⟩ = false := (r5.frozen_far ⟨p, 0, none⟩ (HW.out.alloc _).lt hne).trans ((HW.out.alloc _).f 0))
  | (refine step_append_lies _ rfl (.tmp 10) (.tmp 13) 36 rfl (p + 1) 5 i (.int .u8 0) 1 1 Tryz.underlying36 hi hz0 hz1 hz2 rfl (by decide) (.slice A m c) _ (byteV l) rfl (HA.out _) ⟨w.heap.size, 0, none⟩ 1 1 (byteV (numL n 1)) rfl (by simp [byteV, numL_len]) (World.news_of_block (heap_alloc_new w _)) (byteV_one _) (by omega) (by unfold maxLen; omega) (by omega) (by simp; omega) _ rfl ?_; intro g1 cap1 w5 o5 r5 p5 q5; have c5 : w5.cell? ⟨p, 0, none⟩ = some (.slice A m c) := r5.cell (HW.out.alloc _).c0 hne; have f5 : w5.frozen? ⟨p, 0, none⟩ = false := (r5.frozen_far ⟨p, 0, none⟩ (HW.out.alloc _).lt hne).trans ((HW.out.alloc _).f 0))
  | (go_simp; go_at_call 87; first | (refine HC.out.mono ?_; rintro e w4 ⟨rfl, rfl⟩) | (refine HC0.out.mono ?_; rintro e w4 ⟨rfl, rfl⟩)))
 all_goals
  have H5 := HW.out.put (xs := numL n 1) (((Below.refl _ w).alloc (Nat.le_refl _) (.cells (byteV (numL n 1)).toArray 5)).drew) (by rw [List.length_append, numL_len]; simpa [byteV] using o5) r5 (row_at (w := w) rfl (p5.imp id (fun e => by simp at e; omega)))
  have HH5 := Lib.hid H5
  clear o5 r5 p5 q5 c5 f5 hne HA HAd HC HC0 H5
  go_wp2
  go_end0
  exact ⟨rfl, _, HH5.out.1, HH5.out.2⟩
set_option maxRecDepth 100000 in
set_option maxHeartbeats 2000000 in
theorem znum_2 {w : World} {p : Nat} {v : Value} {l : List Int} (h : WZ w p v l) (n : Int) (n0 : 0 ≤ n) (n1 : n ≤ 9223372036854775807) (hl : l.length ≤ 100000) :
  Calls Tryz.prog 64 #[.pointer (some ⟨p, 0, none⟩), .int .i64 n, .int .i64 2] w (ZPost p w v (l ++ numL n 2)) := by
 obtain ⟨i, hi, hz0, hz1, hz2⟩ := info_parts infoU8
 obtain ⟨A, m, c, rfl⟩ := own_shape h.2
 have HW := Lib.hid h
 have c0 := h.c0
 have f0 := h.f 0
 have hsz : p < w.heap.size := h.lt
 have hne : some p ≠ (Value.slice A m c).ownBlock := fun e => h.far (Nat.le_refl p) e.symm
 have HA : Hid (∀ o, (w.alloc o).ownsRow (p + 1) 5 1 (.slice A m c) l.length (byteV l)) := fun o => (h.alloc o).2
 have HAd : Hid (∀ o, (w.alloc o).drew.ownsRow (p + 1) 5 1 (.slice A m c) l.length (byteV l)) := fun o => (h.alloc o).2
 have HC := Lib.hid (rnum_2 w.drew n n0 n1)
 have HC0 := Lib.hid (rnum_2 w n n0 n1)
 clear h
 go_enter Tryz.func64, Tryz.ntmps64
 go_wp2
 go_region_law (first
  | (refine step_append_lies _ rfl (.tmp 10) (.tmp 13) 36 rfl (p + 1) 5 i (.int .u8 0) 1 1 Tryz.underlying36 hi hz0 hz1 hz2 rfl (by decide) (.slice A m c) _ (byteV l) rfl (HAd.out _) ⟨w.heap.size, 0, none⟩ 2 2 (byteV (numL n 2)) rfl (by simp [byteV, numL_len]) (World.news_of_block (heap_alloc_new w _)) (byteV_one _) (by omega) (by unfold maxLen; omega) (by omega) (by simp; omega) _ rfl ?_; intro g1 cap1 w5 o5 r5 p5 q5; have c5 : w5.cell? ⟨p, 0, none⟩ = some (.slice A m c) := r5.cell (HW.out.alloc _).c0 hne; have f5 : w5.frozen? ⟨p, 0, none⟩ = false := (r5.frozen_far ⟨p, 0, none⟩ (HW.out.alloc _).lt hne).trans ((HW.out.alloc _).f 0))
  | (refine step_append_lies _ rfl (.tmp 10) (.tmp 13) 36 rfl (p + 1) 5 i (.int .u8 0) 1 1 Tryz.underlying36 hi hz0 hz1 hz2 rfl (by decide) (.slice A m c) _ (byteV l) rfl (HA.out _) ⟨w.heap.size, 0, none⟩ 2 2 (byteV (numL n 2)) rfl (by simp [byteV, numL_len]) (World.news_of_block (heap_alloc_new w _)) (byteV_one _) (by omega) (by unfold maxLen; omega) (by omega) (by simp; omega) _ rfl ?_; intro g1 cap1 w5 o5 r5 p5 q5; have c5 : w5.cell? ⟨p, 0, none⟩ = some (.slice A m c) := r5.cell (HW.out.alloc _).c0 hne; have f5 : w5.frozen? ⟨p, 0, none⟩ = false := (r5.frozen_far ⟨p, 0, none⟩ (HW.out.alloc _).lt hne).trans ((HW.out.alloc _).f 0))
  | (go_simp; go_at_call 87; first | (refine HC.out.mono ?_; rintro e w4 ⟨rfl, rfl⟩) | (refine HC0.out.mono ?_; rintro e w4 ⟨rfl, rfl⟩)))
 all_goals
  have H5 := HW.out.put (xs := numL n 2) (((Below.refl _ w).alloc (Nat.le_refl _) (.cells (byteV (numL n 2)).toArray 5)).drew) (by rw [List.length_append, numL_len]; simpa [byteV] using o5) r5 (row_at (w := w) rfl (p5.imp id (fun e => by simp at e; omega)))
  have HH5 := Lib.hid H5
  clear o5 r5 p5 q5 c5 f5 hne HA HAd HC HC0 H5
  go_wp2
  go_end0
  exact ⟨rfl, _, HH5.out.1, HH5.out.2⟩
set_option maxRecDepth 100000 in
set_option maxHeartbeats 2000000 in
theorem znum_3 {w : World} {p : Nat} {v : Value} {l : List Int} (h : WZ w p v l) (n : Int) (n0 : 0 ≤ n) (n1 : n ≤ 9223372036854775807) (hl : l.length ≤ 100000) :
  Calls Tryz.prog 64 #[.pointer (some ⟨p, 0, none⟩), .int .i64 n, .int .i64 3] w (ZPost p w v (l ++ numL n 3)) := by
 obtain ⟨i, hi, hz0, hz1, hz2⟩ := info_parts infoU8
 obtain ⟨A, m, c, rfl⟩ := own_shape h.2
 have HW := Lib.hid h
 have c0 := h.c0
 have f0 := h.f 0
 have hsz : p < w.heap.size := h.lt
 have hne : some p ≠ (Value.slice A m c).ownBlock := fun e => h.far (Nat.le_refl p) e.symm
 have HA : Hid (∀ o, (w.alloc o).ownsRow (p + 1) 5 1 (.slice A m c) l.length (byteV l)) := fun o => (h.alloc o).2
 have HAd : Hid (∀ o, (w.alloc o).drew.ownsRow (p + 1) 5 1 (.slice A m c) l.length (byteV l)) := fun o => (h.alloc o).2
 have HC := Lib.hid (rnum_3 w.drew n n0 n1)
 have HC0 := Lib.hid (rnum_3 w n n0 n1)
 clear h
 go_enter Tryz.func64, Tryz.ntmps64
 go_wp2
 go_region_law (first
  | (refine step_append_lies _ rfl (.tmp 10) (.tmp 13) 36 rfl (p + 1) 5 i (.int .u8 0) 1 1 Tryz.underlying36 hi hz0 hz1 hz2 rfl (by decide) (.slice A m c) _ (byteV l) rfl (HAd.out _) ⟨w.heap.size, 0, none⟩ 3 3 (byteV (numL n 3)) rfl (by simp [byteV, numL_len]) (World.news_of_block (heap_alloc_new w _)) (byteV_one _) (by omega) (by unfold maxLen; omega) (by omega) (by simp; omega) _ rfl ?_; intro g1 cap1 w5 o5 r5 p5 q5; have c5 : w5.cell? ⟨p, 0, none⟩ = some (.slice A m c) := r5.cell (HW.out.alloc _).c0 hne; have f5 : w5.frozen? ⟨p, 0, none⟩ = false := (r5.frozen_far ⟨p, 0, none⟩ (HW.out.alloc _).lt hne).trans ((HW.out.alloc _).f 0))
  | (refine step_append_lies _ rfl (.tmp 10) (.tmp 13) 36 rfl (p + 1) 5 i (.int .u8 0) 1 1 Tryz.underlying36 hi hz0 hz1 hz2 rfl (by decide) (.slice A m c) _ (byteV l) rfl (HA.out _) ⟨w.heap.size, 0, none⟩ 3 3 (byteV (numL n 3)) rfl (by simp [byteV, numL_len]) (World.news_of_block (heap_alloc_new w _)) (byteV_one _) (by omega) (by unfold maxLen; omega) (by omega) (by simp; omega) _ rfl ?_; intro g1 cap1 w5 o5 r5 p5 q5; have c5 : w5.cell? ⟨p, 0, none⟩ = some (.slice A m c) := r5.cell (HW.out.alloc _).c0 hne; have f5 : w5.frozen? ⟨p, 0, none⟩ = false := (r5.frozen_far ⟨p, 0, none⟩ (HW.out.alloc _).lt hne).trans ((HW.out.alloc _).f 0))
  | (go_simp; go_at_call 87; first | (refine HC.out.mono ?_; rintro e w4 ⟨rfl, rfl⟩) | (refine HC0.out.mono ?_; rintro e w4 ⟨rfl, rfl⟩)))
 all_goals
  have H5 := HW.out.put (xs := numL n 3) (((Below.refl _ w).alloc (Nat.le_refl _) (.cells (byteV (numL n 3)).toArray 5)).drew) (by rw [List.length_append, numL_len]; simpa [byteV] using o5) r5 (row_at (w := w) rfl (p5.imp id (fun e => by simp at e; omega)))
  have HH5 := Lib.hid H5
  clear o5 r5 p5 q5 c5 f5 hne HA HAd HC HC0 H5
  go_wp2
  go_end0
  exact ⟨rfl, _, HH5.out.1, HH5.out.2⟩
end Go.Proofs.YthmgafcnoedmjaaGreat
namespace Go.Proofs.YthmgafcnoedmjaaGreat
open Go.RowKit
structure Hz (w0 : World) (p : Nat) (v0 : Value) (q : Nat) (o : Obj) (w : World) (v : Value) (l : List Int) : Prop where
 ws : WZ w p v l
 wr : Wr p w0 v0 w v
 bx : w.heap[q]? = some o
 qp : q ≠ p
 qv : v.ownBlock ≠ some q
section
variable {w0 w w' : World} {p q : Nat} {v0 v v' : Value} {o : Obj} {cs : Array Value} {t : TypeId} {l l' : List Int}
theorem Hz.init (h : WZ w p v l) (o : Obj) : Hz w p v w.heap.size o (w.alloc o) v l :=
 ⟨h.alloc o, Wr.alloc p w v o, heap_alloc_new w o, by have := h.lt; omega, fun e => by have := h.2.lt _ e; omega⟩
theorem Hz.step (H : Hz w0 p v0 q o w v l) (h : WZ w' p v' l') (g : Wr p w v w' v') : Hz w0 p v0 q o w' v' l' := by
 have hq : q < w.heap.size := (Array.getElem?_eq_some_iff.1 H.bx).1
 obtain ⟨a, b⟩ := g.block q hq H.qp H.qv
 exact ⟨h, H.wr.trans g, a.trans H.bx, H.qp, b⟩
theorem Hz.post (H : Hz w0 p v0 q o w v l) {L : List Int} (e1 : l = L) : ZPost p w0 v0 L (.returned (.tuple #[])) w := by
 subst e1
 exact ⟨rfl, v, H.ws, H.wr⟩
theorem Hz.c (H : Hz w0 p v0 q (.cells cs t (0, 0)) w v l) (i : Nat) : w.cell? ⟨q, i, none⟩ = cs[i]? := (c_o H.bx i).1
end
set_option maxRecDepth 100000 in
set_option maxHeartbeats 400000 in
theorem zrid_any {w : World} {p : Nat} {v : Value} {l : List Int} (h : WZ w p v l) (a c : Int) (ha : I64 a) (hc : I64 c) (a0 : 0 ≤ a) (c0 : 0 ≤ c) (hl : l.length ≤ 99990) :
  Calls Tryz.prog 65 #[.pointer (some ⟨p, 0, none⟩), .agg #[.int .i64 a, .int .i64 c]] w (ZPost p w v (l ++ plL a c)) := by
 have HH := Lib.hid (Hz.init h (.cells #[.int .i64 a, .int .i64 c] 38))
 have HA := Lib.hid ha
 have HC := Lib.hid hc
 clear h ha hc
 go_enter Tryz.func65, Tryz.ntmps65
 go_wp2_with fail
 refine (znum_1 HH.out.ws a a0 HA.out.2 (by omega)).mono ?_
 rintro e w1 ⟨rfl, v1, h1, g1⟩
 have H1 := HH.out.step h1 g1
 have k1 := H1.c 1
 have HH1 := Lib.hid H1
 clear H1 h1 g1
 go_wp2_with fail
 refine (znum_1 HH1.out.ws c c0 HC.out.2 (by simp [numL_len]; omega)).mono ?_
 rintro e w2 ⟨rfl, v2, h2, g2⟩
 have HH2 := Lib.hid (HH1.out.step h2 g2)
 clear k1 h2 g2
 go_wp2
 go_end0
 exact HH2.out.post (by simp [plL])
set_option maxRecDepth 100000 in
set_option maxHeartbeats 400000 in
theorem zcell_any {w0 w : World} {p : Nat} {v sv : Value} {l c : List Int} (h : WZ w p v l) (hb : Below p w0 w) (hB : w0.heap.size ≤ p) (hs : SlW w0 sv c) (hk : celOk c = true) (hl : l.length ≤ 90000) :
  Calls Tryz.prog 66 #[.pointer (some ⟨p, 0, none⟩), sv] w (ZPost p w v (l ++ celL c)) := by
 have HS := Lib.hid hs
 have HH := Lib.hid h
 have HB := Lib.hid hb
 obtain ⟨⟨a, cap, rfl, q1, q3⟩, q2, q4⟩ := hs
 clear h hb q2 q3 q4
 have hc : c.length ≤ 26 := by simp only [celOk, Bool.or_eq_true, decide_eq_true_eq] at hk; omega
 have HO := Lib.hid hk
 clear hk
 go_enter Tryz.func66, Tryz.ntmps66
 go_wp2_with fail
 refine (znum_1 HH.out _ (by omega) (by omega) (by omega)).mono ?_
 rintro e w2 ⟨rfl, v2, h2, g2⟩
 have hb2 : Below p w0 w2 := HB.out.trans (HH.out.below g2)
 obtain ⟨v3, w3, hr3, ho3, hg3, hv3⟩ := run_append_sl h2.2 (HS.out.below hb2 hB) (by simp [numL_len]; omega) h2.lt
 have hne : some p ≠ v2.ownBlock := fun e => h2.far (Nat.le_refl p) e.symm
 obtain ⟨A3, m3, p3, rfl⟩ := own_shape ho3
 have HP := Lib.hid (h2.put (xs := c) (Below.refl _ _) (by rw [List.length_append]; exact ho3) hg3 (fun k hk => by
  rcases hv3 with e | e
  ·exact .inl (by rw [← e]; exact hk)
  ·exact .inr (e k hk)))
 have c0 := h2.c0
 have c3 := hg3.cell h2.c0 hne
 have f3 := (hg3.frozen_far ⟨p, 0, none⟩ h2.lt hne).trans (h2.f 0)
 have HR := Lib.hid hr3
 have G2 := Lib.hid g2
 clear h2 g2 hb2 hr3 ho3 hg3 hv3 hne
 go_wp2_with (at_builtin; refine Lib.wpList_append_run _ rfl _ _ _ _ rfl _ _ rfl rfl _ _ (HR.out _) ?_)
 go_end0
 exact ⟨rfl, _, by rw [celB_yes HO.out, ← List.append_assoc]; exact HP.out.1, G2.out.trans HP.out.2⟩
def ZLRel {α : Type} (w : World) (p : Nat) (v : Value) (l : List Int) (xs : List α) (f : α → List Int) (i : Value) (wr : World) : Prop :=
 ∃ (k : Nat) (v' : Value), k ≤ xs.length ∧ i = .int .i64 k ∧ WZ wr p v' (l ++ (numL xs.length 1 ++ (xs.take k).flatMap f)) ∧ Wr p w v wr v'
theorem fit_pos {n : Int} {k : Nat} (h : fitB n k = true) : 0 ≤ n := (fit_iff.1 h).1
set_option maxRecDepth 100000 in
set_option maxHeartbeats 1000000 in
theorem zmoves_any {w0 w : World} {p : Nat} {v sv : Value} {l : List Int} {ms : List Mv} (h : WZ w p v l) (hb : Below p w0 w) (hB : w0.heap.size ≤ p) (hs : Els w0 sv 4 (ms.map mvV)) (hi : ∀ m ∈ ms, mvI m) (hk : lstB mvB ms = true) (hl : l.length ≤ 80000) :
  Calls Tryz.prog 67 #[.pointer (some ⟨p, 0, none⟩), sv] w (ZPost p w v (l ++ lstL mvL ms)) := by
 have HS := Lib.hid hs
 have HH := Lib.hid h
 have HB := Lib.hid hb
 have HI := Lib.hid hi
 simp only [lstB, Bool.and_eq_true, decide_eq_true_eq, List.all_eq_true] at hk
 obtain ⟨h40, hall⟩ := hk
 have HALL := Lib.hid hall
 obtain ⟨A, cap, rfl, q1, q2, q3⟩ := hs
 rw [List.length_map] at q1 HS ⊢
 clear h hb q2 q3 hi hall
 have HF := Lib.hid (lst_few mvL mvB h40)
 go_enter Tryz.func67, Tryz.ntmps67
 go_wp2_with fail
 refine (znum_1 HH.out _ (by omega) (by omega) (by omega)).mono ?_
 rintro e w2 ⟨rfl, v2, h2, g2⟩
 have H2 : Hid (ZLRel w p v l ms mvL (.int .i64 0) w2) := ⟨0, v2, Nat.zero_le _, rfl, by simpa using h2, g2⟩
 clear h2 g2
 go_wp2
 go_loopw [4] (fun i wr => ZLRel w p v l ms mvL i wr) (fun i _ => ms.length - (RowKit.intOf i).toNat)
 case atStart => exact H2.out
 case round =>
  obtain ⟨k, v3, hk, rfl, H3, G3⟩ := hrel
  have HW := Lib.hid H3
  have HG := Lib.hid G3
  clear H3 G3
  by_cases hlt : k < ms.length
  ·have HB3 := Lib.hid (HB.out.trans (HH.out.below HG.out))
   have hel := HS.out.below HB3.out hB
   have HEL := Lib.hid hel
   obtain ⟨b, off, rfl, hbl, hc⟩ := hel.one (i := k) (by simpa using hlt)
   have hpl : (l ++ (numL ms.length 1 ++ (ms.take k).flatMap mvL)).length ≤ 88000 := by
    have := flat_pre mvL (n := 4) (fun x => by rw [mvL_len]; exact Nat.le_refl _) ms k h40
    rw [List.length_append, List.length_append, numL_len]
    omega
   have k0 : wr.cell? ⟨b, off + k * 4, none⟩ = some (.int .i64 ms[k].1) := by simpa [mvV] using hc 0 (by omega)
   have k1 : wr.cell? ⟨b, off + k * 4 + 1, none⟩ = some (.int .i64 ms[k].2.1) := by simpa [mvV] using hc 1 (by omega)
   have hm := HALL.out ms[k] (List.getElem_mem _)
   simp only [mvB, plB, Bool.and_eq_true] at hm
   have HM := Lib.hid hm
   have HMI := Lib.hid (HI.out ms[k] (List.getElem_mem _))
   have z1 : (0 : Int) ≤ (k : Int) := by omega
   have z2 : (k : Int) < (ms.length : Int) := by omega
   clear hc hel hm
   go_wp2_with fail
   refine (zrid_any HW.out ms[k].1 ms[k].2.1 HMI.out.1 HMI.out.2.1 (fit_pos HM.out.1.1) (fit_pos HM.out.1.2) (by omega)).mono ?_
   rintro e w4 ⟨rfl, v4, h4, g4⟩
   have hbel4 := HB3.out.trans (HW.out.below g4)
   obtain ⟨b5, o5, e5, hbl5, hc5⟩ := (HS.out.below hbel4 hB).one (i := k) (by simpa using hlt)
   cases e5
   have k2 : w4.cell? ⟨b, off + k * 4 + 2, none⟩ = some (.int .i64 ms[k].2.2.1) := by simpa [mvV] using hc5 2 (by omega)
   have k3 : w4.cell? ⟨b, off + k * 4 + 3, none⟩ = some (.int .i64 ms[k].2.2.2) := by simpa [mvV] using hc5 3 (by omega)
   have H4 := Lib.hid h4
   have G4 := Lib.hid g4
   clear h4 g4 hbel4 hc5 hbl5 k0 k1
   go_wp2_with fail
   refine (zrid_any H4.out ms[k].2.2.1 ms[k].2.2.2 HMI.out.2.2.1 HMI.out.2.2.2 (fit_pos HM.out.2.1) (fit_pos HM.out.2.2) (by rw [List.length_append, plL_len]; omega)).mono ?_
   rintro e w5 ⟨rfl, v5, h5, g5⟩
   have hr5 : ZLRel w p v l ms mvL (.int .i64 (k + 1)) w5 := ⟨k + 1, v5, hlt, rfl, by
    rw [flat_snoc _ _ _ hlt, ← List.append_assoc (numL _ _), ← List.append_assoc l]
    have := h5
    rw [List.append_assoc] at this
    exact this, (HG.out.trans G4.out).trans g5⟩
   have HR5 := Lib.hid hr5
   clear h5 g5 hr5 k2 k3
   go_wp2
   go_roundw
   all_goals first
    | exact HR5.out
    | (simp [RowKit.intOf]; omega)
  ·obtain rfl : k = ms.length := by omega
   go_wp2
   go_end0
   rw [HF.out.1]
   have := HW.out
   rw [List.take_length] at this
   exact ⟨rfl, v3, this, HG.out⟩
end Go.Proofs.YthmgafcnoedmjaaGreat
namespace Go.Proofs.YthmgafcnoedmjaaGreat
open Go.RowKit
set_option maxRecDepth 100000 in
set_option maxHeartbeats 400000 in
theorem fits_any (w : World) (n : Int) (hn : I64 n) (k : Nat) (hk : k = 1 ∨ k = 2 ∨ k = 3) : Calls Tryz.prog 84 #[.int .i64 n, .int .i64 k] w fun e w' => e = .returned (.bool (fitB n k)) ∧ w = w' := by
 obtain ⟨n0, n1⟩ := hn
 by_cases h0 : 0 ≤ n
 ·have e1 : fitB n k = decide (n < 256 ^ k) := by unfold fitB; simp [h0]
  rw [e1]
  clear e1
  rcases hk with rfl | rfl | rfl
  ·by_cases h1 : n < 256
   ·rw [show decide (n < 256 ^ 1) = true from decide_eq_true (by omega)]
    go_enter Tryz.func84, Tryz.ntmps84
    go_wp2
    go_ret
    exact ⟨rfl, rfl⟩
   ·rw [show decide (n < 256 ^ 1) = false from decide_eq_false (by omega)]
    go_enter Tryz.func84, Tryz.ntmps84
    go_wp2
    go_ret
    exact ⟨rfl, rfl⟩
  ·by_cases h1 : n < 65536
   ·rw [show decide (n < 256 ^ 2) = true from decide_eq_true (by omega)]
    go_enter Tryz.func84, Tryz.ntmps84
    go_wp2
    go_ret
    exact ⟨rfl, rfl⟩
   ·rw [show decide (n < 256 ^ 2) = false from decide_eq_false (by omega)]
    go_enter Tryz.func84, Tryz.ntmps84
    go_wp2
    go_ret
    exact ⟨rfl, rfl⟩
  ·by_cases h1 : n < 16777216
   ·rw [show decide (n < 256 ^ 3) = true from decide_eq_true (by omega)]
    go_enter Tryz.func84, Tryz.ntmps84
    go_wp2
    go_ret
    exact ⟨rfl, rfl⟩
   ·rw [show decide (n < 256 ^ 3) = false from decide_eq_false (by omega)]
    go_enter Tryz.func84, Tryz.ntmps84
    go_wp2
    go_ret
    exact ⟨rfl, rfl⟩
 ·have e1 : fitB n k = false := by unfold fitB; simp; omega
  rw [e1]
  clear e1
  go_enter Tryz.func84, Tryz.ntmps84
  go_wp2
  go_ret
  exact ⟨rfl, rfl⟩
set_option maxRecDepth 100000 in
set_option maxHeartbeats 400000 in
theorem fitsRID_any (w : World) (a c : Int) (ha : I64 a) (hc : I64 c) : Calls Tryz.prog 85 #[.agg #[.int .i64 a, .int .i64 c]] w fun e w' => e = .returned (.bool (plB a c)) ∧ Below w.heap.size w w' := by
 have H1 := Lib.hid (fun W => fits_any W a ha 1 (.inl rfl))
 have H2 := Lib.hid (fun W => fits_any W c hc 1 (.inl rfl))
 have HB : Hid (∀ o, Below w.heap.size w (w.alloc o)) := fun o => (Below.refl _ _).alloc (Nat.le_refl _) _
 clear ha hc
 unfold plB
 cases q1 : fitB a 1
 ·rw [q1] at H1
  clear q1
  go_enter Tryz.func85, Tryz.ntmps85
  go_wp2_with fail
  refine (H1.out _).mono ?_
  rintro e w1 ⟨rfl, rfl⟩
  go_wp2
  go_ret
  exact ⟨rfl, HB.out _⟩
 ·rw [q1] at H1
  clear q1
  rw [show ∀ b, (true && b) = b from fun _ => rfl]
  go_enter Tryz.func85, Tryz.ntmps85
  go_wp2_with fail
  refine (H1.out _).mono ?_
  rintro e w1 ⟨rfl, rfl⟩
  go_wp2_with fail
  refine (H2.out _).mono ?_
  rintro e w1 ⟨rfl, rfl⟩
  go_wp2
  go_ret
  exact ⟨rfl, HB.out _⟩
end Go.Proofs.YthmgafcnoedmjaaGreat
namespace Go.Proofs.YthmgafcnoedmjaaGreat
open Go.RowKit
def FmRel (w : World) (ms : List Mv) (i : Value) (wr : World) : Prop := ∃ k : Nat, k ≤ ms.length ∧ k ≤ 41 ∧ i = .int .i64 k ∧ (ms.take k).all mvB = true ∧ Below w.heap.size w wr
set_option maxRecDepth 100000 in
set_option maxHeartbeats 2000000 in
theorem fitsMoves_any {w : World} {v : Value} {ms : List Mv} (hs : Els w v 4 (ms.map mvV)) (hi : ∀ m ∈ ms, mvI m) : Calls Tryz.prog 86 #[v] w fun e w' => e = .returned (.bool (lstB mvB ms)) ∧ Below w.heap.size w w' := by
 have HS := Lib.hid hs
 have HI := Lib.hid hi
 obtain ⟨A, cap, rfl, q1, q2, q3⟩ := hs
 rw [List.length_map] at q1 HS ⊢
 clear q2 q3 hi
 go_enter Tryz.func86, Tryz.ntmps86
 go_wp2
 go_loopw [3] (fun i wr => FmRel w ms i wr) (fun i _ => 41 - (RowKit.intOf i).toNat)
 case atStart => exact ⟨0, Nat.zero_le _, by omega, rfl, rfl, Below.refl _ _⟩
 case round =>
  obtain ⟨k, hk, hk41, rfl, ha, hb⟩ := hrel
  have HA := Lib.hid ha
  have HB := Lib.hid hb
  clear ha hb
  by_cases hlt : k < ms.length
  ·by_cases hlt2 : k < 41
   ·obtain ⟨b, off, rfl, hbl, hc⟩ := (HS.out.below HB.out (Nat.le_refl _)).one (i := k) (by simpa using hlt)
    have k0 : wr.cell? ⟨b, off + k * 4, none⟩ = some (.int .i64 ms[k].1) := by simpa [mvV] using hc 0 (by omega)
    have k1 : wr.cell? ⟨b, off + k * 4 + 1, none⟩ = some (.int .i64 ms[k].2.1) := by simpa [mvV] using hc 1 (by omega)
    have hm := HI.out ms[k] (List.getElem_mem _)
    have HM := Lib.hid hm
    have H1 := Lib.hid (fitsRID_any wr ms[k].1 ms[k].2.1 hm.1 hm.2.1)
    have z1 : (0 : Int) ≤ (k : Int) := by omega
    have z2 : (k : Int) < (ms.length : Int) := by omega
    have hno : mvB ms[k] = false → lstB mvB ms = false := fun h => by
     cases e : lstB mvB ms
     ·rfl
     ·simp only [lstB, Bool.and_eq_true, List.all_eq_true] at e
      rw [e.2 ms[k] (List.getElem_mem _)] at h
      cases h
    have HNO := Lib.hid hno
    clear hc hm hno
    cases q1 : plB ms[k].1 ms[k].2.1
    ·rw [q1] at H1
     have HF := Lib.hid (HNO.out (by unfold mvB; rw [q1]; rfl))
     clear q1
     go_wp2_with fail
     refine H1.out.mono ?_
     rintro e w2 ⟨rfl, hb2⟩
     have HB2 := Lib.hid hb2
     clear hb2
     go_wp2
     go_ret
     rw [HF.out]
     exact ⟨rfl, HB.out.trans (HB2.out.mono HB.out.size)⟩
    ·rw [q1] at H1
     have Q1 := Lib.hid q1
     clear q1
     go_wp2_with fail
     refine H1.out.mono ?_
     rintro e w2 ⟨rfl, hb2⟩
     have HB2 := Lib.hid (HB.out.trans (hb2.mono HB.out.size))
     clear hb2
     obtain ⟨b5, o5, e5, hbl5, hc5⟩ := (HS.out.below HB2.out (Nat.le_refl _)).one (i := k) (by simpa using hlt)
     cases e5
     have k2 : w2.cell? ⟨b, off + k * 4 + 2, none⟩ = some (.int .i64 ms[k].2.2.1) := by simpa [mvV] using hc5 2 (by omega)
     have k3 : w2.cell? ⟨b, off + k * 4 + 3, none⟩ = some (.int .i64 ms[k].2.2.2) := by simpa [mvV] using hc5 3 (by omega)
     have H2 := Lib.hid (fitsRID_any w2 ms[k].2.2.1 ms[k].2.2.2 HM.out.2.2.1 HM.out.2.2.2)
     clear hc5 hbl5 k0 k1 H1
     cases q2 : plB ms[k].2.2.1 ms[k].2.2.2
     ·rw [q2] at H2
      have HF := Lib.hid (HNO.out (by unfold mvB; rw [q2, Q1.out]; rfl))
      clear q2
      go_wp2_with fail
      refine H2.out.mono ?_
      rintro e w3 ⟨rfl, hb3⟩
      have HB3 := Lib.hid hb3
      clear hb3
      go_wp2
      go_ret
      rw [HF.out]
      exact ⟨rfl, HB2.out.trans (HB3.out.mono HB2.out.size)⟩
     ·rw [q2] at H2
      have HF : Hid ((ms.take (k + 1)).all mvB = true) := Lib.hid (by rw [all_snoc _ _ _ hlt, HA.out]; unfold mvB; rw [q2, Q1.out]; rfl)
      clear q2
      go_wp2_with fail
      refine H2.out.mono ?_
      rintro e w3 ⟨rfl, hb3⟩
      have HB3 := Lib.hid hb3
      clear hb3
      go_wp2
      go_roundw
      all_goals first
       | exact ⟨k + 1, hlt, hlt2, rfl, HF.out, HB2.out.trans (HB3.out.mono HB2.out.size)⟩
       | (simp [RowKit.intOf]; omega)
   ·have hF : lstB mvB ms = false := by unfold lstB; rw [decide_eq_false (by omega)]; rfl
    have HF := Lib.hid hF
    have hd : decide ((ms.length : Int) ≤ 40) = false := decide_eq_false (by omega)
    clear hF
    go_wp2
    go_ret
    rw [HF.out]
    exact ⟨rfl, HB.out⟩
  ·obtain rfl : k = ms.length := by omega
   have ha := HA.out
   rw [List.take_length] at ha
   by_cases h40 : ms.length ≤ 40
   ·have hF : lstB mvB ms = true := by unfold lstB; rw [decide_eq_true h40, ha]; rfl
    have HF := Lib.hid hF
    have hd : decide ((ms.length : Int) ≤ 40) = true := decide_eq_true (by omega)
    clear hF ha
    go_wp2
    go_ret
    rw [HF.out]
    exact ⟨rfl, HB.out⟩
   ·have hF : lstB mvB ms = false := by unfold lstB; rw [decide_eq_false h40]; rfl
    have HF := Lib.hid hF
    have hd : decide ((ms.length : Int) ≤ 40) = false := decide_eq_false (by omega)
    clear hF ha
    go_wp2
    go_ret
    rw [HF.out]
    exact ⟨rfl, HB.out⟩
end Go.Proofs.YthmgafcnoedmjaaGreat
