/- PoolNone, a part. -/
import Derived.Test.YtljbhdldfffpfaaGreatQn5
import Derived.Test.YtljbhdldfffpfaaGreatQn29
namespace Go.Proofs.YtljbhdldfffpfaaGreat.Hp
open Go.RowKit Go.Proofs.YtljbhdldfffpfaaGreat Go.Proofs.YtljbhdldfffpfaaGreat.Lf

theorem cl_end {W : World} {tmps : Array Value} {g : Nat} {P : Nat → Option Addr} {N K : Nat → Nat} {n : Int} (h8 : tmps.getD 2 undef = .pointer (some ⟨g, 0, none⟩)) (k : W.heap[g]? = some (pgO P N K n)) : (results Tryz.f43 tmps).run Tryz.prog W = .ok (pgV P N K n) W := by
  rw [Array.getD_eq_getD_getElem?] at h8
  have hc := fun i => (cell_of (cs := pgC P N K n) k i).1
  have a0 := hc 0
  have a1 := hc 1
  have a2 := hc 2
  have a3 := hc 3
  have a4 := hc 4
  simp [results, Tryz.results43, go_sem, h8, a0, a1, a2, a3, a4, pgC, pgV]

set_option maxRecDepth 100000 in
set_option maxHeartbeats 2000000 in
theorem pclone_any (w : World) (P1 : Nat → Option Addr) (N1 K1 : Nat → Nat) (n1 : Int) (c1 : Nat → List Int) (h : Cs w P1 N1 K1 c1) (hs : ∀ i, i < 4 → (c1 i).length ≤ 100000) :
    Calls Tryz.prog 43 #[pgV P1 N1 K1 n1] w (PgPost w c1 n1) := by
  unfold pgV
  have hbx := bx_new w (pgO P1 N1 K1 n1) (pgO (fun _ => none) (fun _ => 0) (fun _ => 0) 0)
  have hc1 := h
  have h1 := hbx.2.1
  have hb1 := hbx.1
  have h0 := hbx.2.2
  have HLen := Lib.hid hs
  clear h hs hbx
  go_enter Tryz.func43, Tryz.ntmps43
  go_upto_region 1 with (fail)
  show Code.wp _ _ _ _ ((w.alloc (pgO P1 N1 K1 n1)).alloc (pgO (fun _ => none) (fun _ => 0) (fun _ => 0) 0))
  generalize (w.alloc (pgO P1 N1 K1 n1)).alloc (pgO (fun _ => none) (fun _ => 0) (fun _ => 0) 0) = w1 at *
  have hp := pg_cell h1
  have d0 := hp.1 0 (by decide)
  have d1 := hp.1 1 (by decide)
  have d2 := hp.1 2 (by decide)
  have d3 := hp.1 3 (by decide)
  have HS : Hid (StC w w1 c1 n1 0) := ⟨P1, N1, K1, h1, fun j hj => by omega, hb1, _, _, _, _, h0⟩
  have HC := Lib.hid hc1
  clear hp h1 hc1 hb1 h0
  go_wp2
  clear d0 d1 d2 d3
  go_loopw [7] (fun i wr => ∃ k : Nat, k ≤ 4 ∧ i = .int .i64 k ∧ Hid (StC w wr c1 n1 k)) (fun i _ => 4 - (RowKit.intOf i).toNat)
  case atStart => exact ⟨0, by omega, rfl, HS⟩
  case round =>
    obtain ⟨k, hk, rfl, HS2⟩ := hrel
    clear HS
    by_cases hlt : k < 4
    · have ix := ix_any wr P1 N1 K1 hlt
      obtain ⟨P2, N2, K2, h2, ho2, hb2, P3, N3, K3, m3, h3⟩ := HS2.out
      have hcl := clone_any wr _ (c1 k) ((HC.out k hlt).2.below hb2 (Nat.le_refl _)) (HLen.out k hlt)
      have hg := (Array.getElem?_eq_some_iff.1 h2).1
      have H2 := Lib.hid h2
      have HCl := Lib.hid hcl
      have HG := Lib.hid hg
      have HOK := Lib.hid (HC.out k hlt).2.ok
      have HN := Lib.hid (HC.out k hlt).1
      clear h2 ho2 hb2 h3 hcl hg
      go_wp2_with fail
      refine HCl.out.mono ?_
      rintro e w5 ⟨v', rfl, ho, hb⟩
      obtain ⟨p', q', rfl⟩ := own_sl ho
      have HX : Hid (StC w (w5.setCell ⟨w.heap.size, k, none⟩ (.slice p' (c1 k).length q')) c1 n1 (k + 1)) := HS2.out.next hlt hb ho HOK.out
      have hp5 := pg_cell ((hb.block _ HG.out).trans H2.out)
      have f1 := hp5.2.2 k
      have d1 := hp5.1 k hlt
      clear ho hb hp5 ix
      go_wp2
      go_roundw
      case rel => exact ⟨k + 1, by omega, by go_num, HX⟩
      case measure => simp [RowKit.intOf]; omega
    · obtain rfl : k = 4 := by omega
      obtain ⟨P2, N2, K2, h2, ho2, hb2, P3, N3, K3, m3, h3⟩ := HS2.out
      have hp2 := pg_cell h2
      have d0 := hp2.1 0 (by decide)
      have d1 := hp2.1 1 (by decide)
      have d2 := hp2.1 2 (by decide)
      have d3 := hp2.1 3 (by decide)
      have d4 := hp2.2.1
      have hp3 := pg_cell h3
      have e0 := hp3.1 0 (by decide)
      have e1 := hp3.1 1 (by decide)
      have e2 := hp3.1 2 (by decide)
      have e3 := hp3.1 3 (by decide)
      have e4 := hp3.2.1
      have f0 := hp3.2.2 0
      have f1 := hp3.2.2 1
      have f2 := hp3.2.2 2
      have f3 := hp3.2.2 3
      have f4 := hp3.2.2 4
      have HF : Hid (PgPost w c1 n1 (.returned (pgV P2 N2 K2 n1)) (finP wr (w.heap.size + 1) P2 N2 K2 n1)) := by
        refine ⟨P2, N2, K2, rfl, fun j hj => ?_, finP_below hb2 (by omega)⟩
        obtain ⟨a1, a2, a3⟩ := ho2 j hj
        exact ⟨a1, own_mono (own_set (own_set (own_set (own_set (own_set a2 (by omega)) (by omega)) (by omega)) (by omega)) (by omega)) (by omega), a3⟩
      have HE := Lib.hid (finP_heap (P := P2) (N := N2) (K := K2) (n := n1) h3)
      clear hp2 hp3 h2 ho2 hb2 h3 HS2
      go_wp2
      change bodyPost _ _ _ _ _ (finP wr (w.heap.size + 1) P2 N2 K2 n1)
      exact bodyPost_ret (cl_end rfl HE.out) rfl HF.out
end Go.Proofs.YtljbhdldfffpfaaGreat.Hp
namespace Go.Proofs.YtljbhdldfffpfaaGreat.Lf
open Go.Proofs.YtljbhdldfffpfaaGreat
open Go.RowKit

def okL (l : List Int) : Bool := decide (l.length = 0 ∨ l.length = 26)
def pd (l : List Int) : List Int := if l.length = 0 then z26 else l
def cellsL (c : Nat → List Int) : Nat → List Int
  | 0 => []
  | k + 1 => cellsL c k ++ pd (c k)
def filC (c : Nat → List Int) (k : Nat) : List Int := cellsL c k ++ List.replicate (104 - 26 * k) 0
def okC (c : Nat → List Int) : Bool := (List.range 4).all (fun i => okL (c i))
theorem pd_len {l : List Int} (h : okL l = true) : (pd l).length = 26 := by
  unfold okL at h
  rw [decide_eq_true_eq] at h
  unfold pd
  by_cases h0 : l.length = 0
  · rw [if_pos h0]; rfl
  · rw [if_neg h0]; omega
theorem cellsL_len {c : Nat → List Int} {k : Nat} (h : ∀ j, j < k → okL (c j) = true) : (cellsL c k).length = 26 * k := by
  induction k with
  | zero => rfl
  | succ k ih => rw [cellsL, List.length_append, ih (fun j hj => h j (by omega)), pd_len (h k (by omega))]; omega
theorem pd_ok {l : List Int} (h : bytesOk l) : bytesOk (pd l) := by
  unfold pd
  by_cases h0 : l.length = 0
  · rw [if_pos h0]; exact z26_ok
  · rw [if_neg h0]; exact h
theorem cellsL_ok {c : Nat → List Int} {k : Nat} (h : ∀ j, j < k → bytesOk (c j)) : bytesOk (cellsL c k) := by
  induction k with
  | zero => intro x hx; cases hx
  | succ k ih =>
    intro x hx
    rcases List.mem_append.1 hx with h1 | h1
    · exact ih (fun j hj => h j (by omega)) x h1
    · exact pd_ok (h k (by omega)) x h1
theorem okC_no {c : Nat → List Int} {k : Nat} (hk : k < 4) (h : okL (c k) = false) : okC c = false := by
  unfold okC
  cases e : (List.range 4).all (fun i => okL (c i))
  · rfl
  · rw [List.all_eq_true] at e
    have := e k (List.mem_range.2 hk)
    rw [h] at this; cases this
theorem okC_all {c : Nat → List Int} (h : ∀ j, j < 4 → okL (c j) = true) : okC c = true := by
  unfold okC
  exact List.all_eq_true.2 (fun x hx => h x (List.mem_range.1 hx))
theorem okC_iff {c : Nat → List Int} : okC c = true ↔ ∀ j, j < 4 → okL (c j) = true := by
  constructor
  · intro h j hj
    unfold okC at h
    exact List.all_eq_true.1 h j (List.mem_range.2 hj)
  · exact okC_all

theorem fil_next {c : Nat → List Int} {k : Nat} (hk : k < 4) (h : ∀ j, j < k → okL (c j) = true) (hc : okL (c k) = true) : splice (byteV (filC c k)) (26 * k) (byteV (c k)) = byteV (filC c (k + 1)) := by
  have hl := cellsL_len h
  unfold splice filC
  rw [show byteV (c k) = byteV (c k) from rfl, byteV, byteV, byteV, List.length_map, ← List.map_take, ← List.map_drop, ← List.map_append, ← List.map_append]
  congr 1
  rw [List.take_left' hl, cellsL, List.append_assoc]
  congr 1
  unfold okL at hc
  rw [decide_eq_true_eq] at hc
  rw [List.drop_append, List.drop_eq_nil_of_le (by omega), List.nil_append, List.drop_replicate, hl]
  rcases hc with h0 | h0
  · unfold pd
    rw [if_pos h0, List.eq_nil_of_length_eq_zero h0, z26, List.nil_append, List.replicate_append_replicate]
    congr 1
    simp; omega
  · unfold pd
    rw [if_neg (by omega), h0]
    congr 2
    omega

def lfE (c : Nat → List Int) (n : Int) : Int := if okC c = true then pE n (cellsL c 4) else 1
def lfA (c : Nat → List Int) (n : Int) : List Int := if okC c = true then pA n (cellsL c 4) else []
def lfB (c : Nat → List Int) (n : Int) : List Int := if okC c = true then pB n (cellsL c 4) else []
def PutPost (w : World) (c : Nat → List Int) (n : Int) (e : Ending) (w' : World) : Prop := ∃ va vb, e = .returned (.tuple #[va, vb, .int .i64 (lfE c n)]) ∧ SlK .u8 w' va (lfA c n) ∧ SlK .u8 w' vb (lfB c n) ∧ Below w.heap.size w w'

def z104 : List Int := List.replicate 104 0
set_option maxRecDepth 100000 in
set_option maxHeartbeats 2000000 in
theorem lput_any (w : World) (P : Nat → Option Addr) (N K : Nat → Nat) (n : Int) (c : Nat → List Int) (h : Cs w P N K c) :
    Calls Tryz.prog 68 #[pgV P N K n] w (PutPost w c n) := by
  unfold pgV
  have hz : ∀ W, (zeroValue 152).run Tryz.prog W = .ok (.agg (byteV z104).toArray) W := fun _ => by kernel_rfl
  have hb1 : Below w.heap.size w ((w.alloc (pgO P N K n)).alloc (.cells (byteV z104).toArray 152)) := ((Below.refl _ _).alloc (Nat.le_refl _) _).alloc (by simp) _
  have hk1 : ((w.alloc (pgO P N K n)).alloc (.cells (byteV z104).toArray 152)).heap[w.heap.size]? = some (pgO P N K n) := (Below.heap_alloc _ _ _ (by simp)).trans (heap_alloc_new w _)
  have hk2 : BlkT 152 ((w.alloc (pgO P N K n)).alloc (.cells (byteV z104).toArray 152)) (w.heap.size + 1) (filC c 0) := by
    have := heap_alloc_new (w.alloc (pgO P N K n)) (.cells (byteV z104).toArray 152)
    rw [show (w.alloc (pgO P N K n)).heap.size = w.heap.size + 1 by simp] at this
    exact this
  have HH := Lib.hid h
  have HB1 := Lib.hid hb1
  have HK1 := Lib.hid hk1
  have HK2 := Lib.hid hk2
  clear h hb1 hk1 hk2
  go_enter Tryz.func68, Tryz.ntmps68
  go_upto_region 2 with (fail)
  show Code.wp _ _ _ _ ((w.alloc (pgO P N K n)).alloc (.cells (byteV z104).toArray 152))
  generalize (w.alloc (pgO P N K n)).alloc (.cells (byteV z104).toArray 152) = w1 at *
  clear hz
  have hp := pg_cell HK1.out
  have d0 := hp.1 0 (by decide)
  have d1 := hp.1 1 (by decide)
  have d2 := hp.1 2 (by decide)
  have d3 := hp.1 3 (by decide)
  clear hp
  go_wp2
  clear d0 d1 d2 d3
  go_loopw [10] (fun i wr => ∃ k : Nat, k ≤ 4 ∧ i = .int .i64 k ∧ Hid (∀ j, j < k → okL (c j) = true) ∧ Hid (wr.heap[w.heap.size]? = some (pgO P N K n)) ∧ Hid (BlkT 152 wr (w.heap.size + 1) (filC c k)) ∧ Hid (Below w.heap.size w wr)) (fun i _ => 4 - (RowKit.intOf i).toNat)
  case atStart => exact ⟨0, by omega, rfl, fun j hj => by omega, HK1, HK2, HB1⟩
  case round =>
    obtain ⟨k, hk, rfl, HZ, HG, HF, HB⟩ := hrel
    clear HB1 HK1 HK2
    by_cases hlt : k < 4
    · have ix := ix_any wr P N K hlt
      obtain ⟨hNk, hsl⟩ := HH.out k hlt
      have hsl2 := hsl.below HB.out (Nat.le_refl _)
      by_cases hok : okL (c k) = true
      · obtain rfl | rfl | rfl | rfl : k = 0 ∨ k = 1 ∨ k = 2 ∨ k = 3 := by omega
        · rw [show (((0 : Nat)) : Int) = 0 from rfl] at ix
          have hfn := fil_next (k := 0) (by decide) HZ.out hok
          have HZ2 : Hid (∀ j, j < 1 → okL (c j) = true) := fun j hj => by
            by_cases e : j = 0
            · subst e; exact hok
            · exact HZ.out j (by omega)
          have hb : (byteV (c 0)).length = N 0 := by rw [byteV, List.length_map]; exact hNk.symm
          have hF := HF.out
          have hll : (byteV (filC c 0)).length = 104 := by rw [byteV, List.length_map, filC, List.length_append, cellsL_len HZ.out, List.length_replicate]
          have hor : N 0 = 0 ∨ N 0 = 26 := by rw [hNk]; exact of_decide_eq_true hok
          have hlt2 := HF.out.lt
          have HFN := Lib.hid hfn
          have HSL := Lib.hid hsl2
          have HLL := Lib.hid hll
          have HBB := Lib.hid hb
          clear hfn hok hNk hsl hsl2 hF hll hb
          generalize P 0 = pk at *
          generalize N 0 = nk at *
          generalize K 0 = kk at *
          rcases hor with rfl | rfl
          all_goals
            go_wp2_with (with_reducible refine wpList_copy_splice (o := ⟨some 26, _, _, _, _, _⟩) rfl (.tmp 24) (.tmp 25) 33 33 rfl 5 Tryz.underlying33 info5 _ _ _ _ _ _ rfl rfl (w.heap.size + 1) (26 * 0) (byteV (filC c 0)) 152 ?c1 (byteV (c 0)) ?c2 ?c3 ?c4 (byteV_one _) (w.heap.size + 1) wr (Below.refl _ _) (Nat.le_refl _) ?_)
            case c1 => exact HF.out
            case c2 => rw [HBB.out]; rfl
            case c3 =>
              intro hp
              have h1 : c 0 ≠ [] := fun e => by rw [e] at hp; cases hp
              obtain ⟨b', o', cap', e, -⟩ := id (HSL.out.pt h1)
              injection e with e1
              subst e1
              exact ⟨_, rfl, (HSL.out.pt h1).news⟩
            case c4 => rw [HLL.out, HBB.out]; decide
            intro w5 hF5 hB5
            have HF5 : Hid (BlkT 152 w5 (w.heap.size + 1) (filC c 1)) := by
              have := hF5.out
              rw [HFN.out] at this
              exact this
            have HG5 := Lib.hid ((hB5.block w.heap.size (Nat.lt_succ_self _)).trans HG.out)
            have HB5 := Lib.hid (HB.out.trans (hB5.mono (Nat.le_succ _)))
            clear hF5 hB5 ix
            go_wp2
            go_roundw
            all_goals first
              | exact ⟨1, by omega, by go_num, HZ2, HG5, HF5, HB5⟩
              | simp [RowKit.intOf]
        · rw [show (((1 : Nat)) : Int) = 1 from rfl] at ix
          have hfn := fil_next (k := 1) (by decide) HZ.out hok
          have HZ2 : Hid (∀ j, j < 2 → okL (c j) = true) := fun j hj => by
            by_cases e : j = 1
            · subst e; exact hok
            · exact HZ.out j (by omega)
          have hb : (byteV (c 1)).length = N 1 := by rw [byteV, List.length_map]; exact hNk.symm
          have hF := HF.out
          have hll : (byteV (filC c 1)).length = 104 := by rw [byteV, List.length_map, filC, List.length_append, cellsL_len HZ.out, List.length_replicate]
          have hor : N 1 = 0 ∨ N 1 = 26 := by rw [hNk]; exact of_decide_eq_true hok
          have hlt2 := HF.out.lt
          have HFN := Lib.hid hfn
          have HSL := Lib.hid hsl2
          have HLL := Lib.hid hll
          have HBB := Lib.hid hb
          clear hfn hok hNk hsl hsl2 hF hll hb
          generalize P 1 = pk at *
          generalize N 1 = nk at *
          generalize K 1 = kk at *
          rcases hor with rfl | rfl
          all_goals
            go_wp2_with (with_reducible refine wpList_copy_splice (o := ⟨some 26, _, _, _, _, _⟩) rfl (.tmp 24) (.tmp 25) 33 33 rfl 5 Tryz.underlying33 info5 _ _ _ _ _ _ rfl rfl (w.heap.size + 1) (26 * 1) (byteV (filC c 1)) 152 ?c1 (byteV (c 1)) ?c2 ?c3 ?c4 (byteV_one _) (w.heap.size + 1) wr (Below.refl _ _) (Nat.le_refl _) ?_)
            case c1 => exact HF.out
            case c2 => rw [HBB.out]; rfl
            case c3 =>
              intro hp
              have h1 : c 1 ≠ [] := fun e => by rw [e] at hp; cases hp
              obtain ⟨b', o', cap', e, -⟩ := id (HSL.out.pt h1)
              injection e with e1
              subst e1
              exact ⟨_, rfl, (HSL.out.pt h1).news⟩
            case c4 => rw [HLL.out, HBB.out]; decide
            intro w5 hF5 hB5
            have HF5 : Hid (BlkT 152 w5 (w.heap.size + 1) (filC c 2)) := by
              have := hF5.out
              rw [HFN.out] at this
              exact this
            have HG5 := Lib.hid ((hB5.block w.heap.size (Nat.lt_succ_self _)).trans HG.out)
            have HB5 := Lib.hid (HB.out.trans (hB5.mono (Nat.le_succ _)))
            clear hF5 hB5 ix
            go_wp2
            go_roundw
            all_goals first
              | exact ⟨2, by omega, by go_num, HZ2, HG5, HF5, HB5⟩
              | simp [RowKit.intOf]
        · rw [show (((2 : Nat)) : Int) = 2 from rfl] at ix
          have hfn := fil_next (k := 2) (by decide) HZ.out hok
          have HZ2 : Hid (∀ j, j < 3 → okL (c j) = true) := fun j hj => by
            by_cases e : j = 2
            · subst e; exact hok
            · exact HZ.out j (by omega)
          have hb : (byteV (c 2)).length = N 2 := by rw [byteV, List.length_map]; exact hNk.symm
          have hF := HF.out
          have hll : (byteV (filC c 2)).length = 104 := by rw [byteV, List.length_map, filC, List.length_append, cellsL_len HZ.out, List.length_replicate]
          have hor : N 2 = 0 ∨ N 2 = 26 := by rw [hNk]; exact of_decide_eq_true hok
          have hlt2 := HF.out.lt
          have HFN := Lib.hid hfn
          have HSL := Lib.hid hsl2
          have HLL := Lib.hid hll
          have HBB := Lib.hid hb
          clear hfn hok hNk hsl hsl2 hF hll hb
          generalize P 2 = pk at *
          generalize N 2 = nk at *
          generalize K 2 = kk at *
          rcases hor with rfl | rfl
          all_goals
            go_wp2_with (with_reducible refine wpList_copy_splice (o := ⟨some 26, _, _, _, _, _⟩) rfl (.tmp 24) (.tmp 25) 33 33 rfl 5 Tryz.underlying33 info5 _ _ _ _ _ _ rfl rfl (w.heap.size + 1) (26 * 2) (byteV (filC c 2)) 152 ?c1 (byteV (c 2)) ?c2 ?c3 ?c4 (byteV_one _) (w.heap.size + 1) wr (Below.refl _ _) (Nat.le_refl _) ?_)
            case c1 => exact HF.out
            case c2 => rw [HBB.out]; rfl
            case c3 =>
              intro hp
              have h1 : c 2 ≠ [] := fun e => by rw [e] at hp; cases hp
              obtain ⟨b', o', cap', e, -⟩ := id (HSL.out.pt h1)
              injection e with e1
              subst e1
              exact ⟨_, rfl, (HSL.out.pt h1).news⟩
            case c4 => rw [HLL.out, HBB.out]; decide
            intro w5 hF5 hB5
            have HF5 : Hid (BlkT 152 w5 (w.heap.size + 1) (filC c 3)) := by
              have := hF5.out
              rw [HFN.out] at this
              exact this
            have HG5 := Lib.hid ((hB5.block w.heap.size (Nat.lt_succ_self _)).trans HG.out)
            have HB5 := Lib.hid (HB.out.trans (hB5.mono (Nat.le_succ _)))
            clear hF5 hB5 ix
            go_wp2
            go_roundw
            all_goals first
              | exact ⟨3, by omega, by go_num, HZ2, HG5, HF5, HB5⟩
              | simp [RowKit.intOf]
        · rw [show (((3 : Nat)) : Int) = 3 from rfl] at ix
          have hfn := fil_next (k := 3) (by decide) HZ.out hok
          have HZ2 : Hid (∀ j, j < 4 → okL (c j) = true) := fun j hj => by
            by_cases e : j = 3
            · subst e; exact hok
            · exact HZ.out j (by omega)
          have hb : (byteV (c 3)).length = N 3 := by rw [byteV, List.length_map]; exact hNk.symm
          have hF := HF.out
          have hll : (byteV (filC c 3)).length = 104 := by rw [byteV, List.length_map, filC, List.length_append, cellsL_len HZ.out, List.length_replicate]
          have hor : N 3 = 0 ∨ N 3 = 26 := by rw [hNk]; exact of_decide_eq_true hok
          have hlt2 := HF.out.lt
          have HFN := Lib.hid hfn
          have HSL := Lib.hid hsl2
          have HLL := Lib.hid hll
          have HBB := Lib.hid hb
          clear hfn hok hNk hsl hsl2 hF hll hb
          generalize P 3 = pk at *
          generalize N 3 = nk at *
          generalize K 3 = kk at *
          rcases hor with rfl | rfl
          all_goals
            go_wp2_with (with_reducible refine wpList_copy_splice (o := ⟨some 26, _, _, _, _, _⟩) rfl (.tmp 24) (.tmp 25) 33 33 rfl 5 Tryz.underlying33 info5 _ _ _ _ _ _ rfl rfl (w.heap.size + 1) (26 * 3) (byteV (filC c 3)) 152 ?c1 (byteV (c 3)) ?c2 ?c3 ?c4 (byteV_one _) (w.heap.size + 1) wr (Below.refl _ _) (Nat.le_refl _) ?_)
            case c1 => exact HF.out
            case c2 => rw [HBB.out]; rfl
            case c3 =>
              intro hp
              have h1 : c 3 ≠ [] := fun e => by rw [e] at hp; cases hp
              obtain ⟨b', o', cap', e, -⟩ := id (HSL.out.pt h1)
              injection e with e1
              subst e1
              exact ⟨_, rfl, (HSL.out.pt h1).news⟩
            case c4 => rw [HLL.out, HBB.out]; decide
            intro w5 hF5 hB5
            have HF5 : Hid (BlkT 152 w5 (w.heap.size + 1) (filC c 4)) := by
              have := hF5.out
              rw [HFN.out] at this
              exact this
            have HG5 := Lib.hid ((hB5.block w.heap.size (Nat.lt_succ_self _)).trans HG.out)
            have HB5 := Lib.hid (HB.out.trans (hB5.mono (Nat.le_succ _)))
            clear hF5 hB5 ix
            go_wp2
            go_roundw
            all_goals first
              | exact ⟨4, by omega, by go_num, HZ2, HG5, HF5, HB5⟩
              | simp [RowKit.intOf]
      · have HNo : Hid (PutPost w c n (.returned (.tuple #[.slice none 0 0, .slice none 0 0, .int .i64 1])) wr) := by
          have e : okC c = false := okC_no hlt (by cases h : okL (c k) <;> simp_all)
          exact ⟨_, _, by rw [lfE, if_neg (by rw [e]; decide)], by rw [lfA, if_neg (by rw [e]; decide)]; exact slK_nil _, by rw [lfB, if_neg (by rw [e]; decide)]; exact slK_nil _, HB.out⟩
        have hn : ¬ (N k = 0 ∨ N k = 26) := by rw [hNk]; intro e; exact hok (by unfold okL; rw [decide_eq_true_eq]; exact e)
        have n0 : ((N k : Nat) : Int) ≠ 0 := by omega
        have n1 : ((N k : Nat) : Int) ≠ 26 := by omega
        have n2 : ¬ N k = 0 := by omega
        have n3 : ¬ N k = 26 := by omega
        have m0 : (((N k : Nat) : Int) != 0) = true := by simpa using n2
        have m1 : (((N k : Nat) : Int) != 26) = true := by simpa using n1
        clear hn hNk hsl hsl2 hok n0 n1
        go_wp2
        go_ret3
        exact HNo.out
    · obtain rfl : k = 4 := by omega
      have d4 := (pg_cell HG.out).2.1
      have hlen : (filC c 4).length = 104 := by rw [filC, List.length_append, cellsL_len HZ.out]; simp
      have hfc : filC c 4 = cellsL c 4 := by unfold filC; simp
      have hpt := HF.out.pt (n := 104) (c := 104) hlen.symm (Nat.le_refl _)
      have hsl := hpt.slK (by rw [hfc]; exact cellsL_ok (fun j hj => (HH.out j hj).2.ok))
      rw [hfc] at hsl
      have HC : Hid (okC c = true) := okC_all HZ.out
      have HP := Lib.hid (fun W (hW : Below wr.heap.size wr W) => put_P W n _ _ (hsl.below hW (Nat.le_refl _)))
      have D0 := (Below.refl wr.heap.size wr).drew
      clear hlen hfc hpt hsl
      go_wp2_with fail
      go_region_with (go_at_call 92; refine (HP.out _ (by first | exact D0 | exact Below.refl _ _)).mono ?_; rintro e w5 ⟨va, vb, rfl, ka, kb, hb5⟩)
      all_goals
        have HPo : Hid (PutPost w c n (.returned (.tuple #[va, vb, .int .i64 (pE n (cellsL c 4))])) w5) := ⟨va, vb, by rw [lfE, if_pos HC.out], by rw [lfA, if_pos HC.out]; exact ka, by rw [lfB, if_pos HC.out]; exact kb, HB.out.trans ((Below.trans D0 hb5).mono HB.out.size)⟩
        clear ka kb hb5
        generalize pE n (cellsL c 4) = ee at *
        simp only [List.getElem_toArray, List.getElem_cons_succ, List.getElem_cons_zero, Act.put, List.setIfInBounds_toArray, List.set_cons_zero, List.set_cons_succ]
        go_wp2
        go_ret3
        exact HPo.out

end Go.Proofs.YtljbhdldfffpfaaGreat.Lf
