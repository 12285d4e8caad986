/- EntryForms: its walk. -/
import Derived.Test.YtkfebibnpincpaaEFoP
import Derived.Deep.CutBlock
namespace Go.Proofs.Ytkfebibnpincpaa.entryForms
open Go.ChangeShapes Go.WideShapes Go.ChangeAt Go.RowKit

def Fin (w : World) (e : Ending) (w' : World) : Prop := e = .returned (.bool true) ∧ Below w.heap.size w w'
def BO (B g : Nat) (W : World) : Prop := W.ownsRow B 5 1 (.slice (some ⟨g, 0, none⟩) 26 26) 26 (byteV z26)
def MO (B g : Nat) (W : World) : Prop := W.ownsRow B 52 4 (.slice (some ⟨g, 0, none⟩) 40 40) 40 ((List.replicate 40 mv0).flatMap mvV)
def LO (B g : Nat) (W : World) : Prop := W.ownsRow B 46 4 (.slice (some ⟨g, 0, none⟩) 40 40) 40 ((List.replicate 40 lv0).flatMap lvV)
def DO (B g : Nat) (W : World) : Prop := W.ownsRow B 48 2 (.slice (some ⟨g, 0, none⟩) 40 40) 40 ((List.replicate 40 dt0).flatMap dtV)
def OO (B g : Nat) (W : World) : Prop := W.ownsRow B 50 3 (.slice (some ⟨g, 0, none⟩) 40 40) 40 ((List.replicate 40 op0).flatMap opV)
def okC (gb g0 g1 g2 g3 : Nat) : Array Value := entC okE (.slice (some ⟨gb, 0, none⟩) 26 26) (.slice none 0 0) (.slice (some ⟨g0, 0, none⟩) 40 40) (.slice (some ⟨g1, 0, none⟩) 40 40) (.slice (some ⟨g2, 0, none⟩) 40 40) (.slice (some ⟨g3, 0, none⟩) 40 40)

/-- What each of the seven leaves. -/
def LR (B : Nat) : Nat → Value → World → Prop
  | 0, v, W => ∃ g, v = .slice (some ⟨g, 0, none⟩) 26 26 ∧ BO B g W
  | 1, v, W => ∃ g, v = .slice (some ⟨g, 0, none⟩) 40 40 ∧ MO B g W
  | 2, v, W => ∃ g, v = .slice (some ⟨g, 0, none⟩) 40 40 ∧ LO B g W
  | 3, v, W => ∃ g, v = .slice (some ⟨g, 0, none⟩) 40 40 ∧ DO B g W
  | 4, v, W => ∃ g, v = .slice (some ⟨g, 0, none⟩) 40 40 ∧ OO B g W
  | 5, v, W => ∃ g, v = .pointer (some ⟨g, 0, none⟩) ∧ B ≤ g ∧ W.heap[g]? = some (.cells ent0 30 (0, 0))
  | _, v, W => ∃ gb g0 g1 g2 g3, v = .agg (okC gb g0 g1 g2 g3) ∧ BO B gb W ∧ MO B g0 W ∧ LO B g1 W ∧ DO B g2 W ∧ OO B g3 W
theorem LR.mono {B : Nat} {W W' : World} (hb : Below W.heap.size W W') : ∀ j u, LR B j u W → LR B j u W'
  | 0, _, ⟨g, e, h⟩ => ⟨g, e, own_bel h hb⟩
  | 1, _, ⟨g, e, h⟩ => ⟨g, e, own_bel h hb⟩
  | 2, _, ⟨g, e, h⟩ => ⟨g, e, own_bel h hb⟩
  | 3, _, ⟨g, e, h⟩ => ⟨g, e, own_bel h hb⟩
  | 4, _, ⟨g, e, h⟩ => ⟨g, e, own_bel h hb⟩
  | 5, _, ⟨g, e, hB, h⟩ => ⟨g, e, hB, (hb.block g (Array.getElem?_eq_some_iff.1 h).1).trans h⟩
  | _ + 6, _, ⟨gb, g0, g1, g2, g3, e, h, h0, h1, h2, h3⟩ => ⟨gb, g0, g1, g2, g3, e, own_bel h hb, own_bel h0 hb, own_bel h1 hb, own_bel h2 hb, own_bel h3 hb⟩
theorem own_ne {w : World} {B k n m g0 g : Nat} {e t : TypeId} {xs : List Value} {cs : Array Value} {fr : Nat × Nat} (h : w.ownsRow B e k (.slice (some ⟨g0, 0, none⟩) m m) n xs) (hg : w.heap[g]? = some (.cells cs t fr)) (ht : t ≠ e) : g0 ≠ g := by
  rintro rfl
  rcases h.2 with ⟨e, h0⟩ | ⟨g, cap, cur, e, _, h1, _⟩
  · cases e
  · cases e
    rw [h1] at hg
    injection hg with hg
    injection hg with _ e2 _
    exact ht e2.symm
theorem own_row {w : World} {B k n m g0 g : Nat} {e t : TypeId} {xs : List Value} {cs cs' : Array Value} {fr : Nat × Nat} (h : w.ownsRow B e k (.slice (some ⟨g0, 0, none⟩) m m) n xs) (hg : w.heap[g]? = some (.cells cs t fr)) (ht : t ≠ e) : (w.setRow g cs').ownsRow B e k (.slice (some ⟨g0, 0, none⟩) m m) n xs :=
  own_at h fun k hk => by
    injection hk with hk
    rw [← hk]
    exact setRow_far _ _ _ (own_ne h hg ht)
theorem ok_box {w : World} {B gb g0 g1 g2 g3 g : Nat} (hb : BO B gb w) (h0 : MO B g0 w) (h1 : LO B g1 w) (h2 : DO B g2 w) (h3 : OO B g3 w) (hg : w.heap[g]? = some (.cells ent0 30 (0, 0))) (hB : B ≤ g) :
    Bz g okE (.slice (some ⟨gb, 0, none⟩) 26 26) (.slice none 0 0) (.slice (some ⟨g0, 0, none⟩) 40 40) (.slice (some ⟨g1, 0, none⟩) 40 40) (.slice (some ⟨g2, 0, none⟩) 40 40) (.slice (some ⟨g3, 0, none⟩) 40 40) (w.setRow g (okC gb g0 g1 g2 g3)) ∧ Below B w (w.setRow g (okC gb g0 g1 g2 g3)) :=
  ⟨⟨setRow_heap _ _ _ _ _ _ hg, own_slK (own_row hb hg (by decide)) z26_ok, slK_nil _, (own_els (f := mvV) (fun _ => rfl) (own_row h0 hg (by decide)) List.length_replicate).1, (own_els (f := lvV) (fun _ => rfl) (own_row h1 hg (by decide)) List.length_replicate).1, (own_els (f := dtV) (fun _ => rfl) (own_row h2 hg (by decide)) List.length_replicate).1, z_opens (own_row h3 hg (by decide))⟩, setRow_below _ _ _ hB⟩
theorem mk_b (W : World) : (Instr.makeSlice 24 (.int .i64 26) (.int .i64 26)).run Try.prog W = .ok (.slice (some ⟨W.heap.size, 0, none⟩) 26 26) (W.alloc (.cells (byteV z26).toArray 5)) ∧ BO W.heap.size W.heap.size (W.alloc (.cells (byteV z26).toArray 5)) ∧ Below W.heap.size W (W.alloc (.cells (byteV z26).toArray 5)) :=
  ⟨make_bytes W 26 26 (by omega) (by omega), World.ownsRow_lit W (byteV z26).toArray 26 (Nat.le_refl _) (by unfold maxLen; omega) (by simp [byteV, z26_len]), (Below.refl _ _).alloc (Nat.le_refl _) _⟩
set_option maxRecDepth 100000 in
theorem mk_14 (W : World) : (Instr.makeSlice 44 (.int .i64 14) (.int .i64 14)).run Try.prog W = .ok (.slice (some ⟨W.heap.size, 0, none⟩) 14 14) (W.alloc (.cells (rowV 14 16 fun _ => ent0) 30)) := by
  obtain ⟨i, hi, hz0, hz1, hz2⟩ := info_parts (show (Try.prog.info? 30).map (fun i => (i.zero, i.size, i.bytes)) = some (some (.agg ent0), 16, 224) by kernel_rfl)
  have h := run_makeSlice W 44 30 i (.agg ent0) Try.underlying44 hi hz0 .i64 .i64 14 14 (by omega) (by omega) (by rw [hz1]; decide) (by rw [hz2]; omega) (by omega)
  rw [hz1] at h
  rw [show rowV 14 16 (fun _ => ent0) = madeCells (Value.agg ent0).cells (14 * 16) from ?_]
  · exact h
  · symm
    refine rowV_ext (n := 14) (k := 16) (V := fun _ => ent0) (fun _ => rfl) (by decide) (size_madeCells _ _) fun i j hi hj => ?_
    have hlt : i * 16 + j < 14 * 16 := by omega
    simp only [madeCells, Array.getElem?_map]
    rw [show (Array.range (14 * 16))[i * 16 + j]? = some (i * 16 + j) by rw [Array.getElem?_range, if_pos hlt]]
    show some (ent0[(i * 16 + j) % 16]!) = ent0[j]?
    rw [show (i * 16 + j) % 16 = j by omega, Array.getElem?_eq_getElem (show j < ent0.size from hj), getElem!_pos ent0 j hj]
    rfl

theorem mk_41 (W : World) : (Instr.makeSlice 25 (.int .i64 41) (.int .i64 41)).run Try.prog W = .ok (.slice (some ⟨W.heap.size, 0, none⟩) 41 41) (W.alloc (.cells (madeCells #[.int .i64 0, .int .i64 0, .int .i64 0, .int .i64 0] (41 * 4)) 52)) := by
  obtain ⟨i, hi, hz0, hz1, hz2⟩ := info_parts informoves_any
  have h := run_makeSlice W 25 52 i (.agg #[.int .i64 0, .int .i64 0, .int .i64 0, .int .i64 0]) Try.underlying25 hi hz0 .i64 .i64 41 41 (by omega) (by omega) (by rw [hz1]; decide) (by rw [hz2]; omega) (by omega)
  rw [hz1] at h
  exact h

/-- The fourteen. -/
structure FW (w4 : World) (gl : Nat) (V : Nat → Array Value) (W : World) : Prop where
  b : Below gl w4 W
  bx : W.heap[gl]? = some (.cells (rowV 14 16 V) 30 (0, 0))
  sz : ∀ i, (V i).size = 16
theorem upd_lt (C D : Array Value) (k : Nat) : updV (fun j => if j < k then C else D) k C = fun j => if j < k + 1 then C else D := by
  funext j
  unfold updV
  by_cases h : j = k
  · rw [if_pos h, if_pos (by omega)]
  · rw [if_neg h]
    show (if j < k then C else D) = _
    by_cases h2 : j < k
    · rw [if_pos h2, if_pos (by omega)]
    · rw [if_neg h2, if_neg (by omega)]
theorem slF_new {W : World} {l : List Int} {gl n : Nat} (hn : l.length = n) (hok : bytesOk l) (hg : gl < W.heap.size) : SlF (W.alloc (.cells (byteV l).toArray 5)) (gl + 1) (.slice (some ⟨W.heap.size, 0, none⟩) n n) l :=
  ⟨((blk_new W l).pt (n := n) (c := n) hn.symm (Nat.le_refl _)).slK hok, fun b hb => by
    injection hb with hb
    have hb2 : W.heap.size = b := hb
    omega⟩
theorem elF_new {W : World} {α : Type} {f : α → List Value} {k n gl : Nat} {t : TypeId} {cs : Array Value} {xs : List α} (hf : ∀ x, (f x).length = k) (hc : cs.toList = xs.flatMap f) (hn : xs.length = n) (h1 : n ≤ 1000) (hs : cs.size = n * k) (hg : gl < W.heap.size) : ElF (W.alloc (.cells cs t)) (gl + 1) (.slice (some ⟨W.heap.size, 0, none⟩) n n) k (xs.map f) := by
  have h := World.ownsRow_lit (base := W.heap.size) (e := t) (size := k) W cs n (Nat.le_refl _) (by unfold maxLen; omega) hs
  rw [hc] at h
  exact ⟨(own_els hf h hn).1, fun b hb => by
    injection hb with hb
    have hb2 : W.heap.size = b := hb
    omega⟩

section
variable {w4 W W' : World} {gl : Nat} {V : Nat → Array Value}
theorem FW.lt (h : FW w4 gl V W) : gl < W.heap.size := (Array.getElem?_eq_some_iff.1 h.bx).1
theorem FW.on (h : FW w4 gl V W) (hb : Below W.heap.size W W') : FW w4 gl V W' := ⟨h.b.trans (hb.mono (Nat.le_of_lt h.lt)), (hb.block gl h.lt).trans h.bx, h.sz⟩
theorem FW.put (h : FW w4 gl V W) {k : Nat} (hk : k < 14) {C : Array Value} (hC : C.size = 16) : FW w4 gl (updV V k C) (W.setRow gl (putRow (rowV 14 16 V) (k * 16) C.toList)) := by
  refine ⟨h.b.trans (setRow_below _ _ _ (Nat.le_refl _)), ?_, updV_size h.sz hC⟩
  rw [setRow_heap _ _ _ _ _ _ h.bx, rowV_put h.sz (by omega) hk hC]
theorem FW.set (h : FW w4 gl V W) {i j : Nat} (hi : i < 14) (hj : j < 16) (v : Value) {off : Nat} (ho : i * 16 + j = off) : FW w4 gl (updV V i ((V i).setIfInBounds j v)) (W.setCell ⟨gl, off, none⟩ v) := by
  subst ho
  refine ⟨h.b.trans ⟨rfl, rfl, rfl, by simp, fun k hk => setCell_far _ _ _ _ (by omega)⟩, ?_, updV_size h.sz (by simp [h.sz])⟩
  rw [heap_setCell_same _ _ _ _ _ _ h.bx, rowV_set h.sz hi hj]
theorem FW.c (h : FW w4 gl V W) {i j : Nat} (hi : i < 14) (hj : j < 16) {off : Nat} (ho : i * 16 + j = off) : W.cell? ⟨gl, off, none⟩ = (V i)[j]? ∧ W.frozen? ⟨gl, off, none⟩ = false := by
  subst ho
  exact ⟨(cell_of h.bx _).1.trans (rowV_at h.sz hi hj), (cell_of h.bx _).2⟩
end

set_option maxRecDepth 100000 in
set_option maxHeartbeats 4000000 in
theorem walk (w : World) : Calls Try.prog 6 #[] w (Fin w) := by
  go_enter Try.func6, Try.ntmps6
  go_wp2_with fail
  refine (begun_any w).mono ?_
  rintro r w2 ⟨rfl, hb2⟩
  have HB2 := Lib.hid hb2
  have HS : Hid (∀ W, Below w2.heap.size w2 W → Below w2.heap.size w2 W) := fun W h => h
  have D0 := (Below.refl w2.heap.size w2).drew
  clear hb2
  go_upto_region 3 with (fail)
  refine wp_region_held_drew (S := (fun W : World => Below w2.heap.size w2 W)) (by kernel_rfl) (HS.out _ D0) (fun hHeld => ?_)
  refine wpAnyH_take (i := 0) (oi := ⟨_, _, _, _, _, _⟩) (v := ?_) rfl (by kernel_rfl) (by kernel_rfl) (by kernel_rfl) (fun _ _ _ h => h) (Or.inl ⟨by rfl, ?_⟩) (by assumption) ?_
  rotate_left
  · intro W hSW
    try dsimp only at hSW
    go_simp
    try with_reducible rfl
  rotate_left
  try simp only [Act.put, List.setIfInBounds_toArray, List.set_cons_zero, List.set_cons_succ]
  refine makers [(1, 8), (2, 9), (3, 10), (4, 11), (5, 12), (7, 1), (6, 13)] _ #[true, false, false, false, false, false, false, false, false] (fun W => Below w2.heap.size w2 W) (LR w2.heap.size) 1 (by decide) (by decide) (fun d hd => ?_) (fun _ h => h) (fun L hL hex => ?_) (fun k hk L a W K hL hrd hdone hA hI hK => ?_) (fun vs w3 hl hv hI => ?_) 7 [false, false, false, false, false, false, false] _ _ rfl rfl (Agree.refl _ _) (fun k hk h => ?_) D0
  · have h : d ≤ 13 := by simp [ds] at hd; omega
    exact Nat.lt_of_le_of_lt h (show 13 < 120 by decide)
  · obtain ⟨c0, c1, c2, c3, c4, c5, c6, rfl⟩ : ∃ c0 c1 c2 c3 c4 c5 c6, L = [c0, c1, c2, c3, c4, c5, c6] := by
      match L, hL with
      | [c0, c1, c2, c3, c4, c5, c6], _ => exact ⟨c0, c1, c2, c3, c4, c5, c6, rfl⟩
    have hp : ∀ l1 l2 : List Nat, (!l1.isEmpty && l1.all fun i => l2.contains i) = true → l1 ≠ [] ∧ ∀ i ∈ l1, i ∈ l2 := fun l1 l2 h => by
      simp only [Bool.and_eq_true, Bool.not_eq_true', List.isEmpty_eq_false_iff, List.all_eq_true, List.contains_iff_mem] at h
      exact h
    refine hp _ _ ?_
    clear hp
    cases c0 <;> cases c1 <;> cases c2 <;> cases c3 <;> cases c4 <;> cases c5 <;> cases c6 <;> first
      | (exfalso; obtain ⟨k, hk⟩ := hex; rcases k with _ | _ | _ | _ | _ | _ | _ | k <;> simp at hk; done)
      | kernel_rfl
  · rcases k with _ | _ | _ | _ | _ | _ | _ | k
    · obtain ⟨hr, ho, hb⟩ := mk_b W
      exact wpOp_makeS rfl rfl rfl rfl rfl rfl hr (hK _ _ (hI.trans (hb.mono hI.size)) (LR.mono hb) ⟨_, rfl, ho.mono hI.size⟩)
    · obtain ⟨w', hr, ho, hb⟩ := mk_moves .i64 40 (by omega) W
      exact wpOp_makeS rfl rfl rfl rfl rfl rfl hr (hK _ _ (hI.trans (hb.mono hI.size)) (LR.mono hb) ⟨_, rfl, ho.mono hI.size⟩)
    · obtain ⟨w', hr, ho, hb⟩ := mk_lives .i64 40 (by omega) W
      exact wpOp_makeS rfl rfl rfl rfl rfl rfl hr (hK _ _ (hI.trans (hb.mono hI.size)) (LR.mono hb) ⟨_, rfl, ho.mono hI.size⟩)
    · obtain ⟨w', hr, ho, hb⟩ := mk_dirty .i64 40 (by omega) W
      exact wpOp_makeS rfl rfl rfl rfl rfl rfl hr (hK _ _ (hI.trans (hb.mono hI.size)) (LR.mono hb) ⟨_, rfl, ho.mono hI.size⟩)
    · obtain ⟨w', hr, ho, hb⟩ := mk_opens .i64 40 (by omega) W
      exact wpOp_makeS rfl rfl rfl rfl rfl rfl hr (hK _ _ (hI.trans (hb.mono hI.size)) (LR.mono hb) ⟨_, rfl, ho.mono hI.size⟩)
    · have hb : Below W.heap.size W (W.alloc (.cells ent0 30)) := (Below.refl _ _).alloc (Nat.le_refl _) _
      exact wpOp_alloc rfl rfl rfl rfl (alloc_ent W) (hK _ _ (hI.trans (hb.mono hI.size)) (LR.mono hb) ⟨_, rfl, hI.size, heap_alloc_new W _⟩)
    · obtain ⟨c0, c1, c2, c3, c4, c5, c6, rfl⟩ : ∃ c0 c1 c2 c3 c4 c5 c6, L = [c0, c1, c2, c3, c4, c5, c6] := by
        match L, hL with
        | [c0, c1, c2, c3, c4, c5, c6], _ => exact ⟨c0, c1, c2, c3, c4, c5, c6, rfl⟩
      obtain ⟨rfl, rfl, rfl, rfl, rfl⟩ : c0 = true ∧ c1 = true ∧ c2 = true ∧ c3 = true ∧ c4 = true := by
        have hrd2 := List.contains_iff_mem.2 hrd
        clear hrd hdone hL
        revert hrd2
        cases c0 <;> cases c1 <;> cases c2 <;> cases c3 <;> cases c4 <;> cases c5 <;> cases c6 <;> first
          | (intro _; exact ⟨rfl, rfl, rfl, rfl, rfl⟩)
          | (intro h; exact absurd (h.symm.trans (by kernel_rfl : _ = false)) (by decide))
      obtain ⟨v, t, gb, rfl, o⟩ := hdone 0 (by simp) rfl
      obtain ⟨v0, t0, g0, rfl, o0⟩ := hdone 1 (by simp) rfl
      obtain ⟨v1, t1, g1, rfl, o1⟩ := hdone 2 (by simp) rfl
      obtain ⟨v2, t2, g2, rfl, o2⟩ := hdone 3 (by simp) rfl
      obtain ⟨v3, t3, g3, rfl, o3⟩ := hdone 4 (by simp) rfl
      refine wpOp_build (v := .agg (okC gb g0 g1 g2 g3)) rfl rfl rfl ?_ (hK _ _ hI (fun _ _ h => h) ⟨gb, g0, g1, g2, g3, rfl, o, o0, o1, o2, o3⟩)
      have hev : ∀ {d : Nat} {v : Value}, a.tmps[d]? = some v → a.eval (.tmp d) = v := fun h => by
        show a.tmps.getD _ undef = _
        rw [Array.getD_eq_getD_getElem?, h]
        rfl
      have x := hev t
      have x0 := hev t0
      have x1 := hev t1
      have x2 := hev t2
      have x3 := hev t3
      have x7 : a.eval (.tmp 7) = .agg #[.int .i64 255, .int .i64 255] := (hA.eval (by decide)).trans rfl
      simp only [List.getElem_cons_zero, List.getElem_cons_succ] at x x0 x1 x2 x3
      have hb : Try.prog.built 30 [(0, .int .i64 10), (1, .int .i64 255), (2, .int .i64 65535), (3, .int .i64 255), (4, .int .i64 16777215), (5, .int .i64 16777215), (6, .agg #[.int .i64 255, .int .i64 255]), (8, .slice (some ⟨gb, 0, none⟩) 26 26), (10, .slice (some ⟨g0, 0, none⟩) 40 40), (11, .slice (some ⟨g1, 0, none⟩) 40 40), (12, .slice (some ⟨g2, 0, none⟩) 40 40), (13, .slice (some ⟨g3, 0, none⟩) 40 40)] = some (okC gb g0 g1 g2 g3) := by kernel_rfl
      refine run_exec_build rfl ?_
      simp only [List.map_toArray, List.map_cons, List.map_nil, x, x0, x1, x2, x3, x7]
      exact hb
    · simp at hk; omega
  · obtain ⟨v, v0, v1, v2, v3, v4, v5, rfl⟩ : ∃ v v0 v1 v2 v3 v4 v5, vs = [v, v0, v1, v2, v3, v4, v5] := by
      match vs, hl with
      | [v, v0, v1, v2, v3, v4, v5], _ => exact ⟨v, v0, v1, v2, v3, v4, v5, rfl⟩
    obtain ⟨_, rfl, _⟩ := hv 0 (by simp)
    obtain ⟨_, rfl, _⟩ := hv 1 (by simp)
    obtain ⟨_, rfl, _⟩ := hv 2 (by simp)
    obtain ⟨_, rfl, _⟩ := hv 3 (by simp)
    obtain ⟨_, rfl, _⟩ := hv 4 (by simp)
    obtain ⟨g, rfl, hgB, hg⟩ := hv 5 (by simp)
    obtain ⟨gb, g0, g1, g2, g3, rfl, o, o0, o1, o2, o3⟩ := hv 6 (by simp)
    obtain ⟨hz, hzb⟩ := ok_box o o0 o1 o2 o3 hg hgB
    have hHeld : Below w2.heap.size w2 w3 := hI
    have HZI := Lib.hid (infoEntC okE (.slice (some ⟨gb, 0, none⟩) 26 26) (.slice none 0 0) (.slice (some ⟨g0, 0, none⟩) 40 40) (.slice (some ⟨g1, 0, none⟩) 40 40) (.slice (some ⟨g2, 0, none⟩) 40 40) (.slice (some ⟨g3, 0, none⟩) 40 40))
    have HZA := Lib.hid (entC_all okE (some ⟨gb, 0, none⟩) none (some ⟨g0, 0, none⟩) (some ⟨g1, 0, none⟩) (some ⟨g2, 0, none⟩) (some ⟨g3, 0, none⟩) 26 26 0 0 40 40 40 40 40 40 40 40)
    have HG := Lib.hid hg
    have HZ := Lib.hid hz
    have HZB := Lib.hid (hI.trans hzb)
    clear hv hl hI o o0 o1 o2 o3 hg hz hzb hgB
    show wpAnyH _ _ _ _ _ 1 #[true, true, true, true, true, true, true, true, false] _ w3
    simp only [putAll, Act.put, List.setIfInBounds_toArray, List.set_cons_zero, List.set_cons_succ]
    refine wpAnyH_ready (rs := [8]) (by kernel_rfl) (by simp) ?_
    refine AllReadyH.cons (o := ⟨_, _, _, _, _, _⟩) rfl (fun K hK => ?_) AllReadyH.nil
    rw [if_pos (by rfl)]
    refine wp_store_row 30 (.tmp 1) (.tmp 13) rfl g (okC gb g0 g1 g2 g3) rfl rfl 30 ent0 HG.out HZI.out rfl HZA.out ?_
    refine hK.out _ _ HZB.out (fun hHeld => ?_)
    clear hK K
    try simp only [Act.put, List.setIfInBounds_toArray, List.set_cons_zero, List.set_cons_succ]
    refine wpAnyH_done (by kernel_rfl) ?_ _
    obtain ⟨w4, hw4⟩ : ∃ W, W = w3.setRow g (okC gb g0 g1 g2 g3) := ⟨_, rfl⟩
    rw [← hw4] at HZ HZB ⊢
    clear hw4 HG hHeld D0 HS
    have hmk := mk_14 w4
    have hb5 : Below w4.heap.size w4 (w4.alloc (.cells (rowV 14 16 fun _ => ent0) 30)) := (Below.refl _ _).alloc (Nat.le_refl _) _
    have HF5 : Hid (FW w4 w4.heap.size (fun _ => ent0) (w4.alloc (.cells (rowV 14 16 fun _ => ent0) 30))) := ⟨hb5, heap_alloc_new w4 _, fun _ => rfl⟩
    have HGL : Hid (g < w4.heap.size) := (Array.getElem?_eq_some_iff.1 HZ.out.bx).1
    clear hb5
    go_upto_region 5 with (fail)
    generalize w4.alloc (.cells (rowV 14 16 fun _ => ent0) 30) = w5 at *
    obtain ⟨gl, hgl⟩ : ∃ gl, gl = w4.heap.size := ⟨_, rfl⟩
    rw [← hgl] at HF5 HGL ⊢
    have HLE := Lib.hid (Nat.le_of_eq hgl.symm)
    clear hgl hmk
    have HOK := Lib.hid (show (okC gb g0 g1 g2 g3).size = 16 from rfl)
    go_wp2
    go_loopw [3] (fun i wr => ∃ k : Nat, k ≤ 14 ∧ i = .int .i64 k ∧ FW w4 gl (fun j => if j < k then okC gb g0 g1 g2 g3 else ent0) wr) (fun i _ => 14 - (intOf i).toNat)
    case atStart => exact ⟨0, by omega, rfl, by simpa using HF5.out⟩
    case round =>
      obtain ⟨k, hk, rfl, hF⟩ := hrel
      have HF := Lib.hid hF
      have hbx := (hF.b.block g HGL.out).trans HZ.out.bx
      have HBX := Lib.hid hbx
      have hsz : (16 : Nat) * 14 = 224 := rfl
      by_cases hlt : k < 14
      · have HFX := Lib.hid hF.bx
        have z1 : (0 : Int) ≤ (k : Int) := by omega
        have z2 : (k : Int) < 14 := by omega
        clear hF hbx
        go_wp2_with (first
          | (with_reducible refine wpList_load_row rfl 30 (.tmp 1) rfl g rfl 30 _ (0, 0) _ HBX.out Try.underlying30 rfl HZI.out ?_)
          | (refine wpList_store_at rfl 30 (.tmp 24) (.tmp 23) rfl gl (k * 16) (okC gb g0 g1 g2 g3) rfl rfl 30 _ HFX.out HZI.out ?_ HZA.out ?_))
        · rw [HOK.out, rowV_size]; omega
        · refine ⟨⟨k + 1, by omega, rfl, ?_⟩, by simp [intOf]; omega⟩
          have := HF.out.put hlt HOK.out
          rw [upd_lt] at this
          exact this
      · obtain rfl : k = 14 := by omega
        clear hF hbx hsz hk hlt
        go_upto_region 9 with (fail)
        have hc := HF.out.c (i := 0) (j := 0) (by omega) (by omega) (off := 0) rfl
        obtain ⟨u, hu⟩ : ∃ u, wr.cell? ⟨gl, 0, none⟩ = some u := ⟨_, hc.1.trans (Array.getElem?_eq_getElem (by rw [HF.out.sz]; omega))⟩
        have f0 := hc.2
        have HF9 := Lib.hid (HF.out.set (i := 0) (j := 0) (by omega) (by omega) (.int .i64 0) (off := 0) rfl)
        clear hc
        go_upto_region 10 with (fail)
        clear hu f0 u HF
        generalize wr.setCell ⟨gl, 0, none⟩ (.int .i64 0) = wa9 at *
        have hc := HF9.out.c (i := 1) (j := 0) (by omega) (by omega) (off := 16) rfl
        obtain ⟨u, hu⟩ : ∃ u, wa9.cell? ⟨gl, 16, none⟩ = some u := ⟨_, hc.1.trans (Array.getElem?_eq_getElem (by rw [HF9.out.sz]; omega))⟩
        have f0 := hc.2
        have HF10 := Lib.hid (HF9.out.set (i := 1) (j := 0) (by omega) (by omega) (.int .i64 11) (off := 16) rfl)
        clear hc
        go_upto_region 11 with (fail)
        clear hu f0 u HF9
        generalize wa9.setCell ⟨gl, 16, none⟩ (.int .i64 11) = wa10 at *
        have hc := HF10.out.c (i := 2) (j := 1) (by omega) (by omega) (off := 33) rfl
        obtain ⟨u, hu⟩ : ∃ u, wa10.cell? ⟨gl, 33, none⟩ = some u := ⟨_, hc.1.trans (Array.getElem?_eq_getElem (by rw [HF10.out.sz]; omega))⟩
        have f0 := hc.2
        have HF11 := Lib.hid (HF10.out.set (i := 2) (j := 1) (by omega) (by omega) (.int .i64 256) (off := 33) rfl)
        clear hc
        go_upto_region 12 with (fail)
        clear hu f0 u HF10
        generalize wa10.setCell ⟨gl, 33, none⟩ (.int .i64 256) = wa11 at *
        have hc := HF11.out.c (i := 3) (j := 2) (by omega) (by omega) (off := 50) rfl
        obtain ⟨u, hu⟩ : ∃ u, wa11.cell? ⟨gl, 50, none⟩ = some u := ⟨_, hc.1.trans (Array.getElem?_eq_getElem (by rw [HF11.out.sz]; omega))⟩
        have f0 := hc.2
        have HF12 := Lib.hid (HF11.out.set (i := 3) (j := 2) (by omega) (by omega) (.int .i64 65536) (off := 50) rfl)
        clear hc
        go_upto_region 13 with (fail)
        clear hu f0 u HF11
        generalize wa11.setCell ⟨gl, 50, none⟩ (.int .i64 65536) = wa12 at *
        have hc := HF12.out.c (i := 4) (j := 3) (by omega) (by omega) (off := 67) rfl
        obtain ⟨u, hu⟩ : ∃ u, wa12.cell? ⟨gl, 67, none⟩ = some u := ⟨_, hc.1.trans (Array.getElem?_eq_getElem (by rw [HF12.out.sz]; omega))⟩
        have f0 := hc.2
        have HF13 := Lib.hid (HF12.out.set (i := 4) (j := 3) (by omega) (by omega) (.int .i64 (-1)) (off := 67) rfl)
        clear hc
        go_upto_region 14 with (fail)
        clear hu f0 u HF12
        generalize wa12.setCell ⟨gl, 67, none⟩ (.int .i64 (-1)) = wa13 at *
        have hc := HF13.out.c (i := 5) (j := 4) (by omega) (by omega) (off := 84) rfl
        obtain ⟨u, hu⟩ : ∃ u, wa13.cell? ⟨gl, 84, none⟩ = some u := ⟨_, hc.1.trans (Array.getElem?_eq_getElem (by rw [HF13.out.sz]; omega))⟩
        have f0 := hc.2
        have HF14 := Lib.hid (HF13.out.set (i := 5) (j := 4) (by omega) (by omega) (.int .i64 16777216) (off := 84) rfl)
        clear hc
        go_upto_region 15 with (fail)
        clear hu f0 u HF13
        generalize wa13.setCell ⟨gl, 84, none⟩ (.int .i64 16777216) = wa14 at *
        have hc := HF14.out.c (i := 6) (j := 5) (by omega) (by omega) (off := 101) rfl
        obtain ⟨u, hu⟩ : ∃ u, wa14.cell? ⟨gl, 101, none⟩ = some u := ⟨_, hc.1.trans (Array.getElem?_eq_getElem (by rw [HF14.out.sz]; omega))⟩
        have f0 := hc.2
        have HF15 := Lib.hid (HF14.out.set (i := 6) (j := 5) (by omega) (by omega) (.int .i64 (-1)) (off := 101) rfl)
        clear hc
        go_upto_region 16 with (fail)
        clear hu f0 u HF14
        generalize wa14.setCell ⟨gl, 101, none⟩ (.int .i64 (-1)) = wa15 at *
        have hc := HF15.out.c (i := 7) (j := 7) (by omega) (by omega) (off := 119) rfl
        obtain ⟨u, hu⟩ : ∃ u, wa15.cell? ⟨gl, 119, none⟩ = some u := ⟨_, hc.1.trans (Array.getElem?_eq_getElem (by rw [HF15.out.sz]; omega))⟩
        have f0 := hc.2
        have HF16 := Lib.hid (HF15.out.set (i := 7) (j := 7) (by omega) (by omega) (.int .i64 256) (off := 119) rfl)
        clear hc
        go_upto_region 17 with (fail)
        clear hu f0 u HF15
        generalize wa15.setCell ⟨gl, 119, none⟩ (.int .i64 256) = wa16 at *
        have hm := HF16.out.on ((Below.refl wa16.heap.size wa16).alloc (Nat.le_refl _) (.cells (byteV z3).toArray 5))
        have hc := hm.c (i := 8) (j := 10) (by omega) (by omega) (off := 138) rfl
        obtain ⟨u, hu⟩ : ∃ u, (wa16.alloc (.cells (byteV z3).toArray 5)).cell? ⟨gl, 138, none⟩ = some u := ⟨_, hc.1.trans (Array.getElem?_eq_getElem (by rw [hm.sz]; omega))⟩
        have f0 := hc.2
        have hk : Kpt (gl + 1) wa16 ((wa16.alloc (.cells (byteV z3).toArray 5)).setCell ⟨gl, 138, none⟩ (.slice (some ⟨wa16.heap.size, 0, none⟩) 3 3)) := (Below.kpt ((Below.refl wa16.heap.size wa16).alloc (Nat.le_refl _) (.cells (byteV z3).toArray 5))).trans (Kpt.set _ _ (Nat.lt_succ_self _))
        have hs := (slF_new (n := 3) rfl z3_ok HF16.out.lt).at (Kpt.set (wa16.alloc (.cells (byteV z3).toArray 5)) (.slice (some ⟨wa16.heap.size, 0, none⟩) 3 3) (Nat.lt_succ_self gl) (i := 138))
        obtain ⟨bl8, hbl⟩ : ∃ b, b = wa16.heap.size := ⟨_, rfl⟩
        rw [← hbl] at hs
        have HK8 := Lib.hid hs
        have HF17 := Lib.hid (hm.set (i := 8) (j := 10) (by omega) (by omega) (.slice (some ⟨wa16.heap.size, 0, none⟩) 3 3) (off := 138) rfl)
        rw [← hbl] at HF17
        have HKT := Lib.hid hk
        rw [← hbl] at HKT
        clear hm hc hk hs
        have hmk : (Instr.makeSlice 24 (.int .i64 3) (.int .i64 3)).run Try.prog wa16 = .ok (.slice (some ⟨wa16.heap.size, 0, none⟩) 3 3) (wa16.alloc (.cells (byteV z3).toArray 5)) := make_bytes wa16 3 3 (by omega) (by omega)
        go_upto_region 18 with (fail)
        rw [← hbl]
        clear hu f0 u HF16
        generalize (wa16.alloc (.cells (byteV z3).toArray 5)).setCell ⟨gl, 138, none⟩ (.slice (some ⟨bl8, 0, none⟩) 3 3) = wa17 at *
        clear hbl
        clear HKT
        have hm := HF17.out.on ((Below.refl wa17.heap.size wa17).alloc (Nat.le_refl _) (.cells (madeCells #[.int .i64 0, .int .i64 0, .int .i64 0, .int .i64 0] (41 * 4)) 52))
        have hc := hm.c (i := 9) (j := 12) (by omega) (by omega) (off := 156) rfl
        obtain ⟨u, hu⟩ : ∃ u, (wa17.alloc (.cells (madeCells #[.int .i64 0, .int .i64 0, .int .i64 0, .int .i64 0] (41 * 4)) 52)).cell? ⟨gl, 156, none⟩ = some u := ⟨_, hc.1.trans (Array.getElem?_eq_getElem (by rw [hm.sz]; omega))⟩
        have f0 := hc.2
        have hk : Kpt (gl + 1) wa17 ((wa17.alloc (.cells (madeCells #[.int .i64 0, .int .i64 0, .int .i64 0, .int .i64 0] (41 * 4)) 52)).setCell ⟨gl, 156, none⟩ (.slice (some ⟨wa17.heap.size, 0, none⟩) 41 41)) := (Below.kpt ((Below.refl wa17.heap.size wa17).alloc (Nat.le_refl _) (.cells (madeCells #[.int .i64 0, .int .i64 0, .int .i64 0, .int .i64 0] (41 * 4)) 52))).trans (Kpt.set _ _ (Nat.lt_succ_self _))
        have hs := (elF_new (f := mvV) (k := 4) (n := 41) (xs := List.replicate 41 mv0) (fun _ => rfl) (made_flat mvV mv0 #[.int .i64 0, .int .i64 0, .int .i64 0, .int .i64 0] rfl (fun _ => rfl) (by decide) 41) List.length_replicate (by decide) (size_madeCells _ _) HF17.out.lt).at (Kpt.set (wa17.alloc (.cells (madeCells #[.int .i64 0, .int .i64 0, .int .i64 0, .int .i64 0] (41 * 4)) 52)) (.slice (some ⟨wa17.heap.size, 0, none⟩) 41 41) (Nat.lt_succ_self gl) (i := 156))
        obtain ⟨bl9, hbl⟩ : ∃ b, b = wa17.heap.size := ⟨_, rfl⟩
        rw [← hbl] at hs
        have HK9 := Lib.hid hs
        have HF18 := Lib.hid (hm.set (i := 9) (j := 12) (by omega) (by omega) (.slice (some ⟨wa17.heap.size, 0, none⟩) 41 41) (off := 156) rfl)
        rw [← hbl] at HF18
        have HKT := Lib.hid hk
        rw [← hbl] at HKT
        clear hm hc hk hs
        have hmk := mk_41 wa17
        go_upto_region 19 with (fail)
        rw [← hbl]
        clear hu f0 u HF17
        generalize (wa17.alloc (.cells (madeCells #[.int .i64 0, .int .i64 0, .int .i64 0, .int .i64 0] (41 * 4)) 52)).setCell ⟨gl, 156, none⟩ (.slice (some ⟨bl9, 0, none⟩) 41 41) = wa18 at *
        clear hbl
        have HK8 := Lib.hid (HK8.out.at HKT.out)
        clear HKT
        have hm := HF18.out.on ((Below.refl wa18.heap.size wa18).alloc (Nat.le_refl _) (.cells #[.int .i64 0, .int .i64 (-1), .int .i64 0, .bool false] 46))
        have hc := hm.c (i := 10) (j := 13) (by omega) (by omega) (off := 173) rfl
        obtain ⟨u, hu⟩ : ∃ u, (wa18.alloc (.cells #[.int .i64 0, .int .i64 (-1), .int .i64 0, .bool false] 46)).cell? ⟨gl, 173, none⟩ = some u := ⟨_, hc.1.trans (Array.getElem?_eq_getElem (by rw [hm.sz]; omega))⟩
        have f0 := hc.2
        have hk : Kpt (gl + 1) wa18 ((wa18.alloc (.cells #[.int .i64 0, .int .i64 (-1), .int .i64 0, .bool false] 46)).setCell ⟨gl, 173, none⟩ (.slice (some ⟨wa18.heap.size, 0, none⟩) 1 1)) := (Below.kpt ((Below.refl wa18.heap.size wa18).alloc (Nat.le_refl _) (.cells #[.int .i64 0, .int .i64 (-1), .int .i64 0, .bool false] 46))).trans (Kpt.set _ _ (Nat.lt_succ_self _))
        have hs := (elF_new (f := lvV) (k := 4) (n := 1) (xs := [(0, -1, 0, false)]) (fun _ => rfl) rfl rfl (by decide) rfl HF18.out.lt).at (Kpt.set (wa18.alloc (.cells #[.int .i64 0, .int .i64 (-1), .int .i64 0, .bool false] 46)) (.slice (some ⟨wa18.heap.size, 0, none⟩) 1 1) (Nat.lt_succ_self gl) (i := 173))
        obtain ⟨bl10, hbl⟩ : ∃ b, b = wa18.heap.size := ⟨_, rfl⟩
        rw [← hbl] at hs
        have HK10 := Lib.hid hs
        have HF19 := Lib.hid (hm.set (i := 10) (j := 13) (by omega) (by omega) (.slice (some ⟨wa18.heap.size, 0, none⟩) 1 1) (off := 173) rfl)
        rw [← hbl] at HF19
        have HKT := Lib.hid hk
        rw [← hbl] at HKT
        clear hm hc hk hs
        go_upto_region 20 with (fail)
        rw [← hbl]
        clear hu f0 u HF18
        generalize (wa18.alloc (.cells #[.int .i64 0, .int .i64 (-1), .int .i64 0, .bool false] 46)).setCell ⟨gl, 173, none⟩ (.slice (some ⟨bl10, 0, none⟩) 1 1) = wa19 at *
        clear hbl
        have HK8 := Lib.hid (HK8.out.at HKT.out)
        have HK9 := Lib.hid (HK9.out.at HKT.out)
        clear HKT
        have hm := HF19.out.on ((Below.refl wa19.heap.size wa19).alloc (Nat.le_refl _) (.cells #[.int .i64 256, .int .i64 0] 48))
        have hc := hm.c (i := 11) (j := 14) (by omega) (by omega) (off := 190) rfl
        obtain ⟨u, hu⟩ : ∃ u, (wa19.alloc (.cells #[.int .i64 256, .int .i64 0] 48)).cell? ⟨gl, 190, none⟩ = some u := ⟨_, hc.1.trans (Array.getElem?_eq_getElem (by rw [hm.sz]; omega))⟩
        have f0 := hc.2
        have hk : Kpt (gl + 1) wa19 ((wa19.alloc (.cells #[.int .i64 256, .int .i64 0] 48)).setCell ⟨gl, 190, none⟩ (.slice (some ⟨wa19.heap.size, 0, none⟩) 1 1)) := (Below.kpt ((Below.refl wa19.heap.size wa19).alloc (Nat.le_refl _) (.cells #[.int .i64 256, .int .i64 0] 48))).trans (Kpt.set _ _ (Nat.lt_succ_self _))
        have hs := (elF_new (f := dtV) (k := 2) (n := 1) (xs := [(256, 0)]) (fun _ => rfl) rfl rfl (by decide) rfl HF19.out.lt).at (Kpt.set (wa19.alloc (.cells #[.int .i64 256, .int .i64 0] 48)) (.slice (some ⟨wa19.heap.size, 0, none⟩) 1 1) (Nat.lt_succ_self gl) (i := 190))
        obtain ⟨bl11, hbl⟩ : ∃ b, b = wa19.heap.size := ⟨_, rfl⟩
        rw [← hbl] at hs
        have HK11 := Lib.hid hs
        have HF20 := Lib.hid (hm.set (i := 11) (j := 14) (by omega) (by omega) (.slice (some ⟨wa19.heap.size, 0, none⟩) 1 1) (off := 190) rfl)
        rw [← hbl] at HF20
        have HKT := Lib.hid hk
        rw [← hbl] at HKT
        clear hm hc hk hs
        go_upto_region 21 with (fail)
        rw [← hbl]
        clear hu f0 u HF19
        generalize (wa19.alloc (.cells #[.int .i64 256, .int .i64 0] 48)).setCell ⟨gl, 190, none⟩ (.slice (some ⟨bl11, 0, none⟩) 1 1) = wa20 at *
        clear hbl
        have HK8 := Lib.hid (HK8.out.at HKT.out)
        have HK9 := Lib.hid (HK9.out.at HKT.out)
        have HK10 := Lib.hid (HK10.out.at HKT.out)
        clear HKT
        have hm := HF20.out.on ((Below.refl wa20.heap.size wa20).alloc (Nat.le_refl _) (.cells #[.int .i64 0, .slice none 0 0, .int .i64 256] 50))
        have hc := hm.c (i := 12) (j := 15) (by omega) (by omega) (off := 207) rfl
        obtain ⟨u, hu⟩ : ∃ u, (wa20.alloc (.cells #[.int .i64 0, .slice none 0 0, .int .i64 256] 50)).cell? ⟨gl, 207, none⟩ = some u := ⟨_, hc.1.trans (Array.getElem?_eq_getElem (by rw [hm.sz]; omega))⟩
        have f0 := hc.2
        have hk : Kpt (gl + 1) wa20 ((wa20.alloc (.cells #[.int .i64 0, .slice none 0 0, .int .i64 256] 50)).setCell ⟨gl, 207, none⟩ (.slice (some ⟨wa20.heap.size, 0, none⟩) 1 1)) := (Below.kpt ((Below.refl wa20.heap.size wa20).alloc (Nat.le_refl _) (.cells #[.int .i64 0, .slice none 0 0, .int .i64 256] 50))).trans (Kpt.set _ _ (Nat.lt_succ_self _))
        have hs := (elF_new (f := opV) (k := 3) (n := 1) (xs := [((0, 256, []), .slice none 0 0)]) (fun _ => rfl) rfl rfl (by decide) rfl HF20.out.lt).at (Kpt.set (wa20.alloc (.cells #[.int .i64 0, .slice none 0 0, .int .i64 256] 50)) (.slice (some ⟨wa20.heap.size, 0, none⟩) 1 1) (Nat.lt_succ_self gl) (i := 207))
        obtain ⟨bl12, hbl⟩ : ∃ b, b = wa20.heap.size := ⟨_, rfl⟩
        rw [← hbl] at hs
        have HK12 := Lib.hid hs
        have HF21 := Lib.hid (hm.set (i := 12) (j := 15) (by omega) (by omega) (.slice (some ⟨wa20.heap.size, 0, none⟩) 1 1) (off := 207) rfl)
        rw [← hbl] at HF21
        have HKT := Lib.hid hk
        rw [← hbl] at HKT
        clear hm hc hk hs
        go_upto_region 22 with (fail)
        rw [← hbl]
        clear hu f0 u HF20
        generalize (wa20.alloc (.cells #[.int .i64 0, .slice none 0 0, .int .i64 256] 50)).setCell ⟨gl, 207, none⟩ (.slice (some ⟨bl12, 0, none⟩) 1 1) = wa21 at *
        clear hbl
        have HK8 := Lib.hid (HK8.out.at HKT.out)
        have HK9 := Lib.hid (HK9.out.at HKT.out)
        have HK10 := Lib.hid (HK10.out.at HKT.out)
        have HK11 := Lib.hid (HK11.out.at HKT.out)
        clear HKT
        have hb1 : Below wa21.heap.size wa21 (wa21.alloc (.cells #[.int .i64 0, .int .i64 0, .int .i64 (-1), .int .i64 0] 52)) := (Below.refl _ _).alloc (Nat.le_refl _) _
        have hb2 : Below (wa21.alloc (.cells #[.int .i64 0, .int .i64 0, .int .i64 (-1), .int .i64 0] 52)).heap.size (wa21.alloc (.cells #[.int .i64 0, .int .i64 0, .int .i64 (-1), .int .i64 0] 52)) ((wa21.alloc (.cells #[.int .i64 0, .int .i64 0, .int .i64 (-1), .int .i64 0] 52)).alloc (.cells #[.int .i64 0, .slice (some ⟨wa21.heap.size, 0, none⟩) 1 1, .int .i64 0] 50)) := (Below.refl _ _).alloc (Nat.le_refl _) _
        have hsz1 : (wa21.alloc (.cells #[.int .i64 0, .int .i64 0, .int .i64 (-1), .int .i64 0] 52)).heap.size = wa21.heap.size + 1 := by simp
        have hm1 := HF21.out.on hb1
        have hm := hm1.on hb2
        have hc := hm.c (i := 13) (j := 15) (by omega) (by omega) (off := 223) rfl
        obtain ⟨u, hu⟩ : ∃ u, ((wa21.alloc (.cells #[.int .i64 0, .int .i64 0, .int .i64 (-1), .int .i64 0] 52)).alloc (.cells #[.int .i64 0, .slice (some ⟨wa21.heap.size, 0, none⟩) 1 1, .int .i64 0] 50)).cell? ⟨gl, 223, none⟩ = some u := ⟨_, hc.1.trans (Array.getElem?_eq_getElem (by rw [hm.sz]; omega))⟩
        have f0 := hc.2
        have hk : Kpt (gl + 1) wa21 (((wa21.alloc (.cells #[.int .i64 0, .int .i64 0, .int .i64 (-1), .int .i64 0] 52)).alloc (.cells #[.int .i64 0, .slice (some ⟨wa21.heap.size, 0, none⟩) 1 1, .int .i64 0] 50)).setCell ⟨gl, 223, none⟩ (.slice (some ⟨wa21.heap.size + 1, 0, none⟩) 1 1)) := ((Below.kpt hb1).trans (Below.kpt hb2)).trans (Kpt.set _ _ (Nat.lt_succ_self _))
        have hs1 := ((elF_new (f := mvV) (k := 4) (n := 1) (xs := [mvN]) (fun _ => rfl) rfl rfl (by decide) rfl HF21.out.lt : ElF (wa21.alloc (.cells #[.int .i64 0, .int .i64 0, .int .i64 (-1), .int .i64 0] 52)) (gl + 1) (.slice (some ⟨wa21.heap.size, 0, none⟩) 1 1) 4 ([mvN].map mvV)).at (Below.kpt hb2)).at (Kpt.set ((wa21.alloc (.cells #[.int .i64 0, .int .i64 0, .int .i64 (-1), .int .i64 0] 52)).alloc (.cells #[.int .i64 0, .slice (some ⟨wa21.heap.size, 0, none⟩) 1 1, .int .i64 0] 50)) (.slice (some ⟨wa21.heap.size + 1, 0, none⟩) 1 1) (Nat.lt_succ_self gl) (i := 223))
        have hs2' : ElF ((wa21.alloc (.cells #[.int .i64 0, .int .i64 0, .int .i64 (-1), .int .i64 0] 52)).alloc (.cells #[.int .i64 0, .slice (some ⟨wa21.heap.size, 0, none⟩) 1 1, .int .i64 0] 50)) (gl + 1) (.slice (some ⟨(wa21.alloc (.cells #[.int .i64 0, .int .i64 0, .int .i64 (-1), .int .i64 0] 52)).heap.size, 0, none⟩) 1 1) 3 ([((0, 0, [mvN]), .slice (some ⟨wa21.heap.size, 0, none⟩) 1 1)].map opV) := elF_new (f := opV) (k := 3) (n := 1) (fun _ => rfl) rfl rfl (by decide) rfl hm1.lt
        rw [hsz1] at hs2'
        have hs2 := hs2'.at (Kpt.set ((wa21.alloc (.cells #[.int .i64 0, .int .i64 0, .int .i64 (-1), .int .i64 0] 52)).alloc (.cells #[.int .i64 0, .slice (some ⟨wa21.heap.size, 0, none⟩) 1 1, .int .i64 0] 50)) (.slice (some ⟨wa21.heap.size + 1, 0, none⟩) 1 1) (Nat.lt_succ_self gl) (i := 223))
        obtain ⟨bl13, hbl⟩ : ∃ b, b = wa21.heap.size := ⟨_, rfl⟩
        have HF22 := Lib.hid (hm.set (i := 13) (j := 15) (by omega) (by omega) (.slice (some ⟨wa21.heap.size + 1, 0, none⟩) 1 1) (off := 223) rfl)
        rw [← hbl] at hs1 hs2 hk HF22
        have HK13 := Lib.hid hs1
        have HK14 := Lib.hid hs2
        have HKT := Lib.hid hk
        clear hb1 hb2 hsz1 hm1 hm hc hk hs1 hs2 hs2'
        go_upto_region 23 with (fail)
        rw [← hbl]
        clear hu f0 u HF21
        generalize ((wa21.alloc (.cells #[.int .i64 0, .int .i64 0, .int .i64 (-1), .int .i64 0] 52)).alloc (.cells #[.int .i64 0, .slice (some ⟨bl13, 0, none⟩) 1 1, .int .i64 0] 50)).setCell ⟨gl, 223, none⟩ (.slice (some ⟨bl13 + 1, 0, none⟩) 1 1) = wz at *
        clear hbl
        have HK8 := Lib.hid (HK8.out.at HKT.out)
        have HK9 := Lib.hid (HK9.out.at HKT.out)
        have HK10 := Lib.hid (HK10.out.at HKT.out)
        have HK11 := Lib.hid (HK11.out.at HKT.out)
        have HK12 := Lib.hid (HK12.out.at HKT.out)
        clear HKT
        have s0 := HZ.out.s.below HF22.out.b HLE.out
        obtain ⟨V, hFV, hV⟩ : ∃ V, FW w4 gl V wz ∧ ∀ k, k < 14 → ∃ A1 n1 c1 A2 n2 c2 A3 n3 c3 A4 n4 c4 A5 n5 c5 A6 n6 c6, V k = entC (badE k) (.slice A1 n1 c1) (.slice A2 n2 c2) (.slice A3 n3 c3) (.slice A4 n4 c4) (.slice A5 n5 c5) (.slice A6 n6 c6) ∧ EntS wz (.slice A1 n1 c1) (.slice A2 n2 c2) (.slice A3 n3 c3) (.slice A4 n4 c4) (.slice A5 n5 c5) (.slice A6 n6 c6) (badE k) := by
          refine ⟨_, HF22.out, fun k hk => ?_⟩
          rcases k with _ | _ | _ | _ | _ | _ | _ | _ | _ | _ | _ | _ | _ | _ | k
          · exact ⟨some ⟨gb, 0, none⟩, 26, 26, none, 0, 0, some ⟨g0, 0, none⟩, 40, 40, some ⟨g1, 0, none⟩, 40, 40, some ⟨g2, 0, none⟩, 40, 40, some ⟨g3, 0, none⟩, 40, 40, rfl, ⟨s0.old, s0.new, s0.moves, s0.lives, s0.dirty, s0.opens⟩⟩
          · exact ⟨some ⟨gb, 0, none⟩, 26, 26, none, 0, 0, some ⟨g0, 0, none⟩, 40, 40, some ⟨g1, 0, none⟩, 40, 40, some ⟨g2, 0, none⟩, 40, 40, some ⟨g3, 0, none⟩, 40, 40, rfl, ⟨s0.old, s0.new, s0.moves, s0.lives, s0.dirty, s0.opens⟩⟩
          · exact ⟨some ⟨gb, 0, none⟩, 26, 26, none, 0, 0, some ⟨g0, 0, none⟩, 40, 40, some ⟨g1, 0, none⟩, 40, 40, some ⟨g2, 0, none⟩, 40, 40, some ⟨g3, 0, none⟩, 40, 40, rfl, ⟨s0.old, s0.new, s0.moves, s0.lives, s0.dirty, s0.opens⟩⟩
          · exact ⟨some ⟨gb, 0, none⟩, 26, 26, none, 0, 0, some ⟨g0, 0, none⟩, 40, 40, some ⟨g1, 0, none⟩, 40, 40, some ⟨g2, 0, none⟩, 40, 40, some ⟨g3, 0, none⟩, 40, 40, rfl, ⟨s0.old, s0.new, s0.moves, s0.lives, s0.dirty, s0.opens⟩⟩
          · exact ⟨some ⟨gb, 0, none⟩, 26, 26, none, 0, 0, some ⟨g0, 0, none⟩, 40, 40, some ⟨g1, 0, none⟩, 40, 40, some ⟨g2, 0, none⟩, 40, 40, some ⟨g3, 0, none⟩, 40, 40, rfl, ⟨s0.old, s0.new, s0.moves, s0.lives, s0.dirty, s0.opens⟩⟩
          · exact ⟨some ⟨gb, 0, none⟩, 26, 26, none, 0, 0, some ⟨g0, 0, none⟩, 40, 40, some ⟨g1, 0, none⟩, 40, 40, some ⟨g2, 0, none⟩, 40, 40, some ⟨g3, 0, none⟩, 40, 40, rfl, ⟨s0.old, s0.new, s0.moves, s0.lives, s0.dirty, s0.opens⟩⟩
          · exact ⟨some ⟨gb, 0, none⟩, 26, 26, none, 0, 0, some ⟨g0, 0, none⟩, 40, 40, some ⟨g1, 0, none⟩, 40, 40, some ⟨g2, 0, none⟩, 40, 40, some ⟨g3, 0, none⟩, 40, 40, rfl, ⟨s0.old, s0.new, s0.moves, s0.lives, s0.dirty, s0.opens⟩⟩
          · exact ⟨some ⟨gb, 0, none⟩, 26, 26, none, 0, 0, some ⟨g0, 0, none⟩, 40, 40, some ⟨g1, 0, none⟩, 40, 40, some ⟨g2, 0, none⟩, 40, 40, some ⟨g3, 0, none⟩, 40, 40, rfl, ⟨s0.old, s0.new, s0.moves, s0.lives, s0.dirty, s0.opens⟩⟩
          · exact ⟨some ⟨bl8, 0, none⟩, 3, 3, none, 0, 0, some ⟨g0, 0, none⟩, 40, 40, some ⟨g1, 0, none⟩, 40, 40, some ⟨g2, 0, none⟩, 40, 40, some ⟨g3, 0, none⟩, 40, 40, rfl, ⟨HK8.out.1, s0.new, s0.moves, s0.lives, s0.dirty, s0.opens⟩⟩
          · exact ⟨some ⟨gb, 0, none⟩, 26, 26, none, 0, 0, some ⟨bl9, 0, none⟩, 41, 41, some ⟨g1, 0, none⟩, 40, 40, some ⟨g2, 0, none⟩, 40, 40, some ⟨g3, 0, none⟩, 40, 40, rfl, ⟨s0.old, s0.new, HK9.out.1, s0.lives, s0.dirty, s0.opens⟩⟩
          · exact ⟨some ⟨gb, 0, none⟩, 26, 26, none, 0, 0, some ⟨g0, 0, none⟩, 40, 40, some ⟨bl10, 0, none⟩, 1, 1, some ⟨g2, 0, none⟩, 40, 40, some ⟨g3, 0, none⟩, 40, 40, rfl, ⟨s0.old, s0.new, s0.moves, HK10.out.1, s0.dirty, s0.opens⟩⟩
          · exact ⟨some ⟨gb, 0, none⟩, 26, 26, none, 0, 0, some ⟨g0, 0, none⟩, 40, 40, some ⟨g1, 0, none⟩, 40, 40, some ⟨bl11, 0, none⟩, 1, 1, some ⟨g3, 0, none⟩, 40, 40, rfl, ⟨s0.old, s0.new, s0.moves, s0.lives, HK11.out.1, s0.opens⟩⟩
          · exact ⟨some ⟨gb, 0, none⟩, 26, 26, none, 0, 0, some ⟨g0, 0, none⟩, 40, 40, some ⟨g1, 0, none⟩, 40, 40, some ⟨g2, 0, none⟩, 40, 40, some ⟨bl12, 0, none⟩, 1, 1, rfl, ⟨s0.old, s0.new, s0.moves, s0.lives, s0.dirty, ⟨[((0, 256, []), .slice none 0 0)], rfl, HK12.out.1, fun o ho => by obtain rfl := List.mem_singleton.1 ho; exact ⟨none, 0, rfl, Nat.le_refl _, fun _ => rfl, fun a e => by cases e⟩⟩⟩⟩
          · exact ⟨some ⟨gb, 0, none⟩, 26, 26, none, 0, 0, some ⟨g0, 0, none⟩, 40, 40, some ⟨g1, 0, none⟩, 40, 40, some ⟨g2, 0, none⟩, 40, 40, some ⟨bl13 + 1, 0, none⟩, 1, 1, rfl, ⟨s0.old, s0.new, s0.moves, s0.lives, s0.dirty, ⟨[((0, 0, [mvN]), .slice (some ⟨bl13, 0, none⟩) 1 1)], rfl, HK14.out.1, fun o ho => by obtain rfl := List.mem_singleton.1 ho; exact HK13.out.1⟩⟩⟩
          · omega
        have HFV := Lib.hid hFV
        have HV := Lib.hid hV
        have HZz : Hid (Bz g okE (.slice (some ⟨gb, 0, none⟩) 26 26) (.slice none 0 0) (.slice (some ⟨g0, 0, none⟩) 40 40) (.slice (some ⟨g1, 0, none⟩) 40 40) (.slice (some ⟨g2, 0, none⟩) 40 40) (.slice (some ⟨g3, 0, none⟩) 40 40) wz) := ⟨(hFV.b.block g HGL.out).trans HZ.out.bx, s0⟩
        have HBz := Lib.hid (below_on HB2.out ((HZB.out.mono (Nat.le_refl _)).trans (hFV.b.mono (by have := HZB.out.size; have := HLE.out; omega))))
        clear hFV hV s0 HF22 HK8 HK9 HK10 HK11 HK12 HK13 HK14 HZ HZB HB2 HOK HZA HGL
        go_wp2
        go_loopw [0, 4] (fun _ i wr => ∃ k : Nat, k ≤ 14 ∧ i = .int .i64 k ∧ Below wz.heap.size wz wr) (fun _ i _ => 14 - (intOf i).toNat)
        case atStart => exact ⟨0, by omega, rfl, Below.refl _ _⟩
        case round =>
          obtain ⟨k, hk, rfl, hB⟩ := hrel
          have HB := Lib.hid hB
          by_cases hlt : k < 14
          · obtain ⟨A1, n1, c1, A2, n2, c2, A3, n3, c3, A4, n4, c4, A5, n5, c5, A6, n6, c6, hVk, hEk⟩ := HV.out k hlt
            have HC : Hid (∀ W, Below wz.heap.size wz W → ∀ (j : Nat) (v : Value), (entC (badE k) (.slice A1 n1 c1) (.slice A2 n2 c2) (.slice A3 n3 c3) (.slice A4 n4 c4) (.slice A5 n5 c5) (.slice A6 n6 c6))[j]? = some v → W.cell? ⟨gl, k * 16 + j, none⟩ = some v) := fun W hW j v hj => by
              have hj16 : j < 16 := (Array.getElem?_eq_some_iff.1 hj).1
              rw [((HFV.out.on hW).c hlt hj16 rfl).1, hVk, hj]
            have HE := Lib.hid hEk
            have HZk := Lib.hid (infoEntC (badE k) (.slice A1 n1 c1) (.slice A2 n2 c2) (.slice A3 n3 c3) (.slice A4 n4 c4) (.slice A5 n5 c5) (.slice A6 n6 c6))
            have HM := Lib.hid (may_any wr (badE k) (hEk.below hB (Nat.le_refl _)) (badE_I k))
            rw [badE_B k hlt] at HM
            have z1 : (0 : Int) ≤ (k : Int) := by omega
            have z2 : (k : Int) < 14 := by omega
            clear hVk hEk hB
            go_wp2_with ((refine wpList_load_at ?_ 30 (.tmp 89) rfl gl (k * 16) rfl (entC (badE k) (.slice A1 n1 c1) (.slice A2 n2 c2) (.slice A3 n3 c3) (.slice A4 n4 c4) (.slice A5 n5 c5) (.slice A6 n6 c6)) _ (HC.out _ HB.out) Try.underlying30 rfl HZk.out ?_); · rfl)
            refine HM.out.mono ?_
            rintro r wm ⟨rfl, hbm⟩
            have HBm := Lib.hid (below_on HB.out hbm)
            have HP := Lib.hid (put_any wm (badE k) (HE.out.below HBm.out (Nat.le_refl _)) (badE_I k))
            rw [putL_no (badE_B k hlt)] at HP
            clear HM hbm
            go_wp2_with ((refine wpList_load_at ?_ 30 (.tmp 95) rfl gl (k * 16) rfl (entC (badE k) (.slice A1 n1 c1) (.slice A2 n2 c2) (.slice A3 n3 c3) (.slice A4 n4 c4) (.slice A5 n5 c5) (.slice A6 n6 c6)) _ (HC.out _ HBm.out) Try.underlying30 rfl HZk.out ?_); · rfl)
            refine HP.out.mono ?_
            rintro r wp ⟨A, m, c, rfl, ho, hbp⟩
            obtain rfl : m = 0 := own_n ho
            have HBp := Lib.hid (below_on HBm.out hbp)
            clear HP ho hbp HC HE HZk
            go_wp2
            go_roundw
            case rel => exact ⟨_, _, _, _, _, _, _, _, _, _, _, _, _, _, _, _, _, _, _, _, _, _, ⟨k + 1, by omega, rfl, HBp.out⟩, rfl⟩
            case measure => simp [intOf]; omega
          · obtain rfl : k = 14 := by omega
            clear hB hlt hk
            have HB8 := Lib.hid (below_on HBz.out HB.out)
            have HZ8 := Lib.hid (HZz.out.on HB.out)
            clear HBz HZz HFV HV HB
            generalize wr = w8 at *
            have HS0 : Hid (∀ W, Below w8.heap.size w8 W → Below w8.heap.size w8 W ∧ W.heap[g]? = some (.cells (entC okE (.slice (some ⟨gb, 0, none⟩) 26 26) (.slice none 0 0) (.slice (some ⟨g0, 0, none⟩) 40 40) (.slice (some ⟨g1, 0, none⟩) 40 40) (.slice (some ⟨g2, 0, none⟩) 40 40) (.slice (some ⟨g3, 0, none⟩) 40 40)) 30 (0, 0))) := fun W h => ⟨h, (HZ8.out.on h).bx⟩
            have HMM : Hid (∀ W, Below w8.heap.size w8 W → Calls Try.prog 14 #[.agg (entC okE (.slice (some ⟨gb, 0, none⟩) 26 26) (.slice none 0 0) (.slice (some ⟨g0, 0, none⟩) 40 40) (.slice (some ⟨g1, 0, none⟩) 40 40) (.slice (some ⟨g2, 0, none⟩) 40 40) (.slice (some ⟨g3, 0, none⟩) 40 40))] W fun r w' => r = .returned (.bool true) ∧ Below W.heap.size W w') := fun W h => by
              have := may_any W okE (HZ8.out.on h).s okE_I
              rw [okE_B] at this
              exact this
            have HP1 : Hid (∀ W, Below w8.heap.size w8 W → Calls Try.prog 16 #[.agg (entC okE (.slice (some ⟨gb, 0, none⟩) 26 26) (.slice none 0 0) (.slice (some ⟨g0, 0, none⟩) 40 40) (.slice (some ⟨g1, 0, none⟩) 40 40) (.slice (some ⟨g2, 0, none⟩) 40 40) (.slice (some ⟨g3, 0, none⟩) 40 40))] W fun r w' => ∃ A c, r = .returned (.slice A 847 c) ∧ Below W.heap.size W w') := fun W h => (put_any W okE (HZ8.out.on h).s okE_I).mono fun r w' ⟨A, m, c, e1, e2, e3⟩ => ⟨A, c, by rw [e1, own_n e2, putL_yes okE_B, okE_len], e3⟩
            have HP2 : Hid (∀ W, Calls Try.prog 16 #[.agg (entC e3 (.slice none 0 0) (.slice none 0 0) (.slice none 0 0) (.slice none 0 0) (.slice none 0 0) (.slice none 0 0))] W fun r w' => ∃ A m c, r = .returned (.slice A m c) ∧ SlK .u8 w' (.slice A m c) (entL e3) ∧ Below W.heap.size W w') := fun W => (put_any W e3 (nil_S W e3 rfl rfl rfl rfl rfl rfl) e3_I).mono fun r w' ⟨A, m, c, e1, e2, e3'⟩ => ⟨A, m, c, e1, by rw [putL_yes e3_B] at e2; exact own_slK e2 (entL_okE (fun x h => by cases h) (fun x h => by cases h)), e3'⟩
            have D0 := (Below.refl w8.heap.size w8).drew
            go_upto_region 28 with (fail)
            refine wp_region_held_drew (S := (fun W : World => Below w8.heap.size w8 W ∧ W.heap[g]? = some (.cells (entC okE (.slice (some ⟨gb, 0, none⟩) 26 26) (.slice none 0 0) (.slice (some ⟨g0, 0, none⟩) 40 40) (.slice (some ⟨g1, 0, none⟩) 40 40) (.slice (some ⟨g2, 0, none⟩) 40 40) (.slice (some ⟨g3, 0, none⟩) 40 40)) 30 (0, 0)))) (by kernel_rfl) (HS0.out _ D0) (fun hHeld => ?_)
            refine wpAnyH_take (i := 0) (oi := ⟨_, _, _, _, _, _⟩) (v := .agg (entC okE (.slice (some ⟨gb, 0, none⟩) 26 26) (.slice none 0 0) (.slice (some ⟨g0, 0, none⟩) 40 40) (.slice (some ⟨g1, 0, none⟩) 40 40) (.slice (some ⟨g2, 0, none⟩) 40 40) (.slice (some ⟨g3, 0, none⟩) 40 40))) rfl (by kernel_rfl) (by kernel_rfl) (by kernel_rfl) (fun _ _ _ h => h) (Or.inl ⟨by rfl, fun W hSW => ?_⟩) (by assumption) ?_
            · exact held_row 30 (.tmp 1) (by rfl) g (by rfl) 30 _ (0, 0) _ hSW.2 Try.underlying30 rfl HZI.out
            try simp only [Act.put, List.setIfInBounds_toArray, List.set_cons_zero, List.set_cons_succ]
            refine wpAnyH_ready (rs := [1]) (by kernel_rfl) (by simp) ?_
            refine AllReadyH.cons (o := ⟨_, _, _, _, _, _⟩) rfl (fun K hK => ?_) AllReadyH.nil
            rw [if_pos (by rfl)]
            go_simp
            go_at_call 14
            refine (HMM.out _ D0).mono ?_
            rintro r w9 ⟨rfl, hb0⟩
            have D9 := D0.trans (hb0.mono D0.size)
            go_wp2_with fail
            refine hK.out _ _ (HS0.out _ D9) (fun hHeld => ?_)
            clear hK K
            try simp only [Act.put, List.setIfInBounds_toArray, List.set_cons_zero, List.set_cons_succ]
            refine wpAnyH_take (i := 2) (oi := ⟨_, _, _, _, _, _⟩) (v := ?_) rfl (by kernel_rfl) (by kernel_rfl) (by kernel_rfl) (fun _ _ _ h => h) (Or.inl ⟨by rfl, ?_⟩) (by assumption) ?_
            rotate_left
            · intro W hSW
              try dsimp only at hSW
              go_simp
              try with_reducible rfl
            rotate_left
            try simp only [Act.put, List.setIfInBounds_toArray, List.set_cons_zero, List.set_cons_succ]
            refine wpAnyH_take (i := 3) (oi := ⟨_, _, _, _, _, _⟩) (v := .agg (entC okE (.slice (some ⟨gb, 0, none⟩) 26 26) (.slice none 0 0) (.slice (some ⟨g0, 0, none⟩) 40 40) (.slice (some ⟨g1, 0, none⟩) 40 40) (.slice (some ⟨g2, 0, none⟩) 40 40) (.slice (some ⟨g3, 0, none⟩) 40 40))) rfl (by kernel_rfl) (by kernel_rfl) (by kernel_rfl) (fun _ _ _ h => h) (Or.inl ⟨by rfl, fun W hSW => ?_⟩) (by assumption) ?_
            · exact held_row 30 (.tmp 1) (by rfl) g (by rfl) 30 _ (0, 0) _ hSW.2 Try.underlying30 rfl HZI.out
            try simp only [Act.put, List.setIfInBounds_toArray, List.set_cons_zero, List.set_cons_succ]
            refine wpAnyH_ready (rs := [4]) (by kernel_rfl) (by simp) ?_
            refine AllReadyH.cons (o := ⟨_, _, _, _, _, _⟩) rfl (fun K hK => ?_) AllReadyH.nil
            rw [if_pos (by rfl)]
            go_simp
            go_at_call 16
            refine (HP1.out _ D9).mono ?_
            rintro r w10 ⟨A, c, rfl, hb0⟩
            have D10 := D9.trans (hb0.mono D9.size)
            go_wp2_with fail
            refine hK.out _ _ (HS0.out _ D10) (fun hHeld => ?_)
            clear hK K
            try simp only [Act.put, List.setIfInBounds_toArray, List.set_cons_zero, List.set_cons_succ]
            refine wpAnyH_take (i := 5) (oi := ⟨_, _, _, _, _, _⟩) (v := ?_) rfl (by kernel_rfl) (by kernel_rfl) (by kernel_rfl) (fun _ _ _ h => h) (Or.inl ⟨by rfl, ?_⟩) (by assumption) ?_
            rotate_left
            · intro W hSW
              try dsimp only at hSW
              go_simp
              try with_reducible rfl
            rotate_left
            try simp only [Act.put, List.setIfInBounds_toArray, List.set_cons_zero, List.set_cons_succ]
            refine wpAnyH_take (i := 6) (oi := ⟨_, _, _, _, _, _⟩) (v := ?_) rfl (by kernel_rfl) (by kernel_rfl) (by kernel_rfl) (fun _ _ _ h => h) (Or.inl ⟨by rfl, ?_⟩) (by assumption) ?_
            rotate_left
            · intro W hSW
              try dsimp only at hSW
              go_simp
              try with_reducible rfl
            rotate_left
            try simp only [Act.put, List.setIfInBounds_toArray, List.set_cons_zero, List.set_cons_succ]
            refine wpAnyH_take (i := 7) (oi := ⟨_, _, _, _, _, _⟩) (v := ?_) rfl (by kernel_rfl) (by kernel_rfl) (by kernel_rfl) (fun _ _ _ h => h) (Or.inl ⟨by rfl, ?_⟩) (by assumption) ?_
            rotate_left
            · intro W hSW
              try dsimp only at hSW
              go_simp
              try with_reducible rfl
            rotate_left
            try simp only [Act.put, List.setIfInBounds_toArray, List.set_cons_zero, List.set_cons_succ]
            refine wpAnyH_take (i := 8) (oi := ⟨_, _, _, _, _, _⟩) (v := ?_) rfl (by kernel_rfl) (by kernel_rfl) (by kernel_rfl) (fun _ _ _ h => h) (Or.inl ⟨by rfl, ?_⟩) (by assumption) ?_
            rotate_left
            · intro W hSW
              try dsimp only at hSW
              go_simp
              try with_reducible rfl
            rotate_left
            try simp only [Act.put, List.setIfInBounds_toArray, List.set_cons_zero, List.set_cons_succ]
            refine wpAnyH_take (i := 9) (oi := ⟨_, _, _, _, _, _⟩) (v := ?_) rfl (by kernel_rfl) (by kernel_rfl) (by kernel_rfl) (fun _ _ _ h => h) (Or.inl ⟨by rfl, ?_⟩) (by assumption) ?_
            rotate_left
            · intro W hSW
              try dsimp only at hSW
              go_simp
              try with_reducible rfl
            rotate_left
            try simp only [Act.put, List.setIfInBounds_toArray, List.set_cons_zero, List.set_cons_succ]
            refine wpAnyH_take (i := 10) (oi := ⟨_, _, _, _, _, _⟩) (v := ?_) rfl (by kernel_rfl) (by kernel_rfl) (by kernel_rfl) (fun _ _ _ h => h) (Or.inl ⟨by rfl, ?_⟩) (by assumption) ?_
            rotate_left
            · intro W hSW
              try dsimp only at hSW
              go_simp
              try with_reducible rfl
            rotate_left
            try simp only [Act.put, List.setIfInBounds_toArray, List.set_cons_zero, List.set_cons_succ]
            refine wpAnyH_take (i := 11) (oi := ⟨_, _, _, _, _, _⟩) (v := ?_) rfl (by kernel_rfl) (by kernel_rfl) (by kernel_rfl) (fun _ _ _ h => h) (Or.inl ⟨by rfl, ?_⟩) (by assumption) ?_
            rotate_left
            · intro W hSW
              try dsimp only at hSW
              go_simp
              try with_reducible rfl
            rotate_left
            try simp only [Act.put, List.setIfInBounds_toArray, List.set_cons_zero, List.set_cons_succ]
            have HMK : Hid (∀ W, (Instr.makeSlice 24 (.int .i64 6) (.int .i64 6)).run Try.prog W = .ok (.slice (some ⟨W.heap.size, 0, none⟩) 6 6) (W.alloc (.cells (byteV z6).toArray 5)) ∧ Below W.heap.size W (W.alloc (.cells (byteV z6).toArray 5)) ∧ SlK .u8 (W.alloc (.cells (byteV z6).toArray 5)) (.slice (some ⟨W.heap.size, 0, none⟩) 6 6) z6) := fun W => ⟨make_bytes W 6 6 (by omega) (by omega), (Below.refl _ _).alloc (Nat.le_refl _) _, ((blk_new W z6).pt (n := 6) (c := 6) rfl (Nat.le_refl _)).slK z6_ok⟩
            have hz6 : (bstr z6).size = 6 := by decide +kernel
            refine wpAnyH_ready (rs := [12, 14]) (by kernel_rfl) (by simp) ?_
            refine AllReadyH.cons (o := ⟨_, _, _, _, _, _⟩) rfl (fun K hK => ?_) (AllReadyH.cons (o := ⟨_, _, _, _, _, _⟩) rfl (fun K hK => ?_) AllReadyH.nil)
            · rw [if_pos (by rfl)]
              go_simp
              go_at_call 16
              refine (HP2.out _).mono ?_
              rintro r w11 ⟨A2, m2, c2, rfl, hsl, hb0⟩
              have D11 := D10.trans (hb0.mono D10.size)
              go_wp2_with fail
              refine hK.out _ _ (HS0.out _ D11) (fun hHeld => ?_)
              clear hK K
              try simp only [Act.put, List.setIfInBounds_toArray, List.set_cons_zero, List.set_cons_succ]
              have HSL := Lib.hid hsl
              have hMore : (fun W : World => (Below w8.heap.size w8 W ∧ W.heap[g]? = some (.cells (entC okE (.slice (some ⟨gb, 0, none⟩) 26 26) (.slice none 0 0) (.slice (some ⟨g0, 0, none⟩) 40 40) (.slice (some ⟨g1, 0, none⟩) 40 40) (.slice (some ⟨g2, 0, none⟩) 40 40) (.slice (some ⟨g3, 0, none⟩) 40 40)) 30 (0, 0))) ∧ Below w11.heap.size w11 W ∧ (convert 24 9 (.slice A2 m2 c2)).run Try.prog W = .ok (.string (bstr (entL e3))) W) w11 := ⟨HS0.out _ D11, Below.refl _ _, conv_slK hsl⟩
              refine wpAnyH_more (S' := fun W : World => (Below w8.heap.size w8 W ∧ W.heap[g]? = some (.cells (entC okE (.slice (some ⟨gb, 0, none⟩) 26 26) (.slice none 0 0) (.slice (some ⟨g0, 0, none⟩) 40 40) (.slice (some ⟨g1, 0, none⟩) 40 40) (.slice (some ⟨g2, 0, none⟩) 40 40) (.slice (some ⟨g3, 0, none⟩) 40 40)) 30 (0, 0))) ∧ Below w11.heap.size w11 W ∧ (convert 24 9 (.slice A2 m2 c2)).run Try.prog W = .ok (.string (bstr (entL e3))) W) (fun W h => h.1) _ _ _ _ ?_
              clear hsl
              refine wpAnyH_take (i := 13) (oi := ⟨_, _, _, _, _, _⟩) (v := ?_) rfl (by kernel_rfl) (by kernel_rfl) (by kernel_rfl) (fun _ _ _ h => h) (Or.inl ⟨by rfl, ?_⟩) (by assumption) ?_
              rotate_left
              · intro W hSW
                try dsimp only at hSW
                go_simp
                try with_reducible rfl
              rotate_left
              try simp only [Act.put, List.setIfInBounds_toArray, List.set_cons_zero, List.set_cons_succ]
              obtain ⟨hmk, hmb, hms⟩ := HMK.out w11
              refine wpAnyH_ready (rs := [14]) (by kernel_rfl) (by simp) ?_
              refine AllReadyH.cons (o := ⟨_, _, _, _, _, _⟩) rfl (fun K hK => ?_) AllReadyH.nil
              rw [if_pos (by rfl)]
              go_simp
              refine hK.out _ _ ⟨HS0.out _ (D11.trans (hmb.mono D11.size)), hmb, conv_slK (HSL.out.below hmb (Nat.le_refl _))⟩ (fun hHeld => ?_)
              clear hK K
              try simp only [Act.put, List.setIfInBounds_toArray, List.set_cons_zero, List.set_cons_succ]
              have v15 := conv_slK hms
              refine wpAnyH_ready (rs := [15]) (by kernel_rfl) (by simp) ?_
              refine AllReadyH.cons (o := ⟨_, _, _, _, _, _⟩) rfl (fun K hK => ?_) AllReadyH.nil
              rw [if_pos (by rfl)]
              go_simp
              refine hK.out _ _ hHeld (fun hHeld => ?_)
              clear hK K
              try simp only [Act.put, List.setIfInBounds_toArray, List.set_cons_zero, List.set_cons_succ]
              refine wpAnyH_take (i := 16) (oi := ⟨_, _, _, _, _, _⟩) (v := ?_) rfl (by kernel_rfl) (by kernel_rfl) (by kernel_rfl) (fun _ _ _ h => h) (Or.inl ⟨by rfl, ?_⟩) (by assumption) ?_
              rotate_left
              · intro W hSW
                try dsimp only at hSW
                go_simp
                try with_reducible rfl
              rotate_left
              try simp only [Act.put, List.setIfInBounds_toArray, List.set_cons_zero, List.set_cons_succ]
              refine wpAnyH_take (i := 17) (oi := ⟨_, _, _, _, _, _⟩) (v := ?_) rfl (by kernel_rfl) (by kernel_rfl) (by kernel_rfl) (fun _ _ _ h => h) (Or.inl ⟨by rfl, ?_⟩) (by assumption) ?_
              rotate_left
              · intro W hSW
                try dsimp only at hSW
                go_simp
                try with_reducible rfl
              rotate_left
              try simp only [Act.put, List.setIfInBounds_toArray, List.set_cons_zero, List.set_cons_succ]
              refine wpAnyH_take (i := 18) (oi := ⟨_, _, _, _, _, _⟩) (v := ?_) rfl (by kernel_rfl) (by kernel_rfl) (by kernel_rfl) (fun _ _ _ h => h) (Or.inl ⟨by rfl, ?_⟩) (by assumption) ?_
              rotate_left
              · intro W hSW
                try dsimp only at hSW
                go_simp
                try with_reducible rfl
              rotate_left
              try simp only [Act.put, List.setIfInBounds_toArray, List.set_cons_zero, List.set_cons_succ]
              refine wpAnyH_take (i := 19) (oi := ⟨_, _, _, _, _, _⟩) (v := ?_) rfl (by kernel_rfl) (by kernel_rfl) (by kernel_rfl) (fun _ _ _ h => h) (Or.inl ⟨by rfl, ?_⟩) (by assumption) ?_
              rotate_left
              · intro W hSW
                try dsimp only at hSW
                go_simp
                try with_reducible rfl
              rotate_left
              try simp only [Act.put, List.setIfInBounds_toArray, List.set_cons_zero]
              refine wpAnyH_done (by kernel_rfl) ?_ _
              go_wp2
              go_ret
              exact ⟨ret_bE (show ((bstr (entL e3)).toList == (({ data := #[1, 2, 0, 0, 0, 0, 0, 3, 0, 0, 4, 5, 6, 7, 0] } : ByteArray) ++ bstr z6).toList) = true by decide +kernel), HB8.out.trans ((D11.trans (hmb.mono D11.size)).mono HB8.out.size)⟩
            · rw [if_pos (by rfl)]
              obtain ⟨hmk, hmb, hms⟩ := HMK.out w10
              have D11 := D10.trans (hmb.mono D10.size)
              go_simp
              refine hK.out _ _ (HS0.out _ D11) (fun hHeld => ?_)
              clear hK K
              try simp only [Act.put, List.setIfInBounds_toArray, List.set_cons_zero, List.set_cons_succ]
              obtain ⟨w11, hw11⟩ : ∃ W, W = w10.alloc (.cells (byteV z6).toArray 5) := ⟨_, rfl⟩
              obtain ⟨bz, hbz⟩ : ∃ b, b = w10.heap.size := ⟨_, rfl⟩
              rw [← hw11] at hHeld D11 hms ⊢
              rw [← hbz] at hms ⊢
              have HMS := Lib.hid hms
              have hMore : (fun W : World => (Below w8.heap.size w8 W ∧ W.heap[g]? = some (.cells (entC okE (.slice (some ⟨gb, 0, none⟩) 26 26) (.slice none 0 0) (.slice (some ⟨g0, 0, none⟩) 40 40) (.slice (some ⟨g1, 0, none⟩) 40 40) (.slice (some ⟨g2, 0, none⟩) 40 40) (.slice (some ⟨g3, 0, none⟩) 40 40)) 30 (0, 0))) ∧ Below w11.heap.size w11 W ∧ (convert 24 9 (.slice (some ⟨bz, 0, none⟩) 6 6)).run Try.prog W = .ok (.string (bstr z6)) W) w11 := ⟨HS0.out _ D11, Below.refl _ _, conv_slK hms⟩
              refine wpAnyH_more (S' := fun W : World => (Below w8.heap.size w8 W ∧ W.heap[g]? = some (.cells (entC okE (.slice (some ⟨gb, 0, none⟩) 26 26) (.slice none 0 0) (.slice (some ⟨g0, 0, none⟩) 40 40) (.slice (some ⟨g1, 0, none⟩) 40 40) (.slice (some ⟨g2, 0, none⟩) 40 40) (.slice (some ⟨g3, 0, none⟩) 40 40)) 30 (0, 0))) ∧ Below w11.heap.size w11 W ∧ (convert 24 9 (.slice (some ⟨bz, 0, none⟩) 6 6)).run Try.prog W = .ok (.string (bstr z6)) W) (fun W h => h.1) _ _ _ _ ?_
              clear hms hmk hmb hw11 hbz
              refine wpAnyH_take (i := 15) (oi := ⟨_, _, _, _, _, _⟩) (v := ?_) rfl (by kernel_rfl) (by kernel_rfl) (by kernel_rfl) (fun _ _ _ h => h) (Or.inl ⟨by rfl, ?_⟩) (by assumption) ?_
              rotate_left
              · intro W hSW
                try dsimp only at hSW
                go_simp
                try with_reducible rfl
              rotate_left
              try simp only [Act.put, List.setIfInBounds_toArray, List.set_cons_zero, List.set_cons_succ]
              refine wpAnyH_take (i := 16) (oi := ⟨_, _, _, _, _, _⟩) (v := ?_) rfl (by kernel_rfl) (by kernel_rfl) (by kernel_rfl) (fun _ _ _ h => h) (Or.inl ⟨by rfl, ?_⟩) (by assumption) ?_
              rotate_left
              · intro W hSW
                try dsimp only at hSW
                go_simp
                try with_reducible rfl
              rotate_left
              try simp only [Act.put, List.setIfInBounds_toArray, List.set_cons_zero, List.set_cons_succ]
              refine wpAnyH_ready (rs := [12]) (by kernel_rfl) (by simp) ?_
              refine AllReadyH.cons (o := ⟨_, _, _, _, _, _⟩) rfl (fun K hK => ?_) AllReadyH.nil
              rw [if_pos (by rfl)]
              go_simp
              go_at_call 16
              refine (HP2.out _).mono ?_
              rintro r w12 ⟨A2, m2, c2, rfl, hsl, hb0⟩
              have D12 := D11.trans (hb0.mono D11.size)
              go_wp2_with fail
              refine hK.out _ _ ⟨HS0.out _ D12, hb0, conv_slK (HMS.out.below hb0 (Nat.le_refl _))⟩ (fun hHeld => ?_)
              clear hK K
              try simp only [Act.put, List.setIfInBounds_toArray, List.set_cons_zero, List.set_cons_succ]
              have v13 := conv_slK hsl
              refine wpAnyH_ready (rs := [13]) (by kernel_rfl) (by simp) ?_
              refine AllReadyH.cons (o := ⟨_, _, _, _, _, _⟩) rfl (fun K hK => ?_) AllReadyH.nil
              rw [if_pos (by rfl)]
              go_simp
              refine hK.out _ _ hHeld (fun hHeld => ?_)
              clear hK K
              try simp only [Act.put, List.setIfInBounds_toArray, List.set_cons_zero, List.set_cons_succ]
              refine wpAnyH_take (i := 17) (oi := ⟨_, _, _, _, _, _⟩) (v := ?_) rfl (by kernel_rfl) (by kernel_rfl) (by kernel_rfl) (fun _ _ _ h => h) (Or.inl ⟨by rfl, ?_⟩) (by assumption) ?_
              rotate_left
              · intro W hSW
                try dsimp only at hSW
                go_simp
                try with_reducible rfl
              rotate_left
              try simp only [Act.put, List.setIfInBounds_toArray, List.set_cons_zero, List.set_cons_succ]
              refine wpAnyH_take (i := 18) (oi := ⟨_, _, _, _, _, _⟩) (v := ?_) rfl (by kernel_rfl) (by kernel_rfl) (by kernel_rfl) (fun _ _ _ h => h) (Or.inl ⟨by rfl, ?_⟩) (by assumption) ?_
              rotate_left
              · intro W hSW
                try dsimp only at hSW
                go_simp
                try with_reducible rfl
              rotate_left
              try simp only [Act.put, List.setIfInBounds_toArray, List.set_cons_zero, List.set_cons_succ]
              refine wpAnyH_take (i := 19) (oi := ⟨_, _, _, _, _, _⟩) (v := ?_) rfl (by kernel_rfl) (by kernel_rfl) (by kernel_rfl) (fun _ _ _ h => h) (Or.inl ⟨by rfl, ?_⟩) (by assumption) ?_
              rotate_left
              · intro W hSW
                try dsimp only at hSW
                go_simp
                try with_reducible rfl
              rotate_left
              try simp only [Act.put, List.setIfInBounds_toArray, List.set_cons_zero]
              refine wpAnyH_done (by kernel_rfl) ?_ _
              go_wp2
              go_ret
              exact ⟨ret_bE (show ((bstr (entL e3)).toList == (({ data := #[1, 2, 0, 0, 0, 0, 0, 3, 0, 0, 4, 5, 6, 7, 0] } : ByteArray) ++ bstr z6).toList) = true by decide +kernel), HB8.out.trans (D12.mono HB8.out.size)⟩
  · exfalso
    rcases k with _ | _ | _ | _ | _ | _ | _ | k <;> simp at h
end Go.Proofs.Ytkfebibnpincpaa.entryForms
