/- PoolNone, a part. -/
import Derived.Test.YtljbhdldfffpfaaGreatQn27
import Derived.Test.YtljbhdldfffpfaaGreatQn6
import Derived.Test.YtljbhdldfffpfaaGreatQn18
import Derived.Laws.AppendOwnNone
import Derived.Deep.AppendLies
import Derived.Deep.RegionLaw
namespace Go.Proofs.YtljbhdldfffpfaaGreat.Lf
open Go.Proofs.YtljbhdldfffpfaaGreat
open Go.RowKit

theorem put_bad (w : World) (n : Int) (v : Value) (l : List Int) (h : SlK .u8 w v l) (hx : n < 0 ∨ 2147483647 < n ∨ 120 < l.length) : Calls Tryz.prog 92 #[.int .i64 n, v] w fun e w' => e = .returned (.tuple #[.slice none 0 0, .slice none 0 0, .int .i64 1]) ∧ w' = w := by
  obtain ⟨p, cap, rfl, h1, h2, h3, h4⟩ := h
  clear h2 h3 h4
  have hx0 := hx
  clear hx
  go_enter Tryz.func92, Tryz.ntmps92
  by_cases a1 : n < 0
  · go_wp2
    go_ret3
    constructor <;> first | rfl | trivial
  · have d1 : decide (n < 0) = false := by simpa using a1
    by_cases a2 : 2147483647 < n
    · go_wp2
      go_ret3
      constructor <;> first | rfl | trivial
    · have d2 : decide (2147483647 < n) = false := by simpa using a2
      have a3 : 120 < l.length := by omega
      go_wp2
      go_ret3
      constructor <;> first | rfl | trivial

set_option maxRecDepth 100000 in
set_option maxHeartbeats 1000000 in
theorem put_ok (w : World) (n : Int) (n0 : 0 ≤ n) (n1 : n < 2147483648) (v : Value) (l : List Int) (h : SlK .u8 w v l) (hl : l.length ≤ 120) : Calls Tryz.prog 92 #[.int .i64 n, v] w fun e w' => ∃ ga gb, e = .returned (.tuple #[.slice (some ⟨ga, 0, none⟩) 64 64, .slice (some ⟨gb, 0, none⟩) 64 64, .int .i64 0]) ∧ w.heap.size ≤ ga ∧ w.heap.size ≤ gb ∧ Below w.heap.size w w' ∧ Blk w' ga (tileL n (l.take 60)) ∧ Blk w' gb (tileL n (l.drop 60)) := by
  have a1 : ¬ n < 0 := by omega
  have a2 : ¬ 2147483647 < n := by omega
  have d1 : decide (n < 0) = false := by simpa using a1
  have d2 : decide (2147483647 < n) = false := by simpa using a2
  have a3 : ¬ 120 < l.length := by omega
  have d3 : decide (120 < (l.length : Int)) = false := by simp; omega
  have hb0 : ∀ W, Below w.heap.size w W → ∀ u (r : List Int), SlK .u8 w u r → r.length ≤ 60 → Calls Tryz.prog 107 #[.int .i64 n, u] W fun e w' => ∃ g, e = .returned (.slice (some ⟨g, 0, none⟩) 64 64) ∧ w.heap.size ≤ g ∧ Below w.heap.size w w' ∧ Blk w' g (tileL n r) ∧ W.heap.size ≤ g ∧ (∀ k, k < W.heap.size → w'.heap[k]? = W.heap[k]?) := by
    intro W hW u r hu hr
    refine (half_any W n n0 n1 u r (hu.below hW (Nat.le_refl _)) hr).mono ?_
    rintro e w' ⟨g, rfl, h1, h2, h3⟩
    exact ⟨g, rfl, Nat.le_trans hW.size h1, hW.trans (h2.mono hW.size), h3, h1, h2.block⟩
  have hl1 : (l.take 60).length ≤ 60 := by simp; omega
  have hl2 : (l.drop 60).length ≤ 60 := by simp; omega
  obtain ⟨p, cap, rfl, h1, h2, h3, h4⟩ := h
  cases p with
  | none =>
    obtain ⟨rfl, rfl⟩ := h3 rfl
    have k1 : SlK .u8 w (.slice none 0 0) (List.take 60 []) := slK_nil w
    have k2 : SlK .u8 w (.slice none 0 0) (List.drop 60 []) := slK_nil w
    clear h1 h2 h3 h4
    go_enter Tryz.func92, Tryz.ntmps92
    go_wp2
    go_region_with (go_at_call 107; first | (refine (hb0 _ hbl1 _ _ k2 hl2).mono ?_; rintro e w2 ⟨g2, rfl, hg2, hbl2, hk2, hs2, hold2⟩) | (refine (hb0 _ (Below.refl _ _).drew _ _ k1 hl1).mono ?_; rintro e w1 ⟨g1, rfl, hg1, hbl1, hk1, hs1, hold1⟩))
    all_goals (go_wp2; go_ret3; exact ⟨g1, g2, rfl, hg1, hg2, hbl2, (hold2 _ hk1.lt).trans hk1, hk2⟩)
  | some a =>
    obtain ⟨hs, hbl, hc⟩ := h4 a rfl
    obtain ⟨b, off, asp⟩ := a
    cases hs
    have k1 : SlK .u8 w (.slice (some ⟨b, off, none⟩) (l.take 60).length cap) (l.take 60) :=
      ⟨_, cap, rfl, by simp; omega, fun x hx => h2 x (List.mem_of_mem_take hx), (fun e => by cases e), fun a e => by
        cases e
        refine ⟨rfl, hbl, fun j hj => ?_⟩
        rw [List.length_take] at hj
        rw [List.getElem_take]; exact hc j (by omega)⟩
    have k2 : ∀ o, (60 < l.length → o = off + 60) → SlK .u8 w (.slice (some ⟨b, o, none⟩) (l.drop 60).length (cap - 60)) (l.drop 60) := fun o ho =>
      ⟨_, _, rfl, by simp; omega, fun x hx => h2 x (List.mem_of_mem_drop hx), (fun e => by cases e), fun a e => by
        cases e
        refine ⟨rfl, hbl, fun j hj => ?_⟩
        rw [List.length_drop] at hj
        have e1 := ho (by omega)
        rw [List.getElem_drop]
        have e2 := hc (60 + j) (by omega)
        have e3 : o + j = off + (60 + j) := by omega
        show w.cell? ⟨b, o + j, none⟩ = _
        rw [e3]; exact e2⟩
    have k3 : l.length ≤ 60 → ∀ o c, SlK .u8 w (.slice (some ⟨b, o, none⟩) 0 c) (l.drop 60) := fun ho o c =>
      ⟨_, c, by rw [List.drop_eq_nil_of_le (by omega)]; rfl, by simp; omega, fun x hx => h2 x (List.mem_of_mem_drop hx), (fun e => by cases e), fun a e => by
        cases e
        refine ⟨rfl, hbl, fun j hj => ?_⟩
        rw [List.length_drop] at hj
        omega⟩
    clear h2 h3 h4 hc
    by_cases hlen : 60 < l.length
    · rw [List.length_take, Nat.min_eq_left (Nat.le_of_lt hlen)] at k1
      rw [List.length_drop] at k2
      replace k2 := k2 (off + 60) (fun _ => rfl)
      go_enter Tryz.func92, Tryz.ntmps92
      go_wp2
      go_region_with (go_at_call 107; first | (refine (hb0 _ hbl1 _ _ k2 hl2).mono ?_; rintro e w2 ⟨g2, rfl, hg2, hbl2, hk2, hs2, hold2⟩) | (refine (hb0 _ (Below.refl _ _).drew _ _ k1 hl1).mono ?_; rintro e w1 ⟨g1, rfl, hg1, hbl1, hk1, hs1, hold1⟩))
      all_goals (go_wp2; go_ret3; exact ⟨g1, g2, rfl, hg1, hg2, hbl2, (hold2 _ hk1.lt).trans hk1, hk2⟩)
    · have hle : l.length ≤ 60 := by omega
      rw [List.length_take, Nat.min_eq_right hle] at k1
      by_cases hcap : cap = l.length
      · subst hcap
        have k2 := k3 (by omega) off 0
        go_enter Tryz.func92, Tryz.ntmps92
        go_wp2
        go_region_with (go_at_call 107; first | (refine (hb0 _ hbl1 _ _ k2 hl2).mono ?_; rintro e w2 ⟨g2, rfl, hg2, hbl2, hk2, hs2, hold2⟩) | (refine (hb0 _ (Below.refl _ _).drew _ _ k1 hl1).mono ?_; rintro e w1 ⟨g1, rfl, hg1, hbl1, hk1, hs1, hold1⟩))
        all_goals (go_wp2; go_ret3; exact ⟨g1, g2, rfl, hg1, hg2, hbl2, (hold2 _ hk1.lt).trans hk1, hk2⟩)
      · have k2 := k3 (by omega) (off + l.length) (cap - l.length)
        go_enter Tryz.func92, Tryz.ntmps92
        go_wp2
        go_region_with (go_at_call 107; first | (refine (hb0 _ hbl1 _ _ k2 hl2).mono ?_; rintro e w2 ⟨g2, rfl, hg2, hbl2, hk2, hs2, hold2⟩) | (refine (hb0 _ (Below.refl _ _).drew _ _ k1 hl1).mono ?_; rintro e w1 ⟨g1, rfl, hg1, hbl1, hk1, hs1, hold1⟩))
        all_goals (go_wp2; go_ret3; exact ⟨g1, g2, rfl, hg1, hg2, hbl2, (hold2 _ hk1.lt).trans hk1, hk2⟩)

end Go.Proofs.YtljbhdldfffpfaaGreat.Lf
namespace Go.Proofs.YtljbhdldfffpfaaGreat.Lf
open Go.Proofs.YtljbhdldfffpfaaGreat
open Go.RowKit

theorem numL_bounds {l : List Int} (h : bytesOk l) : 0 ≤ numL l ∧ numL l < 4294967296 := by
  unfold numL
  split
  · rename_i a b c d r
    have := h a (by simp); have := h b (by simp); have := h c (by simp); have := h d (by simp)
    omega
  · omega

theorem take_bad (w : World) (a b : Value) (la lb : List Int) (ha : SlK .u8 w a la) (hb : SlK .u8 w b lb) (hx : la.length ≠ 64 ∨ lb.length ≠ 64) : Calls Tryz.prog 109 #[a, b] w fun e w' => e = .returned (.tuple #[.int .i64 0, .slice none 0 0, .int .i64 1]) ∧ w' = w := by
  obtain ⟨p, cap, rfl, h1, h2, h3, h4⟩ := ha
  obtain ⟨q, cbp, rfl, i1, i2, i3, i4⟩ := hb
  clear h2 h3 h4 i2 i3 i4
  go_enter Tryz.func109, Tryz.ntmps109
  by_cases a1 : la.length = 64
  · have a2 : lb.length ≠ 64 := by omega
    have d1 : decide ((la.length : Int) = 64) = true := by simp; omega
    have a3 : ¬ ((lb.length : Int) = 64) := by omega
    go_wp2
    go_ret3
    constructor <;> first | rfl | trivial
  · have a3 : ¬ ((la.length : Int) = 64) := by omega
    go_wp2
    go_ret3
    constructor <;> first | rfl | trivial

section

variable (w : World) (a b : Value) (la lb : List Int) (ha : Pt w a la) (hb : Pt w b lb) (la4 : la.length = 64) (lb4 : lb.length = 64) (oka : bytesOk la) (okb : bytesOk lb)

include ha hb la4 lb4 oka okb

set_option maxHeartbeats 400000 in
theorem take_torn (hx : numL la ≠ numL lb) : Calls Tryz.prog 109 #[a, b] w fun e w' => e = .returned (.tuple #[.int .i64 0, .slice none 0 0, .int .i64 3]) ∧ w' = w := by
  have n1 := fun W h => number_any W a la h oka (by omega)
  have n2 := fun W h => number_any W b lb h okb (by omega)
  obtain ⟨p, off, cap, rfl, h1, h2, h3⟩ := id ha
  obtain ⟨q, ofb, cbp, rfl, i1, i2, i3⟩ := id hb
  rw [la4] at *
  rw [lb4] at *
  clear h3 i3
  go_enter Tryz.func109, Tryz.ntmps109
  go_wp2_with fail
  refine (n1 _ ha).mono ?_
  rintro e w1 ⟨rfl, rfl⟩
  go_wp2_with fail
  refine (n2 _ hb).mono ?_
  rintro e w2 ⟨rfl, rfl⟩
  go_wp2
  go_ret3
  constructor <;> first | rfl | trivial

set_option maxHeartbeats 400000 in
theorem take_form (hx : numL la = numL lb) (hy : 2147483647 < numL la) : Calls Tryz.prog 109 #[a, b] w fun e w' => e = .returned (.tuple #[.int .i64 0, .slice none 0 0, .int .i64 4]) ∧ w' = w := by
  have n1 := fun W h => number_any W a la h oka (by omega)
  have n2 := fun W h => number_any W b lb h okb (by omega)
  rw [← hx] at n2
  obtain ⟨p, off, cap, rfl, h1, h2, h3⟩ := id ha
  obtain ⟨q, ofb, cbp, rfl, i1, i2, i3⟩ := id hb
  rw [la4] at *
  rw [lb4] at *
  clear h3 i3
  go_enter Tryz.func109, Tryz.ntmps109
  go_wp2_with fail
  refine (n1 _ ha).mono ?_
  rintro e w1 ⟨rfl, rfl⟩
  go_wp2_with fail
  refine (n2 _ hb).mono ?_
  rintro e w2 ⟨rfl, rfl⟩
  go_wp2
  go_ret3
  constructor <;> first | rfl | trivial

omit ha hb la4 lb4 oka okb in
theorem _root_.Go.Proofs.YtljbhdldfffpfaaGreat.Pt.tail4 {w : World} {g off cap n : Nat} {l : List Int} (h : Pt w (.slice (some ⟨g, off, none⟩) n cap) l) (hl : l.length = 64) : Pt w (.slice (some ⟨g, off + 4, none⟩) 60 (cap - 4)) (l.drop 4) := by
  obtain ⟨b, o, c, e, h1, h2, h3⟩ := h
  cases e
  refine ⟨g, off + 4, cap - 4, by rw [List.length_drop, hl], by rw [List.length_drop]; omega, h2, fun j hj => ?_⟩
  rw [List.length_drop] at hj
  rw [List.getElem_drop]
  have e2 := h3 (4 + j) (by omega)
  have e3 : off + 4 + j = off + (4 + j) := by omega
  rw [e3]; exact e2

set_option maxRecDepth 100000 in
set_option maxHeartbeats 1000000 in
theorem take_ok (hx : numL la = numL lb) (hy : numL la < 2147483648) : Calls Tryz.prog 109 #[a, b] w fun e w' => ∃ v, e = .returned (.tuple #[.int .i64 (numL la), v, .int .i64 0]) ∧ w'.ownsRow w.heap.size 5 1 v 120 (byteV (la.drop 4 ++ lb.drop 4)) ∧ Below w.heap.size w w' := by
  have n1 := fun W h => number_any W a la h oka (by omega)
  have n2 := fun W h => number_any W b lb h okb (by omega)
  rw [← hx] at n2
  have nb := numL_bounds oka
  obtain ⟨p, off, cap, rfl, h1, h2, h3⟩ := id ha
  obtain ⟨q, ofb, cbp, rfl, i1, i2, i3⟩ := id hb
  have p1 := ha.tail4 la4
  have p2 := hb.tail4 lb4
  have l4a := la4
  have l4b := lb4
  rw [la4] at ha h1 ⊢
  rw [lb4] at hb i1 ⊢
  simp only [l4a] at n1
  simp only [l4b] at n2
  clear h3 i3
  have hC : ∀ W g t, Below w.heap.size w W → W.heap[g]? = some (.cells #[.slice (some ⟨p, off + 4, none⟩) 60 (cap - 4), .slice (some ⟨q, ofb + 4, none⟩) 60 (cbp - 4)] t (0, 0)) →
      Calls Tryz.prog 77 #[.slice (some ⟨g, 0, none⟩) 2 2] W fun e w' => ∃ v, e = .returned v ∧ w'.ownsRow w.heap.size 5 1 v 120 (byteV (la.drop 4 ++ lb.drop 4)) ∧ Below w.heap.size w w' := by
    intro W g t hB hg
    have q1 := p1.below hB (Nat.le_refl _)
    have q2 := p2.below hB (Nat.le_refl _)
    have e0 : [la.drop 4, lb.drop 4].flatten = la.drop 4 ++ lb.drop 4 := by simp
    have e1 : (la.drop 4 ++ lb.drop 4).length = 120 := by simp [l4a, l4b]
    refine (concat_any W g t [_, _] [la.drop 4, lb.drop 4] hg rfl ?_ (by rw [e0, e1]; omega) (by simp)).mono ?_
    · intro j h h'
      match j, h with
      | 0, _ => exact q1
      | 1, _ => exact q2
    · rintro e w' ⟨v, rfl, ho, hb⟩
      rw [e0, e1] at ho
      exact ⟨v, rfl, ⟨ho.1, ho.2.imp id (fun ⟨g, cap, cur, r1, r2, r⟩ => ⟨g, cap, cur, r1, Nat.le_trans hB.size r2, r⟩)⟩, hB.trans (hb.mono hB.size)⟩
  generalize hN : numL la = N at *
  generalize la.drop 4 ++ lb.drop 4 = L at *
  have HC := Lib.hid hC
  clear p1 p2 hC hx hN
  go_enter Tryz.func109, Tryz.ntmps109
  go_wp2_with fail
  refine (n1 _ ha).mono ?_
  rintro e w1 ⟨rfl, rfl⟩
  go_wp2_with fail
  refine (n2 _ hb).mono ?_
  rintro e w2 ⟨rfl, rfl⟩
  have c4 : ¬ cap = 4 := by omega
  have d4 : ¬ cbp = 4 := by omega
  have wN := IntWalk.i64_in N (by omega)
  go_wp2
  go_region_with (go_at_call 77; refine (HC.out _ _ _ ((Below.refl _ _).alloc (Nat.le_refl _) _).drew (heap_alloc_new _ _)).mono ?_; rintro e w3 ⟨v, rfl, ho, hb3⟩)
  all_goals (go_wp2; go_ret3; exact ⟨_, rfl, ho, hb3⟩)

end

end Go.Proofs.YtljbhdldfffpfaaGreat.Lf
namespace Go.Proofs.YtljbhdldfffpfaaGreat.Lf
open Go.Proofs.YtljbhdldfffpfaaGreat
open Go.RowKit

def pad (l : List Int) : List Int := l ++ List.replicate (60 - l.length) 0

theorem pad_ok {l : List Int} (h : bytesOk l) : bytesOk (pad l) := by
  intro x hx
  rcases List.mem_append.1 hx with h1 | h1
  · exact h x h1
  · rw [List.mem_replicate] at h1; omega

theorem tile_len (n : Int) {l : List Int} (h : l.length ≤ 60) : (tileL n l).length = 64 := by simp [tileL, head]; omega

theorem tile_ok {n : Int} (n0 : 0 ≤ n) (n1 : n < 2147483648) {l : List Int} (h : bytesOk l) : bytesOk (tileL n l) := by
  intro x hx
  rcases List.mem_append.1 hx with h1 | h1
  · simp only [head, List.mem_cons, List.not_mem_nil, or_false] at h1
    omega
  · exact pad_ok h x h1

/-- A variable that is an array of bytes. -/
def BlkT (t : TypeId) (w : World) (g : Nat) (l : List Int) : Prop := w.heap[g]? = some (.cells (byteV l).toArray t (0, 0))
section
variable {t : TypeId} {w : World} {g : Nat} {l : List Int}
theorem BlkT.lt (h : BlkT t w g l) : g < w.heap.size := (Array.getElem?_eq_some_iff.1 h).1
theorem BlkT.cell (h : BlkT t w g l) {j : Nat} (hj : j < l.length) : w.cell? ⟨g, j, none⟩ = some (.int .u8 l[j]) := by
  rw [(cell_of h j).1]; simp [byteV, hj]
theorem BlkT.old {B : Nat} {w' : World} (h : BlkT t w g l) (hb : Below B w w') (hB : g < B) : BlkT t w' g l := (hb.block g hB).trans h
theorem BlkT.pt (h : BlkT t w g l) {n c : Nat} (hn : n = l.length) (hc : n ≤ c) : Pt w (.slice (some ⟨g, 0, none⟩) n c) l :=
  ⟨g, 0, c, by rw [hn], by omega, h.lt, fun j hj => by rw [Nat.zero_add]; exact h.cell hj⟩
theorem BlkT.set (h : BlkT t w g l) (i : Nat) (x : Int) : BlkT t (w.setCell ⟨g, i, none⟩ (.int .u8 x)) g (l.set i x) := by
  unfold BlkT
  rw [heap_setCell_same w g i _ _ _ h]
  simp [byteV, List.map_set]
end


end Go.Proofs.YtljbhdldfffpfaaGreat.Lf
namespace Go.Proofs.YtljbhdldfffpfaaGreat.Lf
open Go.Proofs.YtljbhdldfffpfaaGreat
open Go.RowKit

end Go.Proofs.YtljbhdldfffpfaaGreat.Lf
namespace Go.Proofs.YtljbhdldfffpfaaGreat.Lf
open Go.Proofs.YtljbhdldfffpfaaGreat
open Go.RowKit

/-- In W lies what the region reads. -/
def Sees (w W : World) (g : Nat) (L : List Int) : Prop := Below w.heap.size w W ∧ g < W.heap.size ∧ ∀ j (_ : j < L.length), W.cell? ⟨g, j, none⟩ = some (.int .u8 L[j])

theorem Sees.drew {w W : World} {g : Nat} {L : List Int} (h : Sees w W g L) : Sees w W.drew g L := ⟨h.1.drew, h.2.1, h.2.2⟩

theorem Sees.on {w W W' : World} {g : Nat} {L : List Int} (h : Sees w W g L) (hb : Below w.heap.size w W') (hs : W.heap.size ≤ W'.heap.size) (hk : W'.heap[g]? = W.heap[g]?) : Sees w W' g L :=
  ⟨hb, by have := h.2.1; omega, fun j hj => (World.cell?_of_block hk).trans (h.2.2 j hj)⟩

theorem Sees.news {w W : World} {g : Nat} {L : List Int} (h : Sees w W g L) (o m : Nat) (hm : o + m ≤ L.length) : ∀ j u, (byteV ((L.drop o).take m))[j]? = some u → W.cell? ((⟨g, o, none⟩ : Addr).add j) = some u := by
  intro q u hu
  have hj : q < m := by have := (List.getElem?_eq_some_iff.1 hu).1; simp [byteV] at this; omega
  have h2 : (⟨g, o, none⟩ : Addr).add q = ⟨g, o + q, none⟩ := by unfold Addr.add; split <;> simp_all
  rw [h2, h.2.2 (o + q) (by omega)]
  simp only [byteV, List.getElem?_map, List.getElem?_take, List.getElem?_drop, if_pos hj] at hu
  rw [List.getElem?_eq_getElem (by omega)] at hu
  exact hu

end Go.Proofs.YtljbhdldfffpfaaGreat.Lf
namespace Go.Proofs.YtljbhdldfffpfaaGreat.Lf
open Go.Proofs.YtljbhdldfffpfaaGreat
open Go.RowKit

section

variable (w : World) (a b : Value) (la lb : List Int) (ha : Pt w a la) (hb : Pt w b lb) (la4 : la.length = 64) (lb4 : lb.length = 64) (oka : bytesOk la) (okb : bytesOk lb)

include ha hb la4 lb4 oka okb

end

end Go.Proofs.YtljbhdldfffpfaaGreat.Lf
namespace Go.Proofs.YtljbhdldfffpfaaGreat.Lf
open Go.Proofs.YtljbhdldfffpfaaGreat
open Go.RowKit

def PBad (n : Int) (l : List Int) : Prop := n < 0 ∨ 2147483647 < n ∨ 120 < l.length
instance (n : Int) (l : List Int) : Decidable (PBad n l) := by unfold PBad; infer_instance
def pE (n : Int) (l : List Int) : Int := if PBad n l then 1 else 0
def pA (n : Int) (l : List Int) : List Int := if PBad n l then [] else tileL n (l.take 60)
def pB (n : Int) (l : List Int) : List Int := if PBad n l then [] else tileL n (l.drop 60)

theorem put_P (w : World) (n : Int) (v : Value) (l : List Int) (h : SlK .u8 w v l) : Calls Tryz.prog 92 #[.int .i64 n, v] w fun e w' => ∃ va vb, e = .returned (.tuple #[va, vb, .int .i64 (pE n l)]) ∧ SlK .u8 w' va (pA n l) ∧ SlK .u8 w' vb (pB n l) ∧ Below w.heap.size w w' := by
  by_cases hx : PBad n l
  · refine (put_bad w n v l h hx).mono ?_
    rintro e w' ⟨rfl, rfl⟩
    unfold pE pA pB
    rw [if_pos hx, if_pos hx, if_pos hx]
    exact ⟨_, _, rfl, slK_nil _, slK_nil _, Below.refl _ _⟩
  · have hx' : ¬ (n < 0 ∨ 2147483647 < n ∨ 120 < l.length) := hx
    have hok := h.ok
    refine (put_ok w n (by omega) (by omega) v l h (by omega)).mono ?_
    rintro e w' ⟨ga, gb, rfl, _, _, hb, ka, kb⟩
    unfold pE pA pB
    rw [if_neg hx, if_neg hx, if_neg hx]
    exact ⟨_, _, rfl, (ka.pt (by rw [tile_len _ (by simp; omega)]) (by omega)).slK (tile_ok (by omega) (by omega) (ok_take hok _)), (kb.pt (by rw [tile_len _ (by simp; omega)]) (by omega)).slK (tile_ok (by omega) (by omega) (ok_drop hok _)), hb⟩

def tE (la lb : List Int) : Int := if la.length = 64 ∧ lb.length = 64 then (if numL la = numL lb then (if 2147483647 < numL la then 4 else 0) else 3) else 1
def tK (la lb : List Int) : Int := if tE la lb = 0 then numL la else 0
def tL (la lb : List Int) : List Int := if tE la lb = 0 then la.drop 4 ++ lb.drop 4 else []

section
variable (w : World) (a b : Value) (la lb : List Int) (ha : SlK .u8 w a la) (hb : SlK .u8 w b lb)
include ha hb
theorem take_T : Calls Tryz.prog 109 #[a, b] w fun e w' => ∃ v, e = .returned (.tuple #[.int .i64 (tK la lb), v, .int .i64 (tE la lb)]) ∧ SlK .u8 w' v (tL la lb) ∧ Below w.heap.size w w' := by
  have oka := ha.ok
  have okb := hb.ok
  by_cases hl : la.length = 64 ∧ lb.length = 64
  · have pa := ha.pt (by intro e; rw [e] at hl; simp at hl)
    have pb := hb.pt (by intro e; rw [e] at hl; simp at hl)
    by_cases hx : numL la = numL lb
    · by_cases hy : 2147483647 < numL la
      · have e : tE la lb = 4 := by unfold tE; rw [if_pos hl, if_pos hx, if_pos hy]
        refine (take_form w _ _ _ _ pa pb hl.1 hl.2 oka okb hx hy).mono ?_
        rintro e' w' ⟨rfl, rfl⟩
        exact ⟨_, by unfold tK; rw [e]; rfl, by unfold tL; rw [e]; exact slK_nil _, Below.refl _ _⟩
      · have e : tE la lb = 0 := by unfold tE; rw [if_pos hl, if_pos hx, if_neg hy]
        refine (take_ok w _ _ _ _ pa pb hl.1 hl.2 oka okb hx (by omega)).mono ?_
        rintro e' w' ⟨v, rfl, ho, hb⟩
        refine ⟨v, by unfold tK; rw [e]; rfl, ?_, hb⟩
        unfold tL; rw [e]
        exact own_slK ho (fun x hx => by rcases List.mem_append.1 hx with h | h; exact ok_drop oka 4 x h; exact ok_drop okb 4 x h)
    · have e : tE la lb = 3 := by unfold tE; rw [if_pos hl, if_neg hx]
      refine (take_torn w _ _ _ _ pa pb hl.1 hl.2 oka okb hx).mono ?_
      rintro e' w' ⟨rfl, rfl⟩
      exact ⟨_, by unfold tK; rw [e]; rfl, by unfold tL; rw [e]; exact slK_nil _, Below.refl _ _⟩
  · have e : tE la lb = 1 := by unfold tE; rw [if_neg hl]
    refine (take_bad w _ _ _ _ ha hb (by omega)).mono ?_
    rintro e' w' ⟨rfl, rfl⟩
    exact ⟨_, by unfold tK; rw [e]; rfl, by unfold tL; rw [e]; exact slK_nil _, Below.refl _ _⟩

end
end Go.Proofs.YtljbhdldfffpfaaGreat.Lf
