/- The reference's Arm. -/
import Derived.Test.YtliakndgbfbicaaRl
import Derived.Test.YtliakndgbfbicaaCopy
import Derived.Laws.AppendOwnNone
namespace Go.Proofs.Ytliakndgbfbicaa
open Go.RowKit Go.Maps

def Rf.armed (d : Rf) (n : Int) (mv : Value) (ms : List Int) : Rf := { d with on := decide (0 ≤ n), at_ := n, mv := mv, mask := ms }

section
variable {w : World} {r gn gw gt gm : Nat} {vn vw vt : Value} {d : Rf}

theorem rarm_end {W : World} (h : RfAt W r gn gw gt gm vn vw vt d) {n : Int} (n1 : n ≤ 9223372036854775807) {mv : Value} {ms : List Int} {g' : Nat} (hm : SlB W mv ms g') (hmok : bytesOk ms) (hne : g' ≠ r ∧ g' ≠ gn ∧ g' ≠ gw ∧ g' ≠ gt) :
    RfAt (((W.setCell ⟨r, 4, none⟩ (.bool (decide (0 ≤ n)))).setCell ⟨r, 5, none⟩ (.int .i64 n)).setCell ⟨r, 6, none⟩ mv) r gn gw gt g' vn vw vt (d.armed n mv ms) := by
  obtain ⟨m1, m2, m3, m4, m5, m6, m7, m8, m9, m10⟩ := h.ne
  have o1 := fun k (hk : k ≠ r) => Below.heap_setCell W ⟨r, 4, none⟩ (.bool (decide (0 ≤ n))) k hk
  have o2 := fun k (hk : k ≠ r) => (Below.heap_setCell (W.setCell ⟨r, 4, none⟩ (.bool (decide (0 ≤ n)))) ⟨r, 5, none⟩ (.int .i64 n) k hk).trans (o1 k hk)
  have o3 := fun k (hk : k ≠ r) => (Below.heap_setCell ((W.setCell ⟨r, 4, none⟩ (.bool (decide (0 ≤ n)))).setCell ⟨r, 5, none⟩ (.int .i64 n)) ⟨r, 6, none⟩ mv k hk).trans (o2 k hk)
  refine ⟨?_, h.sn, h.sw, h.st, fun k => (h.now k).of_block (o3 _ m1.symm), fun k => (h.was k).of_block (o3 _ m2.symm), fun k => (h.wet k).of_block (o3 _ m3.symm), hm.keep (o3 _ hne.1), ⟨m1, m2, m3, m4, m5, m6, hne⟩, h.kle, ?_, hmok, h.nil0⟩
  · have e1 := heap_setCell_same W r 4 _ _ (.bool (decide (0 ≤ n))) h.cells
    have e2 := heap_setCell_same _ r 5 _ _ (.int .i64 n) e1
    exact heap_setCell_same _ r 6 _ _ mv e2
  · intro e
    have : 0 ≤ n := of_decide_eq_true e
    exact ⟨show (-1 : Int) ≤ n by omega, n1⟩

theorem RowF.lt {W : World} {g k : Nat} {t : TypeId} {f : Nat → Value} (h : RowF W g t k f) : g < W.heap.size := by
  obtain ⟨cur, h1, _⟩ := h
  exact (Array.getElem?_eq_some_iff.1 h1).1

/-- What only grows leaves the disk. -/
theorem RfAt.grow {w' : World} (h : RfAt w r gn gw gt gm vn vw vt d) (hb : ∀ k, k < w.heap.size → w'.heap[k]? = w.heap[k]?) : RfAt w' r gn gw gt gm vn vw vt d :=
  ⟨(hb r (Array.getElem?_eq_some_iff.1 h.cells).1).trans h.cells, h.sn, h.sw, h.st, fun k => (h.now k).of_block (hb _ (h.now k).lt), fun k => (h.was k).of_block (hb _ (h.was k).lt), fun k => (h.wet k).of_block (hb _ (h.wet k).lt), h.mask.kept hb, h.ne, h.kle, h.ok, h.mok, h.nil0⟩

/-- Where there are no tiles the rows lie anywhere. -/
theorem RfAt.anew (h : RfAt w r gn gw gt gm vn vw vt d) (hk : d.k = 0) {a b c m : Nat} (hm : SlB w d.mv d.mask m) (hne : r ≠ a ∧ r ≠ b ∧ r ≠ c ∧ a ≠ b ∧ a ≠ c ∧ b ≠ c ∧ m ≠ r ∧ m ≠ a ∧ m ≠ b ∧ m ≠ c) : RfAt w r a b c m vn vw vt d := by
  have q := h.nil0 hk
  exact ⟨h.cells, (q a).1, (q b).2.1, (q c).2.2, fun e => by omega, fun e => by omega, fun e => by omega, hm, hne, h.kle, h.ok, h.mok, h.nil0⟩

set_option maxRecDepth 100000 in
set_option maxHeartbeats 2000000 in
theorem rarm_some (h : RfAt w r gn gw gt gm vn vw vt d) (n : Int) (n1 : n ≤ 9223372036854775807) (gb ao : Nat) (asp : Option _) (cap : Nat) (ms : List Int) (hl : ms.length ≤ 1000000) (hmok : bytesOk ms) (hsp : ms ≠ [] → asp = none) (hc : ∀ j (h : j < ms.length), w.cell? ⟨gb, ao + j, none⟩ = some (.int .u8 ms[j])) :
    Calls Try.prog 14 #[.pointer (some ⟨r, 0, none⟩), .int .i64 n, .slice (some ⟨gb, ao, asp⟩) ms.length cap] w fun e w' => ∃ mv a b c g', e = .returned (.tuple #[]) ∧ RfAt w' r a b c g' vn vw vt (d.armed n mv ms) ∧ (a = gn ∨ w.heap.size ≤ a) ∧ (b = gw ∨ w.heap.size ≤ b) ∧ (c = gt ∨ w.heap.size ≤ c) ∧ w.heap.size ≤ g' ∧ Fr w.heap.size (Four r gn gw gt) w w' := by
  obtain ⟨i, hi, hz0, hz1, hz2⟩ := info_parts infoU8
  have HGB := Lib.hid (fun h : 0 < ms.length => block_lt_of_cell (hc 0 h))
  have HSP := Lib.hid hsp
  have HC := Lib.hid hc
  have HR := Lib.hid h
  clear hsp
  have hrl := (Array.getElem?_eq_some_iff.1 h.cells).1
  have f4 := h.fz 4
  have f5 := h.fz 5
  have f6 := h.fz 6
  clear hc h
  go_enter Try.func14, Try.ntmps14
  go_wp2_with (at_builtin; refine wpList_append_own _ rfl _ _ 28 rfl w.heap.size 5 i (.int .u8 0) 1 1 Try.underlying28 hi hz0 hz1 hz2 rfl (by decide) _ 0 [] rfl ?c1 ⟨gb, ao, asp⟩ ms.length cap (byteV ms) rfl ?c2 ?c3 ?c4 ?c5 ?c6 (by simp) ?_)
  case c1 => exact World.ownsRow_made w #[] 0 (Nat.le_refl _) (by unfold maxLen; omega) rfl
  case c2 => simp [byteV]
  case c3 =>
    intro j u hu
    have hj : j < ms.length := by have := (List.getElem?_eq_some_iff.1 hu).1; simpa [byteV] using this
    have h1 := HC.out j hj
    have h2 : (⟨gb, ao, asp⟩ : Addr).add j = ⟨gb, ao + j, none⟩ := by rw [HSP.out (by intro e; rw [e] at hj; cases hj)]; unfold Addr.add; split <;> simp_all
    rw [h2, World.cell?_of_block (Below.heap_alloc w _ gb (HGB.out (by omega))), h1]
    simp [byteV] at hu
    obtain ⟨x, hx, rfl⟩ := hu
    rw [List.getElem?_eq_getElem hj] at hx
    cases hx
    rfl
  case c4 => exact byteV_one _
  case c5 => unfold maxLen; omega
  case c6 => omega
  intro v' w2 hown hgrow _
  have hb2 : Below w.heap.size w w2 := ((Below.refl _ w).alloc (Nat.le_refl _) _).grown hgrow (by simp) (fun k hk => by cases hk; exact Nat.le_refl _)
  have hR2 := HR.out.grow hb2.block
  have k4 := hR2.c4
  have k5 := hR2.c5
  have k6 := hR2.c6
  have e4 := hR2.fz 4
  have e5 := hR2.fz 5
  have e6 := hR2.fz 6
  obtain ⟨g', hg', hsl⟩ := slB_own hown hl
  obtain ⟨p1, n1', c1', rfl, rfl, hs1, hs2, hs3, hs4⟩ := id hsl
  have HS := Lib.hid hsl
  have H2 := Lib.hid hR2
  have HB := Lib.hid hb2
  clear f4 f5 f6 hown hgrow hR2 hsl hs4 hb2
  go_wp2
  go_end0
  have hf : Fr w.heap.size (Four r gn gw gt) w (((w2.setCell ⟨r, 4, none⟩ (.bool (decide (0 ≤ n)))).setCell ⟨r, 5, none⟩ (.int .i64 n)).setCell ⟨r, 6, none⟩ (.slice p1 ms.length c1')) :=
    (((⟨HB.out.os, HB.out.tape, HB.out.output, HB.out.size, fun k hk _ => HB.out.block k hk⟩ : Fr w.heap.size (Four r gn gw gt) w w2).setCell (Or.inl (Or.inl rfl)) _).setCell (Or.inl (Or.inl rfl)) _).setCell (Or.inl (Or.inl rfl)) _
  rcases Nat.eq_zero_or_pos d.k with hk | hk
  · have n7 := HR.out.ne.2.2.2.2.2.2.1
    have h0 := H2.out.anew hk (a := g' + gm + r + 1) (b := g' + gm + r + 2) (c := g' + gm + r + 3) H2.out.mask ⟨by omega, by omega, by omega, by omega, by omega, by omega, n7, by omega, by omega, by omega⟩
    exact ⟨_, _, _, _, g', rfl, rarm_end h0 n1 HS.out hmok ⟨by omega, by omega, by omega, by omega⟩, Or.inr (by omega), Or.inr (by omega), Or.inr (by omega), hg', hf⟩
  · have z1 := (HR.out.now hk).lt
    have z2 := (HR.out.was hk).lt
    have z3 := (HR.out.wet hk).lt
    exact ⟨_, gn, gw, gt, g', rfl, rarm_end H2.out n1 HS.out hmok ⟨by omega, by omega, by omega, by omega⟩, Or.inl rfl, Or.inl rfl, Or.inl rfl, hg', hf⟩
end
end Go.Proofs.Ytliakndgbfbicaa
