/- Arm: slices.Clone of bytes; what is armed. -/
import Derived.Test.YthhnmpobkekbbaaGreatWriP
import Derived.OwnWalk
namespace Go.Proofs.YthhnmpobkekbbaaGreat
open Go.RowKit Go.Maps


theorem clone_nil (w : World) : Calls Tryz.prog 43 #[.slice none 0 0] w fun e w' => e = .returned (.slice none 0 0) ∧ w' = w := by
  have hn : ∀ W, (binOp .eql 36 (.slice none 0 0) (.slice none 0 0)).run Tryz.prog W = .ok (.bool true) W := fun W => Lib.run_eql_slice_nil W 36 5 none 0 0 0 0 Tryz.underlying36
  go_enter Tryz.func43, Tryz.ntmps43
  go_wp2
  go_ret
  exact ⟨rfl, rfl⟩

theorem slB_own {w : World} {B : Nat} {v : Value} {l : List Int} (h : w.ownsRow B 5 1 v l.length (byteV l)) (hl : l.length ≤ 1000000) : ∃ g, B ≤ g ∧ SlB w v l g := by
  obtain ⟨h1, ⟨rfl, h0⟩ | ⟨g, cap, cur, rfl, hB, hg, hle, _, _, htake⟩⟩ := h
  · exact ⟨B, Nat.le_refl _, none, 0, 0, rfl, h0.symm, Nat.le_refl _, by omega, (fun _ => List.eq_nil_of_length_eq_zero h0), (fun a e => by cases e)⟩
  · refine ⟨g, hB, some ⟨g, 0, none⟩, _, cap, rfl, rfl, hle, hl, (fun e => by cases e), fun a e _ => ?_⟩
    cases e
    refine ⟨rfl, rfl, fun j hj => ?_⟩
    have h2 := (cell_of hg (0 + j)).1
    rw [h2, Nat.zero_add]
    have e1 : (cur.toList.take (l.length * 1))[j]? = some (.int .u8 l[j]) := by rw [htake]; simp [byteV, hj]
    rw [List.getElem?_take, if_pos (by omega)] at e1
    simpa using e1

set_option maxRecDepth 100000 in
theorem clone_some (w : World) (gb ao : Nat) (asp : Option _) (cap : Nat) (l : List Int) (hl : l.length ≤ 1000000) (hsp : l ≠ [] → asp = none) (hc : ∀ j (h : j < l.length), w.cell? ⟨gb, ao + j, none⟩ = some (.int .u8 l[j])) : Calls Tryz.prog 43 #[.slice (some ⟨gb, ao, asp⟩) l.length cap] w fun e w' => ∃ v, e = .returned v ∧ w'.ownsRow w.heap.size 5 1 v l.length (byteV l) ∧ Below w.heap.size w w' := by
  have hn : ∀ W n c, (binOp .eql 36 (.slice (some ⟨gb, ao, asp⟩) n c) (.slice none 0 0)).run Tryz.prog W = .ok (.bool false) W := fun W n c => Lib.run_eql_slice_nil W 36 5 (some ⟨gb, ao, asp⟩) n c 0 0 Tryz.underlying36
  obtain ⟨i, hi, hz0, hz1, hz2⟩ := info_parts infoU8
  have hgb : 0 < l.length → gb < w.heap.size := fun h => block_lt_of_cell (hc 0 h)
  have HC := Lib.hid hc
  have HSP := Lib.hid hsp
  clear hc hsp
  go_enter Tryz.func43, Tryz.ntmps43
  go_wp2_with (at_builtin; refine wpList_append_own _ rfl _ _ 36 rfl w.heap.size 5 i (.int .u8 0) 1 1 Tryz.underlying36 hi hz0 hz1 hz2 rfl (by decide) _ 0 [] rfl ?c1 ⟨gb, ao, asp⟩ l.length cap (byteV l) rfl ?c2 ?c3 ?c4 ?c5 ?c6 ?c7 ?_)
  case c1 => exact ⟨rfl, Or.inr ⟨w.heap.size, 0, #[], rfl, Nat.le_refl _, heap_alloc_new w _, Nat.le_refl _, by unfold maxLen; omega, rfl, rfl⟩⟩
  case c2 => simp [byteV]
  case c3 =>
    intro j u hu
    have hj : j < l.length := by have := (List.getElem?_eq_some_iff.1 hu).1; simpa [byteV] using this
    have h1 := HC.out j hj
    have h2 : (⟨gb, ao, asp⟩ : Addr).add j = ⟨gb, ao + j, none⟩ := by rw [HSP.out (by intro e; rw [e] at hj; cases hj)]; unfold Addr.add; split <;> simp_all
    have h3 := hgb (by omega)
    rw [h2, World.cell?_of_block (Below.heap_alloc w _ gb h3), h1]
    simp [byteV] at hu
    obtain ⟨x, hx, rfl⟩ := hu
    rw [List.getElem?_eq_getElem hj] at hx
    cases hx
    rfl
  case c4 => exact byteV_one l
  case c5 => unfold maxLen; omega
  case c6 => omega
  case c7 => simp
  intro v' w1 hown hgrow _
  go_wp2
  go_ret
  exact ⟨v', rfl, by simpa using hown, ((Below.refl _ w).alloc (Nat.le_refl _) _).grown hgrow (by simp) (fun k hk => by cases hk; exact Nat.le_refl _)⟩

theorem clone_any (w : World) {sv : Value} {l : List Int} {gb : Nat} (h : SlB w sv l gb) (hz : sv = .slice none 0 0 ∨ ∃ a n c, sv = .slice (some a) n c) : Calls Tryz.prog 43 #[sv] w fun e w' => ∃ p1 c1 g, e = .returned (.slice p1 l.length c1) ∧ SlB w' (.slice p1 l.length c1) l g ∧ w.heap.size ≤ g ∧ Below w.heap.size w w' := by
  rcases hz with rfl | ⟨a, n, c, rfl⟩
  · obtain ⟨p0, len, cap, e, e2, _, _, hn, _⟩ := h
    cases e
    obtain rfl := hn rfl
    exact (clone_nil w).mono fun e w' ⟨he, hw⟩ => ⟨none, 0, w.heap.size, he, nil_SlB _ _, Nat.le_refl _, by rw [hw]; exact Below.refl _ _⟩
  · obtain ⟨p0, len, cap, e, e2, _, hl, _, ha⟩ := h
    cases e
    obtain ⟨gb, ao, asp⟩ := a
    subst e2
    refine (clone_some w gb ao asp c l hl (fun hne => (ha _ rfl hne).2.1) (fun j hj => by
      obtain ⟨q1, _, q3⟩ := ha _ rfl (by intro e; rw [e] at hj; cases hj)
      simp only at q1 q3
      rw [q1]; exact q3 j hj)).mono fun e w' ⟨v, he, hown, hb⟩ => ?_
    obtain ⟨g, hg, hs⟩ := slB_own hown hl
    obtain ⟨p1, len, c1, e1, e2, r⟩ := hs
    subst e1
    subst e2
    exact ⟨p1, c1, g, he, ⟨p1, _, c1, rfl, rfl, r⟩, hg, hb⟩

def Dk.unarmed (d : Dk) : Dk := { d with set := false, left := 0, mv := .slice none 0 0, mask := [] }
def Dk.armed (d : Dk) (n : Int) (mv : Value) (ms : List Int) : Dk := { d with set := true, left := n, mv := mv, mask := ms }

/-- The three cells of what is armed, written one by one. -/
theorem put_armed {w : World} {p bn bo g : Nat} {d : Dk} (h : DiskAt w p bn bo g d) (s : Bool) {n : Int} (n0 : 0 ≤ n) (n1 : n ≤ 9223372036854775807) {mv : Value} {ms : List Int} {g' : Nat} (hg : g' ≠ p) (hm : SlB w mv ms g') (hb : bytesOk ms) :
    DiskAt (((w.setCell ⟨p, 4, none⟩ (.bool s)).setCell ⟨p, 5, none⟩ (.int .i64 n)).setCell ⟨p, 6, none⟩ mv) p bn bo g' { d with set := s, left := n, mv := mv, mask := ms } := by
  have ok := h.ok
  have h1 := h.poke (d' := { d with set := s }) 4 (.bool s) rfl rfl rfl h.mask ⟨ok.lo, ok.hi, ok.now, ok.old, ok.llo, ok.lhi, ok.mok⟩
  have h2 := h1.poke (d' := { d with set := s, left := n }) 5 (.int .i64 n) rfl rfl rfl h1.mask ⟨ok.lo, ok.hi, ok.now, ok.old, n0, n1, ok.mok⟩
  have hm2 : SlB ((w.setCell ⟨p, 4, none⟩ (.bool s)).setCell ⟨p, 5, none⟩ (.int .i64 n)) mv ms g' := (hm.poke hg).poke hg
  refine ⟨?_, ?_, ?_, hm2.poke hg, ⟨h2.ne.1, h2.ne.2.1, h2.ne.2.2.1, hg⟩, ⟨ok.lo, ok.hi, ok.now, ok.old, n0, n1, hb⟩⟩
  · rw [heap_setCell_same _ p 6 _ _ mv h2.cells]
    rfl
  · exact h2.now.of_block (Below.heap_setCell _ _ _ _ h2.ne.2.1.symm)
  · exact h2.old.of_block (Below.heap_setCell _ _ _ _ h2.ne.2.2.1.symm)

theorem arm_neg (w : World) {p bn bo g : Nat} {d : Dk} (h : DiskAt w p bn bo g d) (n : Int) (hn : n < 0) (sv : Value) :
    Calls Tryz.prog 18 #[.pointer (some ⟨p, 0, none⟩), .int .i64 n, sv] w fun e w' => e = .returned (.tuple #[]) ∧ DiskAt w' p bn bo g d.unarmed ∧ Fr w.heap.size (Three p bn bo) w w' := by
  have c4 := h.c4
  have c5 := h.c5
  have c6 := h.c6
  have f4 := h.fz 4
  have f5 := h.fz 5
  have f6 := h.fz 6
  go_enter Tryz.func18, Tryz.ntmps18
  go_wp2
  go_end0
  exact ⟨rfl, put_armed h false (by omega) (by omega) h.ne.2.2.2 (nil_SlB _ _) (by unfold bytesOk; simp), (((Fr.refl _ _ w).setCell (p := ⟨p, 4, none⟩) (Or.inl (Or.inl rfl)) _).setCell (p := ⟨p, 5, none⟩) (Or.inl (Or.inl rfl)) _).setCell (p := ⟨p, 6, none⟩) (Or.inl (Or.inl rfl)) _⟩

theorem fr_armed {B : Nat} {a w : World} {p bn bo : Nat} {v1 v2 v3 : Value} (h : Fr B (Three p bn bo) a w) : Fr B (Three p bn bo) a (((w.setCell ⟨p, 4, none⟩ v1).setCell ⟨p, 5, none⟩ v2).setCell ⟨p, 6, none⟩ v3) :=
  ((h.setCell (p := ⟨p, 4, none⟩) (Or.inl (Or.inl rfl)) _).setCell (p := ⟨p, 5, none⟩) (Or.inl (Or.inl rfl)) _).setCell (p := ⟨p, 6, none⟩) (Or.inl (Or.inl rfl)) _

theorem below_frA {B : Nat} {S : Nat → Prop} {w w' : World} (h : Below B w w') : Fr B S w w' := ⟨h.os, h.tape, h.output, h.size, fun k hk _ => h.block k hk⟩

set_option maxRecDepth 100000 in
theorem arm_pos (w : World) {p bn bo g gs : Nat} {d : Dk} (h : DiskAt w p bn bo g d) (n : Int) (hn : 0 ≤ n) (hn2 : n ≤ 9223372036854775807) {sv : Value} {ms : List Int} (hs : SlB w sv ms gs) (hgs : gs ≠ p) (hz : sv = .slice none 0 0 ∨ ∃ a n c, sv = .slice (some a) n c) (hb : bytesOk ms) :
    Calls Tryz.prog 18 #[.pointer (some ⟨p, 0, none⟩), .int .i64 n, sv] w fun e w' => e = .returned (.tuple #[]) ∧ ∃ mv g', DiskAt w' p bn bo g' (d.armed n mv ms) ∧ w.heap.size ≤ g' ∧ Fr w.heap.size (Three p bn bo) w w' := by
  have c4 := h.c4
  have c5 := h.c5
  have c6 := h.c6
  have f4 := h.fz 4
  have f5 := h.fz 5
  have f6 := h.fz 6
  have hp := h.lt.1
  have hU : DiskAt (((w.setCell ⟨p, 4, none⟩ (.bool false)).setCell ⟨p, 5, none⟩ (.int .i64 0)).setCell ⟨p, 6, none⟩ (.slice none 0 0)) p bn bo g d.unarmed := put_armed h false (n := 0) (by omega) (by omega) h.ne.2.2.2 (nil_SlB _ _) (by unfold bytesOk; simp)
  have hF := fr_armed (v1 := .bool false) (v2 := .int .i64 0) (v3 := .slice none 0 0) (Fr.refl w.heap.size (Three p bn bo) w)
  have hS : SlB (((w.setCell ⟨p, 4, none⟩ (.bool false)).setCell ⟨p, 5, none⟩ (.int .i64 0)).setCell ⟨p, 6, none⟩ (.slice none 0 0)) sv ms gs := ((hs.poke hgs).poke hgs).poke hgs
  have HC := Lib.hid (clone_any _ hS hz)
  have HU := Lib.hid hU
  have HF := Lib.hid hF
  clear hS hs hU hF
  go_enter Tryz.func18, Tryz.ntmps18
  go_wp2_with (go_at_call 43; refine HC.out.mono ?_; rintro e w1 ⟨p1, k1, g', rfl, hm1, hg1, hb1⟩; have h1 := HU.out.kept (fun k hk => hb1.block k hk); have d4 := h1.c4; have d5 := h1.c5; have d6 := h1.c6; have e4 := h1.fz 4; have e5 := h1.fz 5; have e6 := h1.fz 6)
  go_end0
  have hw := HF.out.size
  have hz1 : w.heap.size ≤ w1.heap.size := by have := hb1.size; simp at this; omega
  have hg2 : w.heap.size ≤ g' := by simpa using hg1
  exact ⟨rfl, _, g', put_armed h1 true hn hn2 (by omega) hm1 hb, hg2, fr_armed (HF.out.trans (below_frA (S := Three p bn bo) hb1) hw (fun _ _ h => h))⟩
end Go.Proofs.YthhnmpobkekbbaaGreat
