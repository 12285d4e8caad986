/- Held of the program. -/
import Derived.Test.YtffflafafpdjdaaGpU
namespace Go.Proofs.Ytffflafafpdjdaa
open Go.RowKit Go.Shelf
attribute [local go_sem] Oper.semAt_some


def St.isH (s : St) (p c : Int) : Bool := (s.h p c).isSome && !s.u p c
set_option maxRecDepth 100000 in
set_option maxHeartbeats 4000000 in
theorem held_in (w : World) {g b1 b2 m : Nat} {s : St} (h : GA w g b1 b2 m s) (from' to' : Int) :
    CallsIn Fence.wide 8 Try.prog 19 #[.pointer (some ⟨g, 0, none⟩), .int .i64 from', .int .i64 to'] w fun e w' => e = .returned (.int .i64 (cntB s.isH (All s.N from' to' 4) : Nat)) ∧ Below w.heap.size w w' := by
  have HH := Lib.hid h
  have hg0 := h.glt
  clear h
  refine callsIn_of_wp_marks Try.func19 rfl trivial ?_ rfl
  simp only [Try.ntmps19, List.size_toArray, List.length_cons, List.length_nil, Nat.reduceAdd, Nat.reduceSub, Array.replicate_succ, Array.replicate_zero, List.push_toArray, List.append_toArray, List.nil_append, List.cons_append]
  have bM := (Boxed.new w 24 (.pointer (some ⟨g, 0, none⟩))).alloc (.cells #[.int .i64 0] 3)
  have bN := Boxed.new (w.alloc (.cells #[.pointer (some ⟨g, 0, none⟩)] 24)) 3 (.int .i64 0)
  have s1 : (w.alloc (.cells #[.pointer (some ⟨g, 0, none⟩)] 24)).heap.size = w.heap.size + 1 := by simp
  have s2 : ((w.alloc (.cells #[.pointer (some ⟨g, 0, none⟩)] 24)).alloc (.cells #[.int .i64 0] 3)).heap.size = w.heap.size + 2 := by simp
  rw [s1] at bN
  have hB0 : Below w.heap.size w ((w.alloc (.cells #[.pointer (some ⟨g, 0, none⟩)] 24)).alloc (.cells #[.int .i64 0] 3)) := ((Below.refl _ w).alloc (Nat.le_refl _) _).alloc (by rw [s1]; omega) _
  have HM := Lib.hid bM
  have HN := Lib.hid bN
  have HB0 := Lib.hid hB0
  have HS2 := Lib.hid s2
  clear bM bN s1 s2 hB0
  gi_wp2_with (refine ⟨trivial, ?_⟩; gi_at_call 25; refine (all_in _ _ _ _ _ _).mono ?_; rintro e w1 ⟨rfl, hb, hs, q0, q1, q2, q3⟩)
  have bM := HM.out
  have bN := HN.out
  have hB0 := HB0.out
  have s2 := HS2.out
  generalize (w.alloc (.cells #[.pointer (some ⟨g, 0, none⟩)] 24)).alloc (.cells #[.int .i64 0] 3) = w0 at *
  clear HM HN HB0 HS2
  have bM1 : Boxed w1 w.heap.size 24 (.pointer (some ⟨g, 0, none⟩)) := (hb.block _ (by omega)).trans bM
  have bN1 : Boxed w1 (w.heap.size + 1) 3 (.int .i64 0) := (hb.block _ (by omega)).trans bN
  have hB1 : Below w.heap.size w w1 := hB0.trans (hb.mono (by omega))
  have hG1 := HH.out.on_ hB1
  have hbox : Box4 w1 w0.heap.size g s.N from' to' 4 := ⟨q0, q1, q2, q3, hG1.c.1⟩
  have hsz1 : w1.heap.size = w.heap.size + 6 := by omega
  clear hb q0 q1 q2 q3 bM bN hB0
  rw [show clo (w.heap.size + 1 + 1) = .func (.func 28) #[] (bxs w0.heap.size) from by rw [s2]; rfl]
  generalize w0.heap.size = b at *
  have HS := Lib.hid (And.intro s2 hsz1)
  clear hs s2 hsz1
  refine wpIn_rangeFunc_ownH rfl (by have := HS.out; omega) (gf := 28) (lb := bxs b) rfl trivial (enters_of Try.func28 (by kernel_rfl) rfl)
    (all_stops _ (by have := HS.out; omega) b g s.N from' to' 4 HH.out.ok.le w1 hbox (by have := HS.out; omega) (by have := HS.out; omega)) Kq.trans (Kq_b (by have := HS.out; omega) (by have := HS.out; omega)) (Below.refl _ _) (fun _ => rfl)
    (fun pre W => (Boxed W (w.heap.size + 1) 3 (.int .i64 (cntB s.isH pre : Nat)) ∧ Boxed W w.heap.size 24 (.pointer (some ⟨g, 0, none⟩))) ∧ Below w.heap.size w W ∧ w.heap.size + 6 ≤ W.heap.size)
    (fun _ _ _ => False)
    (OwnFrom.and (OwnFrom.and (Own.from (boxed_own _ _ _) _) (Own.from (boxed_own _ _ _) _)) (OwnFrom.and (ownFrom_below (Nat.le_refl _) (by have := HS.out; omega)) (own_size _ _)))
    (fun _ _ _ _ _ hs _ _ => hs)
    ⟨⟨bN1, bM1⟩, hB1, by have := HS.out; omega⟩
    (fun x a' W => ∃ Bx, w.heap.size + 1 < Bx ∧ BoxR W Bx ((x.1 % 32 : Nat) : Int) ((x.2 % 4 : Nat) : Int) ∧ a' = { tmps := #[.pointer (some ⟨g, 0, none⟩), .int .i64 from', .int .i64 to', .pointer (some ⟨w.heap.size, 0, none⟩), undef, undef, .int .i64 0, .pointer (some ⟨w.heap.size + 1, 0, none⟩), .pointer (some ⟨Bx, 0, none⟩), .pointer (some ⟨g, 0, none⟩), .int .i64 from', .int .i64 to', .func (.func 28) #[] (bxs b), .agg #[.int .i64 ((x.1 % 32 : Nat) : Int), .int .i64 ((x.2 % 4 : Nat) : Int)], undef, undef, undef, undef, undef, undef, undef, undef, undef, undef, undef, undef], defers := [] })
    (fun x a' _ X Y row hs hg hr => by obtain ⟨Bx, h1, h2, h3⟩ := hs; exact ⟨Bx, h1, boxR_own Bx (fun (_ : Unit) => ((x.1 % 32 : Nat) : Int)) (fun _ => ((x.2 % 4 : Nat) : Int)) () X Y row h2 hg (fun r e => (hr r e).2), h3⟩)
    ?assign ?body ?done ?stop
  case assign =>
    rintro l pre x W K ⟨⟨bN2, bM2⟩, hB2, hZ2⟩ hK
    unfold encR
    obtain ⟨p, hp⟩ : ∃ p : Int, p = ((x.1 % 32 : Nat) : Int) := ⟨_, rfl⟩
    obtain ⟨c, hc⟩ : ∃ c : Int, c = ((x.2 % 4 : Nat) : Int) := ⟨_, rfl⟩
    rw [← hp, ← hc]
    have HP := Lib.hid hp
    have HC := Lib.hid hc
    clear hp hc
    gi_wp2
    have hsz := hB2.size
    exact hK _ _ ((KeepsOthers.alloc _ _).from _) (Kq.of_below ((Below.refl _ W).alloc (Nat.le_refl _) _) (by have := HS.out; omega) (by have := HS.out; omega)) ⟨⟨bN2.alloc _, bM2.alloc _⟩, hB2.alloc hB2.size _, by have := HS.out; simp; omega⟩ ⟨W.heap.size, bN2.lt, by rw [← HP.out, ← HC.out]; exact heap_alloc_new_ _ _, by rw [← HP.out, ← HC.out]⟩
  case body =>
    rintro l pre x a' W hl ⟨r, hr⟩ ⟨⟨bN2, bM2⟩, hB2, hZ2⟩ ⟨Bx, hBx, bX, rfl⟩ hlt
    obtain ⟨p, hp⟩ : ∃ p : Int, p = ((x.1 % 32 : Nat) : Int) := ⟨_, rfl⟩
    obtain ⟨c, hc⟩ : ∃ c : Int, c = ((x.2 % 4 : Nat) : Int) := ⟨_, rfl⟩
    rw [← hp, ← hc] at bX ⊢
    have hC := cntB_snoc s.isH pre x
    rw [← hp, ← hc] at hC
    have hwp : Wf p := wf_small (by have := HS.out; omega)
    have hwc : Wf c := wf_small (by have := HS.out; omega)
    have hCl : cntB s.isH pre < 200 := Nat.lt_of_le_of_lt (cntB_le _ _) hlt
    have HG := Lib.hid (HH.out.on_ hB2)
    have CT := Lib.hid (isHeld_g W HG.out hwp hwc)
    have HWF := Lib.hid (And.intro hwp hwc)
    have cM := bM2.cell
    have c0 := (cell_of bX 0).1
    have c1 := (cell_of bX 1).1
    have H2 := Lib.hid (And.intro bN2 (And.intro bM2 (And.intro hB2 hZ2)))
    have HX := Lib.hid bX
    have HC := Lib.hid hC
    clear hp hc hwp hwc bN2 bM2 bX hC hZ2 hB2
    have cN := H2.out.1.cell
    have fN := H2.out.1.frozen
    obtain ⟨k, hk⟩ : ∃ k, k = cntB s.isH pre := ⟨_, rfl⟩
    rw [← hk] at cN hCl
    have HK := Lib.hid hk
    clear hk
    cases hh : (s.h p c).isSome with
    | true =>
      rw [hh] at CT
      cases hu : s.u p c with
      | false =>
       have HUU := Lib.hid hu
       have HU : Hid (s.isH p c = true) := by show s.isH p c = true; unfold St.isH; rw [hh, hu]; rfl
       clear hh hu
       gi_wp2_with (first
        | (refine ⟨trivial, ?_⟩; gi_at_call 27; refine (CallsIn.inRound l (callsIn_wide.2 CT.out)).mono ?_; rintro e w2 ⟨rfl, hb2⟩; have cM' := (hb2.cell (p := ⟨w.heap.size, 0, none⟩) H2.out.2.1.lt).trans cM; have c0' := (hb2.cell (p := ⟨Bx, 0, none⟩) HX.out.lt).trans c0; have c1' := (hb2.cell (p := ⟨Bx, 1, none⟩) HX.out.lt).trans c1)
        | (refine ⟨trivial, ?_⟩; gi_at_call 26; refine (CallsIn.inRound l (callsIn_wide.2 (isUsed_g w2 (HG.out.on_ hb2) HWF.out.1 HWF.out.2))).mono ?_; rintro e w3 ⟨rfl, hb3⟩; rw [HUU.out]; have hb4 := hb2.trans (hb3.mono hb2.size); have cN' := (hb4.cell (p := ⟨w.heap.size + 1, 0, none⟩) H2.out.1.lt).trans cN; have fN' : w3.frozen? ⟨w.heap.size + 1, 0, none⟩ = false := (World.frozen?_of_block (hb4.block _ H2.out.1.lt)).trans fN))
       obtain ⟨bN2, bM2, hB2, hZ2⟩ := H2.out
       have bN3 : Boxed w3 (w.heap.size + 1) 3 (.int .i64 (k : Int)) := by rw [HK.out]; exact (hb4.block _ bN2.lt).trans bN2
       have bM3 : Boxed w3 w.heap.size 24 (.pointer (some ⟨g, 0, none⟩)) := (hb4.block _ bM2.lt).trans bM2
       refine ⟨(KeepsFrom.of_below hb4).trans ((KeepsOthers.setCell _ _ _).from _), (Kq.of_below hb4 (by have := HS.out; omega) (by have := HS.out; omega)).trans (Kq_set (by have := HS.out; omega) (by have := HS.out; omega) _ _), ⟨⟨?_, bM3.other (by have := HS.out; omega) _⟩, (hB2.trans (hb4.mono hB2.size)).setCell (p := ⟨w.heap.size + 1, 0, none⟩) (by simp) _, ?_⟩⟩
       · rw [HC.out, HU.out, if_pos rfl, ← HK.out]; exact bN3.set _
       · have := hb4.size
         have := HS.out
         simp
         omega
      | true =>
       have HUU := Lib.hid hu
       have HU : Hid (s.isH p c = false) := by show s.isH p c = false; unfold St.isH; rw [hh, hu]; rfl
       clear hh hu
       gi_wp2_with (first
        | (refine ⟨trivial, ?_⟩; gi_at_call 27; refine (CallsIn.inRound l (callsIn_wide.2 CT.out)).mono ?_; rintro e w2 ⟨rfl, hb2⟩; have cM' := (hb2.cell (p := ⟨w.heap.size, 0, none⟩) H2.out.2.1.lt).trans cM; have c0' := (hb2.cell (p := ⟨Bx, 0, none⟩) HX.out.lt).trans c0; have c1' := (hb2.cell (p := ⟨Bx, 1, none⟩) HX.out.lt).trans c1)
        | (refine ⟨trivial, ?_⟩; gi_at_call 26; refine (CallsIn.inRound l (callsIn_wide.2 (isUsed_g w2 (HG.out.on_ hb2) HWF.out.1 HWF.out.2))).mono ?_; rintro e w3 ⟨rfl, hb3⟩; rw [HUU.out]; have hb4 := hb2.trans (hb3.mono hb2.size)))
       obtain ⟨bN2, bM2, hB2, hZ2⟩ := H2.out
       have hsz := hb4.size
       refine ⟨KeepsFrom.of_below hb4, Kq.of_below hb4 (by have := HS.out; omega) (by have := HS.out; omega), ⟨⟨?_, (hb4.block _ bM2.lt).trans bM2⟩, hB2.trans (hb4.mono hB2.size), by have := HS.out; omega⟩⟩
       rw [HC.out, HU.out, if_neg (by simp)]; exact (hb4.block _ bN2.lt).trans bN2
    | false =>
      rw [hh] at CT
      have HU : Hid (s.isH p c = false) := by show s.isH p c = false; unfold St.isH; rw [hh]; rfl
      clear hh
      gi_wp2_with (first
        | (refine ⟨trivial, ?_⟩; gi_at_call 27; refine (CallsIn.inRound l (callsIn_wide.2 CT.out)).mono ?_; rintro e w2 ⟨rfl, hb2⟩)
        | (refine ⟨trivial, ?_⟩))
      have hb4 := hb2
      obtain ⟨bN2, bM2, hB2, hZ2⟩ := H2.out
      have hsz := hb4.size
      refine ⟨KeepsFrom.of_below hb4, Kq.of_below hb4 (by have := HS.out; omega) (by have := HS.out; omega), ⟨⟨?_, (hb4.block _ bM2.lt).trans bM2⟩, hB2.trans (hb4.mono hB2.size), by have := HS.out; omega⟩⟩
      rw [HC.out, HU.out, if_neg (by simp)]; exact (hb4.block _ bN2.lt).trans bN2
  case done =>
    rintro D zs W hD rfl ⟨⟨bN2, bM2⟩, hB2, _⟩ hK
    have cN := bN2.cell
    gi_wp2
    refine ⟨by simp, .inl ⟨_, _, rfl, run_takeDeferred hK, ?_⟩⟩
    exact ⟨_, results_tmp rfl _ _ _, rfl, hB2.trans (belowK_b (w := w) (Nat.le_refl _) W D _ _ (by have := HS.out; omega) hK rfl rfl)⟩
  case stop =>
    rintro D c pre W _ _ h _
    exact h.elim
end Go.Proofs.Ytffflafafpdjdaa
