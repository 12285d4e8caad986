/- The reference's tree: Put of a key that is there. -/
import Derived.Test.YtejbbojephiifaaTfC
namespace Go.Proofs.Ytejbbojephiifaa
open Go.RowKit

theorem own_rid {w : World} {q n c : Nat} {A B : List KV} {y : KV} (ho : w.ownsRow 0 35 2 (.slice (some ⟨q, 0, none⟩) n c) n ((A ++ y :: B).flatMap ridV)) (hn : n = (A ++ y :: B).length) (x : KV) :
    (w.cell? ⟨q, A.length * 2, none⟩ = some (.int .i64 y.p) ∧ w.frozen? ⟨q, A.length * 2, none⟩ = false) ∧
    ((w.setCell ⟨q, A.length * 2, none⟩ (.int .i64 x.p)).cell? ⟨q, A.length * 2 + 1, none⟩ = some (.int .i64 y.c) ∧ (w.setCell ⟨q, A.length * 2, none⟩ (.int .i64 x.p)).frozen? ⟨q, A.length * 2 + 1, none⟩ = false) ∧
    ((w.setCell ⟨q, A.length * 2, none⟩ (.int .i64 x.p)).setCell ⟨q, A.length * 2 + 1, none⟩ (.int .i64 x.c)).ownsRow 0 35 2 (.slice (some ⟨q, 0, none⟩) n c) n ((A ++ x :: B).flatMap ridV) := by
  have hl : (A ++ y :: B).length = A.length + 1 + B.length := by simp; omega
  have hf : ∀ x : KV, (ridV x).length = 2 := fun _ => rfl
  have h1 := own_set ho (j := A.length * 2 + 0) (by omega) (.int .i64 x.p)
  rw [flat_set hf A y ⟨y.k, x.p, y.c⟩ B (by omega) rfl, Nat.add_zero] at h1
  have h8 := own_set h1 (j := A.length * 2 + 1) (by omega) (.int .i64 x.c)
  rw [flat_set hf A ⟨y.k, x.p, y.c⟩ x B (by omega) rfl] at h8
  have e0 : (A ++ y :: B)[A.length]'(by omega) = y := by simp
  have e1 : (A ++ ⟨y.k, x.p, y.c⟩ :: B : List KV)[A.length]'(by simp) = ⟨y.k, x.p, y.c⟩ := by simp
  rw [hn] at ho
  have c1 := own_cell hf ho (i := A.length) (j := 0) (by omega) (by omega)
  rw [e0, Nat.add_zero] at c1
  have hn2 : n = (A ++ ⟨y.k, x.p, y.c⟩ :: B : List KV).length := by rw [hn]; simp
  have h9 := h1
  rw [hn2] at h9
  have c2 := own_cell hf h9 (i := A.length) (j := 1) (by simp) (by omega)
  rw [e1] at c2
  exact ⟨c1, c2, h8⟩

set_option maxRecDepth 100000 in
set_option maxHeartbeats 8000000 in
theorem rput_old {A : Nat → Prop} (w : World) {B r : Nat} {xs : List KV} (h : RTA A w B r xs) (hA : ∀ a, A a → a < w.heap.size) (hB : B ≤ w.heap.size) (hx : xs.length ≤ 100000) (x : KV) (hbz : has x.k xs = true) :
    Calls Try.prog 15 #[.pointer (some ⟨r, 0, none⟩), .string x.k, .agg #[.int .i64 x.p, .int .i64 x.c]] w fun e w' => e = .returned (.bool false) ∧ RTA A w' B r (ins x xs) ∧ Fr w.heap.size (· = r) w w' := by
  obtain ⟨i2, hi2, hz2, hy2, hx2⟩ := info_parts infoRid
  have hb0 := (Below.refl w.heap.size w).alloc (Nat.le_refl _) (.cells #[.int .i64 x.p, .int .i64 x.c] 35)
  have hrw := h.lt
  have hfd := rfind_any _ (h.below hb0).rtr hx x.k
  have hip := ins_pos x xs
  have hhp := has_pos x.k xs
  rw [hbz] at hfd hip hhp
  simp only [if_true] at hip
  obtain ⟨hlt, hkk⟩ : ∃ h : pos x.k xs < xs.length, (xs[pos x.k xs]'h).k = x.k := of_decide_eq_true hhp.symm
  obtain ⟨y, hy⟩ : ∃ y, xs[pos x.k xs] = y := ⟨_, rfl⟩
  rw [hy] at hkk
  have hxs : xs = xs.take (pos x.k xs) ++ y :: xs.drop (pos x.k xs + 1) := by rw [← hy]; simp
  have hti : (xs.take (pos x.k xs)).length = pos x.k xs := by rw [List.length_take]; omega
  obtain ⟨i, hi⟩ : ∃ i, pos x.k xs = i := ⟨_, rfl⟩
  rw [hi] at hfd hip hlt hti hxs
  obtain ⟨n, hn⟩ : ∃ n, xs.length = n := ⟨_, rfl⟩
  rw [hn] at hx hlt
  have HR := Lib.hid (h.below hb0)
  have HNB := Lib.hid (heap_alloc_new w (.cells #[.int .i64 x.p, .int .i64 x.c] 35))
  have HB0 := Lib.hid hb0
  have HFD := Lib.hid hfd
  have HINS := Lib.hid (And.intro hip (And.intro hxs (And.intro hti hkk)))
  have HN := Lib.hid hn
  have HRW := Lib.hid hrw
  clear hfd hip hi hn h hb0 hbz hrw hhp hkk hxs hti hy
  go_enter Try.func15, Try.ntmps15
  go_upto_region 3 with (first
    | (go_at_call 27; refine HFD.out.mono ?_; rintro e w1 ⟨rfl, hb1⟩; have HB1 := Lib.hid (HB0.out.trans (hb1.mono HB0.out.size)); have hr1 := HR.out.below hb1; have hnb := (hb1.block _ (Array.getElem?_eq_some_iff.1 HNB.out).1).trans HNB.out; clear hb1))
  obtain ⟨sk, sv, hr, hk, hv, hak, hav⟩ := hr1.ex
  rw [HN.out] at hk hv
  obtain ⟨pv, cv, rfl⟩ := own_sl hv
  have hsrc := own_src hv (l := 0) (r := n) (by omega) (Nat.le_refl _)
  rw [sliced_zero, cut_rids, List.drop_zero, List.take_of_length_le (Nat.le_of_eq HN.out), Nat.sub_zero] at hsrc
  have hb2 := (Below.refl w1.heap.size w1).alloc (Nat.le_refl _) (.cells #[] 35)
  have ho := World.ownsRow_made (e := 35) (size := 2) w1 #[] 0 (Nat.le_refl w1.heap.size) (by decide) rfl
  rcases hsrc.up hb2 with ⟨_, h0, _⟩ | ⟨ad, cad, hsl, hnews⟩
  · omega
  have hvl : (xs.flatMap ridV).length = n * 2 := hv.1
  obtain ⟨v3, w3, hrun, ho3, hg3, _, _⟩ := run_append_own_at (P := Try.prog) (w1.alloc (.cells #[] 35)) w1.heap.size 28 28 35 i2 (.agg #[.int .i64 0, .int .i64 0]) 2 16 undRids hi2 hz2 hy2 hx2 rfl (by decide) _ 0 [] ho ad n cad _ hvl hnews (one_rids _) (by unfold maxLen; omega) (by omega) hb2.size
  rw [Nat.zero_add, List.nil_append] at ho3
  rw [← hsl] at hrun
  have hb3 := below_grown hb2 ho hg3 hb2.size
  obtain ⟨p3, c3, rfl⟩ := own_sl ho3
  obtain ⟨q, rfl⟩ : ∃ q, p3 = some ⟨q, 0, none⟩ := by
    rcases ho3.2 with ⟨h1, h2⟩ | ⟨g, _, _, h1, _⟩
    · omega
    · injection h1 with h1
      exact ⟨g, h1⟩
  have hr3 := (hb3.block r hr1.lt).trans hr
  have c1 := (cell_of hr3 1).1
  have f1 := (cell_of hr3 1).2
  have HRUN := Lib.hid hrun
  have HO3 := Lib.hid ho3
  have HB3 := Lib.hid hb3
  have HK := Lib.hid (And.intro hk hak)
  have HRB := Lib.hid (And.intro hr1.hB (And.intro hr1.hA hr1.lt))
  have HHR := Lib.hid hr3
  have HNB1 := Lib.hid hnb
  have HR1 := Lib.hid ((World.cell?_of_block (hb2.block r hr1.lt)).trans (cell_of hr 1).1)
  clear hk hv hr hr1 HR HFD hnb hak hav hsrc hb2 ho hvl hnews hsl hg3 ho3 hb3 hrun hr3
  have d1 := HR1.out
  clear HR1
  go_upto_region 4 with (at_builtin; refine Lib.wpList_append_run _ rfl _ _ _ _ rfl _ _ rfl rfl _ _ HRUN.out ?_)
  have hWV := heap_setCell_same w3 r 1 _ _ (.slice (some ⟨q, 0, none⟩) n c3) HHR.out
  have hOV := own_st1 (i := 1) (u := .slice (some ⟨q, 0, none⟩) n c3) HO3.out HHR.out (by decide)
  have hKV := own_st1 (i := 1) (u := .slice (some ⟨q, 0, none⟩) n c3) (own_up HK.out.1 HB3.out) HHR.out (by decide)
  have hBV := (Fr.of_below (S := (· = r)) (HB3.out.mono HB1.out.size)).setCell (p := ⟨r, 1, none⟩) (.inl rfl) (.slice (some ⟨q, 0, none⟩) n c3)
  have hNK := (Below.heap_setCell w3 ⟨r, 1, none⟩ (.slice (some ⟨q, 0, none⟩) n c3) w.heap.size (Nat.ne_of_gt HRW.out)).trans ((HB3.out.block _ (Array.getElem?_eq_some_iff.1 HNB1.out).1).trans HNB1.out)
  generalize w3.setCell ⟨r, 1, none⟩ (.slice (some ⟨q, 0, none⟩) n c3) = w4 at *
  have hqg : w1.heap.size ≤ q := (own_ty hOV rfl).1
  have hqr : q ≠ r := fun e => by have := HRB.out.2.2; omega
  have hOV0 := own_base hOV (Nat.zero_le _)
  obtain ⟨hip, hxs, hti, hkk⟩ := HINS.out
  have hn2 : n = (xs.take i ++ y :: xs.drop (i + 1)).length := by rw [← hxs, HN.out]
  rw [hxs] at hOV0
  obtain ⟨e1, e2, e3⟩ := own_rid hOV0 hn2 x
  rw [hti] at e1 e2 e3
  have hins : (ins x xs).length = n := by rw [hip, hn2]; simp
  have x0 : w4.cell? ⟨w.heap.size, 0, none⟩ = some (.int .i64 x.p) := (cell_of hNK 0).1.trans rfl
  have x1 : w4.cell? ⟨w.heap.size, 1, none⟩ = some (.int .i64 x.c) := (cell_of hNK 1).1.trans rfl
  have v1 : w4.cell? ⟨r, 1, none⟩ = some (.slice (some ⟨q, 0, none⟩) n c3) := (cell_of hWV 1).1.trans rfl
  have HFIN : Hid (RTA A ((w4.setCell ⟨q, i * 2, none⟩ (.int .i64 x.p)).setCell ⟨q, i * 2 + 1, none⟩ (.int .i64 x.c)) B r (ins x xs) ∧ Fr w.heap.size (· = r) w ((w4.setCell ⟨q, i * 2, none⟩ (.int .i64 x.p)).setCell ⟨q, i * 2 + 1, none⟩ (.int .i64 x.c))) := by
    obtain ⟨_, cq, hcq⟩ := own_ty hOV rfl
    have hcq2 : ∃ cq2, (w4.setCell ⟨q, i * 2, none⟩ (.int .i64 x.p)).heap[q]? = some (.cells cq2 35 (0, 0)) := ⟨_, heap_setCell_same w4 q (i * 2) _ _ _ hcq⟩
    obtain ⟨cq2, hcq2⟩ := hcq2
    refine ⟨⟨HRB.out.1, HRB.out.2.1, sk, .slice (some ⟨q, 0, none⟩) n c3, ?_, ?_, ?_, HK.out.2, fun g hg ha => ?_⟩, ?_⟩
    · exact (Below.heap_setCell _ _ _ _ hqr.symm).trans ((Below.heap_setCell _ _ _ _ hqr.symm).trans hWV)
    · rw [hins]
      have hk2 := own_st1 (i := i * 2 + 1) (u := .int .i64 x.c) (own_st1 (i := i * 2) (u := .int .i64 x.p) hKV hcq (by decide)) hcq2 (by decide)
      refine own_cut hk2 ?_
      rw [hip]
      conv => lhs; rw [hxs]
      simp [keyV, hkk]
    · rw [hins, hip]
      have h5 := e3
      refine ⟨h5.1, ?_⟩
      rcases h5.2 with h6 | ⟨g, cap, cur, h1, h2, h3⟩
      · exact .inl h6
      · refine .inr ⟨g, cap, cur, h1, ?_, h3⟩
        injection h1 with h1
        injection h1 with h1
        injection h1 with h1
        subst h1
        exact Nat.le_trans hB (Nat.le_trans HB1.out.size hqg)
    · have h7 := hA g ha
      simp only [Value.ownBlock] at hg
      injection hg with hg
      have := HB1.out.size
      omega
    · exact (((Fr.of_below HB1.out).trans hBV (Nat.le_refl _) (fun _ _ h => h)).setCell (p := ⟨q, i * 2, none⟩) (.inr (Nat.le_trans HB1.out.size hqg)) _).setCell (p := ⟨q, i * 2 + 1, none⟩) (.inr (Nat.le_trans HB1.out.size hqg)) _
  obtain ⟨o1, o2⟩ := e1
  obtain ⟨o3, o4⟩ := e2
  have hliI : (i : Int) < (n : Int) := by omega
  have hi0 : (0 : Int) ≤ (i : Int) := by omega
  have HFD : Hid (RTA A ((w4.setCell ⟨q, i * 2, none⟩ (.int .i64 x.p)).setCell ⟨q, i * 2 + 1, none⟩ (.int .i64 x.c)).drew B r (ins x xs) ∧ Fr w.heap.size (· = r) w ((w4.setCell ⟨q, i * 2, none⟩ (.int .i64 x.p)).setCell ⟨q, i * 2 + 1, none⟩ (.int .i64 x.c)).drew) := ⟨HFIN.out.1.below (Below.refl _ _).drew, HFIN.out.2.drew⟩
  generalize hp1 : x.p = xp at *
  generalize hc1 : x.c = xc at *
  clear hWV hOV hKV hBV hNK hqg hqr hOV0 hip hxs hti hkk hn2 e3 hins HFIN hp1 hc1 c1 f1 d1 HINS
  go_region
  all_goals go_wp2
  all_goals go_ret
  all_goals exact ⟨rfl, HFD.out⟩
end Go.Proofs.Ytejbbojephiifaa
