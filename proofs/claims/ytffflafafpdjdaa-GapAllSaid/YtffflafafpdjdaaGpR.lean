/- Free cells in memory: the reference's New, Use, Hold. -/
import Derived.Test.YtffflafafpdjdaaGpE
namespace Go.Proofs.Ytffflafafpdjdaa
open Go.RowKit Go.Maps Go.WideMaps

section
variable {w w' : World} {g b1 b2 n : Nat} {s : St} {p c who : Int}
theorem RA.mono (h : RA w g b1 b2 n s) {n' : Nat} (hn : n ≤ n') : RA w g b1 b2 n' s := by
  obtain ⟨U, hU, hu⟩ := h.u
  exact ⟨h.hp, ⟨U, hU.mono hn, hu⟩, h.h.mono hn, h.ne, h.ok⟩
theorem RA.look (h : RA w g b1 b2 n s) (hp : Wf p) (hc : Wf c) : (Instr.lookup 50 (.map (some b1)) (.agg #[.int .i64 p, .int .i64 c]) false).run Try.prog w = .ok (.bool (s.u p c)) w := by
  obtain ⟨U, hU, hu⟩ := h.u
  have k := hU.look Try.underlying50 (zB _) hp hc
  rw [hu] at k
  exact k
theorem RA.use_on (h : RA w g b1 b2 n s) (hn : n < maxLen) (hp : Wf p) (hc : Wf c) (hi : inB s.N p c = true) (v : Bool) :
    ∃ w', (Instr.mapUpdate 50 (.map (some b1)) (.agg #[.int .i64 p, .int .i64 c]) (.bool v)).run Try.prog w = .ok () w' ∧ RA w' g b1 b2 (n + 1) (s.useS p c v) ∧ w.mapTurned w' b1 := by
  obtain ⟨U, hU, hu⟩ := h.u
  obtain ⟨w', r1, r2, r3⟩ := hU.store Try.underlying50 hn hp hc (.bool v)
  refine ⟨w', r1, ⟨(block_turned r3 (fun e => hU.not_cells (e ▸ h.hp))).trans h.hp, ⟨_, r2, fun x y => ?_⟩, (h.h.of_block (block_turned r3 h.ne.symm)).mono (Nat.le_succ _), h.ne, h.ok.useS hi v⟩, r3⟩
  show _ = Value.bool ((upR s.u p c v) x y)
  by_cases e : x = p ∧ y = c
  · obtain ⟨rfl, rfl⟩ := e; rw [upR_same, upR_same]; rfl
  · rw [upR_other _ e, upR_other _ e]; exact hu x y
theorem RA.hold_on (h : RA w g b1 b2 n s) (hn : n < maxLen) (hp : Wf p) (hc : Wf c) (hi : inB s.N p c = true) (hw : Wf who) :
    ∃ w', (Instr.mapUpdate 47 (.map (some b2)) (.agg #[.int .i64 p, .int .i64 c]) (.int .i64 who)).run Try.prog w = .ok () w' ∧ RA w' g b1 b2 (n + 1) (s.holdS who p c) ∧ w.mapTurned w' b2 := by
  obtain ⟨U, hU, hu⟩ := h.u
  obtain ⟨w', r1, r2, r3⟩ := h.h.store Try.underlying47 hn hp hc (.int .i64 who)
  refine ⟨w', r1, ⟨(block_turned r3 (fun e => h.h.not_cells (e ▸ h.hp))).trans h.hp, ⟨U, (hU.of_block (block_turned r3 h.ne)).mono (Nat.le_succ _), hu⟩, ?_, h.ne, h.ok.holdS hi hw⟩, r3⟩
  show RM w' b2 (n + 1) (hG (upR s.h p c (some who)))
  rw [hG_up]; exact r2
end

set_option maxRecDepth 100000 in
theorem new_r (w : World) (x : Int) : Calls Try.prog 8 #[.int .i64 x] w fun e w' => ∃ g b1 b2, e = .returned (.pointer (some ⟨g, 0, none⟩)) ∧ RA w' g b1 b2 0 (St.new (pgs x)) ∧ Below w.heap.size w w' ∧ (∀ k, Bk g b1 b2 k → w.heap.size ≤ k) := by
  have hmk := @run_makeMap Try.prog
  have fin : ∀ z : Int, z = (pgs x : Int) → ∀ w3, ((w.alloc (.map #[] 0)).alloc (.map #[] 0)).alloc (.cells #[.int .i64 z, .map (some w.heap.size), .map (some (w.heap.size + 1))] 52) = w3 →
      RA w3 (w.heap.size + 1 + 1) w.heap.size (w.heap.size + 1) 0 (St.new (pgs x)) ∧ Below w.heap.size w w3 ∧ (∀ k, Bk (w.heap.size + 1 + 1) w.heap.size (w.heap.size + 1) k → w.heap.size ≤ k) := by
    rintro z rfl w3 hw
    obtain ⟨w3', e, h1, h2, h3, h4⟩ := made3 w (pgs x) 52
    obtain rfl : w3' = w3 := e.symm.trans hw
    exact ⟨⟨h1, ⟨_, h2, fun _ _ => rfl⟩, h3.congr fun _ _ _ _ => rfl, by omega, St.new_ok (pgs_le x)⟩, h4, fun k hk => by unfold Bk at hk; omega⟩
  have HF := Lib.hid fin
  clear fin
  go_enter Try.func8, Try.ntmps8
  go_wp2
  all_goals go_ret
  all_goals exact ⟨_, rfl, _, _, HF.out _ (by unfold pgs; omega) _ rfl⟩

set_option maxRecDepth 100000 in
/-- Use: where there is such a cell. -/
theorem use_r (w : World) {g b1 b2 n : Nat} {s : St} (h : RA w g b1 b2 n s) (hn : n < maxLen) {p c : Int} (hp : Wf p) (hc : Wf c) (v : Bool) :
    Calls Try.prog 10 #[.pointer (some ⟨g, 0, none⟩), .agg #[.int .i64 p, .int .i64 c], .bool v] w fun e w' => e = .returned (.bool (inB s.N p c)) ∧ RA w' g b1 b2 (n + 1) (if inB s.N p c = true then s.useS p c v else s) ∧ Fr w.heap.size (Bk g b1 b2) w w' := by
  have HB := (Below.refl w.heap.size w).alloc (Nat.le_refl _) (.cells #[.int .i64 p, .int .i64 c] 29)
  have h1 := h.on_ HB
  have hl := Lib.hid (has_r (w.alloc (.cells #[.int .i64 p, .int .i64 c] 29)) h1.c.1 h1.glt p c)
  have c2 := (al_new w #[.int .i64 p, .int .i64 c] 29 0).1
  have c3 := (al_new w #[.int .i64 p, .int .i64 c] 29 1).1
  have hsz : w.heap.size < (w.alloc (.cells #[.int .i64 p, .int .i64 c] 29)).heap.size := by simp
  have HFH := Lib.hid ((Fr.refl w.heap.size (Bk g b1 b2) w).of_below HB (Nat.le_refl _))
  have HH := Lib.hid h1
  have HS := Lib.hid hsz
  have HP := Lib.hid (And.intro hp hc)
  have HN := Lib.hid hn
  clear h HB h1 hsz hp hc hn
  by_cases hi : inB s.N p c = true
  · rw [if_pos hi]
    have HI := Lib.hid hi
    rw [hi] at hl
    clear hi
    go_enter Try.func10, Try.ntmps10
    go_upto_region 1 with fail
    generalize (w.alloc (.cells #[.int .i64 p, .int .i64 c] 29)) = w1 at *
    go_upto_region 3 with (go_at_call 21; refine hl.out.mono ?_; rintro e w2 ⟨rfl, hb2⟩)
    have h2 := HH.out.on_ hb2
    have HF2 := HFH.out.of_below hb2 (Nat.le_of_lt HS.out)
    have c2' := (hb2.cell (p := ⟨w.heap.size, 0, none⟩) HS.out).trans c2
    have c3' := (hb2.cell (p := ⟨w.heap.size, 1, none⟩) HS.out).trans c3
    have h3 := h2.on_ (Below.refl _ _).drew
    obtain ⟨_, c1, _⟩ := h2.c
    obtain ⟨w3, r1, h4, t4⟩ := h3.use_on HN.out HP.out.1 HP.out.2 HI.out v
    have H4 := Lib.hid h4
    have HF3 := Lib.hid ((HF2.of_below (Below.refl w2.heap.size w2).drew (HF2.size)).turned (b := b1) (Or.inl (Or.inr (Or.inl rfl))) t4)
    clear h2 h3 h4 t4 HF2 hb2 c2 c3 hl
    go_region
    all_goals go_wp2
    all_goals go_ret
    all_goals exact ⟨by rw [HI.out]; rfl, H4.out, HF3.out⟩
  · rw [if_neg hi]
    have HI : Hid (inB s.N p c = false) := by show inB s.N p c = false; simpa using hi
    rw [HI.out] at hl
    clear hi
    go_enter Try.func10, Try.ntmps10
    go_upto_region 1 with fail
    generalize (w.alloc (.cells #[.int .i64 p, .int .i64 c] 29)) = w1 at *
    go_wp2_with (go_at_call 21; refine hl.out.mono ?_; rintro e w2 ⟨rfl, hb2⟩)
    go_ret
    exact ⟨by rw [HI.out]; rfl, (HH.out.on_ hb2).mono (Nat.le_succ n), HFH.out.of_below hb2 (Nat.le_of_lt HS.out)⟩


theorem oth_look {w : World} {g b1 b2 n : Nat} {s : St} (h : RA w g b1 b2 n s) {p c : Int} (hp : Wf p) (hc : Wf c) (who : Int) : ∃ v f, ((f && decide (v ≠ who)) = oth s who p c) ∧ ∀ m : Nat, (Instr.lookup 47 (.map (some b2)) (.agg #[.int .i64 p, .int .i64 c]) true).run Try.prog (w.drewN m) = .ok (.tuple #[.int .i64 v, .bool f]) (w.drewN m) := by
  cases e : s.h p c with
  | none =>
    refine ⟨0, false, by unfold oth; rw [e]; rfl, fun m => ?_⟩
    rcases hG_look (h.on_ (below_drewN (Below.refl _ _) m)).h hp hc with ⟨v, e2, _⟩ | ⟨_, k⟩
    · rw [e] at e2; cases e2
    · exact k
  | some v =>
    refine ⟨v, true, by unfold oth; rw [e]; simp, fun m => ?_⟩
    rcases hG_look (h.on_ (below_drewN (Below.refl _ _) m)).h hp hc with ⟨v', e2, k⟩ | ⟨e2, _⟩
    · rw [e] at e2; cases e2; exact k
    · rw [e] at e2; cases e2

set_option maxRecDepth 100000 in
theorem hold_r (w : World) {g b1 b2 n : Nat} {s : St} (h : RA w g b1 b2 n s) (hn : n < maxLen) {p c who : Int} (hp : Wf p) (hc : Wf c) (hw : Wf who) :
    Calls Try.prog 12 #[.pointer (some ⟨g, 0, none⟩), .int .i64 who, .agg #[.int .i64 p, .int .i64 c]] w fun e w' => e = .returned (.bool (canHold s who p c)) ∧ RA w' g b1 b2 (n + 1) (s.hold who p c) ∧ Fr w.heap.size (Bk g b1 b2) w w' := by
  have HB := (Below.refl w.heap.size w).alloc (Nat.le_refl _) (.cells #[.int .i64 p, .int .i64 c] 29)
  have h1 := h.on_ HB
  have c2 := (al_new w #[.int .i64 p, .int .i64 c] 29 0).1
  have c3 := (al_new w #[.int .i64 p, .int .i64 c] 29 1).1
  have hsz : w.heap.size < (w.alloc (.cells #[.int .i64 p, .int .i64 c] 29)).heap.size := by simp
  have HFH := Lib.hid ((Fr.refl w.heap.size (Bk g b1 b2) w).of_below HB (Nat.le_refl _))
  have HH := Lib.hid h1
  have HS := Lib.hid hsz
  have HP := Lib.hid (And.intro hp hc)
  have HN := Lib.hid hn
  have HW := Lib.hid hw
  obtain ⟨v, f, hvf, k⟩ := oth_look h1 hp hc who
  obtain ⟨_, _, c1⟩ := h1.c
  have HVF := Lib.hid hvf
  clear h HB h1 hsz hp hc hn hw hvf
  go_enter Try.func12, Try.ntmps12
  go_upto_region 1 with fail
  generalize (w.alloc (.cells #[.int .i64 p, .int .i64 c] 29)) = w1 at *
  go_quiet (fail)
  have hb2 := below_drewN (Below.refl w1.heap.size w1) nq
  have HH2 := Lib.hid (HH.out.on_ hb2)
  have HF2 := Lib.hid (HFH.out.of_below hb2 (Nat.le_of_lt HS.out))
  have HS2 := Lib.hid (Nat.lt_of_lt_of_le HS.out hb2.size)
  have c2' := (hb2.cell (p := ⟨w.heap.size, 0, none⟩) HS.out).trans c2
  have c3' := (hb2.cell (p := ⟨w.heap.size, 1, none⟩) HS.out).trans c3
  generalize w1.drewN nq = w2 at *
  clear k c1 c2 c3 hb2 HH HFH
  have CT := Lib.hid (has_r w2 HH2.out.c.1 HH2.out.glt p c)
  cases hi : inB s.N p c with
  | true =>
    have HI := Lib.hid hi
    rw [hi] at CT
    clear hi
    cases f with
    | false =>
      have HO : Hid (oth s who p c = false) := HVF.out.symm
      clear HVF
      go_upto_region 4 with (go_at_call 21; refine CT.out.mono ?_; rintro e w3 ⟨rfl, hb3⟩)
      have h3 := HH2.out.on_ hb3
      have HF3 := HF2.out.of_below hb3 (Nat.le_of_lt HS2.out)
      have c2'' := (hb3.cell (p := ⟨w.heap.size, 0, none⟩) HS2.out).trans c2'
      have c3'' := (hb3.cell (p := ⟨w.heap.size, 1, none⟩) HS2.out).trans c3'
      have h4 := h3.on_ (Below.refl _ _).drew
      obtain ⟨_, _, c1⟩ := h3.c
      obtain ⟨w4, r1, h5, t5⟩ := h4.hold_on HN.out HP.out.1 HP.out.2 HI.out HW.out
      have H5 := Lib.hid h5
      have HF5 := Lib.hid ((HF3.of_below (Below.refl w3.heap.size w3).drew (HF3.size)).turned (b := b2) (Or.inl (Or.inr (Or.inr rfl))) t5)
      clear h3 h4 h5 t5 HF3 hb3 c2' c3'
      go_region
      all_goals go_wp2
      all_goals go_ret
      all_goals exact ⟨by rw [canHold, HI.out, HO.out]; rfl, by rw [St.hold, if_pos ⟨HI.out, HO.out⟩]; exact H5.out, HF5.out⟩
    | true =>
      by_cases hv : v = who
      · have HO := Lib.hid (show oth s who p c = false by have := HVF.out; simp only [Bool.true_and] at this; rw [← this]; simp [hv])
        subst hv
        clear HVF
        go_upto_region 4 with (go_at_call 21; refine CT.out.mono ?_; rintro e w3 ⟨rfl, hb3⟩)
        have h3 := HH2.out.on_ hb3
        have HF3 := HF2.out.of_below hb3 (Nat.le_of_lt HS2.out)
        have c2'' := (hb3.cell (p := ⟨w.heap.size, 0, none⟩) HS2.out).trans c2'
        have c3'' := (hb3.cell (p := ⟨w.heap.size, 1, none⟩) HS2.out).trans c3'
        have h4 := h3.on_ (Below.refl _ _).drew
        obtain ⟨_, _, c1⟩ := h3.c
        obtain ⟨w4, r1, h5, t5⟩ := h4.hold_on HN.out HP.out.1 HP.out.2 HI.out HW.out
        have H5 := Lib.hid h5
        have HF5 := Lib.hid ((HF3.of_below (Below.refl w3.heap.size w3).drew (HF3.size)).turned (b := b2) (Or.inl (Or.inr (Or.inr rfl))) t5)
        clear h3 h4 h5 t5 HF3 hb3 c2' c3'
        go_region
        all_goals go_wp2
        all_goals go_ret
        all_goals exact ⟨by rw [canHold, HI.out, HO.out]; rfl, by rw [St.hold, if_pos ⟨HI.out, HO.out⟩]; exact H5.out, HF5.out⟩
      · have HO := Lib.hid (show oth s who p c = true by have := HVF.out; simp only [Bool.true_and] at this; rw [← this]; simp [hv])
        clear HVF
        go_wp2_with (go_at_call 21; refine CT.out.mono ?_; rintro e w3 ⟨rfl, hb3⟩)
        go_ret
        exact ⟨by rw [canHold, HI.out, HO.out]; rfl, by rw [St.hold, if_neg (fun e => by rw [HO.out] at e; cases e.2)]; exact (HH2.out.on_ hb3).mono (Nat.le_succ n), HF2.out.of_below hb3 (Nat.le_of_lt HS2.out)⟩
  | false =>
    have HI := Lib.hid hi
    rw [hi] at CT
    clear hi
    go_wp2_with (go_at_call 21; refine CT.out.mono ?_; rintro e w3 ⟨rfl, hb3⟩)
    go_ret
    exact ⟨by rw [canHold, HI.out]; rfl, by rw [St.hold, if_neg (fun e => by rw [HI.out] at e; cases e.1)]; exact (HH2.out.on_ hb3).mono (Nat.le_succ n), HF2.out.of_below hb3 (Nat.le_of_lt HS2.out)⟩
end Go.Proofs.Ytffflafafpdjdaa
