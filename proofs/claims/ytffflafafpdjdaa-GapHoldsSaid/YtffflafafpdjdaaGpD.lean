/- Free cells in memory: New, Use, Hold of the program. -/
import Derived.Test.YtffflafafpdjdaaGpC
namespace Go.Proofs.Ytffflafafpdjdaa
open Go.RowKit Go.Maps Go.WideMaps

noncomputable def St.useS (s : St) (p c : Int) (v : Bool) : St := { s with u := upR s.u p c v }
noncomputable def St.holdS (s : St) (who p c : Int) : St := { s with h := upR s.h p c (some who) }
theorem St.Ok.useS {s : St} (h : s.Ok) {p c : Int} (hi : inB s.N p c = true) (v : Bool) : (s.useS p c v).Ok := by
  refine ⟨h.le, fun x y hxy => ?_, h.hb⟩
  by_cases e : x = p ∧ y = c
  · obtain ⟨rfl, rfl⟩ := e; exact hi
  · have : s.u x y = true := (upR_other s.u e v).symm.trans hxy
    exact h.ub x y this
theorem St.Ok.holdS {s : St} (h : s.Ok) {who p c : Int} (hi : inB s.N p c = true) (hw : Wf who) : (s.holdS who p c).Ok := by
  refine ⟨h.le, h.ub, fun x y v hxy => ?_⟩
  by_cases e : x = p ∧ y = c
  · obtain ⟨rfl, rfl⟩ := e
    have : some who = some v := (upR_same s.h x y (some who)).symm.trans hxy
    cases this; exact ⟨hi, hw⟩
  · have : s.h x y = some v := (upR_other s.h e (some who)).symm.trans hxy
    exact h.hb x y v this
theorem uG_up (u : Int → Int → Bool) (p c : Int) (v : Bool) : uG (upR u p c v) = upR (uG u) p c (if v = true then some (.agg #[]) else none) := by
  funext x y
  by_cases e : x = p ∧ y = c
  · obtain ⟨rfl, rfl⟩ := e; rw [upR_same]; unfold uG; rw [upR_same]
  · rw [upR_other _ e]; unfold uG; rw [upR_other _ e]
theorem hG_up (h : Int → Int → Option Int) (p c : Int) (v : Int) : hG (upR h p c (some v)) = upR (hG h) p c (some (.int .i64 v)) := by
  funext x y
  by_cases e : x = p ∧ y = c
  · obtain ⟨rfl, rfl⟩ := e; rw [upR_same]; unfold hG; rw [upR_same]; rfl
  · rw [upR_other _ e]; unfold hG; rw [upR_other _ e]
section
variable {w w' : World} {g b1 b2 n : Nat} {s : St} {p c who : Int}
theorem GA.use_on (h : GA w g b1 b2 n s) (hn : n < maxLen) (hp : Wf p) (hc : Wf c) (hi : inB s.N p c = true) :
    ∃ w', (Instr.mapUpdate 46 (.map (some b1)) (.agg #[.int .i64 p, .int .i64 c]) (.agg #[])).run Try.prog w = .ok () w' ∧ GA w' g b1 b2 (n + 1) (s.useS p c true) ∧ w.mapTurned w' b1 := by
  obtain ⟨w', r1, r2, r3⟩ := h.u.store Try.underlying46 hn hp hc (.agg #[])
  refine ⟨w', r1, ⟨(block_turned r3 (fun e => h.u.not_cells (e ▸ h.hp))).trans h.hp, ?_, (h.h.of_block (block_turned r3 h.ne.symm)).mono (Nat.le_succ _), h.ne, h.ok.useS hi true⟩, r3⟩
  show RM w' b1 (n + 1) (uG (upR s.u p c true))
  rw [uG_up]; exact r2
theorem GA.use_off (h : GA w g b1 b2 n s) (hp : Wf p) (hc : Wf c) (hi : inB s.N p c = true) :
    ∃ w', (∀ ty, (Builtin.delete_ #[46, 29] ty #[.map (some b1), .agg #[.int .i64 p, .int .i64 c]]).run Try.prog w = .ok (.tuple #[]) w') ∧ GA w' g b1 b2 n (s.useS p c false) ∧ w.mapTurned w' b1 := by
  obtain ⟨w', r1, r2, r3⟩ := h.u.drop Try.underlying46 hp hc
  refine ⟨w', r1, ⟨(block_turned r3 (fun e => h.u.not_cells (e ▸ h.hp))).trans h.hp, ?_, h.h.of_block (block_turned r3 h.ne.symm), h.ne, h.ok.useS hi false⟩, r3⟩
  show RM w' b1 n (uG (upR s.u p c false))
  rw [uG_up]; exact r2
theorem GA.hold_on (h : GA w g b1 b2 n s) (hn : n < maxLen) (hp : Wf p) (hc : Wf c) (hi : inB s.N p c = true) (hw : Wf who) :
    ∃ w', (Instr.mapUpdate 47 (.map (some b2)) (.agg #[.int .i64 p, .int .i64 c]) (.int .i64 who)).run Try.prog w = .ok () w' ∧ GA w' g b1 b2 (n + 1) (s.holdS who p c) ∧ w.mapTurned w' b2 := by
  obtain ⟨w', r1, r2, r3⟩ := h.h.store Try.underlying47 hn hp hc (.int .i64 who)
  refine ⟨w', r1, ⟨(block_turned r3 (fun e => h.h.not_cells (e ▸ h.hp))).trans h.hp, (h.u.of_block (block_turned r3 h.ne)).mono (Nat.le_succ _), ?_, h.ne, h.ok.holdS hi hw⟩, r3⟩
  show RM w' b2 (n + 1) (hG (upR s.h p c (some who)))
  rw [hG_up]; exact r2
theorem GA.mono (h : GA w g b1 b2 n s) {n' : Nat} (hn : n ≤ n') : GA w g b1 b2 n' s := ⟨h.hp, h.u.mono hn, h.h.mono hn, h.ne, h.ok⟩
end
/-- The blocks of it. -/
def Bk (g b1 b2 : Nat) : Nat → Prop := fun k => k = g ∨ k = b1 ∨ k = b2
theorem Fr.of_below {B : Nat} {S : Nat → Prop} {a w w' : World} (h : Fr B S a w) {B' : Nat} (hb : Below B' w w') (hB : B ≤ B') : Fr B S a w' :=
  ⟨hb.os.trans h.os, hb.tape.trans h.tape, hb.output.trans h.output, Nat.le_trans h.size hb.size, fun k hk hn => (hb.block k (by omega)).trans (h.block k hk hn)⟩

set_option maxRecDepth 100000 in
/-- Use: where there is such a cell. -/
theorem use_g (w : World) {g b1 b2 n : Nat} {s : St} (h : GA w g b1 b2 n s) (hn : n < maxLen) {p c : Int} (hp : Wf p) (hc : Wf c) (v : Bool) :
    Calls Try.prog 9 #[.pointer (some ⟨g, 0, none⟩), .agg #[.int .i64 p, .int .i64 c], .bool v] w fun e w' => e = .returned (.bool (inB s.N p c)) ∧ GA w' g b1 b2 (n + 1) (if inB s.N p c = true then s.useS p c v else s) ∧ Fr w.heap.size (Bk g b1 b2) w w' := by
  have HB := (Below.refl w.heap.size w).alloc (Nat.le_refl _) (.cells #[.int .i64 p, .int .i64 c] 29)
  have h1 := h.on_ HB
  have hl := Lib.hid (has_g (w.alloc (.cells #[.int .i64 p, .int .i64 c] 29)) h1.c.1 h1.glt p c)
  have c2 := (al_new w #[.int .i64 p, .int .i64 c] 29 0).1
  have c3 := (al_new w #[.int .i64 p, .int .i64 c] 29 1).1
  have hsz : w.heap.size < (w.alloc (.cells #[.int .i64 p, .int .i64 c] 29)).heap.size := by simp
  have HFH := Lib.hid ((Fr.refl w.heap.size (Bk g b1 b2) w).of_below HB (Nat.le_refl _))
  have HH := Lib.hid h1
  have HS := Lib.hid hsz
  have HP := Lib.hid (And.intro hp hc)
  have HN := Lib.hid hn
  clear h HB h1 hsz hp hc hn
  by_cases hi : inB s.N p c = true
  · rw [if_pos hi]
    have HI := Lib.hid hi
    rw [hi] at hl
    clear hi
    go_enter Try.func9, Try.ntmps9
    go_upto_region 1 with fail
    generalize (w.alloc (.cells #[.int .i64 p, .int .i64 c] 29)) = w1 at *
    cases v with
    | true =>
      go_upto_region 4 with (go_at_call 20; refine hl.out.mono ?_; rintro e w2 ⟨rfl, hb2⟩)
      have h2 := HH.out.on_ hb2
      have HF2 := HFH.out.of_below hb2 (Nat.le_of_lt HS.out)
      have c2' := (hb2.cell (p := ⟨w.heap.size, 0, none⟩) HS.out).trans c2
      have c3' := (hb2.cell (p := ⟨w.heap.size, 1, none⟩) HS.out).trans c3
      have h3 := h2.on_ (Below.refl _ _).drew
      obtain ⟨_, c1, _⟩ := h2.c
      obtain ⟨w3, r1, h4, t4⟩ := h3.use_on HN.out HP.out.1 HP.out.2 HI.out
      have H4 := Lib.hid h4
      have HF3 := Lib.hid ((HF2.of_below (Below.refl w2.heap.size w2).drew (HF2.size)).turned (b := b1) (Or.inl (Or.inr (Or.inl rfl))) t4)
      clear h2 h3 h4 t4 HF2 hb2 c2 c3 hl
      go_region
      all_goals go_wp2
      all_goals go_ret
      all_goals exact ⟨by rw [HI.out]; rfl, H4.out, HF3.out⟩
    | false =>
      go_upto_region 5 with (go_at_call 20; refine hl.out.mono ?_; rintro e w2 ⟨rfl, hb2⟩)
      have h2 := HH.out.on_ hb2
      have HF2 := HFH.out.of_below hb2 (Nat.le_of_lt HS.out)
      have c2' := (hb2.cell (p := ⟨w.heap.size, 0, none⟩) HS.out).trans c2
      have c3' := (hb2.cell (p := ⟨w.heap.size, 1, none⟩) HS.out).trans c3
      have h3 := h2.on_ (Below.refl _ _).drew
      obtain ⟨_, c1, _⟩ := h2.c
      obtain ⟨w3, r1, h4, t4⟩ := h3.use_off HP.out.1 HP.out.2 HI.out
      have H4 := Lib.hid (h4.mono (Nat.le_succ n))
      have HF3 := Lib.hid ((HF2.of_below (Below.refl w2.heap.size w2).drew (HF2.size)).turned (b := b1) (Or.inl (Or.inr (Or.inl rfl))) t4)
      clear h2 h3 h4 t4 HF2 hb2 c2 c3 hl
      go_region
      all_goals go_wp2
      all_goals go_ret
      all_goals exact ⟨by rw [HI.out]; rfl, H4.out, HF3.out⟩
  · rw [if_neg hi]
    have HI : Hid (inB s.N p c = false) := by show inB s.N p c = false; simpa using hi
    rw [HI.out] at hl
    clear hi
    go_enter Try.func9, Try.ntmps9
    go_upto_region 1 with fail
    generalize (w.alloc (.cells #[.int .i64 p, .int .i64 c] 29)) = w1 at *
    go_wp2_with (go_at_call 20; refine hl.out.mono ?_; rintro e w2 ⟨rfl, hb2⟩)
    go_ret
    exact ⟨by rw [HI.out]; rfl, (HH.out.on_ hb2).mono (Nat.le_succ n), HFH.out.of_below hb2 (Nat.le_of_lt HS.out)⟩

/-- What Hold makes of it. -/
noncomputable def St.hold (s : St) (who p c : Int) : St := if inB s.N p c = true ∧ oth s who p c = false then s.holdS who p c else s
def canHold (s : St) (who p c : Int) : Bool := inB s.N p c && !oth s who p c
theorem wf_in {N : Nat} {p c : Int} (hN : N ≤ 32) (h : inB N p c = true) : Wf p ∧ Wf c := by
  obtain ⟨h1, h2, h3, h4⟩ := inB_iff.1 h
  have hmin : IntKind.i64.min = -9223372036854775808 := rfl
  have hmax : IntKind.i64.max = 9223372036854775807 := rfl
  unfold Wf
  simp only [Lit.wf, Bool.and_eq_true, decide_eq_true_eq]
  omega
set_option maxRecDepth 100000 in
theorem hold_g (w : World) {g b1 b2 n : Nat} {s : St} (h : GA w g b1 b2 n s) (hn : n < maxLen) {p c who : Int} (hp : Wf p) (hc : Wf c) (hw : Wf who) :
    Calls Try.prog 11 #[.pointer (some ⟨g, 0, none⟩), .int .i64 who, .agg #[.int .i64 p, .int .i64 c]] w fun e w' => e = .returned (.bool (canHold s who p c)) ∧ GA w' g b1 b2 (n + 1) (s.hold who p c) ∧ Fr w.heap.size (Bk g b1 b2) w w' := by
  have HB := (Below.refl w.heap.size w).alloc (Nat.le_refl _) (.cells #[.int .i64 p, .int .i64 c] 29)
  have h1 := h.on_ HB
  have hl := Lib.hid (has_g (w.alloc (.cells #[.int .i64 p, .int .i64 c] 29)) h1.c.1 h1.glt p c)
  have c2 := (al_new w #[.int .i64 p, .int .i64 c] 29 0).1
  have c3 := (al_new w #[.int .i64 p, .int .i64 c] 29 1).1
  have hsz : w.heap.size < (w.alloc (.cells #[.int .i64 p, .int .i64 c] 29)).heap.size := by simp
  have HFH := Lib.hid ((Fr.refl w.heap.size (Bk g b1 b2) w).of_below HB (Nat.le_refl _))
  have HH := Lib.hid h1
  have HS := Lib.hid hsz
  have HP := Lib.hid (And.intro hp hc)
  have HN := Lib.hid hn
  have HW := Lib.hid hw
  clear h HB h1 hsz hp hc hn hw
  cases hi : inB s.N p c with
  | true =>
    have HI := Lib.hid hi
    rw [hi] at hl
    clear hi
    cases ho : oth s who p c with
    | false =>
      have HO := Lib.hid ho
      clear ho
      go_enter Try.func11, Try.ntmps11
      go_upto_region 1 with fail
      generalize (w.alloc (.cells #[.int .i64 p, .int .i64 c] 29)) = w1 at *
      go_upto_region 3 with (first
        | (go_at_call 20; refine hl.out.mono ?_; rintro e w2 ⟨rfl, hb2⟩; have c2' := (hb2.cell (p := ⟨w.heap.size, 0, none⟩) HS.out).trans c2; have c3' := (hb2.cell (p := ⟨w.heap.size, 1, none⟩) HS.out).trans c3)
        | (go_at_call 22; refine (oth_g w2 (HH.out.on_ hb2) HP.out.1 HP.out.2 who).mono ?_; rintro e w3 ⟨rfl, hb3⟩; rw [HO.out]))
      have hs2 := Nat.lt_of_lt_of_le HS.out hb2.size
      have h3 := (HH.out.on_ hb2).on_ hb3
      have HF3 := (HFH.out.of_below hb2 (Nat.le_of_lt HS.out)).of_below hb3 (Nat.le_of_lt hs2)
      have c2'' := (hb3.cell (p := ⟨w.heap.size, 0, none⟩) hs2).trans c2'
      have c3'' := (hb3.cell (p := ⟨w.heap.size, 1, none⟩) hs2).trans c3'
      have h4 := h3.on_ (Below.refl _ _).drew
      obtain ⟨_, _, c1⟩ := h3.c
      obtain ⟨w4, r1, h5, t5⟩ := h4.hold_on HN.out HP.out.1 HP.out.2 HI.out HW.out
      have H5 := Lib.hid h5
      have HF5 := Lib.hid ((HF3.of_below (Below.refl w3.heap.size w3).drew (HF3.size)).turned (b := b2) (Or.inl (Or.inr (Or.inr rfl))) t5)
      clear h3 h4 h5 t5 HF3 hb2 hb3 c2 c3 hl c2' c3' hs2
      go_region
      all_goals go_wp2
      all_goals go_ret
      all_goals exact ⟨by rw [canHold, HI.out, HO.out]; rfl, by rw [St.hold, if_pos ⟨HI.out, HO.out⟩]; exact H5.out, HF5.out⟩
    | true =>
      have HO := Lib.hid ho
      clear ho
      go_enter Try.func11, Try.ntmps11
      go_upto_region 1 with fail
      generalize (w.alloc (.cells #[.int .i64 p, .int .i64 c] 29)) = w1 at *
      go_wp2_with (first
        | (go_at_call 20; refine hl.out.mono ?_; rintro e w2 ⟨rfl, hb2⟩; have c2' := (hb2.cell (p := ⟨w.heap.size, 0, none⟩) HS.out).trans c2; have c3' := (hb2.cell (p := ⟨w.heap.size, 1, none⟩) HS.out).trans c3)
        | (go_at_call 22; refine (oth_g w2 (HH.out.on_ hb2) HP.out.1 HP.out.2 who).mono ?_; rintro e w3 ⟨rfl, hb3⟩; rw [HO.out]))
      go_ret
      exact ⟨by rw [canHold, HI.out, HO.out]; rfl, by rw [St.hold, if_neg (fun e => by rw [HO.out] at e; cases e.2)]; exact ((HH.out.on_ hb2).on_ hb3).mono (Nat.le_succ n), (HFH.out.of_below hb2 (Nat.le_of_lt HS.out)).of_below hb3 (Nat.le_of_lt (Nat.lt_of_lt_of_le HS.out hb2.size))⟩
  | false =>
    have HI := Lib.hid hi
    rw [hi] at hl
    clear hi
    go_enter Try.func11, Try.ntmps11
    go_upto_region 1 with fail
    generalize (w.alloc (.cells #[.int .i64 p, .int .i64 c] 29)) = w1 at *
    go_wp2_with (go_at_call 20; refine hl.out.mono ?_; rintro e w2 ⟨rfl, hb2⟩)
    go_ret
    exact ⟨by rw [canHold, HI.out]; rfl, by rw [St.hold, if_neg (fun e => by rw [HI.out] at e; cases e.1)]; exact (HH.out.on_ hb2).mono (Nat.le_succ n), HFH.out.of_below hb2 (Nat.le_of_lt HS.out)⟩

/-- How many pages New makes of a number. -/
def pgs (x : Int) : Nat := (min (max x 0) 32).toNat
def St.new (N : Nat) : St := ⟨N, fun _ _ => false, fun _ _ => none⟩
theorem St.new_ok {N : Nat} (h : N ≤ 32) : (St.new N).Ok := ⟨h, fun _ _ e => (by cases e), fun _ _ _ e => (by cases e)⟩
theorem pgs_le (x : Int) : pgs x ≤ 32 := by unfold pgs; omega
theorem made3 (w : World) (z : Int) (T : TypeId) : ∃ w3 : World, ((w.alloc (.map #[] 0)).alloc (.map #[] 0)).alloc (.cells #[.int .i64 z, .map (some w.heap.size), .map (some (w.heap.size + 1))] T) = w3 ∧
    w3.heap[w.heap.size + 1 + 1]? = some (.cells #[.int .i64 z, .map (some w.heap.size), .map (some (w.heap.size + 1))] T (0, 0)) ∧ RM w3 w.heap.size 0 (fun _ _ => none) ∧ RM w3 (w.heap.size + 1) 0 (fun _ _ => none) ∧ Below w.heap.size w w3 := by
  have s1 : (w.alloc (.map #[] 0)).heap.size = w.heap.size + 1 := by simp
  have s2 : ((w.alloc (.map #[] 0)).alloc (.map #[] 0)).heap.size = w.heap.size + 1 + 1 := by simp
  have B1 : Below w.heap.size w (w.alloc (.map #[] 0)) := (Below.refl _ _).alloc (Nat.le_refl _) _
  have B2 := B1.alloc (by omega) (.map #[] 0)
  have B3 := B2.alloc (by omega) (.cells #[.int .i64 z, .map (some w.heap.size), .map (some (w.heap.size + 1))] T)
  refine ⟨_, rfl, ?_, ?_, ?_, B3⟩
  · rw [← s2]; exact heap_alloc_new_ _ _
  · exact ((RM.made w).of_block (Below.heap_alloc _ _ _ (by omega))).of_block (Below.heap_alloc _ _ _ (by omega))
  · have := (RM.made (w.alloc (.map #[] 0))).of_block (Below.heap_alloc _ (.cells #[.int .i64 z, .map (some w.heap.size), .map (some (w.heap.size + 1))] T) _ (by omega))
    rwa [s1] at this
set_option maxRecDepth 100000 in
theorem new_g (w : World) (x : Int) : Calls Try.prog 7 #[.int .i64 x] w fun e w' => ∃ g b1 b2, e = .returned (.pointer (some ⟨g, 0, none⟩)) ∧ GA w' g b1 b2 0 (St.new (pgs x)) ∧ Below w.heap.size w w' ∧ (∀ k, Bk g b1 b2 k → w.heap.size ≤ k) := by
  have hmk := @run_makeMap Try.prog
  have fin : ∀ z : Int, z = (pgs x : Int) → ∀ w3, ((w.alloc (.map #[] 0)).alloc (.map #[] 0)).alloc (.cells #[.int .i64 z, .map (some w.heap.size), .map (some (w.heap.size + 1))] 49) = w3 →
      GA w3 (w.heap.size + 1 + 1) w.heap.size (w.heap.size + 1) 0 (St.new (pgs x)) ∧ Below w.heap.size w w3 ∧ (∀ k, Bk (w.heap.size + 1 + 1) w.heap.size (w.heap.size + 1) k → w.heap.size ≤ k) := by
    rintro z rfl w3 hw
    obtain ⟨w3', e, h1, h2, h3, h4⟩ := made3 w (pgs x) 49
    obtain rfl : w3' = w3 := e.symm.trans hw
    exact ⟨⟨h1, h2.congr fun _ _ _ _ => rfl, h3.congr fun _ _ _ _ => rfl, by omega, St.new_ok (pgs_le x)⟩, h4, fun k hk => by unfold Bk at hk; omega⟩
  have HF := Lib.hid fin
  clear fin
  go_enter Try.func7, Try.ntmps7
  go_wp2
  all_goals go_ret
  all_goals exact ⟨_, rfl, _, _, HF.out _ (by unfold pgs; omega) _ rfl⟩
end Go.Proofs.Ytffflafafpdjdaa
