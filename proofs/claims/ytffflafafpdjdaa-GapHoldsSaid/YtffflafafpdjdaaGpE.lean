/- Free of the program: maps.DeleteFunc at a closure. -/
import Derived.Test.YtffflafafpdjdaaGpD
import Derived.Deep.LoopGhost
namespace Go.Proofs.Ytffflafafpdjdaa
open Go.RowKit Go.Maps Go.WideMaps

theorem keyR_inv {key : Value} {kl : Lit} (h : keyOf Try.prog 29 key = some kl) : ∃ p c, key = rid p c ∧ Wf p ∧ Wf c ∧ kl = rL p c := by
  obtain ⟨d, hd⟩ := typesz
  unfold keyOf at h
  rw [Try.underlying29] at h
  simp only [keyT, Bool.true_and] at h
  rw [hd] at h
  split at h
  · rename_i hf
    cases key <;> simp [Value.formed, Try.underlying29, cellsT] at hf
    rename_i xs
    obtain ⟨l⟩ := xs
    match l, hf with
    | [x, y], _ =>
      rw [show (Value.agg (List.toArray [x, y])).cells.toList = [x, y] from rfl] at h
      cases x <;> simp [Program.keyLits, Try.underlying29, Try.underlying3, cellsT, cellsI] at h
      rename_i k1 n1 _
      by_cases h1 : k1 = IntKind.i64 ∧ (Lit.int IntKind.i64 n1).wf = true
      · rw [if_pos h1] at h
        cases y <;> simp at h
        rename_i k2 n2 _
        by_cases h2 : k2 = IntKind.i64 ∧ (Lit.int IntKind.i64 n2).wf = true
        · rw [if_pos h2] at h
          obtain ⟨rfl, w1⟩ := h1
          obtain ⟨rfl, w2⟩ := h2
          refine ⟨n1, n2, rfl, w1, w2, ?_⟩
          simpa [rL] using h.symm
        · rw [if_neg h2] at h
          simp at h
      · rw [if_neg h1] at h
        simp at h
  · cases h

theorem ranges_kept {w w' : World} {k b r n : Nat} {D : DataW Value} {left : Lit → Bool} {cnt : Nat} (h : w.ranges Try.prog k tokR b r n D left cnt) (hb : w'.heap[b]? = w.heap[b]?) (hr : w'.heap[r]? = w.heap[r]?) : w'.ranges Try.prog k tokR b r n D left cnt := by
  obtain ⟨es, clock, since, seen, c0, h1, h2, h3, h4, h5, h6⟩ := h
  exact ⟨es, clock, since, seen, c0, hb.trans h1, h2, h3, h4, hr.trans h5, h6⟩
theorem Fr.grown {B : Nat} {S : Nat → Prop} {a w w' : World} {row : Option Nat} (h : Fr B S a w) (hg : w.grownBy w' row) (hr : ∀ k, row = some k → S k ∨ B ≤ k) (hB : B ≤ w.heap.size) : Fr B S a w' :=
  ⟨hg.os.trans h.os, hg.tape.trans h.tape, hg.output.trans h.output, Nat.le_trans h.size hg.size, fun k hk hn => (hg.block k (by omega) fun e => (hr k e.symm).elim hn (by omega)).trans (h.block k hk hn)⟩

set_option maxRecDepth 100000 in
/-- The closure that Free hands over. -/
theorem clo_g (w : World) {bx : Nat} {who : Int} (hb : w.cell? ⟨bx, 0, none⟩ = some (.int .i64 who)) (hl : bx < w.heap.size) (p c v : Int) :
    Calls Try.prog 24 #[.agg #[.int .i64 p, .int .i64 c], .int .i64 v, .pointer (some ⟨bx, 0, none⟩)] w fun e w' => e = .returned (.bool (v == who)) ∧ Below w.heap.size w w' := by
  have h1 := (al_old (o := .cells #[.int .i64 p, .int .i64 c] 29) (a := ⟨bx, 0, none⟩) hl).trans hb
  have HB := Lib.hid ((Below.refl w.heap.size w).alloc (Nat.le_refl _) (.cells #[.int .i64 p, .int .i64 c] 29))
  clear hb hl
  go_enter Try.func24, Try.ntmps24
  go_wp2
  go_ret
  exact ⟨rfl, HB.out⟩

/-- Who holds what when one holds nothing. -/
def freeH (h : Int → Int → Option Int) (who : Int) : Int → Int → Option Int := fun p c => if h p c = some who then none else h p c
def midH (h : Int → Int → Option Int) (who : Int) (left : Lit → Bool) : Int → Int → Option Int := fun p c => if h p c = some who ∧ left (rL p c) = false then none else h p c
theorem rL_same (p c : Int) : (rL p c).sameKey (rL p c) = true := WideAt.sameKey_self trivial
theorem invVV : ∀ v y, tokR v = some y → ∃ c, v = (id : Value → Value) c := fun v _ _ => ⟨v, rfl⟩
theorem invKR : ∀ key kl, keyOf Try.prog 29 key = some kl → ∃ x, key = (fun x : Int × Int => Value.agg #[.int .i64 x.1, .int .i64 x.2]) x := fun key kl h => by
  obtain ⟨p, c, rfl, _⟩ := keyR_inv h
  exact ⟨(p, c), rfl⟩

/-- Between two rounds of DeleteFunc. -/
structure Df (wr w : World) (b r n bx : Nat) (h : Int → Int → Option Int) (who : Int) (D : DataW Value) (left : Lit → Bool) (cnt : Nat) : Prop where
  rg : wr.ranges Try.prog 29 tokR b r n D left cnt
  at_ : ∀ p c, Wf p → Wf c → atL D (rL p c) = hG (midH h who left) p c
  bl : Fr w.heap.size (fun k => k = b) w wr
theorem Df.step {wr w w1 : World} {b r n bx : Nat} {h : Int → Int → Option Int} {who : Int} {D : DataW Value} {left : Lit → Bool} {cnt cnt' : Nat} (H : Df wr w b r n bx h who D left cnt) {p c : Int} (hp : Wf p) (hc : Wf c) (hne : h p c ≠ some who)
    (hrg : w1.ranges Try.prog 29 tokR b r n D (fun z => left z && !z.sameKey (rL p c)) cnt') (hf : Fr w.heap.size (fun k => k = b) w w1) : Df w1 w b r n bx h who D (fun z => left z && !z.sameKey (rL p c)) cnt' := by
  refine ⟨hrg, fun x y hx hy => ?_, hf⟩
  rw [H.at_ x y hx hy]
  unfold hG midH
  by_cases e : x = p ∧ y = c
  · obtain ⟨rfl, rfl⟩ := e
    simp [hne]
  · have : (rL x y).sameKey (rL p c) = false := by
      cases hs : (rL x y).sameKey (rL p c)
      · rfl
      · exact absurd (rL_inj hx hy hp hc (WideAt.sameKey_eq hs)) e
    simp [this]
theorem Df.struck {wr w w1 : World} {b r n bx : Nat} {h : Int → Int → Option Int} {who : Int} {D : DataW Value} {left : Lit → Bool} {cnt cnt' : Nat} (H : Df wr w b r n bx h who D left cnt) {p c : Int} (hp : Wf p) (hc : Wf c) (he : h p c = some who)
    (hrg : w1.ranges Try.prog 29 tokR b r n (D.del (rL p c)) (fun z => left z && !z.sameKey (rL p c)) cnt') (hf : Fr w.heap.size (fun k => k = b) w w1) : Df w1 w b r n bx h who (D.del (rL p c)) (fun z => left z && !z.sameKey (rL p c)) cnt' := by
  refine ⟨hrg, fun x y hx hy => ?_, hf⟩
  rw [atL_del]
  by_cases e : x = p ∧ y = c
  · obtain ⟨rfl, rfl⟩ := e
    rw [updL_same]
    unfold hG midH
    simp [he, rL_same]
  · rw [updL_other _ (fun e2 => e (rL_inj hx hy hp hc e2)), H.at_ x y hx hy]
    have : (rL x y).sameKey (rL p c) = false := by
      cases hs : (rL x y).sameKey (rL p c)
      · rfl
      · exact absurd (rL_inj hx hy hp hc (WideAt.sameKey_eq hs)) e
    unfold hG midH
    simp [this]

theorem has_of {D : DataW Value} {l : Lit} {v : Value} (h : atL D l = some v) : has D l = true := by
  cases hh : has D l with
  | true => rfl
  | false =>
    unfold atL at h
    rw [atKey_of_not_has hh] at h
    cases h

set_option maxRecDepth 100000 in
set_option maxHeartbeats 1000000 in
theorem df_g (w : World) {b n bx : Nat} {h : Int → Int → Option Int} {who : Int} (H : RM w b n (hG h)) (hx : w.cell? ⟨bx, 0, none⟩ = some (.int .i64 who)) (hxl : bx < w.heap.size) :
    Calls Try.prog 23 #[.map (some b), .func (.func 24) #[] #[.pointer (some ⟨bx, 0, none⟩)]] w fun e w' => e = .returned (.tuple #[]) ∧ RM w' b n (hG (freeH h who)) ∧ Fr w.heap.size (fun k => k = b) w w' := by
  have hbx : bx ≠ b := by
    rintro rfl
    obtain ⟨F', ⟨D, ⟨es, clock, hb, _⟩, _⟩, _⟩ := H
    simp [World.cell?, hb] at hx
  obtain ⟨F, ⟨D, hown, hD⟩, hF⟩ := H
  have HA : Hid (∀ p c, Wf p → Wf c → atL D (rL p c) = hG h p c) := fun p c hp hc => (hD _ (kR.key (keyR hp hc))).symm.trans (hF p c hp hc)
  have HX := Lib.hid hx
  have HXL := Lib.hid hxl
  have HBX := Lib.hid hbx
  have HBL := Lib.hid hown.lt
  clear hD hF hx hxl hbx
  go_enter Try.func23, Try.ntmps23
  go_wp2_with (first
    | (at_range; refine wpList_range_own _ rfl _ 47 rfl 29 3 kR Try.underlying47 _ b n D rfl hown ?_; intro w2 hrg2 hg2 hs2)
    | go_in)
  have R0 : Hid (∃ D left cnt, Df w2 w b w.heap.size n bx h who D left cnt) := ⟨D, _, _, hrg2, fun p c hp hc => by
    rw [HA.out p c hp hc]
    unfold hG midH
    by_cases e : h p c = some who
    · have : has D (rL p c) = true := has_of (v := .int .i64 who) (by rw [HA.out p c hp hc]; unfold hG; rw [e]; rfl)
      simp [this]
    · simp [e], (Fr.refl _ _ _).grown hg2 (fun k hk => by cases hk) (Nat.le_refl _)⟩
  clear hrg2 hg2 hs2 hown HA
  go_frame
  go_loopw [4, 5] (fun _ _ wr => Hid (∃ D left cnt, Df wr w b w.heap.size n bx h who D left cnt)) (fun _ _ wr => wr.rangeLeft b w.heap.size)
  case atStart => exact R0
  case round =>
    obtain ⟨D, left, cnt, hG⟩ := hrel.out
    clear hrel R0
    have HG := Lib.hid hG
    have hrg := hG.rg
    have HLE := Lib.hid hrg.left_eq
    clear hG
    go_wp2_with (first
      | (at_next; refine wpList_next_ranges _ rfl _ rfl 29 kR tokR (fun x : Int × Int => .agg #[.int .i64 x.1, .int .i64 x.2]) (id : Value → Value) invKR invVV b w.heap.size n D left cnt rfl hrg ?_ ?_)
      | go_in)
    · intro _ hl0
      clear hrg
      go_wp2
      go_end0
      exact ⟨rfl, ⟨atL D, ⟨D, HG.out.rg.owns, fun _ _ => rfl⟩, fun p c hp hc => by rw [HG.out.at_ p c hp hc]; unfold hG midH freeH; simp [hl0]⟩, HG.out.bl⟩
    · intro p' c' v kl yd ps w2 cnt2 hkx hlx hyy hat hrg2 hlt2 hg2 hs2 hen
      obtain ⟨p, c, hpc, hp, hc, rfl⟩ := keyR_inv hkx
      obtain ⟨rfl, rfl⟩ : p' = p ∧ c' = c := by simpa [rid] using hpc
      obtain ⟨rfl, rfl⟩ := Prod.mk.inj (Option.some.inj hyy)
      clear hyy hkx hpc
      have ha : atL D (rL p' c') = some v := by unfold atL; rw [hat .nil]
      obtain ⟨y, hy, rfl⟩ : ∃ y, h p' c' = some y ∧ v = .int .i64 y := by
        rw [HG.out.at_ p' c' hp hc] at ha
        unfold hG midH at ha
        rw [if_neg (by rw [hlx]; simp)] at ha
        cases hh : h p' c' with
        | none => rw [hh] at ha; cases ha
        | some y => rw [hh] at ha; exact ⟨y, rfl, (Option.some.inj ha).symm⟩
      have HP := Lib.hid (And.intro hp hc)
      have HY := Lib.hid hy
      have HF2 := Lib.hid (HG.out.bl.grown hg2 (fun k hk => by cases hk; exact Or.inr (Nat.le_refl _)) HG.out.bl.size)
      have HRG2 := Lib.hid hrg2
      have HLT := Lib.hid hlt2
      have hsz := HF2.out.size
      clear hp hc hy ha hat hlx hrg2 hlt2 hg2 hs2 hrg
      have hr2 := HRG2.out.lt
      have hb2 := HRG2.out.owns.lt
      go_upto_region 3 with fail
      have HB3 := (Below.refl w2.heap.size w2).alloc (Nat.le_refl _) (.cells #[.int .i64 p', .int .i64 c'] 29)
      have c2 := (al_new w2 #[.int .i64 p', .int .i64 c'] 29 0).1
      have c3 := (al_new w2 #[.int .i64 p', .int .i64 c'] 29 1).1
      have hx2 : w2.cell? ⟨bx, 0, none⟩ = some (.int .i64 who) := (World.cell?_of_block (HF2.out.block bx HXL.out HBX.out)).trans HX.out
      have hxl2 := Nat.lt_of_lt_of_le HXL.out hsz
      have hx3 := (al_old (o := .cells #[.int .i64 p', .int .i64 c'] 29) (a := ⟨bx, 0, none⟩) hxl2).trans hx2
      have hs3 : w2.heap.size < (w2.alloc (.cells #[.int .i64 p', .int .i64 c'] 29)).heap.size := by simp
      have HRG3 := Lib.hid (ranges_kept HRG2.out (HB3.block b hb2) (HB3.block w.heap.size hr2))
      have HF3 := Lib.hid (HF2.out.of_below HB3 hsz)
      generalize (w2.alloc (.cells #[.int .i64 p', .int .i64 c'] 29)) = w3 at *
      have CT := Lib.hid (clo_g w3 hx3 (Nat.lt_trans hxl2 hs3) p' c' y)
      clear HB3 hx2 hx3 HRG2 HF2
      by_cases hw : y = who
      · subst hw
        have hd : (y == y) = true := by simp
        rw [hd] at CT
        clear hd
        go_wp2_with (first
          | (go_at_call 24; refine CT.out.mono ?_; rintro e w4 ⟨rfl, hb4⟩; have c2' := (hb4.cell (p := ⟨w2.heap.size, 0, none⟩) hs3).trans c2; have c3' := (hb4.cell (p := ⟨w2.heap.size, 1, none⟩) hs3).trans c3)
          | (at_delete; have hrg4 := ranges_kept HRG3.out (hb4.block b (Nat.lt_trans hb2 hs3)) (hb4.block w.heap.size (Nat.lt_trans hr2 hs3)); refine wpList_delete_ranges _ rfl _ _ 47 29 rfl 3 kR Try.underlying47 tokR b w.heap.size n _ _ _ rfl hrg4 _ _ rfl (keyR HP.out.1 HP.out.2) ?_; intro w5 cnt5 hrg5 hle5 ht5; go_frame)
          | go_in)
        have HF4 := Lib.hid (HF3.out.of_below hb4 (Nat.le_trans hsz (Nat.le_of_lt hs3)))
        rw [strike_twice] at hrg5
        go_roundw
        case rel => exact ⟨_, _, cnt5, HG.out.struck HP.out.1 HP.out.2 HY.out hrg5 (HF4.out.turned (Or.inl rfl) ht5)⟩
        case measure => rw [hrg5.left_eq, HLE.out]; exact Nat.lt_of_le_of_lt hle5 HLT.out
      · have hd : (y == who) = false := by simpa using hw
        rw [hd] at CT
        go_wp2_with (first
          | (go_at_call 24; refine CT.out.mono ?_; rintro e w4 ⟨rfl, hb4⟩)
          | go_in)
        have hrg4 := ranges_kept HRG3.out (hb4.block b (Nat.lt_trans hb2 hs3)) (hb4.block w.heap.size (Nat.lt_trans hr2 hs3))
        go_roundw
        case rel => exact ⟨_, _, cnt2, HG.out.step HP.out.1 HP.out.2 (by rw [HY.out]; intro e; exact hw (Option.some.inj e)) hrg4 (HF3.out.of_below hb4 (Nat.le_trans hsz (Nat.le_of_lt hs3)))⟩
        case measure => rw [hrg4.left_eq, HLE.out]; exact HLT.out

def St.free (s : St) (who : Int) : St := { s with h := freeH s.h who }
theorem St.Ok.free {s : St} (h : s.Ok) (who : Int) : (s.free who).Ok := ⟨h.le, h.ub, fun p c v e => by
  have e' : freeH s.h who p c = some v := e
  unfold freeH at e'
  split at e'
  · cases e'
  · exact h.hb p c v e'⟩
set_option maxRecDepth 100000 in
theorem free_g (w : World) {g b1 b2 n : Nat} {s : St} (h : GA w g b1 b2 n s) (who : Int) :
    Calls Try.prog 13 #[.pointer (some ⟨g, 0, none⟩), .int .i64 who] w fun e w' => e = .returned (.tuple #[]) ∧ GA w' g b1 b2 n (s.free who) ∧ Fr w.heap.size (Bk g b1 b2) w w' := by
  have HB := (Below.refl w.heap.size w).alloc (Nat.le_refl _) (.cells #[.int .i64 who] 3)
  have h1 := h.on_ HB
  obtain ⟨_, _, c1⟩ := h1.c
  have c2 := (al_new w #[.int .i64 who] 3 0).1
  have hsz : w.heap.size < (w.alloc (.cells #[.int .i64 who] 3)).heap.size := by simp
  have HF := Lib.hid ((Fr.refl w.heap.size (Bk g b1 b2) w).of_below HB (Nat.le_refl _))
  have CT := Lib.hid (df_g _ h1.h c2 hsz)
  have HH := Lib.hid h1
  have HS := Lib.hid hsz
  clear h h1 HB hsz
  go_enter Try.func13, Try.ntmps13
  go_upto_region 1 with fail
  generalize (w.alloc (.cells #[.int .i64 who] 3)) = w1 at *
  go_wp2_with (go_at_call 23; refine CT.out.mono ?_; rintro e w2 ⟨rfl, hrm, hf⟩)
  go_end0
  have hf2 : Fr w1.heap.size (Bk g b1 b2) w1 w2 := ⟨hf.os, hf.tape, hf.output, hf.size, fun k hk hn => hf.block k hk (fun e => hn (Or.inr (Or.inr e)))⟩
  have hF := HF.out
  refine ⟨rfl, ⟨(hf.block g HH.out.glt (fun e => HH.out.h.not_cells (e ▸ HH.out.hp))).trans HH.out.hp, HH.out.u.of_block (hf.block b1 HH.out.u.lt HH.out.ne), hrm, HH.out.ne, HH.out.ok.free who⟩,
    ⟨hf2.os.trans hF.os, hf2.tape.trans hF.tape, hf2.output.trans hF.output, Nat.le_trans hF.size hf2.size, fun k hk hn => (hf2.block k (Nat.lt_trans hk HS.out) hn).trans (hF.block k hk hn)⟩⟩
set_option maxRecDepth 100000 in
theorem free_nil (w : World) (who : Int) :
    Calls Try.prog 13 #[.pointer none, .int .i64 who] w fun e w' => e = .returned (.tuple #[]) ∧ Below w.heap.size w w' := by
  have HB := Lib.hid ((Below.refl w.heap.size w).alloc (Nat.le_refl _) (.cells #[.int .i64 who] 3))
  go_enter Try.func13, Try.ntmps13
  go_wp2
  refine bodyPost_ret (results_none rfl _ _ _) rfl ?_
  exact ⟨rfl, HB.out⟩
set_option maxRecDepth 100000 in
theorem has_nil (w : World) (p c : Int) :
    Calls Try.prog 20 #[.pointer none, .agg #[.int .i64 p, .int .i64 c]] w fun e w' => e = .returned (.bool false) ∧ Below w.heap.size w w' := by
  have HB := Lib.hid ((Below.refl w.heap.size w).alloc (Nat.le_refl _) (.cells #[.int .i64 p, .int .i64 c] 29))
  have c2 := (al_new w #[.int .i64 p, .int .i64 c] 29 0).1
  have c3 := (al_new w #[.int .i64 p, .int .i64 c] 29 1).1
  go_enter Try.func20, Try.ntmps20
  go_upto_region 1 with fail
  generalize (w.alloc (.cells #[.int .i64 p, .int .i64 c] 29)) = w1 at *
  go_quiet (fail)
  go_wp2
  go_ret
  exact ⟨rfl, below_drewN HB.out _⟩
set_option maxRecDepth 100000 in
theorem use_nil (w : World) (p c : Int) (v : Bool) :
    Calls Try.prog 9 #[.pointer none, .agg #[.int .i64 p, .int .i64 c], .bool v] w fun e w' => e = .returned (.bool false) ∧ Below w.heap.size w w' := by
  have HB := (Below.refl w.heap.size w).alloc (Nat.le_refl _) (.cells #[.int .i64 p, .int .i64 c] 29)
  have c2 := (al_new w #[.int .i64 p, .int .i64 c] 29 0).1
  have c3 := (al_new w #[.int .i64 p, .int .i64 c] 29 1).1
  have CT := Lib.hid (has_nil (w.alloc (.cells #[.int .i64 p, .int .i64 c] 29)) p c)
  have HBH := Lib.hid HB
  clear HB
  go_enter Try.func9, Try.ntmps9
  go_upto_region 1 with fail
  generalize (w.alloc (.cells #[.int .i64 p, .int .i64 c] 29)) = w1 at *
  go_wp2_with (go_at_call 20; refine CT.out.mono ?_; rintro e w2 ⟨rfl, hb2⟩)
  go_ret
  exact ⟨rfl, HBH.out.trans (hb2.mono HBH.out.size)⟩
set_option maxRecDepth 100000 in
theorem hold_nil (w : World) (who p c : Int) :
    Calls Try.prog 11 #[.pointer none, .int .i64 who, .agg #[.int .i64 p, .int .i64 c]] w fun e w' => e = .returned (.bool false) ∧ Below w.heap.size w w' := by
  have HB := (Below.refl w.heap.size w).alloc (Nat.le_refl _) (.cells #[.int .i64 p, .int .i64 c] 29)
  have c2 := (al_new w #[.int .i64 p, .int .i64 c] 29 0).1
  have c3 := (al_new w #[.int .i64 p, .int .i64 c] 29 1).1
  have CT := Lib.hid (has_nil (w.alloc (.cells #[.int .i64 p, .int .i64 c] 29)) p c)
  have HBH := Lib.hid HB
  clear HB
  go_enter Try.func11, Try.ntmps11
  go_upto_region 1 with fail
  generalize (w.alloc (.cells #[.int .i64 p, .int .i64 c] 29)) = w1 at *
  go_wp2_with (go_at_call 20; refine CT.out.mono ?_; rintro e w2 ⟨rfl, hb2⟩)
  go_ret
  exact ⟨rfl, HBH.out.trans (hb2.mono HBH.out.size)⟩
end Go.Proofs.Ytffflafafpdjdaa
