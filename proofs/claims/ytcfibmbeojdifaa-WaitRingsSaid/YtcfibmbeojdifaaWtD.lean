/- The graph in memory: Gone. -/
import Derived.Test.YtcfibmbeojdifaaWtC
namespace Go.Proofs.Ytcfibmbeojdifaa
open Go.RowKit Go.Maps Go.WideMaps

theorem Fr.grown {B : Nat} {S : Nat → Prop} {a w w' : World} {row : Option Nat} (h : Fr B S a w) (hg : w.grownBy w' row) (hr : ∀ k, row = some k → S k ∨ B ≤ k) (hB : B ≤ w.heap.size) : Fr B S a w' :=
  ⟨hg.os.trans h.os, hg.tape.trans h.tape, hg.output.trans h.output, Nat.le_trans h.size hg.size, fun k hk hn => (hg.block k (by omega) fun e => (hr k e.symm).elim hn (by omega)).trans (h.block k hk hn)⟩

/-- What is left of the edges while Gone goes through those who wait. -/
def midE (es : List (Int × Int)) (who : Int) (left : Lit → Bool) : List (Int × Int) := es.filter fun q => left (iL q.1) || decide (q.2 ≠ who)
theorem mem_midE {es : List (Int × Int)} {who : Int} {left : Lit → Bool} {x y : Int} : (x, y) ∈ midE es who left ↔ (x, y) ∈ es ∧ (left (iL x) = true ∨ y ≠ who) := by
  simp [midE]
theorem mid_step {es : List (Int × Int)} {who : Int} {left : Lit → Bool} {x : Int} (hl : left (iL x) = true) (a c : Int) : (a, c) ∈ (midE es who left).filter (fun q => decide (q ≠ (x, who))) ↔ (a, c) ∈ midE es who (fun z => left z && !z.sameKey (.int .i64 x)) := by
  rw [List.mem_filter, mem_midE, mem_midE, show (iL a).sameKey (Lit.int .i64 x) = decide (a = x) from same_iL x a]
  by_cases e : a = x
  · subst e
    simp [hl]
  · simp [e]

/-- Between two rounds. -/
structure Gn (wr w : World) (B p b r n : Nat) (es : List (Int × Int)) (who : Int) (D : DataW Value) (left : Lit → Bool) (cnt : Nat) (o0 ob : Lit → Option Nat) : Prop where
  rg : wr.ranges Try.prog 3 tokR b r n D left cnt
  ln : ∀ l, WideAt.IsKeyLit l → (ob l).map (fun c => Value.map (some c)) = atL D l
  g : GrAt wr B p b n (midE es who left) ob
  bl : Tn w wr b o0 ob

theorem gn_tidied {w0 w1 w' : World} {B p b r n : Nat} {es : List (Int × Int)} {who x : Int} {D : DataW Value} {left : Lit → Bool} {cnt : Nat} {o0 ob : Lit → Option Nat} (h : Gn w1 w0 B p b r n es who D left cnt o0 ob) (hl : left (iL x) = false) (hx : Wf x)
    (ht : w' = w1 ∨ ((∀ y, (x, y) ∉ midE es who left) ∧ ∀ ty, (Builtin.delete_ #[48, 3] ty #[.map (some b), .int .i64 x]).run Try.prog w1 = .ok (.tuple #[]) w')) : ∃ D' ob' cnt', cnt' ≤ cnt ∧ Gn w' w0 B p b r n es who D' left cnt' o0 ob' := by
  rcases ht with rfl | ⟨hno, hr⟩
  · exact ⟨D, ob, cnt, Nat.le_refl _, h⟩
  · obtain ⟨w2, r2, g2, t2⟩ := h.g.m.out.drop kI Try.underlying48 (keyI hx)
    have e := (hr 0).symm.trans (r2 0)
    injection e with _ e
    subst e
    obtain ⟨w3, cnt', r3, rg3, hc3, _⟩ := h.rg.drop kI Try.underlying48 (keyI hx) 0
    have e := (hr 0).symm.trans r3
    injection e with _ e
    subst e
    have el : (fun z : Lit => left z && !z.sameKey (iL x)) = left := by
      funext z
      cases hz : left z with
      | false => rfl
      | true =>
        cases hs : z.sameKey (iL x) with
        | false => rfl
        | true =>
          have := WideAt.sameKey_eq hs
          rw [this, hl] at hz
          cases hz
    rw [el] at rg3
    refine ⟨_, _, cnt', hc3, rg3, fun l hk => ?_, (h.g.del_out t2 g2).eqv fun a c => ?_, h.bl.trans ⟨(Fr.refl _ _ _).turned (Or.inl (Or.inl rfl)) t2, fun c hc => Or.inl (delO_mem hc)⟩⟩
    · rw [atL_del]
      unfold delO
      by_cases e : l = iL x
      · subst e; rw [updL_same, updL_same]; rfl
      · rw [updL_other _ e, updL_other _ e]; exact h.ln l hk
    · simp only [List.mem_filter, decide_eq_true_eq]
      exact ⟨fun h => h.1, fun h => ⟨h, fun e => hno c (e ▸ h)⟩⟩

set_option maxRecDepth 100000 in
set_option maxHeartbeats 1000000 in
theorem gone_any (w : World) {B p b n : Nat} {es : List (Int × Int)} {ob : Lit → Option Nat} (h : GrAt w B p b n es ob) {who : Int} (hx : Wf who) :
    Calls Try.prog 11 #[.pointer (some ⟨p, 0, none⟩), .int .i64 who] w fun e w' => e = .returned (.tuple #[]) ∧ ∃ ob', GrAt w' B p b n (goneE es who) ob' ∧ Below B w w' ∧ Tn w w' b ob ob' := by
  have c0 := h.c0
  obtain ⟨w1, r1, g1, t1⟩ := h.m.out.drop kI Try.underlying48 (keyI hx)
  have G1 := h.del_out t1 g1
  have hb1 : Tn w w1 b ob (delO ob (iL who)) := ⟨(Fr.refl _ _ _).turned (Or.inl (Or.inl rfl)) t1, fun c hc => Or.inl (delO_mem hc)⟩
  have HH := Lib.hid h
  have c1 := G1.c0
  have HX := Lib.hid hx
  have HB1 := Lib.hid hb1
  have HG1 := Lib.hid G1
  clear h g1 t1 G1 hb1 hx
  go_enter Try.func11, Try.ntmps11
  go_upto_region 2 with (first | (at_delete; refine wpList_delete_run _ rfl _ _ _ _ rfl _ _ rfl rfl w1 r1 ?_))
  obtain ⟨D, hown, hD⟩ := HG1.out.m.out
  go_wp2_with (first
    | (at_range; refine wpList_range_own _ rfl _ 48 rfl 3 52 kI Try.underlying48 _ b n D rfl hown ?_; intro w2 hrg2 hg2 hs2)
    | go_in)
  have hb2 : Below w1.heap.size w1 w2 := (Below.refl _ _).grown hg2 (Nat.le_refl _) (fun k hk => by cases hk)
  have R0 : Hid (∃ D left cnt ob', Gn w2 w B p b w1.heap.size n (es.filter fun q => decide (q.1 ≠ who)) who D left cnt ob ob') :=
    ⟨D, _, _, _, hrg2, hD, (HG1.out.on_ hb2).eqv fun x y => by
      rw [mem_midE]
      refine ⟨fun hm => ⟨hm, Or.inl ?_⟩, fun hm => hm.1⟩
      have ha := gF_in hm
      have hb : ∃ c, delO ob (iL who) (iL x) = some c := by
        cases ho : delO ob (iL who) (iL x) with
        | some c => exact ⟨c, rfl⟩
        | none => rw [HG1.out.m.non _ ho] at ha; cases ha
      obtain ⟨c, hc⟩ := hb
      have hd := hD (iL x) trivial
      rw [hc] at hd
      exact has_of hd.symm, HB1.out.trans (Tn.ofBelow _ _ hb2)⟩
  have HR : Hid (w.heap.size ≤ w1.heap.size) := HB1.out.fr.size
  clear hrg2 hg2 hs2 hb2 c0 c1 r1 hown hD HB1 HG1
  generalize w1.heap.size = r at *
  generalize hes1 : es.filter (fun q => decide (q.1 ≠ who)) = es1 at *
  have HE1 := Lib.hid hes1
  clear hes1
  go_loopw [4, 5] (fun _ _ wr => Hid (∃ D left cnt ob', Gn wr w B p b r n es1 who D left cnt ob ob')) (fun _ _ wr => wr.rangeLeft b r)
  case atStart => exact R0
  case round =>
    obtain ⟨D, left, cnt, ob', hG⟩ := hrel.out
    clear hrel R0
    have HG := Lib.hid hG
    have hrg := hG.rg
    have HLE := Lib.hid hrg.left_eq
    clear hG
    go_wp2_with (first
      | (at_next; refine wpList_next_ranges _ rfl _ rfl 3 kI tokR (fun x : Int => .int .i64 x) (id : Value → Value) invKI invVV b r n D left cnt rfl hrg ?_ ?_)
      | go_in)
    · intro _ hl0
      clear hrg
      go_wp2
      go_end0
      refine ⟨rfl, ob', HG.out.g.eqv fun a c => ?_, HG.out.bl.below HH.out, HG.out.bl⟩
      rw [mem_midE, mem_goneE, ← HE1.out, List.mem_filter, hl0]
      simp [and_assoc]
    · intro x v kl yd ps w2 cnt2 hkx hlx hyy hat hrg2 hlt2 hg2 hs2 hen
      obtain ⟨x', hx', rfl, hwx⟩ := Maps.keyOf_int_inv Try.underlying3 hkx
      injection hx' with _ hx'
      subst hx'
      obtain ⟨rfl, rfl⟩ := Prod.mk.inj (Option.some.inj hyy)
      clear hyy hkx
      have ha : atL D (iL x) = some v := by unfold atL iL; rw [hat .nil]
      obtain ⟨c, hc, rfl⟩ : ∃ c, ob' (iL x) = some c ∧ v = .map (some c) := by
        have := HG.out.ln (iL x) trivial
        rw [ha] at this
        cases ho : ob' (iL x) with
        | none => rw [ho] at this; cases this
        | some c => rw [ho] at this; exact ⟨c, rfl, (Option.some.inj this).symm⟩
      have G2 : GrAt w2 B p b n (midE es1 who left) ob' := HG.out.g.kept (Nat.le_of_eq hs2.symm) fun d hd => hg2.block d (by rcases hd with hd | rfl; exact HG.out.g.m.lt hd; exact HG.out.g.plt) (by
        rintro e
        cases e
        obtain ⟨_, _, _, _, _, _, _, _, _, hr, _⟩ := hrg
        rcases hd with hd | rfl
        · rcases hd with rfl | ⟨l, hl⟩
          · obtain ⟨D, ⟨es, clock, h1, _⟩, _⟩ := HG.out.g.m.out
            rw [h1] at hr; cases hr
          · obtain ⟨D, ⟨es, clock, h1, _⟩, _⟩ := HG.out.g.m.inn l _ hl
            rw [h1] at hr; cases hr
        · rw [HG.out.g.hp] at hr; cases hr)
      obtain ⟨w3, r3, g3, t3⟩ := (G2.m.inn _ _ hc).drop kI Try.underlying52 (keyI HX.out)
      have G3 := (G2.del_in hc t3 g3).eqv (mid_step hlx)
      have hcr : c ≠ r := ranges_ne hrg2 (G2.m.inn _ _ hc)
      have hcb : c ≠ b := G2.m.ne _ _ hc
      have hrg3 := hrg2.kept t3.grown (fun e => hcb (by cases e; rfl)) (fun e => hcr (by cases e; rfl))
      have hN : Gn w3 w B p b r n es1 who D (fun z => left z && !z.sameKey (.int .i64 x)) cnt2 ob ob' := ⟨hrg3, HG.out.ln, G3, ⟨((HG.out.bl.fr.grown hg2 (fun k hk => by cases hk; exact Or.inr HR.out) HG.out.bl.fr.size).turned (HG.out.bl.mem _ (Or.inr ⟨_, hc⟩)) t3), HG.out.bl.mem⟩⟩
      have CT := tidy_any w3 G3 hwx
      have HN := Lib.hid hN
      have HWX := Lib.hid hwx
      have HLT := Lib.hid hlt2
      clear hN hwx hlt2 hrg3 hrg2 hg2 hs2 G2 G3 g3 t3 hcr hcb hc ha hat hlx hrg
      go_wp2_with (first
        | (at_delete; refine wpList_delete_run _ rfl _ _ _ _ rfl _ _ rfl rfl w3 r3 ?_)
        | (go_at_call 19; refine CT.mono ?_; rintro e w4 ⟨rfl, ht4⟩))
      obtain ⟨D', ob4, cnt4, hle, hG4⟩ := gn_tidied HN.out (by rw [show (iL x).sameKey (Lit.int .i64 x) = decide (x = x) from same_iL x x]; simp) HWX.out ht4
      go_roundw
      case rel => exact ⟨D', _, cnt4, ob4, hG4⟩
      case measure => rw [hG4.rg.left_eq, HLE.out]; exact Nat.lt_of_le_of_lt hle HLT.out
end Go.Proofs.Ytcfibmbeojdifaa
