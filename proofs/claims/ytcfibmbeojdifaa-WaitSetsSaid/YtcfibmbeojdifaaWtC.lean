/- The graph in memory: Cycle. -/
import Derived.Test.YtcfibmbeojdifaaWtO
import Derived.Deep.DeepCutAuto
namespace Go.Proofs.Ytcfibmbeojdifaa
open Go.RowKit Go.Maps Go.WideMaps

/-- How far the walk is: next is who and then those that have been met, each once; of the first ones all for whom they wait have been met. -/
structure Far (es : List (Int × Int)) (who : Int) (L : List Int) (i : Nat) : Prop where
  nd : (who :: L).Nodup
  reach : ∀ x, x ∈ L → Way es who x
  done : ∀ j (hj : j < (who :: L).length), j < i → ∀ y, ((who :: L)[j], y) ∈ es → y ∈ L
theorem Far.start (es : List (Int × Int)) (who : Int) : Far es who [] 0 := ⟨by simp, fun x hx => by simp at hx, fun j _ hj => by omega⟩
theorem Far.more {es : List (Int × Int)} {who : Int} {L : List Int} {i : Nat} (h : Far es who L i) (hi : i < (who :: L).length) {y : Int} (hy : ((who :: L)[i], y) ∈ es) (hne : y ≠ who) (hn : y ∉ L) : Far es who (L ++ [y]) i := by
  refine ⟨?_, fun x hx => ?_, fun j hj hji z hz => ?_⟩
  · have := h.nd
    rw [List.nodup_cons] at this ⊢
    refine ⟨?_, List.nodup_append.2 ⟨this.2, by simp, fun a ha b hb => by simp at hb; subst hb; exact fun e => hn (e ▸ ha)⟩⟩
    rw [List.mem_append, List.mem_singleton]
    rintro (e | e)
    · exact this.1 e
    · exact hne e.symm
  · rcases List.mem_append.1 hx with hx | hx
    · exact h.reach x hx
    · rw [List.mem_singleton] at hx
      subst hx
      cases i with
      | zero => exact .one hy
      | succ i => exact .more (h.reach _ (List.getElem_mem (by simpa using hi))) hy
  · have hj' : j < (who :: L).length := by omega
    have e : (who :: (L ++ [y]))[j] = (who :: L)[j] := (List.getElem_append_left hj' : ((who :: L) ++ [y])[j]'(by simpa using hj) = (who :: L)[j])
    rw [e] at hz
    exact List.mem_append_left _ (h.done j hj' hji z hz)
theorem Far.front {es : List (Int × Int)} {who : Int} {L : List Int} {i : Nat} (h : Far es who L i) (hi : i < (who :: L).length) (hy : ((who :: L)[i], who) ∈ es) : Way es who who := by
  cases i with
  | zero => exact .one hy
  | succ i => exact .more (h.reach _ (List.getElem_mem (by simpa using hi))) hy
theorem Far.next {es : List (Int × Int)} {who : Int} {L : List Int} {i : Nat} (h : Far es who L i) (hi : i < (who :: L).length) (hall : ∀ y, ((who :: L)[i], y) ∈ es → y ∈ L) : Far es who L (i + 1) :=
  ⟨h.nd, h.reach, fun j hj hji y hy => by
    by_cases e : j = i
    · subst e; exact hall y hy
    · exact h.done j hj (by omega) y hy⟩
theorem Far.ended {es : List (Int × Int)} {who : Int} {L : List Int} (h : Far es who L (who :: L).length) : ¬ Way es who who := by
  intro hw
  have : who ∈ L := way_closed (S := fun y => y ∈ L) (fun y hy => h.done 0 (by simp) (by simp) y hy) (fun x hx y hy => by
    obtain ⟨j, hj, rfl⟩ := List.getElem_of_mem hx
    exact h.done (j + 1) (by simpa using hj) (by simpa using hj) y hy) hw
  exact (List.nodup_cons.1 h.nd).1 this
theorem Far.len {es : List (Int × Int)} {who : Int} {L : List Int} {i : Nat} (h : Far es who L i) : L.length ≤ es.length := by
  have := nodup_le (M := es.map Prod.snd) (List.nodup_cons.1 h.nd).2 fun x hx => by
    have hw := h.reach x hx
    cases hw with
    | one e => exact List.mem_map.2 ⟨_, e, rfl⟩
    | more _ e => exact List.mem_map.2 ⟨_, e, rfl⟩
  rwa [List.length_map] at this

theorem below_drewN (B : Nat) (W : World) (n : Nat) : Below B W (W.drewN n) := ⟨rfl, rfl, rfl, Nat.le_refl _, fun _ _ => rfl⟩
theorem invKI : ∀ key kl, keyOf Try.prog 3 key = some kl → ∃ x : Int, key = .int .i64 x := fun _ _ h => by obtain ⟨x, hx, _⟩ := Maps.keyOf_int_inv Try.underlying3 h; exact ⟨x, hx⟩
theorem invVV : ∀ (v : Value) (y : DataW Value × List MemPlace), tokR v = some y → ∃ c, v = id c := fun v _ _ => ⟨v, rfl⟩
theorem has_of {D : DataW Value} {l : Lit} {v : Value} (h : atL D l = some v) : has D l = true := by
  cases hh : has D l with
  | true => rfl
  | false => unfold atL at h; rw [atKey_of_not_has hh] at h; cases h
theorem atL_of_has {w : World} {c n : Nat} {D : DataW Value} (h : w.ownsMap Try.prog 3 tokR c n D) {l : Lit} (hl : has D l = true) : ∃ v, atL D l = some v := by
  have := has_some h kI Try.underlying52 (zU w) l
  rw [hl] at this
  cases ha : atL D l with
  | none => rw [ha] at this; cases this
  | some v => exact ⟨v, rfl⟩

theorem gm.look_ok {P : Program} {k t e b n : Nat} {m : Lit → Option Value} {w : World} (h : gm w P k b n m) (K : Keyed P k) (ht : P.underlying t = some (.map k e)) {z : Value} (hz : (zeroValue e).run P w = .ok z w) {key : Value} {kl : Lit} (hkey : keyOf P k key = some kl) :
    (Instr.lookup t (.map (some b)) key true).run P w = .ok (.tuple #[(m kl).getD z, .bool (m kl).isSome]) w := by
  obtain ⟨D, hD, hm⟩ := h
  rw [hm kl (IsKeyLit_of K hkey)]
  obtain ⟨v, ps, hrun, hv⟩ := hD.look_ok K ht hz (zd := .held z) (zp := []) rfl hkey
  have h2 := look_at hD K ht hz hkey
  have e1 : D.atKey kl (.held z) = .held v := by have := congrArg (Option.map Prod.fst) hv; simpa [tokR] using this.symm
  rw [hrun, h2.2]
  cases hh : has D kl with
  | true =>
    have e4 : atL D kl = some v := by unfold atL; rw [atKey_has hh .nil (.held z), e1]
    rw [e4]
    rfl
  | false =>
    have e4 : atL D kl = none := by unfold atL; rw [atKey_of_not_has hh]
    have e5 : v = z := by have := e1.symm.trans (atKey_of_not_has hh _); simpa using this
    rw [e4, e5]
    rfl

/-- The walk's state between two rounds. -/
structure Wk (wr w : World) (es : List (Int × Int)) (who : Int) (c : Nat) (v : Value) (L M : List Int) (i : Nat) : Prop where
  far : Far es who L i
  eq : M = who :: L
  sl : SlR wr w.heap.size v M
  met : gm wr Try.prog 3 c L.length (rF L)
  hc : w.heap.size ≤ c
  bl : Below w.heap.size w wr

theorem Wk.on_ {wr w wr' : World} {es : List (Int × Int)} {who : Int} {c : Nat} {v : Value} {L M : List Int} {i j : Nat} (h : Wk wr w es who c v L M i) (hb : Below wr.heap.size wr wr') (hf : Far es who L j) : Wk wr' w es who c v L M j :=
  ⟨hf, h.eq, h.sl.kept (row := none) ⟨hb.os, hb.tape, hb.output, hb.size, fun k hk _ => hb.block k hk⟩ (by cases h.sl.shape with | inl e => exact Or.inl (by rw [e.2]; rfl) | inr e => obtain ⟨g, cap, cur, rfl, _⟩ := e; exact Or.inr (by simp [Value.ownBlock])), h.met.of_block (hb.block _ h.met.lt), h.hc, h.bl.trans (hb.mono h.bl.size)⟩
theorem Wk.grown {wr w wr' : World} {es : List (Int × Int)} {who : Int} {c : Nat} {v : Value} {L M : List Int} {i : Nat} {row : Option Nat} (h : Wk wr w es who c v L M i) (hg : wr.grownBy wr' row) (hrow : ∀ k, row = some k → w.heap.size ≤ k) (h1 : v.ownBlock ≠ row) (h2 : some c ≠ row) : Wk wr' w es who c v L M i :=
  ⟨h.far, h.eq, h.sl.kept hg (Or.inr h1), h.met.of_block (hg.block _ h.met.lt h2), h.hc, h.bl.grown hg h.bl.size hrow⟩
open Classical in
/-- Is who reached again? -/
noncomputable def cyB (es : List (Int × Int)) (who : Int) : Bool := decide (Way es who who)
theorem cyB_yes {es : List (Int × Int)} {who : Int} (h : Way es who who) : cyB es who = true := by unfold cyB; simpa using h
theorem cyB_no {es : List (Int × Int)} {who : Int} (h : ¬ Way es who who) : cyB es who = false := by unfold cyB; simpa using h
theorem SlR.own_ne {w : World} {B : Nat} {v : Value} {L : List Int} (h : SlR w B v L) {P : Program} {k c n : Nat} {F : Lit → Option Value} (g : gm w P k c n F) : v.ownBlock ≠ some c := by
  rcases h.shape with ⟨_, rfl⟩ | ⟨g', cap, cur, rfl, _, _, hbk, _⟩
  · intro e; cases e
  · intro e
    have e1 : g' = c := by simpa [Value.ownBlock] using e
    subst e1
    obtain ⟨D, ⟨es, clock, h1, _⟩, _⟩ := g
    rw [hbk] at h1; cases h1
theorem news_one (w : World) (k : Int) : ∀ (j : Nat) (u : Value), [Value.int .i64 k][j]? = some u → (w.alloc (.cells #[.int .i64 k] 3)).cell? ((⟨w.heap.size, 0, none⟩ : Addr).add j) = some u := by
  intro j u hu
  cases j with
  | zero =>
    simp only [List.getElem?_cons_zero, Option.some.injEq] at hu
    subst hu
    have e : (⟨w.heap.size, 0, none⟩ : Addr).add 0 = ⟨w.heap.size, 0, none⟩ := by unfold Addr.add; split <;> simp_all
    rw [e]
    exact (cell_of (heap_alloc_new w (.cells #[.int .i64 k] 3)) 0).1
  | succ j => simp at hu
theorem ranges_ne {P : Program} {k1 c' r n c m : Nat} {w : World} {D : DataW Value} {left : Lit → Bool} {cnt : Nat} (h : w.ranges P k1 tokR c' r n D left cnt) {k2 : Nat} {F : Lit → Option Value} (g : gm w P k2 c m F) : c ≠ r := by
  rintro rfl
  obtain ⟨es, clock, since, seen, c0, _, _, _, _, hr, _⟩ := h
  obtain ⟨D, ⟨es, clock, h1, _⟩, _⟩ := g
  rw [h1] at hr; cases hr

set_option maxRecDepth 100000 in
set_option maxHeartbeats 1000000 in
theorem cycle_any (w : World) {B p b n : Nat} {es : List (Int × Int)} {ob : Lit → Option Nat} (h : GrAt w B p b n es ob) (hes : es.length < 100000) {who : Int} (hx : Wf who) :
    Calls Try.prog 17 #[.pointer (some ⟨p, 0, none⟩), .int .i64 who] w fun e w' => e = .returned (.bool (cyB es who)) ∧ Below w.heap.size w w' := by
  have hmk := @run_makeMap Try.prog
  have HG := Lib.hid h
  have HX := Lib.hid hx
  clear h hx
  go_enter Try.func17, Try.ntmps17
  go_upto_region 6 with fail
  have W0 : Hid (∃ (L M : List Int) (i : Nat), i ≤ M.length ∧ Value.int .i64 0 = .int .i64 (i : Int) ∧ Wk ((w.alloc (.map #[] 0)).alloc (.cells #[.int .i64 who] 3)) w es who w.heap.size (.slice (some ⟨w.heap.size + 1, 0, none⟩) 1 1) L M i) := by
    have b1 : Below w.heap.size w (w.alloc (.map #[] 0)) := (Below.refl _ _).alloc (Nat.le_refl _) _
    refine ⟨[], [who], 0, Nat.zero_le _, rfl, Far.start _ _, rfl, ?_, ((gm_made w Try.prog 3).congr fun j _ => ?_).of_block (Below.heap_alloc _ _ _ (by simp)), Nat.le_refl _, b1.alloc (by simp) _⟩
    · have := World.ownsRow_lit (base := w.heap.size) (e := 3) (size := 1) (w.alloc (.map #[] 0)) #[.int .i64 who] 1 (by simp) (by unfold maxLen; omega) rfl
      simpa [SlR, intV] using this
    · unfold rF; rw [if_neg]; rintro ⟨y, hy, _⟩; cases hy
  clear hmk
  generalize hw0 : (w.alloc (.map #[] 0)).alloc (.cells #[.int .i64 who] 3) = w0 at *
  clear hw0
  go_loopw [6, 7, 8, 9, 10] (fun nv iv _ _ _ wr => Hid (∃ (L M : List Int) (i : Nat), i ≤ M.length ∧ iv = .int .i64 (i : Int) ∧ Wk wr w es who w.heap.size nv L M i)) (fun _ iv _ _ _ _ => es.length + 2 - ivN iv)
  case atStart => exact W0
  case round =>
    obtain ⟨L, M, i, hi, rfl, hW⟩ := hrel.out
    clear hrel W0
    have hll := hW.far.len
    have hml : M.length = L.length + 1 := by rw [hW.eq]; rfl
    have HW := Lib.hid hW
    by_cases hlt : i < M.length
    · obtain ⟨g, cap, cur, rfl, hgB, hgl, hbk, hcu⟩ : ∃ g cap cur, u6 = .slice (some ⟨g, 0, none⟩) M.length cap ∧ w.heap.size ≤ g ∧ g < wr.heap.size ∧ wr.heap[g]? = some (.cells cur 3 (0, 0)) ∧ ∀ j (hj : j < M.length), cur[j]? = some (.int .i64 M[j]) := by
        rcases hW.sl.shape with ⟨e, _⟩ | h
        · rw [e] at hlt; simp at hlt
        · exact h
      have hcr : wr.cell? ⟨g, i, none⟩ = some (.int .i64 M[i]) := (cell_of hbk i).1.trans (hcu i hlt)
      have G1 := HG.out.on_ hW.bl
      have hc0 := G1.c0
      have hy : Wf M[i] := by
        have hr := hW.far.reach
        have e : M = who :: L := hW.eq
        subst e
        cases i with
        | zero => exact HX.out
        | succ i =>
          have hw := hr _ (List.getElem_mem (by simpa using hlt) : L[i]'(by simpa using hlt) ∈ L)
          show Wf (L[i]'(by simpa using hlt))
          cases hw with
          | one e => exact (G1.wf _ e).2
          | more _ e => exact (G1.wf _ e).2
      have hlk : (Instr.lookup 48 (.map (some b)) (.int .i64 M[i]) false).run Try.prog wr.drew = .ok (.map (ob (iL M[i]))) wr.drew := (show GrAt wr.drew B p b n es ob from G1.on_ (below_drewN wr.heap.size wr 1)).look hy
      have hltI : (i : Int) < (M.length : Int) := by omega
      have hi0 : (0 : Int) ≤ (i : Int) := by omega
      have hib : (i : Int) ≤ 200000 := by omega
      have HE : Hid (M = who :: L ∧ ∀ (h : i < M.length), True) := ⟨hW.eq, fun _ => trivial⟩
      obtain ⟨y, hyM⟩ : ∃ y, y = M[i] := ⟨_, rfl⟩
      have HYM : Hid (∃ h : i < M.length, y = M[i]) := ⟨hlt, hyM⟩
      rw [← hyM] at hcr hlk hy
      have HY := Lib.hid hy
      have HL : Hid (L.length < 100000 ∧ i < M.length ∧ i < es.length + 1) := ⟨by omega, hlt, by omega⟩
      have HGW : Hid (GrAt wr B p b n es ob) := G1
      clear hyM hy hcu hgB hgl hbk hW G1 hll hml hi hlt
      cases ho : ob (iL y) with
      | none =>
        rw [ho] at hlk
        have hrg := run_range_nilMap (P := Try.prog) wr.drew 52 3 53 Try.underlying52
        have hnx : ∀ ty, (Instr.next (.pointer (some ⟨wr.heap.size, 0, none⟩)) false ty).run Try.prog ((wr.alloc (.mapIter none 0 #[] 0)).drew) = .ok (.tuple #[.bool false]) ((wr.alloc (.mapIter none 0 #[] 0)).drew) := fun ty => run_next_nilMap (P := Try.prog) wr.drew ty 0 0 #[]
        have hb1 : Below wr.heap.size wr ((wr.alloc (.mapIter none 0 #[] 0)).drew) := ((Below.refl _ wr).alloc (Nat.le_refl _) _).drew
        have R1 : Hid (∃ (L' M' : List Int) (i' : Nat), i' ≤ M'.length ∧ Value.int .i64 ((i : Int) + 1) = .int .i64 (i' : Int) ∧ Wk ((wr.alloc (.mapIter none 0 #[] 0)).drew) w es who w.heap.size (.slice (some ⟨g, 0, none⟩) M.length cap) L' M' i') := by
          obtain ⟨hlt, hy⟩ := HYM.out
          have e := HE.out.1
          refine ⟨L, M, i + 1, hlt, rfl, HW.out.on_ hb1 ?_⟩
          subst e
          refine HW.out.far.next hlt fun z hz => ?_
          have := gF_in hz
          rw [← hy, HGW.out.m.non _ ho] at this
          cases this
        clear ho hb1
        go_upto_region 8 with fail
        go_region
        clear hrg hlk hc0 hcr
        generalize (wr.alloc (.mapIter none 0 #[] 0)).drew = w1 at *
        go_wp2_with fail
        refine wp_loop_rounds 1 ?_
        rw [rounds_succ]
        go_wp2_with fail
        go_roundw
        case rel => exact R1
        case measure => have := HL.out.2.2; simp only [ivN]; omega
      | some c' =>
        rw [ho] at hlk
        obtain ⟨D, hown, hD⟩ := HGW.out.m.inn _ _ ho
        obtain ⟨w1, hrg, hrs, hgr, hsz⟩ := (hown.drew).range kI Try.underlying52
        have hb1 : Below wr.heap.size wr w1 := ((Below.refl _ wr).drew).grown hgr (Nat.le_refl _) (fun k hk => by cases hk)
        rw [show wr.drew.heap.size = wr.heap.size from rfl] at hrg hrs
        have HO : Hid (c' < w.heap.size ∧ ∀ z, has D (iL z) = true ↔ (y, z) ∈ es) := by
          have hG0 := HG.out.m.inn _ _ ho
          refine ⟨hG0.lt, fun z => ?_⟩
          rw [has_some hown kI Try.underlying52 (zU wr) (iL z), ← hD (iL z) trivial]
          exact gF_iff
        have R1 : Hid (∃ (L' M' : List Int) (left : Lit → Bool) (cnt : Nat), w1.ranges Try.prog 3 tokR c' wr.heap.size n D left cnt ∧ Wk w1 w es who w.heap.size (.slice (some ⟨g, 0, none⟩) M.length cap) L' M' i ∧ (∃ h : i < M'.length, y = M'[i]) ∧ ∀ z, (y, z) ∈ es → left (iL z) = false → z ∈ L') := by
          refine ⟨L, M, _, _, hrs, HW.out.on_ hb1 HW.out.far, HYM.out, fun z hz hl => ?_⟩
          rw [(HO.out.2 z).2 hz] at hl
          cases hl
        have HBB : Hid (w.heap.size ≤ wr.heap.size) := HW.out.bl.size
        clear ho hb1 hown hD hrs hgr hsz
        go_upto_region 8 with fail
        go_region
        clear hrg hlk hc0 hcr HGW HE HYM HW
        generalize wr.heap.size = r at *
        go_wp2_with fail
        go_loopw [6, 8, 9, 10] (fun nv _ _ _ wr2 => Hid (∃ (L' M' : List Int) (left : Lit → Bool) (cnt : Nat), wr2.ranges Try.prog 3 tokR c' r n D left cnt ∧ Wk wr2 w es who w.heap.size nv L' M' i ∧ (∃ h : i < M'.length, y = M'[i]) ∧ ∀ z, (y, z) ∈ es → left (iL z) = false → z ∈ L')) (fun _ _ _ _ wr2 => wr2.rangeLeft c' r)
        case atStart => exact R1
        case round =>
          obtain ⟨L', M', left, cnt, hrg, hW, hy, hl⟩ := hrel.out
          clear hrel R1
          have HW := Lib.hid hW
          have HYM := Lib.hid hy
          have HLF := Lib.hid hl
          have HLE := Lib.hid hrg.left_eq
          clear hW hy hl
          go_wp2_with (first
            | (at_next; refine wpList_next_ranges _ rfl _ rfl 3 kI tokR (fun x : Int => .int .i64 x) (id : Value → Value) invKI invVV c' r n D left cnt rfl hrg ?_ ?_)
            | go_in)
          · intro _ hl0
            have R2 : Hid (∃ (L M : List Int) (i' : Nat), i' ≤ M.length ∧ Value.int .i64 ((i : Int) + 1) = .int .i64 (i' : Int) ∧ Wk wr w es who w.heap.size u6 L M i') := by
              obtain ⟨hlt, hy⟩ := HYM.out
              have e := HW.out.eq
              refine ⟨L', M', i + 1, hlt, rfl, HW.out.on_ (Below.refl _ _) ?_⟩
              subst e
              exact HW.out.far.next hlt fun z hz => HLF.out z (by rw [hy]; exact hz) (hl0 _)
            clear hl0 hrg
            go_wp2
            go_roundw
            case rel => exact R2
            case measure => have := HL.out.2.2; simp only [ivN]; omega
          · intro x v kl yd ps w2 cnt2 hkx hlx hyy hat hrg2 hlt2 hg2 hs2 hen
            obtain ⟨x', hx', rfl, hwx⟩ := Maps.keyOf_int_inv Try.underlying3 hkx
            injection hx' with _ hx'
            subst hx'
            obtain ⟨rfl, rfl⟩ := Prod.mk.inj (Option.some.inj hyy)
            clear hyy hkx
            have hex : (y, x) ∈ es := (HO.out.2 x).1 (has_true_of_atKey hat)
            have h1 : u6.ownBlock ≠ some r := fun e => row_ne_iter HW.out.sl hrg e.symm
            have hW2 := HW.out.grown hg2 (fun k hk => by cases hk; exact HBB.out) h1 (fun e => ranges_ne hrg HW.out.met (by cases e; rfl))
            have HX2 : Hid ((y, x) ∈ es ∧ left (iL x) = true ∧ cnt2 < cnt) := ⟨hex, hlx, hlt2⟩
            have HRG := Lib.hid hrg2
            have k1 := hW2.met.look_ok kI Try.underlying52 (zU w2) (keyI hwx)
            rw [rF_in] at k1
            have HW2 := Lib.hid hW2
            have HWX := Lib.hid hwx
            clear hex h1 hW2 hlx hlt2 hrg2 hat hg2 hs2 hrg HW hwx
            by_cases e : x = who
            · have hway : Way es who who := by
                obtain ⟨hlt, hy⟩ := HYM.out
                have e' := HW2.out.eq
                subst e'
                exact HW2.out.far.front hlt (by rw [← hy, ← e]; exact HX2.out.1)
              have HWAY := Lib.hid (cyB_yes hway)
              clear hway k1
              go_wp2
              go_ret
              exact ⟨by rw [HWAY.out]; rfl, HW2.out.bl⟩
            · by_cases hk : x ∈ L'
              · rw [if_pos hk] at k1
                dsimp only [Option.getD_some, Option.isSome_some] at k1
                have HK := Lib.hid hk
                have HE := Lib.hid e
                clear hk
                have RR : Hid ((∃ (L' M' : List Int) (left : Lit → Bool) (cnt : Nat), (w2.alloc (.cells #[] 53)).ranges Try.prog 3 tokR c' r n D left cnt ∧ Wk (w2.alloc (.cells #[] 53)) w es who w.heap.size u6 L' M' i ∧ (∃ h : i < M'.length, y = M'[i]) ∧ ∀ z, (y, z) ∈ es → left (iL z) = false → z ∈ L') ∧ (w2.alloc (.cells #[] 53)).rangeLeft c' r < wr.rangeLeft c' r) := by
                  refine ⟨⟨L', M', _, cnt2, HRG.out.alloc _, HW2.out.on_ ((Below.refl _ w2).alloc (Nat.le_refl _) _) HW2.out.far, HYM.out, fun z hz hl => ?_⟩, by rw [(HRG.out.alloc _).left_eq, HLE.out]; exact HX2.out.2.2⟩
                  by_cases ez : z = x
                  · rw [ez]; exact HK.out
                  · refine HLF.out z hz ?_
                    rw [show (iL z).sameKey (Lit.int .i64 x) = decide (z = x) from same_iL x z] at hl
                    simpa [ez] using hl
                go_wp2
                exact RR.out
              · rw [if_neg hk] at k1
                dsimp only [Option.getD_none, Option.isSome_none] at k1
                have HK := Lib.hid hk
                have HE := Lib.hid e
                have hB3 : Below w2.heap.size w2 (w2.alloc (.cells #[] 53)) := (Below.refl _ w2).alloc (Nat.le_refl _) _
                have hW3 := HW2.out.on_ hB3 HW2.out.far
                have hR3 := HRG.out.alloc (.cells #[] 53)
                have hlen := hW3.far.len
                have hM : M'.length = L'.length + 1 := by rw [hW3.eq]; rfl
                clear HW2 HRG
                go_upto_region 15 with fail
                generalize w2.alloc (.cells #[] 53) = w3 at *
                obtain ⟨w4, r4, g4, t4⟩ := hW3.met.store kI Try.underlying52 (by unfold maxLen; omega) (keyI HWX.out) (.agg #[])
                have hS4 : SlR w4 w.heap.size u6 M' := hW3.sl.kept t4.grown (Or.inr (hW3.sl.own_ne hW3.met))
                have hR4 := hR3.kept t4.grown (fun e => by cases e; have := HO.out.1; omega) (fun e => ranges_ne hR3 hW3.met (by cases e; rfl))
                have hb4 : Below w.heap.size w w4 := hW3.bl.grown t4.grown hW3.bl.size (fun k hk => by cases hk; exact Nat.le_refl _)
                have hc4 := hW3.met.lt
                have e4 := turned_size t4
                obtain ⟨pt, cap2, rfl⟩ := hW3.sl.form
                obtain ⟨ii, hii, hz0, hz1, hz2⟩ := info_parts infoI64
                have hzb : (Instr.build 53 #[]).run Try.prog w3 = .ok (.agg #[]) w3 := by kernel_rfl
                have F3 := Lib.hid hW3.far
                have E3 := Lib.hid hW3.eq
                have HS := Lib.hid hS4
                have HR4 := Lib.hid hR4
                have HB4 := Lib.hid hb4
                have HG4 : Hid (gm w4 Try.prog 3 w.heap.size (L'.length + 1) (rF (L' ++ [x]))) := g4.congr fun j _ => rF_snoc L' x j
                have HLN := Lib.hid (show M'.length + 1 < 200000 by omega)
                clear hk hB3 hW3 hR3 hS4 hR4 hb4 g4 t4 hc4 e4 hlen hM
                go_wp2_with (first
                  | (at_builtin; refine wpList_append_own _ rfl _ _ 30 rfl w.heap.size 3 ii (.int .i64 0) 1 8 Try.underlying30 hii hz0 hz1 hz2 rfl (by decide) _ _ _ rfl (HS.out.alloc _) ⟨w4.heap.size, 0, none⟩ 1 1 [.int .i64 x] rfl ?c2 ?c3 ?c4 ?c5 ?c6 ?c7 ?_))
                case c4 => rfl
                case c5 => have := HLN.out; unfold maxLen; omega
                case c6 => have := HLN.out; omega
                case c7 => have := HB4.out.size; omega
                intro v' w6 hown6 hgrow _
                have hb5 : Below w.heap.size w (w4.alloc (.cells #[.int .i64 x] 3)) := HB4.out.alloc HB4.out.size _
                have hb6 : Below w.heap.size w w6 := hb5.grown hgrow hb5.size (fun k hk => (HS.out.lt k hk).1)
                have hg6 : gm w6 Try.prog 3 w.heap.size (L' ++ [x]).length (rF (L' ++ [x])) := by
                  have h5 : gm (w4.alloc (.cells #[.int .i64 x] 3)) Try.prog 3 w.heap.size (L'.length + 1) (rF (L' ++ [x])) := HG4.out.of_block (Below.heap_alloc _ _ _ HG4.out.lt)
                  rw [List.length_append, List.length_singleton]
                  exact h5.of_block (hgrow.block _ h5.lt fun e => HS.out.own_ne HG4.out e.symm)
                have hr6 := (HR4.out.alloc (.cells #[.int .i64 x] 3)).kept hgrow (row_ne_low HS.out HO.out.1) (row_ne_iter HS.out HR4.out)
                have hs6 : SlR w6 w.heap.size v' (M' ++ [x]) := by
                  unfold SlR intV
                  rw [List.length_append, List.map_append]
                  exact hown6
                have RR : Hid ((∃ (L' M' : List Int) (left : Lit → Bool) (cnt : Nat), w6.ranges Try.prog 3 tokR c' r n D left cnt ∧ Wk w6 w es who w.heap.size v' L' M' i ∧ (∃ h : i < M'.length, y = M'[i]) ∧ ∀ z, (y, z) ∈ es → left (iL z) = false → z ∈ L') ∧ w6.rangeLeft c' r < wr.rangeLeft c' r) := by
                  obtain ⟨hlt, hy⟩ := HYM.out
                  refine ⟨⟨L' ++ [x], M' ++ [x], _, _, hr6, ⟨?_, by rw [E3.out]; rfl, hs6, hg6, Nat.le_refl _, hb6⟩, ⟨by rw [List.length_append]; omega, by rw [List.getElem_append_left hlt]; exact hy⟩, fun z hz hl => ?_⟩, by rw [hr6.left_eq, HLE.out]; exact HX2.out.2.2⟩
                  · have e3 := E3.out
                    subst e3
                    exact F3.out.more hlt (by rw [← hy]; exact HX2.out.1) HE.out HK.out
                  · by_cases ez : z = x
                    · rw [ez]; simp
                    · refine List.mem_append_left _ (HLF.out z hz ?_)
                      rw [show (iL z).sameKey (Lit.int .i64 x) = decide (z = x) from same_iL x z] at hl
                      simpa [ez] using hl
                clear hb5 hb6 hg6 hr6 hs6 hown6 hgrow
                go_wp2
                exact RR.out
    · obtain rfl : i = M.length := by omega
      obtain ⟨pt, cap, rfl⟩ := hW.sl.form
      have HN : Hid (cyB es who = false) := cyB_no (by
        have e := hW.eq
        subst e
        exact hW.far.ended)
      clear hW hll hml hi hlt
      go_wp2
      go_ret
      exact ⟨by rw [HN.out]; rfl, HW.out.bl⟩
end Go.Proofs.Ytcfibmbeojdifaa
