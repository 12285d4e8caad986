/- Made: pages by numbers. -/
import Derived.Test.YtmijdjlpfjfjoaaLeafBeg
namespace Go.Proofs.Ytmijdjlpfjfjoaa
open Go.RowKit

def madeV (x : Int) : List Int := if x % 4 = 1 then rowL (bstr [97 + x / 4 % 20]) ⟨#[115]⟩ ⟨#[118]⟩ else if x % 4 = 2 then stubL (x / 4 % 32) 2 else if x % 4 = 3 then z26 else []
def madeC (l : List Int) (i : Nat) : List Int := (l[i]?.map madeV).getD []
theorem madeC_lt {l : List Int} {i : Nat} (h : i < l.length) : madeC l i = madeV l[i] := by unfold madeC; rw [List.getElem?_eq_getElem h]; rfl
theorem madeC_ge {l : List Int} {i : Nat} (h : l.length ≤ i) : madeC l i = [] := by unfold madeC; rw [List.getElem?_eq_none h]; rfl
theorem made_may (x : Int) : mayB (bstr [97 + x / 4 % 20]) ⟨#[115]⟩ ⟨#[118]⟩ = true := by
  have h : bytesOk [97 + x / 4 % 20] := by
    intro y hy
    rw [List.mem_singleton] at hy
    omega
  unfold mayB
  rw [bstr_size h, decide_eq_true_eq]
  exact ⟨by simp, by simp, by decide, by decide⟩
theorem made_place (x : Int) : placeB (x / 4 % 32) 2 = true := by
  unfold placeB
  rw [decide_eq_true_eq]
  omega
theorem madeV_or (x : Int) : (x % 4 = 1 ∧ madeV x = rowL (bstr [97 + x / 4 % 20]) ⟨#[115]⟩ ⟨#[118]⟩) ∨ (x % 4 = 2 ∧ madeV x = stubL (x / 4 % 32) 2) ∨ (x % 4 = 3 ∧ madeV x = z26) ∨ (x % 4 = 0 ∧ madeV x = []) := by
  unfold madeV
  by_cases h1 : x % 4 = 1
  · exact .inl ⟨h1, if_pos h1⟩
  · rw [if_neg h1]
    by_cases h2 : x % 4 = 2
    · exact .inr (.inl ⟨h2, if_pos h2⟩)
    · rw [if_neg h2]
      by_cases h3 : x % 4 = 3
      · exact .inr (.inr (.inl ⟨h3, if_pos h3⟩))
      · exact .inr (.inr (.inr ⟨by omega, if_neg h3⟩))
theorem madeV_rd (x : Int) : rdOk (madeV x) ∧ okL (madeV x) = true ∧ bytesOk (madeV x) ∧ (madeV x).length ≤ 26 := by
  rcases madeV_or x with ⟨_, h⟩ | ⟨_, h⟩ | ⟨_, h⟩ | ⟨_, h⟩ <;> rw [h]
  · have := rowL_len (made_may x)
    exact ⟨⟨_, _, _, _, _, _, .row _ _ _ (made_may x) rfl⟩, by unfold okL; rw [this]; decide, rowL_ok (made_may x), by omega⟩
  · exact ⟨⟨_, _, _, _, _, _, .stub _ _ (made_place x) rfl⟩, by unfold okL; rw [stubL_len]; decide, stubL_ok (made_place x), by rw [stubL_len]; decide⟩
  · exact ⟨rdOk_z, by decide, z26_ok, by decide⟩
  · exact ⟨rdOk_nil, by decide, fun x hx => (by cases hx), by decide⟩
theorem madeC_rd (l : List Int) (i : Nat) : rdOk (madeC l i) ∧ okL (madeC l i) = true ∧ bytesOk (madeC l i) ∧ (madeC l i).length ≤ 26 := by
  by_cases h : i < l.length
  · rw [madeC_lt h]; exact madeV_rd _
  · rw [madeC_ge (by omega)]; exact ⟨rdOk_nil, by decide, fun x hx => (by cases hx), by decide⟩
theorem made_ok (l : List Int) : okC (madeC l) = true := okC_all fun j _ => (madeC_rd l j).2.1

/-- A page in memory of which k cells are laid. -/
def StG (gp : Nat) (w1 wr : World) (c : Nat → List Int) (n : Int) (k : Nat) : Prop := ∃ P N K, wr.heap[gp]? = some (pgO P N K n) ∧ Co wr (gp + 1) P N K (fun j => if j < k then c j else []) ∧ (∀ j, k ≤ j → P j = none ∧ N j = 0 ∧ K j = 0) ∧ Below gp w1 wr ∧ gp + 1 ≤ wr.heap.size
theorem StG.on {gp : Nat} {w1 wr w2 : World} {c : Nat → List Int} {n : Int} {k : Nat} (h : StG gp w1 wr c n k) (hb : Below wr.heap.size wr w2) : StG gp w1 w2 c n k := by
  obtain ⟨P, N, K, h1, h2, h3, h4, h5⟩ := h
  exact ⟨P, N, K, (hb.block _ (by omega)).trans h1, fun j hj => ⟨(h2 j hj).1, own_below (h2 j hj).2.1 hb, (h2 j hj).2.2⟩, h3, h4.trans (hb.mono (by omega)), Nat.le_trans h5 hb.size⟩
theorem StG.skip {gp : Nat} {w1 wr : World} {c : Nat → List Int} {n : Int} {k : Nat} (h : StG gp w1 wr c n k) (he : c k = []) : StG gp w1 wr c n (k + 1) := by
  obtain ⟨P, N, K, h1, h2, h3, h4, h5⟩ := h
  have e : ∀ j, (if j < k + 1 then c j else []) = (if j < k then c j else []) := fun j => by
    by_cases hj : j = k
    · subst hj; rw [if_pos (by omega), if_neg (by omega), he]
    · by_cases h1 : j < k
      · rw [if_pos h1, if_pos (by omega)]
      · rw [if_neg h1, if_neg (by omega)]
  refine ⟨P, N, K, h1, fun j hj => ?_, fun j hj => h3 j (by omega), h4, h5⟩
  show N j = (if j < k + 1 then c j else []).length ∧ wr.ownsRow (gp + 1) 5 1 _ _ (byteV (if j < k + 1 then c j else [])) ∧ bytesOk (if j < k + 1 then c j else [])
  rw [e j]
  exact h2 j hj
theorem StG.next {gp : Nat} {w1 wr w5 : World} {c : Nat → List Int} {n : Int} {k : Nat} (h : StG gp w1 wr c n k) (hk : k < 4) (hb : Below wr.heap.size wr w5) {p : Option Addr} {m q : Nat} (hm : m = (c k).length) (ho : w5.ownsRow wr.heap.size 5 1 (.slice p m q) m (byteV (c k))) (hok : bytesOk (c k)) :
    StG gp w1 (w5.setCell ⟨gp, k, none⟩ (.slice p m q)) c n (k + 1) := by
  obtain ⟨P, N, K, h1, h2, h3, h4, h5⟩ := h
  have h1' := (hb.block _ (by omega)).trans h1
  refine ⟨_, _, _, pg_set h1' hk p _ q, fun j hj => ?_, fun j hj => ?_, (h4.trans (hb.mono (by omega))).setCell (p := ⟨gp, k, none⟩) (Nat.le_refl _) _, ?_⟩
  · by_cases e : j = k
    · subst e
      simp only [upd, if_true]
      rw [if_pos (by omega)]
      exact ⟨hm, own_set (own_mono ho h5) (by omega), hok⟩
    · simp only [upd, if_neg e]
      obtain ⟨a1, a2, a3⟩ := h2 j hj
      have e2 : (if j < k + 1 then c j else []) = (if j < k then c j else []) := by
        by_cases h1 : j < k
        · rw [if_pos h1, if_pos (by omega)]
        · rw [if_neg h1, if_neg (by omega)]
      rw [e2]
      exact ⟨a1, own_set (own_below a2 hb) (by omega), a3⟩
  · simp only [upd, if_neg (show j ≠ k by omega)]
    exact h3 j (by omega)
  · have := hb.size; simp; omega
theorem StG.all {gp : Nat} {w1 wr : World} {c : Nat → List Int} {n : Int} {k : Nat} (h : StG gp w1 wr c n k) (hc : ∀ j, k ≤ j → j < 4 → c j = []) : ∃ P N K, wr.heap[gp]? = some (pgO P N K n) ∧ Co wr (gp + 1) P N K c ∧ Below gp w1 wr := by
  obtain ⟨P, N, K, h1, h2, h3, h4, h5⟩ := h
  refine ⟨P, N, K, h1, fun j hj => ?_, h4⟩
  have := h2 j hj
  by_cases e : j < k
  · simp only [if_pos e] at this; exact this
  · simp only [if_neg e] at this; rw [hc j (by omega) hj]; exact this

def MadePost (w : World) (l : List Int) (n : Int) (e : Ending) (w' : World) : Prop := ∃ P N K, e = .returned (pgV P N K n) ∧ Cs w' P N K (madeC l) ∧ Below w.heap.size w w'

theorem md_end {W : World} {tmps : Array Value} {g : Nat} {P : Nat → Option Addr} {N K : Nat → Nat} {n : Int} (h4 : tmps.getD 4 undef = .pointer (some ⟨g, 0, none⟩)) (k : W.heap[g]? = some (pgO P N K n)) : (results Try.f8 tmps).run Try.prog W = .ok (pgV P N K n) W := by
  rw [Array.getD_eq_getD_getElem?] at h4
  have hc := fun i => (cell_of (cs := pgC P N K n) k i).1
  have a0 := hc 0
  have a1 := hc 1
  have a2 := hc 2
  have a3 := hc 3
  have a4 := hc 4
  simp [results, Try.results8, go_sem, h4, a0, a1, a2, a3, a4, pgC, pgV]

set_option maxRecDepth 100000 in
set_option maxHeartbeats 2000000 in
theorem made_any (w : World) (v : Value) (l : List Int) (n : Int) (h : SlK .u8 w v l) (hl : l.length ≤ 4) : Calls Try.prog 8 #[v, .int .i64 n] w (MadePost w l n) := by
  have hb0 : Below w.heap.size w ((w.alloc zP).alloc (pgO P0 N0 N0 n)) := ((Below.refl _ _).alloc (Nat.le_refl _) _).alloc (by simp) _
  have hk0 : ((w.alloc zP).alloc (pgO P0 N0 N0 n)).heap[w.heap.size]? = some zP := (Below.heap_alloc _ _ _ (by simp)).trans (heap_alloc_new w _)
  have hs0 : StG (w.heap.size + 1) ((w.alloc zP).alloc (pgO P0 N0 N0 n)) ((w.alloc zP).alloc (pgO P0 N0 N0 n)) (madeC l) n 0 := by
    have h1 := heap_alloc_new (w.alloc zP) (pgO P0 N0 N0 n)
    rw [show (w.alloc zP).heap.size = w.heap.size + 1 by simp] at h1
    exact ⟨P0, N0, N0, h1, fun j _ => ⟨rfl, World.ownsRow_nil _ _ _ _, fun x hx => (by cases hx)⟩, fun j _ => ⟨rfl, rfl, rfl⟩, Below.refl _ _, by simp⟩
  have HH := Lib.hid h
  obtain ⟨p, cap, rfl, -⟩ := id h
  have HL := Lib.hid hl
  have HB0 := Lib.hid hb0
  have HK0 := Lib.hid hk0
  have HS0 := Lib.hid hs0
  clear h hb0 hk0 hs0 hl
  go_enter Try.func8, Try.ntmps8
  go_upto_region 2 with (fail)
  show Code.wp _ _ _ _ ((w.alloc zP).alloc (pgO P0 N0 N0 n))
  generalize (w.alloc zP).alloc (pgO P0 N0 N0 n) = w1 at *
  go_wp2
  go_loopw [6] (fun i wr => ∃ k : Nat, k ≤ l.length ∧ i = .int .i64 k ∧ Hid (StG (w.heap.size + 1) w1 wr (madeC l) n k)) (fun i _ => l.length - (intOf i).toNat)
  case atStart => exact ⟨0, by omega, rfl, HS0⟩
  case round =>
    obtain ⟨k, hk, rfl, HS⟩ := hrel
    clear HS0
    have HSB : Hid (Below (w.heap.size + 1) w1 wr) := by obtain ⟨_, _, _, _, _, _, h, _⟩ := HS.out; exact h
    have HW := Lib.hid (HB0.out.trans (HSB.out.mono (Nat.le_succ _)))
    by_cases hlt : k < l.length
    · have hlt4 : k < 4 := by have := HL.out; omega
      have hp := (HH.out.below HW.out (Nat.le_refl _)).pt (fun e => by rw [e] at hlt; cases hlt)
      have hx := HH.out.ok l[k] (List.getElem_mem hlt)
      obtain ⟨b, off, cap', e, h1, h2, h3⟩ := id hp
      injection e with e1 e2 e3
      subst e1 e3
      have x0 := h3 k hlt
      have hcx := madeC_lt hlt
      obtain ⟨x, hxx⟩ : ∃ x, l[k] = x := ⟨_, rfl⟩
      rw [hxx] at x0 hx hcx
      obtain ⟨hx0, hx1⟩ := hx
      have HCx := Lib.hid hcx
      clear hp h3 e2 hxx hcx
      rcases madeV_or x with ⟨hr, he⟩ | ⟨hr, he⟩ | ⟨hr, he⟩ | ⟨hr, he⟩
      · have hy : bytesOk [97 + x / 4 % 20] := by
          intro y hy
          rw [List.mem_singleton] at hy
          omega
        have hb1 : Below wr.heap.size wr (wr.alloc (.cells #[.int .u8 (97 + x / 4 % 20)] 5)) := (Below.refl _ _).alloc (Nat.le_refl _) _
        have cv : (convert 22 9 (.slice (some ⟨wr.heap.size, 0, none⟩) 1 1)).run Try.prog (wr.alloc (.cells #[.int .u8 (97 + x / 4 % 20)] 5)) = .ok (.string (bstr [97 + x / 4 % 20])) (wr.alloc (.cells #[.int .u8 (97 + x / 4 % 20)] 5)) := conv_slK (((blk_new wr [97 + x / 4 % 20]).pt (n := 1) (c := 1) rfl (Nat.le_refl _)).slK hy)
        have HRow := Lib.hid (rrow_ok (wr.alloc (.cells #[.int .u8 (97 + x / 4 % 20)] 5)) (bstr [97 + x / 4 % 20]) ⟨#[115]⟩ ⟨#[118]⟩ (made_may x))
        have HMl := Lib.hid (rowL_len (made_may x))
        have HMo := Lib.hid (rowL_ok (made_may x))
        have HCy := Lib.hid (HCx.out.trans he)
        have HB1 := Lib.hid hb1
        clear he hy hb1
        generalize bstr [97 + x / 4 % 20] = ky at *
        go_wp2_with fail
        refine HRow.out.mono ?_
        rintro e w5 ⟨v5, rfl, ho, hb5⟩
        obtain ⟨p5, q5, rfl⟩ := own_sl ho
        have hb6 := HB1.out.trans (hb5.mono HB1.out.size)
        have HX : Hid (StG (w.heap.size + 1) w1 (w5.setCell ⟨w.heap.size + 1, k, none⟩ (.slice p5 26 q5)) (madeC l) n (k + 1)) :=
          HS.out.next hlt4 hb6 (by rw [HCy.out]; exact HMl.out.symm) (by rw [HCy.out]; exact own_mono ho HB1.out.size) (by rw [HCy.out]; exact HMo.out)
        obtain ⟨P2, N2, K2, h2, -, -, -, hg2⟩ := HS.out
        have hp5 := pg_cell ((hb6.block _ (by omega)).trans h2)
        have f1 := hp5.2.2 k
        have d1 := hp5.1 k hlt4
        clear ho hb5 hb6 hp5 h2 hg2 cv
        go_wp2
        go_roundw
        all_goals first
          | exact ⟨k + 1, by omega, by go_num, HX⟩
          | (simp [intOf]; omega)
      · have HSt := Lib.hid (fun W => rstub_ok W (x / 4 % 32) 2 (made_place x))
        have HMo := Lib.hid (stubL_ok (made_place x))
        have HCy := Lib.hid (HCx.out.trans he)
        have t0 : x.tdiv 4 = x / 4 := Int.tdiv_eq_ediv_of_nonneg hx0
        have t1 : (x / 4).tmod 32 = x / 4 % 32 := Int.tmod_eq_emod_of_nonneg (by omega)
        have t2 : x.tmod 4 = 2 := by rw [Int.tmod_eq_emod_of_nonneg hx0]; exact hr
        have t3 : IntKind.u8.wrap (x / 4) = x / 4 := IntWalk.u8_in _ (by omega)
        have t4 : IntKind.i64.wrap (x / 4) = x / 4 := IntWalk.i64_in _ (by omega)
        have t5 : IntKind.i64.wrap (x / 4 % 32) = x / 4 % 32 := IntWalk.i64_in _ (by omega)
        have t6 : IntKind.i64.wrap x = x := IntWalk.i64_in _ (by omega)
        have D0 := (Below.refl wr.heap.size wr).drew
        have x1 : wr.drew.cell? ⟨b, off + k, none⟩ = some (.int .u8 x) := x0
        clear he
        have H2 : Hid (∃ u, ∀ W, Below wr.heap.size wr W → W.cell? ⟨w.heap.size + 1, k, none⟩ = some u ∧ W.frozen? ⟨w.heap.size + 1, k, none⟩ = false) := by
          obtain ⟨P2, N2, K2, h2, -, -, -, hg2⟩ := HS.out
          exact ⟨_, fun W hW => by
            have hp5 := pg_cell ((hW.block _ (by omega)).trans h2)
            exact ⟨hp5.1 k hlt4, hp5.2.2 k⟩⟩
        obtain ⟨u0, hu0⟩ := H2.out
        have HU := Lib.hid hu0
        clear H2 hu0
        go_wp2_with fail
        go_region_with (go_at_call 17; (with_reducible refine (HSt.out _).mono ?_); rintro e w5 ⟨v5, rfl, ho, hb5⟩; have hb6 := Below.trans D0 hb5; obtain ⟨d1, f1⟩ := HU.out _ hb6; obtain ⟨p5, q5, rfl⟩ := own_sl ho)
        all_goals
          have HX : Hid (StG (w.heap.size + 1) w1 (w5.setCell ⟨w.heap.size + 1, k, none⟩ (.slice p5 26 q5)) (madeC l) n (k + 1)) :=
            HS.out.next hlt4 hb6 (by rw [HCy.out]; rfl) (by rw [HCy.out]; exact own_mono ho (Nat.le_refl _)) (by rw [HCy.out]; exact HMo.out)
          clear ho hb5 hb6 d1 f1 D0 t0 t1 t2 t3 t4 t5 t6
          go_wp2
          go_roundw
          all_goals first
            | exact ⟨k + 1, by omega, by go_num, HX⟩
            | (simp [intOf]; omega)
      · have hmk : ∀ W, (Instr.makeSlice 22 (.int .i64 26) (.int .i64 26)).run Try.prog W = .ok (.slice (some ⟨W.heap.size, 0, none⟩) 26 26) (W.alloc (.cells (byteV z26).toArray 5)) := fun W => make_bytes W 26 26 (by omega) (by omega)
        have hb1 : Below wr.heap.size wr (wr.alloc (.cells (byteV z26).toArray 5)) := (Below.refl _ _).alloc (Nat.le_refl _) _
        have ho : (wr.alloc (.cells (byteV z26).toArray 5)).ownsRow wr.heap.size 5 1 (.slice (some ⟨wr.heap.size, 0, none⟩) 26 26) 26 (byteV z26) :=
          ⟨rfl, .inr ⟨wr.heap.size, 26, _, rfl, Nat.le_refl _, heap_alloc_new wr _, Nat.le_refl _, by unfold maxLen; omega, rfl, rfl⟩⟩
        have HCy := Lib.hid (HCx.out.trans he)
        have HX : Hid (StG (w.heap.size + 1) w1 ((wr.alloc (.cells (byteV z26).toArray 5)).setCell ⟨w.heap.size + 1, k, none⟩ (.slice (some ⟨wr.heap.size, 0, none⟩) 26 26)) (madeC l) n (k + 1)) :=
          HS.out.next hlt4 hb1 (by rw [HCy.out]; rfl) (by rw [HCy.out]; exact ho) (by rw [HCy.out]; exact z26_ok)
        obtain ⟨P2, N2, K2, h2, -, -, -, hg2⟩ := HS.out
        have hp5 := pg_cell ((hb1.block _ (by omega)).trans h2)
        have f1 := hp5.2.2 k
        have d1 := hp5.1 k hlt4
        clear ho hb1 hp5 h2 hg2 he
        go_wp2
        go_roundw
        all_goals first
          | exact ⟨k + 1, by omega, by go_num, HX⟩
          | (simp [intOf]; omega)
      · have HX := Lib.hid (HS.out.skip (HCx.out.trans he))
        clear he
        go_wp2
        go_roundw
        case rel => exact ⟨k + 1, by omega, by go_num, HX⟩
        case measure => simp [intOf]; omega
    · obtain rfl : k = l.length := by omega
      obtain ⟨P, N, K, h2, hco, hb⟩ := HS.out.all (fun j h1 _ => madeC_ge h1)
      have hk := ((HSB.out.block _ (Nat.lt_succ_self _)).trans HK0.out : wr.heap[w.heap.size]? = some (pgO P0 N0 N0 0))
      obtain ⟨d0, d1, d2, d3, d4⟩ := pg5 h2
      obtain ⟨c0, c1, c2, c3, c4⟩ := pg5 hk
      have hz := (pg_cell hk).2.2
      have f0 := hz 0
      have f1 := hz 1
      have f2 := hz 2
      have f3 := hz 3
      have f4 := hz 4
      have HE := Lib.hid (finP_heap (P := P) (N := N) (K := K) (n := n) hk)
      have HP : Hid (MadePost w l n (.returned (pgV P N K n)) (finP wr w.heap.size P N K n)) := by
        refine ⟨P, N, K, rfl, fun j hj => ?_, finP_below HW.out (Nat.le_refl _)⟩
        obtain ⟨a1, a2, a3⟩ := hco j hj
        have hg : w.heap.size < w.heap.size + 1 + 1 := by omega
        exact ⟨a1, own_slK (own_set (own_set (own_set (own_set (own_set a2 hg) hg) hg) hg) hg) a3⟩
      clear hk h2 hco hb hz HS HSB HW
      go_wp2
      change bodyPost _ _ _ _ _ (finP wr w.heap.size P N K n)
      exact bodyPost_ret (md_end rfl HE.out) rfl HP.out

end Go.Proofs.Ytmijdjlpfjfjoaa
