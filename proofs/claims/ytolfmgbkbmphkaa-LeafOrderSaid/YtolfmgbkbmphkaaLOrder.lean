/- LeafOrder: for all numbers the law answers true; no condition. -/
import Derived.Test.YtolfmgbkbmphkaaLeafMade
namespace Go.Proofs.Ytolfmgbkbmphkaa.leafOrder
open Go.ChangeShapes Go.WideShapes Go.ChangeAt Go.RowKit

def Fin (w : World) (e : Ending) (w' : World) : Prop := e = .returned (.bool true) ∧ Below w.heap.size w w'
theorem sameB_refl (l : List Int) : sameB l l = true := decide_eq_true rfl
theorem pgSame_refl (c : Nat → List Int) (n : Int) : pgSame c c n n = true := by rw [pgSame_all (fun j _ => sameB_refl _)]; exact decide_eq_true rfl

def keyR (x : Int) : List Int := rowL (bstr [97 + x / 4 % 20]) ⟨#[]⟩ ⟨#[]⟩
theorem key_may (x : Int) : mayB (bstr [97 + x / 4 % 20]) ⟨#[]⟩ ⟨#[]⟩ = true := by
  have h : bytesOk [97 + x / 4 % 20] := by
    intro y hy
    rw [List.mem_singleton] at hy
    omega
  unfold mayB
  rw [bstr_size h, decide_eq_true_eq]
  exact ⟨by simp, by simp, by decide, by decide⟩
theorem key_len (x : Int) : (keyR x).length = 26 := rowL_len (key_may x)

/-- The page behind k sets. -/
def wC (l : List Int) : Nat → Nat → List Int
  | 0 => noC
  | k + 1 => upd (wC l k) ((l.getD k 0) % 4).toNat (keyR (l.getD k 0))
theorem wC_len (l : List Int) (k : Nat) : ∀ j, (wC l k j).length ≤ 100000 := by
  induction k with
  | zero => intro j; exact Nat.zero_le _
  | succ k ih =>
    intro j
    show (upd (wC l k) _ _ j).length ≤ _
    unfold upd
    by_cases e : j = ((l.getD k 0) % 4).toNat
    · rw [if_pos e, key_len]; decide
    · rw [if_neg e]; exact ih j
theorem set_new {c : Nat → List Int} {k i : Nat} {x : Int} (hk : k ≤ i) : setC c k (x % 4) (i + 1) (keyR x) = upd c (x % 4).toNat (keyR x) ∧ setN k (x % 4) (i + 1) = (i : Int) + 1 := by
  have hq : setQ k (x % 4) (i + 1) = true := by unfold setQ; simp; omega
  unfold setC setN
  rw [if_pos hq, if_pos hq]
  exact ⟨rfl, rfl⟩
theorem set_old {c : Nat → List Int} {k i : Nat} {x : Int} (hk : i < k) : setC c k (x % 4) (i + 1) (keyR x) = c ∧ setN k (x % 4) (i + 1) = k := by
  have hq : setQ k (x % 4) (i + 1) = false := by unfold setQ; simp; omega
  unfold setC setN
  rw [if_neg (by rw [hq]; decide), if_neg (by rw [hq]; decide)]
  exact ⟨rfl, rfl⟩

/-- A page's variable of the law's own, behind k sets. -/
def Pv (g B : Nat) (l : List Int) (k : Nat) (W : World) : Prop := ∃ P N K, W.heap[g]? = some (pgO P N K k) ∧ Co W B P N K (wC l k)
theorem Pv.on {g B : Nat} {l : List Int} {k : Nat} {W W' : World} (h : Pv g B l k W) (hb : Below W.heap.size W W') : Pv g B l k W' := by
  obtain ⟨P, N, K, h1, h2⟩ := h
  exact ⟨P, N, K, (hb.block _ (Array.getElem?_eq_some_iff.1 h1).1).trans h1, fun j hj => ⟨(h2 j hj).1, own_below (h2 j hj).2.1 hb, (h2 j hj).2.2⟩⟩
theorem co_fin {W : World} {g B : Nat} {P N K P2 N2 K2} {n2 : Int} {c : Nat → List Int} (h : Co W B P N K c) (hg : g < B) : Co (finP W g P2 N2 K2 n2) B P N K c := fun j hj =>
  ⟨(h j hj).1, own_set (own_set (own_set (own_set (own_set (h j hj).2.1 hg) hg) hg) hg) hg, (h j hj).2.2⟩
theorem Pv.far {g g' B : Nat} {l : List Int} {k : Nat} {W : World} {P2 N2 K2} {n2 : Int} (h : Pv g B l k W) (hne : g ≠ g') (hg : g' < B) : Pv g B l k (finP W g' P2 N2 K2 n2) := by
  obtain ⟨P, N, K, h1, h2⟩ := h
  refine ⟨P, N, K, ?_, co_fin h2 hg⟩
  unfold finP
  exact (Below.heap_setCell _ _ _ _ hne).trans ((Below.heap_setCell _ _ _ _ hne).trans ((Below.heap_setCell _ _ _ _ hne).trans ((Below.heap_setCell _ _ _ _ hne).trans ((Below.heap_setCell _ _ _ _ hne).trans h1))))
theorem Pv.at {g B : Nat} {l : List Int} {k : Nat} {W : World} {P N K P' N' K'} {n' : Int} (hg : W.heap[g]? = some (pgO P' N' K' n')) (h : Co W B P N K (wC l k)) (hB : g < B) : Pv g B l k (finP W g P N K k) :=
  ⟨P, N, K, finP_heap hg, co_fin h hB⟩
theorem Pv.cells {g B : Nat} {l : List Int} {k : Nat} {W : World} (h : Pv g B l k W) : ∃ P N K, W.heap[g]? = some (pgO P N K k) ∧ Cs W P N K (wC l k) := by
  obtain ⟨P, N, K, h1, h2⟩ := h
  exact ⟨P, N, K, h1, h2.cs⟩
theorem frz {W : World} {g : Nat} {P N K} {n : Int} (h : W.heap[g]? = some (pgO P N K n)) : W.frozen? ⟨g, 0, none⟩ = false ∧ W.frozen? ⟨g, 1, none⟩ = false ∧ W.frozen? ⟨g, 2, none⟩ = false ∧ W.frozen? ⟨g, 3, none⟩ = false ∧ W.frozen? ⟨g, 4, none⟩ = false := by
  have hz := (pg_cell h).2.2
  exact ⟨hz 0, hz 1, hz 2, hz 3, hz 4⟩

theorem set_call {w4 : World} {B : Nat} {l : List Int} {j j' k : Nat} {x : Int} {P : Nat → Option Addr} {N K : Nat → Nat} {p4 : Option Addr} {q4 : Nat} (hpv : Co w4 B P N K (wC l j)) (hB : B ≤ w4.heap.size) (hr : SlK .u8 w4 (.slice p4 26 q4) (keyR x))
    (e1 : setC (wC l j) j (x % 4) (k + 1) (keyR x) = wC l j') (e2 : setN j (x % 4) (k + 1) = j') : ∀ W, Below w4.heap.size w4 W → Calls Try.prog 21 #[.agg #[.slice (P 0) (N 0) (K 0), .slice (P 1) (N 1) (K 1), .slice (P 2) (N 2) (K 2), .slice (P 3) (N 3) (K 3), .int .i64 (j : Int)], .int .i64 (x % 4), .slice p4 26 q4, .int .i64 ((k : Int) + 1)] W
      fun e w' => ∃ P9 N9 K9, e = .returned (.agg #[.slice (P9 0) (N9 0) (K9 0), .slice (P9 1) (N9 1) (K9 1), .slice (P9 2) (N9 2) (K9 2), .slice (P9 3) (N9 3) (K9 3), .int .i64 (j' : Int)]) ∧ Hid (Co w' B P9 N9 K9 (wC l j')) ∧ Below w4.heap.size w4 w' := fun W hW => by
  have hcs : Cs W P N K (wC l j) := hpv.cs.below hW (Nat.le_refl _)
  refine (set_any W P N K j (wC l j) hcs (x % 4) (k + 1) p4 26 q4 (keyR x) (hr.below hW (Nat.le_refl _)) (key_len x).symm (fun i _ => wC_len l j i) (by rw [key_len]; decide)).mono ?_
  rintro e w' ⟨P9, N9, K9, rfl, hco, hb⟩
  rw [e1] at hco
  rw [e2]
  refine ⟨P9, N9, K9, rfl, fun i hi => ?_, hW.trans (hb.mono hW.size)⟩
  obtain ⟨a1, a2, a3⟩ := hco i hi
  exact ⟨a1, own_mono a2 (Nat.le_trans hB hW.size), a3⟩

/-- Both pages, and what stays. -/
def Inv (w : World) (g : Nat) (l : List Int) (i j : Nat) (W : World) : Prop := Pv g (g + 2) l i W ∧ Pv (g + 1) (g + 2) l j W ∧ Below w.heap.size w W ∧ g + 2 ≤ W.heap.size
theorem Inv.on {w : World} {g : Nat} {l : List Int} {i j : Nat} {W W' : World} (h : Inv w g l i j W) (hb : Below W.heap.size W W') : Inv w g l i j W' := ⟨h.1.on hb, h.2.1.on hb, h.2.2.1.trans (hb.mono h.2.2.1.size), Nat.le_trans h.2.2.2 hb.size⟩
theorem Inv.set1 {w : World} {g : Nat} {l : List Int} {i i' j : Nat} {W : World} {P N K} (h : Inv w g l i j W) (hg : w.heap.size ≤ g) (hc : Co W (g + 2) P N K (wC l i')) : Inv w g l i' j (finP W g P N K i') := by
  obtain ⟨⟨P1, N1, K1, h1, _⟩, h2, h3, h4⟩ := h
  exact ⟨Pv.at h1 hc (by omega), h2.far (by omega) (by omega), finP_below h3 hg, Nat.le_trans h4 (by unfold finP; simp)⟩
theorem Inv.set2 {w : World} {g : Nat} {l : List Int} {i j j' : Nat} {W : World} {P N K} (h : Inv w g l i j W) (hg : w.heap.size ≤ g) (hc : Co W (g + 2) P N K (wC l j')) : Inv w g l i j' (finP W (g + 1) P N K j') := by
  obtain ⟨h1, ⟨P1, N1, K1, h2, _⟩, h3, h4⟩ := h
  exact ⟨h1.far (by omega) (by omega), Pv.at h2 hc (by omega), finP_below h3 (by omega), Nat.le_trans h4 (by unfold finP; simp)⟩

set_option maxRecDepth 100000 in
set_option maxHeartbeats 4000000 in
theorem walk (w : World) (v : Value) (l : List Int) (hv : SlK .u8 w v l) (y : Int) (y0 : 0 ≤ y) (y1 : y < 256) :
    Calls Try.prog 7 #[v, .int .u8 y] w (Fin w) := by
  have HV := Lib.hid hv
  obtain ⟨pv, cv, rfl, -⟩ := hv
  go_enter Try.func7, Try.ntmps7
  go_wp2_with fail
  refine (begun_true w).mono ?_
  rintro e w0 ⟨rfl, hb0⟩
  have HB0 := Lib.hid hb0
  clear hb0
  by_cases hl : 10 < l.length
  · go_wp2
    go_ret
    exact ⟨rfl, HB0.out⟩
  have hl' : l.length ≤ 10 := by omega
  obtain ⟨t, ht⟩ : ∃ t : Nat, y % ((l.length : Int) + 1) = (t : Int) := ⟨(y % ((l.length : Int) + 1)).toNat, by have := Int.emod_nonneg y (show (l.length : Int) + 1 ≠ 0 by omega); omega⟩
  have htl : t ≤ l.length := by have := Int.emod_lt_of_pos y (show 0 < (l.length : Int) + 1 by omega); omega
  have hb2 : Below w0.heap.size w0 ((w0.alloc zP).alloc zP) := ((Below.refl _ _).alloc (Nat.le_refl _) _).alloc (by simp) _
  have HB2 := Lib.hid (HB0.out.trans (hb2.mono HB0.out.size))
  have HW2 : Hid (Pv w0.heap.size (w0.heap.size + 2) l 0 ((w0.alloc zP).alloc zP)) := ⟨P0, N0, N0, (Below.heap_alloc _ _ _ (by simp)).trans (heap_alloc_new w0 _), fun j _ => ⟨rfl, World.ownsRow_nil _ _ _ _, fun x hx => (by cases hx)⟩⟩
  have HS2 : Hid (Pv (w0.heap.size + 1) (w0.heap.size + 2) l (min 0 t) ((w0.alloc zP).alloc zP)) := by
    rw [Nat.zero_min]
    have h1 := heap_alloc_new (w0.alloc zP) zP
    rw [show (w0.alloc zP).heap.size = w0.heap.size + 1 by simp] at h1
    exact ⟨P0, N0, N0, h1, fun j _ => ⟨rfl, World.ownsRow_nil _ _ _ _, fun x hx => (by cases hx)⟩⟩
  have HZ2 : Hid (w0.heap.size + 2 ≤ ((w0.alloc zP).alloc zP).heap.size) := by show _ ≤ _; simp
  have HBz := Lib.hid HB0.out.size
  have HI2 : Hid (Inv w w0.heap.size l 0 (min 0 t) ((w0.alloc zP).alloc zP)) := ⟨HW2.out, HS2.out, HB2.out, HZ2.out⟩
  clear hb2 HB0 hl HW2 HS2 HB2 HZ2
  go_upto_region 6 with (fail)
  show Code.wp _ _ _ _ ((w0.alloc zP).alloc zP)
  generalize (w0.alloc zP).alloc zP = w2 at *
  generalize w0.heap.size = g at *
  go_wp2
  go_loopw [7] (fun i wr => ∃ k : Nat, k ≤ l.length ∧ i = .int .i64 k ∧ Hid (Inv w g l k (min k t) wr)) (fun i _ => l.length - (intOf i).toNat)
  case atStart => exact ⟨0, by omega, rfl, HI2⟩
  case round =>
    obtain ⟨k, hk, rfl, HIr⟩ := hrel
    clear HI2
    by_cases hlt : k < l.length
    · skip
      have hp := (HV.out.below HIr.out.2.2.1 (Nat.le_refl _)).pt (fun e => by rw [e] at hlt; cases hlt)
      have hx := HV.out.ok l[k] (List.getElem_mem hlt)
      have hgd : l.getD k 0 = l[k] := by rw [List.getD_eq_getElem?_getD, List.getElem?_eq_getElem hlt]; rfl
      obtain ⟨b, off, cap', e, _, _, h3⟩ := id hp
      injection e with e1 e2 e3
      subst e1 e3
      obtain ⟨x, hxx⟩ : ∃ x, l[k] = x := ⟨_, rfl⟩
      rw [hxx] at hx hgd
      have hx3 : ∀ W, Below wr.heap.size wr W → W.cell? ⟨b, off + k, none⟩ = some (.int .u8 x) := fun W hW => by
        obtain ⟨b', off', cap2, e, _, _, h4⟩ := hp.below hW (Nat.le_refl _)
        injection e with e1
        injection e1 with e1
        injection e1 with e1 e4
        subst e1 e4
        rw [← hxx]; exact h4 k hlt
      have x0 := hx3 wr (Below.refl _ _)
      obtain ⟨hx0, hx1⟩ := hx
      have hy : bytesOk [97 + x / 4 % 20] := by
        intro q hq
        rw [List.mem_singleton] at hq
        omega
      have hb3 : Below wr.heap.size wr (wr.alloc (.cells #[.int .u8 (97 + x / 4 % 20)] 5)) := (Below.refl _ _).alloc (Nat.le_refl _) _
      have cv' : (convert 22 9 (.slice (some ⟨wr.heap.size, 0, none⟩) 1 1)).run Try.prog (wr.alloc (.cells #[.int .u8 (97 + x / 4 % 20)] 5)) = .ok (.string (bstr [97 + x / 4 % 20])) (wr.alloc (.cells #[.int .u8 (97 + x / 4 % 20)] 5)) := conv_slK (((blk_new wr [97 + x / 4 % 20]).pt (n := 1) (c := 1) rfl (Nat.le_refl _)).slK hy)
      have HRow : Hid (Calls Try.prog 20 #[.agg #[.string (bstr [97 + x / 4 % 20]), .string ⟨#[]⟩, .string ⟨#[]⟩]] (wr.alloc (.cells #[.int .u8 (97 + x / 4 % 20)] 5)) fun e w' => ∃ x', e = .returned (.tuple #[x', .int .i64 0]) ∧ w'.ownsRow (wr.alloc (.cells #[.int .u8 (97 + x / 4 % 20)] 5)).heap.size 5 1 x' 26 (byteV (keyR x)) ∧ Below (wr.alloc (.cells #[.int .u8 (97 + x / 4 % 20)] 5)).heap.size (wr.alloc (.cells #[.int .u8 (97 + x / 4 % 20)] 5)) w') := rrow_ok _ _ _ _ (key_may x)
      have HB3 := Lib.hid hb3
      have HX3 := Lib.hid hx3
      have HGd := Lib.hid hgd
      clear hy hb3 hx3 hp h3 e2 hxx hgd
      generalize bstr [97 + x / 4 % 20] = ky at *
      go_wp2_with fail
      refine HRow.out.mono ?_
      rintro e w4 ⟨v4, rfl, ho, hb⟩
      obtain ⟨p4, q4, rfl⟩ := own_sl ho
      have hb5 := HB3.out.trans (hb.mono HB3.out.size)
      have HI4 := Lib.hid (HIr.out.on hb5)
      have hs4 := own_slK ho (rowL_ok (key_may x))
      obtain ⟨P, N, K, h1, h2⟩ := HI4.out.1
      have hcn : setC (wC l k) k (x % 4) (k + 1) (keyR x) = wC l (k + 1) ∧ setN k (x % 4) (k + 1) = ((k + 1 : Nat) : Int) := by
        have h := set_new (c := wC l k) (x := x) (Nat.le_refl k)
        refine ⟨?_, by rw [h.2]; rfl⟩
        rw [h.1]
        show _ = upd (wC l k) ((l.getD k 0) % 4).toNat (keyR (l.getD k 0))
        rw [HGd.out]
      have HSet := Lib.hid (set_call (k := k) h2 HI4.out.2.2.2 hs4 hcn.1 hcn.2)
      have D0 := (Below.refl w4.heap.size w4).drew
      have HK : Hid (∀ W, Below w4.heap.size w4 W → W.heap[g]? = some (pgO P N K (k : Nat))) := fun W hW => (hW.block _ (Array.getElem?_eq_some_iff.1 h1).1).trans h1
      obtain ⟨d0, d1, d2, d3, d4⟩ := pg5 h1
      obtain ⟨e0, e1, e2, e3, e4⟩ := pg5 (HK.out _ D0)
      have x1 := HX3.out w4 hb5
      have x2 : w4.drew.cell? ⟨b, off + k, none⟩ = some (.int .u8 x) := x1
      have t1 : x.tmod 4 = x % 4 := Int.tmod_eq_emod_of_nonneg hx0
      have t2 : IntKind.i64.wrap (x % 4) = x % 4 := IntWalk.i64_in _ (by omega)
      have t3 : IntKind.i64.wrap ((k : Int) + 1) = (k : Int) + 1 := IntWalk.i64_in _ (by omega)
      clear ho hb hb5 hs4 h1 h2 hcn HRow HB3 HX3 HIr cv' x0
      go_upto_region 10 with (fail)
      go_cut [] (fun wx => Inv w g l (k + 1) (min k t) wx)
      case first =>
        go_region_with (go_at_call 21; (with_reducible refine (HSet.out _ D0).mono ?_); rintro e w5 ⟨P9, N9, K9, rfl, hco, hb6⟩; have hk5 := HK.out _ hb6; obtain ⟨c0, c1, c2, c3, c4⟩ := pg5 hk5; obtain ⟨f0, f1, f2, f3, f4⟩ := frz hk5)
        all_goals
          have HX := Lib.hid ((HI4.out.on hb6).set1 HBz.out hco.out)
          clear hco hb6 hk5 D0 t1 t2 t3 d0 d1 d2 d3 d4 e0 e1 e2 e3 e4 x1 x2
          go_wp2
          go_meet
          exact HX.out
      case rest =>
        have HI5 := Lib.hid hcut
        generalize wc = w6 at *
        clear hcut HSet HK HI4 D0 t1 t2 t3 d0 d1 d2 d3 d4 e0 e1 e2 e3 e4 x1 x2
        have ym : y.tmod ((l.length : Int) + 1) = (t : Int) := by rw [Int.tmod_eq_emod_of_nonneg y0]; exact ht
        have yw : IntKind.i64.wrap ((l.length : Int) + 1) = (l.length : Int) + 1 := IntWalk.i64_in _ (by omega)
        have tw : IntKind.i64.wrap (t : Int) = (t : Int) := IntWalk.i64_in _ (by omega)
        by_cases hkt : k < t
        · obtain ⟨P, N, K, h1, h2⟩ := HI5.out.1
          obtain ⟨d0, d1, d2, d3, d4⟩ := pg5 h1
          obtain ⟨P7, N7, K7, h7, _⟩ := HI5.out.2.1
          obtain ⟨c0, c1, c2, c3, c4⟩ := pg5 h7
          obtain ⟨f0, f1, f2, f3, f4⟩ := frz h7
          have hX := HI5.out.set2 HBz.out h2
          have HX : Hid (Inv w g l (k + 1) (min (k + 1) t) (finP w6 (g + 1) P N K ((k + 1 : Nat) : Int))) := by rw [show min (k + 1) t = k + 1 by omega]; exact hX
          have hki : (k : Int) < (t : Int) := by omega
          clear hX h1 h2 h7 ht
          go_wp2
          change (∃ k_1 : Nat, k_1 ≤ l.length ∧ Value.int IntKind.i64 ((k : Int) + 1) = Value.int IntKind.i64 k_1 ∧ Hid (Inv w g l k_1 (min k_1 t) (finP w6 (g + 1) P N K ((k + 1 : Nat) : Int)))) ∧ _
          refine ⟨⟨k + 1, by omega, by go_num, HX⟩, ?_⟩
          simp [intOf]; omega
        · have HX : Hid (Inv w g l (k + 1) (min (k + 1) t) w6) := by
            rw [show min (k + 1) t = min k t by omega]; exact HI5.out
          have hki : ¬ (k : Int) < (t : Int) := by omega
          clear ht
          go_wp2
          go_roundw
          all_goals first
            | exact ⟨k + 1, by omega, by go_num, HX⟩
            | (simp [intOf]; omega)
    · obtain rfl : k = l.length := by omega
      have HI3 : Hid (Inv w g l l.length (max 0 t) wr) := by
        have := HIr.out
        rw [show min l.length t = max 0 t by omega] at this
        exact this
      clear HIr hlt
      go_wp2
      go_loopw [10] (fun i wr => ∃ k : Nat, k ≤ l.length ∧ i = .int .i64 k ∧ Hid (Inv w g l l.length (max k t) wr)) (fun i _ => l.length - (intOf i).toNat)
      case atStart => exact ⟨0, by omega, rfl, HI3⟩
      case round =>
        obtain ⟨k, hk, rfl, HIr⟩ := hrel
        clear HI3
        by_cases hlt : k < l.length
        · skip
          have hp := (HV.out.below HIr.out.2.2.1 (Nat.le_refl _)).pt (fun e => by rw [e] at hlt; cases hlt)
          have hx := HV.out.ok l[k] (List.getElem_mem hlt)
          have hgd : l.getD k 0 = l[k] := by rw [List.getD_eq_getElem?_getD, List.getElem?_eq_getElem hlt]; rfl
          obtain ⟨b, off, cap', e, _, _, h3⟩ := id hp
          injection e with e1 e2 e3
          subst e1 e3
          obtain ⟨x, hxx⟩ : ∃ x, l[k] = x := ⟨_, rfl⟩
          rw [hxx] at hx hgd
          have hx3 : ∀ W, Below wr.heap.size wr W → W.cell? ⟨b, off + k, none⟩ = some (.int .u8 x) := fun W hW => by
            obtain ⟨b', off', cap2, e, _, _, h4⟩ := hp.below hW (Nat.le_refl _)
            injection e with e1
            injection e1 with e1
            injection e1 with e1 e4
            subst e1 e4
            rw [← hxx]; exact h4 k hlt
          have x0 := hx3 wr (Below.refl _ _)
          obtain ⟨hx0, hx1⟩ := hx
          have hy : bytesOk [97 + x / 4 % 20] := by
            intro q hq
            rw [List.mem_singleton] at hq
            omega
          have hb3 : Below wr.heap.size wr (wr.alloc (.cells #[.int .u8 (97 + x / 4 % 20)] 5)) := (Below.refl _ _).alloc (Nat.le_refl _) _
          have cv' : (convert 22 9 (.slice (some ⟨wr.heap.size, 0, none⟩) 1 1)).run Try.prog (wr.alloc (.cells #[.int .u8 (97 + x / 4 % 20)] 5)) = .ok (.string (bstr [97 + x / 4 % 20])) (wr.alloc (.cells #[.int .u8 (97 + x / 4 % 20)] 5)) := conv_slK (((blk_new wr [97 + x / 4 % 20]).pt (n := 1) (c := 1) rfl (Nat.le_refl _)).slK hy)
          have HRow : Hid (Calls Try.prog 20 #[.agg #[.string (bstr [97 + x / 4 % 20]), .string ⟨#[]⟩, .string ⟨#[]⟩]] (wr.alloc (.cells #[.int .u8 (97 + x / 4 % 20)] 5)) fun e w' => ∃ x', e = .returned (.tuple #[x', .int .i64 0]) ∧ w'.ownsRow (wr.alloc (.cells #[.int .u8 (97 + x / 4 % 20)] 5)).heap.size 5 1 x' 26 (byteV (keyR x)) ∧ Below (wr.alloc (.cells #[.int .u8 (97 + x / 4 % 20)] 5)).heap.size (wr.alloc (.cells #[.int .u8 (97 + x / 4 % 20)] 5)) w') := rrow_ok _ _ _ _ (key_may x)
          have HB3 := Lib.hid hb3
          have HX3 := Lib.hid hx3
          have HGd := Lib.hid hgd
          clear hy hb3 hx3 hp h3 e2 hxx hgd
          generalize bstr [97 + x / 4 % 20] = ky at *
          go_wp2_with fail
          refine HRow.out.mono ?_
          rintro e w4 ⟨v4, rfl, ho, hb⟩
          obtain ⟨p4, q4, rfl⟩ := own_sl ho
          have hb5 := HB3.out.trans (hb.mono HB3.out.size)
          have HI4 := Lib.hid (HIr.out.on hb5)
          have hs4 := own_slK ho (rowL_ok (key_may x))
          obtain ⟨P, N, K, h1, h2⟩ := HI4.out.2.1
          have hcn : setC (wC l (max k t)) ((max k t : Nat) : Int) (x % 4) (k + 1) (keyR x) = wC l (max (k + 1) t) ∧ setN ((max k t : Nat) : Int) (x % 4) (k + 1) = ((max (k + 1) t : Nat) : Int) := by
            by_cases htk : t ≤ k
            · rw [show max k t = k by omega, show max (k + 1) t = k + 1 by omega]
              have h := set_new (c := wC l k) (x := x) (Nat.le_refl k)
              refine ⟨?_, by rw [h.2]; rfl⟩
              rw [h.1]
              show _ = upd (wC l k) ((l.getD k 0) % 4).toNat (keyR (l.getD k 0))
              rw [HGd.out]
            · rw [show max k t = t by omega, show max (k + 1) t = t by omega]
              exact set_old (by omega)
          have HSet := Lib.hid (set_call (k := k) h2 HI4.out.2.2.2 hs4 hcn.1 hcn.2)
          have D0 := (Below.refl w4.heap.size w4).drew
          have HK : Hid (∀ W, Below w4.heap.size w4 W → W.heap[g + 1]? = some (pgO P N K (max k t : Nat))) := fun W hW => (hW.block _ (Array.getElem?_eq_some_iff.1 h1).1).trans h1
          obtain ⟨d0, d1, d2, d3, d4⟩ := pg5 h1
          obtain ⟨e0, e1, e2, e3, e4⟩ := pg5 (HK.out _ D0)
          have x1 := HX3.out w4 hb5
          have x2 : w4.drew.cell? ⟨b, off + k, none⟩ = some (.int .u8 x) := x1
          have t1 : x.tmod 4 = x % 4 := Int.tmod_eq_emod_of_nonneg hx0
          have t2 : IntKind.i64.wrap (x % 4) = x % 4 := IntWalk.i64_in _ (by omega)
          have t3 : IntKind.i64.wrap ((k : Int) + 1) = (k : Int) + 1 := IntWalk.i64_in _ (by omega)
          clear ho hb hb5 hs4 h1 h2 hcn HRow HB3 HX3 HIr cv' x0
          go_upto_region 17 with (fail)
          go_region_with (go_at_call 21; (with_reducible refine (HSet.out _ D0).mono ?_); rintro e w5 ⟨P9, N9, K9, rfl, hco, hb6⟩; have hk5 := HK.out _ hb6; obtain ⟨c0, c1, c2, c3, c4⟩ := pg5 hk5; obtain ⟨f0, f1, f2, f3, f4⟩ := frz hk5)
          all_goals
            have HX := Lib.hid ((HI4.out.on hb6).set2 HBz.out hco.out)
            clear hco hb6 hk5 D0 t1 t2 t3 d0 d1 d2 d3 d4 e0 e1 e2 e3 e4 x1 x2 HSet HK HI4
            go_wp2
            change (∃ k_1 : Nat, k_1 ≤ l.length ∧ Value.int IntKind.i64 ((k : Int) + 1) = Value.int IntKind.i64 k_1 ∧ Hid (Inv w g l l.length (max k_1 t) (finP w5 (g + 1) P9 N9 K9 ((max (k + 1) t : Nat) : Int)))) ∧ _
            refine ⟨⟨k + 1, by omega, by go_num, HX⟩, ?_⟩
            simp [intOf]; omega
        · obtain rfl : k = l.length := by omega
          obtain ⟨⟨P, N, K, h1, h2⟩, ⟨P', N', K', h3, h4⟩, h5, h6⟩ := HIr.out
          rw [show max l.length t = l.length by omega] at h3 h4
          obtain ⟨d0, d1, d2, d3, d4⟩ := pg5 h1
          obtain ⟨e0, e1, e2, e3, e4⟩ := pg5 h3
          have hs := same_any wr P N K l.length (wC l l.length) P' N' K' l.length (wC l l.length) h2.cs h4.cs
          rw [pgSame_refl] at hs
          have HS := Lib.hid hs
          have HB := Lib.hid h5
          have HC : Hid (∀ W, Below wr.heap.size wr W → W.cell? ⟨g, 4, none⟩ = some (.int .i64 (l.length : Int))) := fun W hW => (pg5 ((hW.block _ (Array.getElem?_eq_some_iff.1 h1).1).trans h1)).2.2.2.2
          clear hs h1 h2 h3 h4 h5 h6 ht HIr
          go_wp2_with fail
          refine HS.out.mono ?_
          rintro e w9 ⟨rfl, hb⟩
          have c4 := HC.out w9 hb
          have HB9 := Lib.hid (HB.out.trans (hb.mono HB.out.size))
          clear hb d0 d1 d2 d3 d4 e0 e1 e2 e3 e4
          go_wp2
          go_ret
          exact ⟨rfl, HB9.out⟩

theorem own : ownKnob Try.prog.godebug = none := by kernel_rfl
theorem laidOut : laidOutB Try.prog = true := by kernel_rfl

set_option maxRecDepth 100000 in
theorem lifted (os : Os) (started : os.Started) (H : Type) (enc : TypeId × Value → H) :
    ReturnsInHanded {} Try.checked os 7 .any (Rows.leafOrderSpec.pre6 enc Try.prog Try.f7 Rows.leafOrderRow.domain false) (Rows.leafOrderSpec.post enc Try.prog Try.f7 false true false false) := by
  refine returnsInHanded_of_change (C := Try.checked) own started (by kernel_rfl) Try.func7
    (ChangeSpec.witness6 (enc := enc) (C := Try.checked) false ⟨#[], #[.slice none 0 0, .int .u8 0], []⟩ 8 (by kernel_rfl) (by kernel_rfl) (by kernel_rfl) (by kernel_rfl)) ?_
  intro W base args ds gs before hval0 hW hcnd _
  have hval : ∀ (j : Nat) t v, Try.f7.params[j]? = some t → args[j]? = some v → Value.okWide Try.prog W .any base t v := hval0
  have hW' := hW
  obtain ⟨p, q, hA0, hV, rfl, hfz, hnd⟩ := hW
  obtain ⟨rfl, rfl⟩ := trodVars_none hV
  have hA : DataW.TrodAll enc Try.prog W 0 (fun _ => true) true Try.f7.params.toList args.toList ds p := hA0
  rw [Try.params7] at hA hval
  obtain ⟨v0, vs0, d0, ds0, p0, q0, hargs, rfl, rfl, h0, r0⟩ := trodAll_cons hA
  obtain ⟨v1, vs1, d1, ds1, p1, q1, rfl, rfl, rfl, h1, r1⟩ := trodAll_cons r0
  obtain ⟨rfl, rfl, rfl⟩ := trodAll_nil r1
  obtain rfl : args = #[v0, v1] := by cases args; simp_all
  have ok0 := hval 0 22 v0 rfl rfl
  obtain ⟨a1, rfl, rfl, rfl, w1⟩ := open_int Try.underlying5 (hval 1 5 v1 rfl rfl) h1
  obtain ⟨l, hl⟩ := open_sl Try.underlying22 Try.underlying5 (by kernel_rfl) ok0 h0
  have b1 := bounds_u8 w1
  refine (walk W v0 l hl a1 b1.1 (by omega)).mono fun e W' ⟨he, hg⟩ => ?_
  subst he
  exact ⟨_, rfl, law_post laidOut Try.underlying4 rfl (by rw [Try.params7]; intro t ht; simp at ht; rcases ht with rfl | rfl <;> exact ⟨by kernel_rfl, of_decide_eq_true (by kernel_rfl)⟩) rfl hW' rfl hg⟩

theorem proved : Rows.LeafOrderSaid :=
  OpenClaim.holds_of_wide 7 Try.f7 rfl rfl rfl rfl rfl rfl rfl ⟨rfl, rfl, rfl, rfl, rfl⟩ rfl rfl rfl rfl rfl (by kernel_rfl) Try.func7 (by kernel_rfl)
    (of_decide_eq_true (by kernel_rfl)) (by unfold Func.isWrapper; first | (rw [if_pos (by decide +kernel)]; kernel_rfl) | (rw [if_neg (by decide +kernel)]; exact ⟨rfl, rfl⟩))
    (fun os started H enc _ => lifted os started H enc)
#print axioms proved

end Go.Proofs.Ytolfmgbkbmphkaa.leafOrder
