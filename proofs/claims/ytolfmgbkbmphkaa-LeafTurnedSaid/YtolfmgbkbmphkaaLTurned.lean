/- LeafTurned: for all numbers and bytes the law answers true; no condition. -/
import Derived.Test.YtolfmgbkbmphkaaLeafMade
import Derived.Test.YtolfmgbkbmphkaaLeafRef
import Derived.Test.YtolfmgbkbmphkaaLeafTakeR
import Derived.Test.YtolfmgbkbmphkaaLeafSp
namespace Go.Proofs.Ytolfmgbkbmphkaa.leafTurned
open Go.ChangeShapes Go.WideShapes Go.ChangeAt Go.RowKit

def Fin (w : World) (e : Ending) (w' : World) : Prop := e = .returned (.bool true) ∧ Below w.heap.size w w'
theorem sameB_refl (l : List Int) : sameB l l = true := decide_eq_true rfl
theorem pgSame_refl (c : Nat → List Int) (n : Int) : pgSame c c n n = true := by rw [pgSame_all (fun j _ => sameB_refl _)]; exact decide_eq_true rfl

/-- A block of 128 bytes, and what it holds. -/
def AL (W : World) (B g : Nat) (L : List Int) : Prop := B ≤ g ∧ L.length = 128 ∧ bytesOk L ∧ ∃ cur t, W.heap[g]? = some (.cells cur t (0, 0)) ∧ ∀ j (h : j < L.length), cur[j]? = some (.int .u8 L[j])
theorem al_of_own {W : World} {B : Nat} {v : Value} {L : List Int} (h : W.ownsRow B 5 1 v 128 (byteV L)) (hok : bytesOk L) : ∃ g cap, v = .slice (some ⟨g, 0, none⟩) 128 cap ∧ 128 ≤ cap ∧ AL W B g L := by
  obtain ⟨h1, ⟨_, h0⟩ | ⟨g, cap, cur, rfl, hB, hg, hle, hm, _, htake⟩⟩ := h
  · cases h0
  · have hl : L.length = 128 := by simpa [byteV] using h1
    refine ⟨g, cap, rfl, hle, hB, hl, hok, cur, _, hg, fun j hj => ?_⟩
    have e1 : (cur.toList.take (128 * 1))[j]? = some (.int .u8 L[j]) := by rw [htake]; simp [byteV, hj]
    rw [List.getElem?_take, if_pos (by omega)] at e1
    simpa using e1
theorem AL.pt {W : World} {B g cap : Nat} {L : List Int} (h : AL W B g L) (hc : 128 ≤ cap) : Pt W (.slice (some ⟨g, 0, none⟩) 128 cap) L := by
  obtain ⟨_, hl, _, cur, t, hg, hj⟩ := h
  refine ⟨g, 0, cap, by rw [hl], by omega, (Array.getElem?_eq_some_iff.1 hg).1, fun j h => ?_⟩
  rw [Nat.zero_add, (cell_of hg j).1, hj j h]
theorem AL.set {W : World} {B g : Nat} {L : List Int} (h : AL W B g L) {i : Nat} {x : Int} (x0 : 0 ≤ x) (x1 : x < 256) : AL (W.setCell ⟨g, i, none⟩ (.int .u8 x)) B g (L.set i x) := by
  obtain ⟨hB, hl, hok, cur, t, hg, hj⟩ := h
  refine ⟨hB, by simpa using hl, fun y hy => ?_, _, t, heap_setCell_same W g i _ _ _ hg, fun j hj' => ?_⟩
  · rcases List.mem_or_eq_of_mem_set hy with h | rfl
    · exact hok y h
    · exact ⟨x0, x1⟩
  · have hj2 : j < L.length := by simpa using hj'
    have hc := hj j hj2
    have hlt : j < cur.size := (Array.getElem?_eq_some_iff.1 hc).1
    rw [List.getElem_set]
    by_cases e : i = j
    · subst e
      rw [if_pos rfl]
      simp [hlt]
    · rw [if_neg e]
      simp [e, hc]
theorem AL.cell {W : World} {B g : Nat} {L : List Int} (h : AL W B g L) {i : Nat} (hi : i < 128) : (∃ y, W.cell? ⟨g, i, none⟩ = some (.int .u8 y)) ∧ W.frozen? ⟨g, i, none⟩ = false := by
  obtain ⟨hB, hl, hok, cur, t, hg, hj⟩ := h
  exact ⟨⟨_, by rw [(cell_of hg i).1]; exact hj i (by omega)⟩, (cell_of hg i).2⟩
theorem AL.lt {W : World} {B g : Nat} {L : List Int} (h : AL W B g L) : g < W.heap.size := by
  obtain ⟨_, _, _, cur, t, hg, _⟩ := h
  exact (Array.getElem?_eq_some_iff.1 hg).1

/-- What Take has left: a page's variable, and an error. -/
def PgAt (w5 wx : World) (la lb : List Int) (u e : Value) : Prop := ∃ g er c n P N K, u = .pointer (some ⟨g, 0, none⟩) ∧ e = .int .i64 er ∧ Tk la lb er c n ∧ wx.heap[g]? = some (pgO P N K n) ∧ Cs wx P N K c ∧ Below w5.heap.size w5 wx

theorem slk_set {w : World} {g i : Nat} {u v : Value} {l : List Int} (h : SlK .u8 w v l) (hn : ∀ x, w.cell? ⟨g, i, none⟩ ≠ some (.int .u8 x)) : SlK .u8 (w.setCell ⟨g, i, none⟩ u) v l := by
  obtain ⟨p, cap, rfl, h1, h2, h3, h4⟩ := h
  refine ⟨p, cap, rfl, h1, h2, h3, fun a ha => ?_⟩
  obtain ⟨h5, h6, h7⟩ := h4 a ha
  refine ⟨h5, by simpa using h6, fun j hj => ?_⟩
  rw [World.cell?_setCell_other _ _ _ _ (fun e => hn _ (by rw [e]; exact h7 j hj))]
  exact h7 j hj
theorem slk_pg {w : World} {g i : Nat} {P : Nat → Option Addr} {N K : Nat → Nat} {n : Int} {u v : Value} {l : List Int} (h : SlK .u8 w v l) (hg : w.heap[g]? = some (pgO P N K n)) (hi : i < 5) : SlK .u8 (w.setCell ⟨g, i, none⟩ u) v l := by
  refine slk_set h fun x hx => ?_
  obtain ⟨c0, c1, c2, c3, c4⟩ := pg5 hg
  match i, hi with
  | 0, _ => rw [c0] at hx; cases hx
  | 1, _ => rw [c1] at hx; cases hx
  | 2, _ => rw [c2] at hx; cases hx
  | 3, _ => rw [c3] at hx; cases hx
  | 4, _ => rw [c4] at hx; cases hx
theorem cs_fin {W : World} {g : Nat} {P P2 P' : Nat → Option Addr} {N K N2 K2 N' K' : Nat → Nat} {n2 n' : Int} {c : Nat → List Int} (h : Cs W P N K c) (hg : W.heap[g]? = some (pgO P' N' K' n')) : Cs (finP W g P2 N2 K2 n2) P N K c := fun j hj => by
  have h1 := pg_set hg (k := 0) (by decide) (P2 0) (N2 0) (K2 0)
  have h2 := pg_set h1 (k := 1) (by decide) (P2 1) (N2 1) (K2 1)
  have h3 := pg_set h2 (k := 2) (by decide) (P2 2) (N2 2) (K2 2)
  have h4 := pg_set h3 (k := 3) (by decide) (P2 3) (N2 3) (K2 3)
  exact ⟨(h j hj).1, slk_pg (slk_pg (slk_pg (slk_pg (slk_pg (h j hj).2 hg (by decide)) h1 (by decide)) h2 (by decide)) h3 (by decide)) h4 (by decide)⟩

def TkOut (w5 W : World) (la lb : List Int) (e : Ending) (w' : World) : Prop := ∃ er c n P N K, e = .returned (.tuple #[.agg #[.slice (P 0) (N 0) (K 0), .slice (P 1) (N 1) (K 1), .slice (P 2) (N 2) (K 2), .slice (P 3) (N 3) (K 3), .int .i64 n], .int .i64 er]) ∧ Hid (Tk la lb er c n) ∧ Hid (Cs w' P N K c) ∧ Below w5.heap.size w5 w' ∧ Below W.heap.size W w'
theorem tk_out {w5 W : World} {la lb : List Int} (hW : Below w5.heap.size w5 W) (e : Ending) (w' : World) (h : TkPost W la lb e w') : TkOut w5 W la lb e w' := by
  obtain ⟨er, c, n, P, N, K, h1, rfl, h3, h4⟩ := h
  exact ⟨er, c, n, P, N, K, rfl, h1, h3, hW.trans (h4.mono hW.size), h4⟩

set_option maxRecDepth 100000 in
set_option maxHeartbeats 4000000 in
theorem walk (w : World) (v va vt : Value) (l m t : List Int) (hv : SlK .u8 w v l) (ha : SlK .u8 w va m) (ht : SlK .u8 w vt t) (x : Int) (x0 : 0 ≤ x) (x1 : x < 4294967296) :
    Calls Try.prog 4 #[v, .int .u32 x, va, vt] w (Fin w) := by
  obtain ⟨i, hi, hz0, hz1, hz2⟩ := info_parts infoU8
  obtain ⟨n, hn⟩ : ∃ n, x % 2147483648 = n := ⟨_, rfl⟩
  have n0 : 0 ≤ n := by omega
  have n1 : n < 2147483648 := by omega
  have HV := Lib.hid hv
  have HA := Lib.hid ha
  have HT := Lib.hid ht
  obtain ⟨pv, cv, rfl, -⟩ := hv
  obtain ⟨pa, ca, rfl, -⟩ := ha
  obtain ⟨pt, ct, rfl, -⟩ := ht
  go_enter Try.func4, Try.ntmps4
  go_wp2_with fail
  refine (begun_true w).mono ?_
  rintro e w0 ⟨rfl, hb0⟩
  have HB0 := Lib.hid hb0
  clear hb0
  by_cases hl : 4 < l.length
  · go_wp2
    go_ret
    exact ⟨rfl, HB0.out⟩
  by_cases hm : 3 < m.length
  · go_wp2
    go_ret
    exact ⟨rfl, HB0.out⟩
  by_cases hmt : t.length < m.length
  · go_wp2
    go_ret
    exact ⟨rfl, HB0.out⟩
  have HM1 := Lib.hid (made_any w0 _ l n (HV.out.below HB0.out (Nat.le_refl _)) (by omega))
  have hl' : l.length ≤ 4 := by omega
  have hm' : m.length ≤ 3 := by omega
  have hmt' : m.length ≤ t.length := by omega
  go_wp2_with fail
  refine HM1.out.mono ?_
  rintro e w1 ⟨P, N, K, rfl, hcs, hb⟩
  have HB1 := Lib.hid (HB0.out.trans (hb.mono HB0.out.size))
  have HP1 := Lib.hid (rleaf_any w1 P N K n (madeC l) hcs)
  clear hb hcs HM1 HB0 hn
  go_wp2_with fail
  refine HP1.out.mono ?_
  rintro e w2 ⟨v1, v2, rfl, k1, k2, hb⟩
  have hlf := lf_tE (n := n) (m := n) (made_ok l) (made_ok l) n0 n1 n0 n1
  rw [hlf.1]
  have hE := hlf.2.2.1
  rw [if_pos rfl] at hE
  have hla : (lfA (madeC l) n).length = 64 ∧ (lfB (madeC l) n).length = 64 := by
    unfold tE at hE
    by_cases h : (lfA (madeC l) n).length = 64 ∧ (lfB (madeC l) n).length = 64
    · exact h
    · rw [if_neg h] at hE; cases hE
  have HB2 := Lib.hid (HB1.out.trans (hb.mono HB1.out.size))
  obtain ⟨LA, hLA⟩ : ∃ LA, lfA (madeC l) n = LA := ⟨_, rfl⟩
  obtain ⟨LB, hLB⟩ : ∃ LB, lfB (madeC l) n = LB := ⟨_, rfl⟩
  rw [hLA] at k1 hla
  rw [hLB] at k2 hla
  have hokA := k1.ok
  have hokB := k2.ok
  have pt1 := k1.pt (fun e => by rw [e] at hla; cases hla.1)
  have pt2 := k2.pt (fun e => by rw [e] at hla; cases hla.2)
  obtain ⟨b1, o1, c1, rfl, h1, -⟩ := id pt1
  obtain ⟨b2, o2, c2, rfl, h2, -⟩ := id pt2
  rw [hla.1] at pt1 h1 ⊢
  rw [hla.2] at pt2 h2 ⊢
  have T0 : Below w2.heap.size w2 (w2.alloc (.cells #[] 5)) := (Below.refl _ _).alloc (Nat.le_refl _) _
  have O0 : (w2.alloc (.cells #[] 5)).ownsRow w2.heap.size 5 1 (.slice (some ⟨w2.heap.size, 0, none⟩) 0 0) 0 [] := World.ownsRow_made w2 #[] 0 (Nat.le_refl _) (by unfold maxLen; omega) rfl
  have Q1 := Lib.hid (pt1.below T0 (Nat.le_refl _)).news
  have Q2 := Lib.hid pt2
  have HLa := Lib.hid hla
  have HOk : Hid (bytesOk (LA ++ LB)) := fun x hx => by rcases List.mem_append.1 hx with h | h; exact hokA x h; exact hokB x h
  clear hb k1 k2 hlf hE hla hLA hLB hokA hokB pt1 pt2 HP1 HB1
  go_wp2_with (at_builtin; refine wpList_append_own _ rfl _ _ 22 rfl w2.heap.size 5 i (.int .u8 0) 1 1 Try.underlying22 hi hz0 hz1 hz2 rfl (by decide) _ 0 [] rfl O0 ⟨b1, o1, none⟩ 64 c1 (byteV LA) rfl ?c2 Q1.out (byteV_one _) (by unfold maxLen; omega) (by omega) T0.size ?_)
  case c2 => rw [byteV, List.length_map, HLa.out.1]
  intro v3 w3 ho3 hg3 _
  have hb3 : Below w2.heap.size w2 w3 := T0.grown hg3 T0.size (fun k hk => by cases hk; exact Nat.le_refl _)
  have ho3' : w3.ownsRow w2.heap.size 5 1 v3 64 (byteV LA) := ho3
  have Q3 := Lib.hid (Q2.out.below hb3 (Nat.le_refl _)).news
  have HB3 := Lib.hid hb3
  have HO3 := Lib.hid ho3'
  clear ho3 ho3' hg3 hb3 Q1 Q2 T0 O0
  go_wp2_with (at_builtin; refine wpList_append_own _ rfl _ _ 22 rfl w2.heap.size 5 i (.int .u8 0) 1 1 Try.underlying22 hi hz0 hz1 hz2 rfl (by decide) _ 64 (byteV LA) rfl HO3.out ⟨b2, o2, none⟩ 64 c2 (byteV LB) rfl ?c3 Q3.out (byteV_one _) (by unfold maxLen; omega) (by omega) HB3.out.size ?_)
  case c3 => rw [byteV, List.length_map, HLa.out.2]
  intro v4 w4 ho4 hg4 _
  have hb4 : Below w2.heap.size w2 w4 := HB3.out.grown hg4 HB3.out.size (fun k hk => (HO3.out.lt k hk).1)
  have ho4' : w4.ownsRow w2.heap.size 5 1 v4 128 (byteV (LA ++ LB)) := by
    rw [show byteV (LA ++ LB) = byteV LA ++ byteV LB by simp [byteV]]; exact ho4
  obtain ⟨g, cap, rfl, hcap, hal⟩ := al_of_own ho4' HOk.out
  have HB4 := Lib.hid (HB2.out.trans (hb4.mono HB2.out.size))
  have HBz := Lib.hid HB2.out.size
  have HAL : Hid (∃ L, AL w4 w2.heap.size g L) := ⟨_, hal⟩
  clear ho4 ho4' hg4 hb4 hal HB3 HO3 Q3 HOk HLa HB2 h1 h2
  generalize w2.heap.size = B at *
  go_wp2
  go_loopw [13] (fun i wr => ∃ k : Nat, k ≤ m.length ∧ i = .int .i64 k ∧ Hid (∃ L, AL wr B g L) ∧ Hid (Below w.heap.size w wr)) (fun i _ => m.length - (intOf i).toNat)
  case atStart => exact ⟨0, by omega, rfl, HAL, HB4⟩
  case round =>
    obtain ⟨k, hk, rfl, HAL2, HBr⟩ := hrel
    clear HAL HB4
    by_cases hlt : k < m.length
    · have hlt2 : k < t.length := by omega
      have hpa := (HA.out.below HBr.out (Nat.le_refl _)).pt (fun e => by rw [e] at hlt; cases hlt)
      have hpt := (HT.out.below HBr.out (Nat.le_refl _)).pt (fun e => by rw [e] at hlt2; cases hlt2)
      have hx := HA.out.ok m[k] (List.getElem_mem hlt)
      have hy := HT.out.ok t[k] (List.getElem_mem hlt2)
      obtain ⟨ba, oa, ca', e, _, _, ha3⟩ := id hpa
      injection e with e1 e2 e3
      subst e1 e3
      obtain ⟨bt, ot, ct', e, _, _, ht3⟩ := id hpt
      injection e with e1 e4 e3
      subst e1 e3
      have c1 := ha3 k hlt
      have c2 := ht3 k hlt2
      obtain ⟨z, hz⟩ : ∃ z, m[k] = z := ⟨_, rfl⟩
      obtain ⟨y, hyy⟩ : ∃ y, t[k] = y := ⟨_, rfl⟩
      rw [hz] at c1 hx
      rw [hyy] at c2 hy
      obtain ⟨r, hr⟩ : ∃ r : Nat, z % 128 = (r : Int) := ⟨(z % 128).toNat, by omega⟩
      obtain ⟨L, hL⟩ := HAL2.out
      obtain ⟨⟨u, hu⟩, hf⟩ := hL.cell (i := r) (by omega)
      have HX : Hid (∃ L, AL (wr.drew.setCell ⟨g, r, none⟩ (.int .u8 y)) B g L) := ⟨_, AL.set (W := wr.drew) hL hy.1 hy.2⟩
      have HX2 : Hid (∃ L, AL (wr.setCell ⟨g, r, none⟩ (.int .u8 y)).drew B g L) := ⟨_, AL.set (W := wr) hL hy.1 hy.2⟩
      have hBg : w.heap.size ≤ g := Nat.le_trans HBz.out hL.1
      have HBn := Lib.hid ((HBr.out.drew).setCell (p := ⟨g, r, none⟩) hBg (.int .u8 y))
      have HBn2 := Lib.hid (((HBr.out).setCell (p := ⟨g, r, none⟩) hBg (.int .u8 y)).drew)
      have t1 : IntKind.i64.wrap z = z := IntWalk.i64_in _ (by omega)
      have t2 : z.tmod 128 = (r : Int) := by rw [Int.tmod_eq_emod_of_nonneg hx.1]; exact hr
      have t3 : IntKind.i64.wrap (r : Int) = (r : Int) := IntWalk.i64_in _ (by omega)
      have r1 : (r : Int) < 128 := by omega
      have r2 : r < 128 := by omega
      have d1 : wr.drew.cell? ⟨ba, oa + k, none⟩ = some (.int .u8 z) := c1
      have d2 : wr.drew.cell? ⟨bt, ot + k, none⟩ = some (.int .u8 y) := c2
      have d3 : wr.drew.cell? ⟨g, r, none⟩ = some (.int .u8 u) := hu
      have d4 : wr.drew.frozen? ⟨g, r, none⟩ = false := hf
      clear hpa hpt ha3 ht3 hz hyy hr hL HAL2 HBr e2 e4 hBg
      go_wp2_with fail
      go_region
      all_goals
        go_wp2
        go_roundw
        all_goals first
          | exact ⟨k + 1, by omega, by go_num, HX, HBn⟩
          | exact ⟨k + 1, by omega, by go_num, HX2, HBn2⟩
          | (simp [intOf]; omega)
    · obtain rfl : k = m.length := by omega
      obtain ⟨L, hL⟩ := HAL2.out
      have hlen := hL.2.1
      have hok := hL.2.2.1
      have hpt := hL.pt hcap
      have s1 : SlK .u8 wr (.slice (some ⟨g, 0, none⟩) 64 cap) (L.take 64) := (hpt.first (k := 64) (c' := cap) (by omega) (by omega)).slK (ok_take hok 64)
      have s2 : SlK .u8 wr (.slice (some ⟨g, 64, none⟩) 64 (cap - 64)) (L.drop 64) := (hpt.cut (k := 64) (m := 64) (off' := 64) (c' := cap - 64) (by omega) (fun _ => rfl) (by omega) (by omega)).slK (ok_drop hok 64)
      have HTk : Hid (∀ W, Below wr.heap.size wr W → Calls Try.prog 14 #[.slice (some ⟨g, 0, none⟩) 64 cap, .slice (some ⟨g, 64, none⟩) 64 (cap - 64)] W (TkOut wr W (L.take 64) (L.drop 64))) := fun W hW =>
        (ltake_any W _ _ _ _ (s1.below hW (Nat.le_refl _)) (s2.below hW (Nat.le_refl _))).mono fun e w' h => tk_out hW e w' h
      have HTr : Hid (∀ W0 W, Below wr.heap.size wr W0 → Below W0.heap.size W0 W → Calls Try.prog 15 #[.slice (some ⟨g, 0, none⟩) 64 cap, .slice (some ⟨g, 64, none⟩) 64 (cap - 64)] W (TkOut W0 W (L.take 64) (L.drop 64))) := fun W0 W h0 hW =>
        (rtakel_any W _ _ _ _ ((s1.below h0 (Nat.le_refl _)).below hW (Nat.le_refl _)) ((s2.below h0 (Nat.le_refl _)).below hW (Nat.le_refl _))).mono fun e w' h => tk_out hW e w' h
      have D0 := (Below.refl wr.heap.size wr).drew
      have i1 : (64 : Int) ≤ (cap : Int) := by omega
      have i2 : ¬ cap = 64 := by omega
      have i3 : 64 ≤ cap := by omega
      have i4 : (128 : Int) ≤ (cap : Int) := by omega
      obtain ⟨la, hla⟩ : ∃ la, L.take 64 = la := ⟨_, rfl⟩
      obtain ⟨lb, hlb⟩ : ∃ lb, L.drop 64 = lb := ⟨_, rfl⟩
      rw [hla, hlb] at HTk HTr
      clear hL hlen hok hpt s1 s2 HAL2 hla hlb
      go_upto_region 13 with (fail)
      go_cut [14, 15] (fun u e wx => PgAt wr wx la lb u e)
      case first =>
        have D1 : Below wr.heap.size wr (wr.alloc (.cells #[.slice none 0 0, .slice none 0 0, .slice none 0 0, .slice none 0 0, .int .i64 0] 25)).drew := ((Below.refl _ _).alloc (Nat.le_refl _) _).drew
        have HK1 : Hid ((wr.alloc (.cells #[.slice none 0 0, .slice none 0 0, .slice none 0 0, .slice none 0 0, .int .i64 0] 25)).drew.heap[wr.heap.size]? = some (pgO P0 N0 N0 0)) := heap_alloc_new wr _
        clear HTr
        go_region_with (first
          | (go_at_call 14; (with_reducible refine (HTk.out _ D0).mono ?_); rintro e w5 ⟨er, c, n5, P5, N5, K5, rfl, htk, hcs, hb5, hb6⟩; have hA : Hid (PgAt wr (w5.alloc (pgO P5 N5 K5 n5)) la lb (.pointer (some ⟨w5.heap.size, 0, none⟩)) (.int .i64 er)) := ⟨_, er, c, n5, P5, N5, K5, rfl, rfl, htk.out, heap_alloc_new w5 _, hcs.out.below (B := w5.heap.size) ((Below.refl _ _).alloc (Nat.le_refl _) _) (Nat.le_refl _), hb5.alloc hb5.size _⟩)
          | (go_at_call 14; (with_reducible refine (HTk.out _ D1).mono ?_); rintro e w5 ⟨er, c, n5, P5, N5, K5, rfl, htk, hcs, hb5, hb6⟩; have hk5 := (hb6.block wr.heap.size (by simp)).trans HK1.out; have hB : Hid (PgAt wr (finP w5 wr.heap.size P5 N5 K5 n5) la lb (.pointer (some ⟨wr.heap.size, 0, none⟩)) (.int .i64 er)) := ⟨_, er, c, n5, P5, N5, K5, rfl, rfl, htk.out, finP_heap hk5, cs_fin hcs.out hk5, finP_below hb5 (Nat.le_refl _)⟩; obtain ⟨c0, c1, c2, c3, c4⟩ := pg5 hk5; have hz := (pg_cell hk5).2.2; have f0 := hz 0; have f1 := hz 1; have f2 := hz 2; have f3 := hz 3; have f4 := hz 4))
        all_goals (go_wp2; go_meet)
        all_goals first | exact hA.out | exact hB.out
      case rest =>
        obtain ⟨ga, er, c, n5, P5, N5, K5, rfl, rfl, htk, hga, hcs, hb7⟩ := hcut
        generalize wc = w7 at *
        have HTr2 := Lib.hid (fun W => HTr.out w7 W hb7)
        have HB7 := Lib.hid (HBr.out.trans (hb7.mono HBr.out.size))
        have HTka := Lib.hid htk
        have HGa := Lib.hid hga
        have HCa := Lib.hid hcs
        clear htk hga hcs hb7 HTk HTr D0
        have D0 := (Below.refl w7.heap.size w7).drew
        go_upto_region 14 with (fail)
        go_cut [16, 17] (fun u e wx => PgAt w7 wx la lb u e)
        case first =>
          have D1 : Below w7.heap.size w7 (w7.alloc (.cells #[.slice none 0 0, .slice none 0 0, .slice none 0 0, .slice none 0 0, .int .i64 0] 25)).drew := ((Below.refl _ _).alloc (Nat.le_refl _) _).drew
          have HK1 : Hid ((w7.alloc (.cells #[.slice none 0 0, .slice none 0 0, .slice none 0 0, .slice none 0 0, .int .i64 0] 25)).drew.heap[w7.heap.size]? = some (pgO P0 N0 N0 0)) := heap_alloc_new w7 _
          go_region_with (first
            | (go_at_call 15; (with_reducible refine (HTr2.out _ D0).mono ?_); rintro e w5 ⟨er, c, n5, P5, N5, K5, rfl, htk, hcs, hb5, hb6⟩; have hA : Hid (PgAt w7 (w5.alloc (pgO P5 N5 K5 n5)) la lb (.pointer (some ⟨w5.heap.size, 0, none⟩)) (.int .i64 er)) := ⟨_, er, c, n5, P5, N5, K5, rfl, rfl, htk.out, heap_alloc_new w5 _, hcs.out.below (B := w5.heap.size) ((Below.refl _ _).alloc (Nat.le_refl _) _) (Nat.le_refl _), hb5.alloc hb5.size _⟩)
            | (go_at_call 15; (with_reducible refine (HTr2.out _ D1).mono ?_); rintro e w5 ⟨er, c, n5, P5, N5, K5, rfl, htk, hcs, hb5, hb6⟩; have hk5 := (hb6.block w7.heap.size (by simp)).trans HK1.out; have hB : Hid (PgAt w7 (finP w5 w7.heap.size P5 N5 K5 n5) la lb (.pointer (some ⟨w7.heap.size, 0, none⟩)) (.int .i64 er)) := ⟨_, er, c, n5, P5, N5, K5, rfl, rfl, htk.out, finP_heap hk5, cs_fin hcs.out hk5, finP_below hb5 (Nat.le_refl _)⟩; obtain ⟨c0, c1, c2, c3, c4⟩ := pg5 hk5; have hz := (pg_cell hk5).2.2; have f0 := hz 0; have f1 := hz 1; have f2 := hz 2; have f3 := hz 3; have f4 := hz 4))
          all_goals (go_wp2; go_meet)
          all_goals first | exact hA.out | exact hB.out
        case rest =>
          obtain ⟨gb, er', c', n6, P6, N6, K6, rfl, rfl, htk, hgb, hcs, hb8⟩ := hcut
          obtain ⟨rfl, rfl, rfl⟩ := HTka.out.det htk
          have HB8 := Lib.hid (HB7.out.trans (hb8.mono HB7.out.size))
          have hga := (hb8.block _ (Array.getElem?_eq_some_iff.1 HGa.out).1).trans HGa.out
          have hs := samePage_any wc P5 N5 K5 n5 c P6 N6 K6 n5 c (HCa.out.below hb8 (Nat.le_refl _)) hcs
          rw [pgSame_refl] at hs
          have HS := Lib.hid hs
          obtain ⟨d0, d1, d2, d3, d4⟩ := pg5 hga
          obtain ⟨e0, e1, e2, e3, e4⟩ := pg5 hgb
          clear hs htk hgb hcs hb8 hga HTka HGa HCa HB7 HTr2 D0
          go_wp2_with fail
          refine HS.out.mono ?_
          rintro e w9 ⟨rfl, hb⟩
          go_wp2
          go_ret
          exact ⟨rfl, HB8.out.trans (hb.mono HB8.out.size)⟩

theorem own : ownKnob Try.prog.godebug = none := by kernel_rfl
theorem laidOut : laidOutB Try.prog = true := by kernel_rfl

set_option maxRecDepth 100000 in
theorem lifted (os : Os) (started : os.Started) (H : Type) (enc : TypeId × Value → H) :
    ReturnsInHanded {} Try.checked os 4 .any (Rows.leafTurnedSpec.pre6 enc Try.prog Try.f4 Rows.leafTurnedRow.domain false) (Rows.leafTurnedSpec.post enc Try.prog Try.f4 false true false false) := by
  refine returnsInHanded_of_change (C := Try.checked) own started (by kernel_rfl) Try.func4
    (ChangeSpec.witness6 (enc := enc) (C := Try.checked) false ⟨#[], #[.slice none 0 0, .int .u32 0, .slice none 0 0, .slice none 0 0], []⟩ 8 (by kernel_rfl) (by kernel_rfl) (by kernel_rfl) (by kernel_rfl)) ?_
  intro W base args ds gs before hval0 hW hcnd _
  have hval : ∀ (j : Nat) t v, Try.f4.params[j]? = some t → args[j]? = some v → Value.okWide Try.prog W .any base t v := hval0
  have hW' := hW
  obtain ⟨p, q, hA0, hV, rfl, hfz, hnd⟩ := hW
  obtain ⟨rfl, rfl⟩ := trodVars_none hV
  have hA : DataW.TrodAll enc Try.prog W 0 (fun _ => true) true Try.f4.params.toList args.toList ds p := hA0
  rw [Try.params4] at hA hval
  obtain ⟨v0, vs0, d0, ds0, p0, q0, hargs, rfl, rfl, h0, r0⟩ := trodAll_cons hA
  obtain ⟨v1, vs1, d1, ds1, p1, q1, rfl, rfl, rfl, h1, r1⟩ := trodAll_cons r0
  obtain ⟨v2, vs2, d2, ds2, p2, q2, rfl, rfl, rfl, h2, r2⟩ := trodAll_cons r1
  obtain ⟨v3, vs3, d3, ds3, p3, q3, rfl, rfl, rfl, h3, r3⟩ := trodAll_cons r2
  obtain ⟨rfl, rfl, rfl⟩ := trodAll_nil r3
  obtain rfl : args = #[v0, v1, v2, v3] := by cases args; simp_all
  have ok0 := hval 0 22 v0 rfl rfl
  obtain ⟨a1, rfl, rfl, rfl, w1⟩ := open_int Try.underlying35 (hval 1 35 v1 rfl rfl) h1
  have ok2 := hval 2 22 v2 rfl rfl
  have ok3 := hval 3 22 v3 rfl rfl
  obtain ⟨l, hl⟩ := open_sl Try.underlying22 Try.underlying5 (by kernel_rfl) ok0 h0
  obtain ⟨m, hm⟩ := open_sl Try.underlying22 Try.underlying5 (by kernel_rfl) ok2 h2
  obtain ⟨t, ht⟩ := open_sl Try.underlying22 Try.underlying5 (by kernel_rfl) ok3 h3
  have b1 := bounds_u32 w1
  refine (walk W v0 v2 v3 l m t hl hm ht a1 b1.1 (by omega)).mono fun e W' ⟨he, hg⟩ => ?_
  subst he
  exact ⟨_, rfl, law_post laidOut Try.underlying4 rfl (by rw [Try.params4]; intro t ht; simp at ht; rcases ht with rfl | rfl | rfl <;> exact ⟨by kernel_rfl, of_decide_eq_true (by kernel_rfl)⟩) rfl hW' rfl hg⟩

theorem proved : Rows.LeafTurnedSaid :=
  OpenClaim.holds_of_wide 4 Try.f4 rfl rfl rfl rfl rfl rfl rfl ⟨rfl, rfl, rfl, rfl, rfl⟩ rfl rfl rfl rfl rfl (by kernel_rfl) Try.func4 (by kernel_rfl)
    (of_decide_eq_true (by kernel_rfl)) (by unfold Func.isWrapper; first | (rw [if_pos (by decide +kernel)]; kernel_rfl) | (rw [if_neg (by decide +kernel)]; exact ⟨rfl, rfl⟩))
    (fun os started H enc _ => lifted os started H enc)
#print axioms proved

end Go.Proofs.Ytolfmgbkbmphkaa.leafTurned
