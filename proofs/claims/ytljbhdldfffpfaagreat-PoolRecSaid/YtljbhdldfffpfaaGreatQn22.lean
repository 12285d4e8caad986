/- PoolNone, a part. -/
import Derived.Test.YtljbhdldfffpfaaGreatQn6
import Derived.Laws.AppendOwnNone
import Derived.Laws.OwnMore
import Derived.Deep.AppendLies
import Derived.Deep.Onto
import Derived.Deep.RegionLaw
namespace Go.Proofs.YtljbhdldfffpfaaGreat.Lf
open Go.Proofs.YtljbhdldfffpfaaGreat
open Go.RowKit

def bytesL (s : ByteArray) : List Int := s.data.toList.map (fun b => (b.toNat : Int))

theorem bytesL_len (s : ByteArray) : (bytesL s).length = s.size := by
  unfold bytesL
  rw [List.length_map]
  exact Array.length_toList

theorem bytesL_ok (s : ByteArray) : bytesOk (bytesL s) := by
  intro x hx
  obtain ⟨b, _, rfl⟩ := List.mem_map.1 hx
  have := b.toNat_lt
  omega

theorem strCells_bytes (s : ByteArray) : Lib.strCells s = byteV (bytesL s) := by
  unfold Lib.strCells byteV bytesL
  rw [List.map_map]
  rfl

theorem bytesL_bstr {l : List Int} (h : bytesOk l) : bytesL (bstr l) = l := by
  unfold bytesL bstr
  rw [bstr_list]
  show List.map _ ([] ++ _) = l
  rw [List.nil_append, List.map_map]
  have : ∀ x ∈ l, ((fun b : UInt8 => (b.toNat : Int)) ∘ fun n : Int => UInt8.ofNat n.toNat) x = x := by
    intro x hx
    have := h x hx
    show ((UInt8.ofNat x.toNat).toNat : Int) = x
    rw [UInt8.toNat_ofNat', Nat.mod_eq_of_lt (by omega)]
    omega
  rw [List.map_congr_left this]
  simp

theorem bytesL_inj {s t : ByteArray} (h : bytesL s = bytesL t) : s = t := by
  have h2 : s.data.toList = t.data.toList := by
    unfold bytesL at h
    refine List.map_inj_right ?_ |>.1 h
    intro a b e
    exact UInt8.toNat_inj.1 (by exact_mod_cast e)
  cases s; cases t
  simp only at h2
  congr
  exact Array.ext' h2

theorem bstr_bytesL (s : ByteArray) : bstr (bytesL s) = s := bytesL_inj (bytesL_bstr (bytesL_ok s))

theorem bstr_size {l : List Int} (h : bytesOk l) : (bstr l).size = l.length := by rw [← bytesL_len, bytesL_bstr h]

/-- The bytes of a part: its length, itself, zeros. -/
def part (s : ByteArray) (n : Nat) : List Int := (s.size : Int) :: (bytesL s ++ List.replicate (n - s.size) 0)

theorem part_len {s : ByteArray} {n : Nat} (h : s.size ≤ n) : (part s n).length = n + 1 := by
  unfold part
  rw [List.length_cons, List.length_append, bytesL_len, List.length_replicate]
  omega

theorem part_ok {s : ByteArray} {n : Nat} (h : s.size ≤ n) (hn : n < 256) : bytesOk (part s n) := by
  intro x hx
  rcases List.mem_cons.1 hx with rfl | hx
  · omega
  rcases List.mem_append.1 hx with hx | hx
  · exact bytesL_ok s x hx
  · rw [List.mem_replicate] at hx; omega

theorem own_form {w : World} {B n : Nat} {v : Value} {l : List Value} (h : w.ownsRow B 5 1 v (n + 1) l) : ∃ g cap, v = .slice (some ⟨g, 0, none⟩) (n + 1) cap := by
  obtain ⟨g, cap, hv, _⟩ := h.form (by omega)
  exact ⟨g, cap, hv⟩

end Go.Proofs.YtljbhdldfffpfaaGreat.Lf
namespace Go.Proofs.YtljbhdldfffpfaaGreat.Lf
open Go.Proofs.YtljbhdldfffpfaaGreat
open Go.RowKit

theorem ret_bool {a b : Bool} (h : a = b) : Ending.returned (.bool a) = .returned (.bool b) := by rw [h]
def rowV (k s v : ByteArray) : Value := .agg #[.string k, .string s, .string v]
def rowO (k s v : ByteArray) : Obj := .cells #[.string k, .string s, .string v] 39
def mayB (k s v : ByteArray) : Bool := decide (1 ≤ k.size ∧ k.size ≤ 8 ∧ s.size ≤ 6 ∧ v.size ≤ 8)
def placeB (p c : Int) : Bool := decide (0 ≤ p ∧ p < 32 ∧ 0 ≤ c ∧ c < 4)
def ridO (p c : Int) : Obj := .cells #[.int .i64 p, .int .i64 c] 49

set_option maxRecDepth 100000 in
set_option maxHeartbeats 1000000 in
theorem may_any (w : World) (k s v : ByteArray) : Calls Tryz.prog 161 #[.agg #[.string k, .string s, .string v]] w fun e w' => e = .returned (.bool (mayB k s v)) ∧ w' = w.alloc (rowO k s v) := by
  go_enter Tryz.func161, Tryz.ntmps161
  go_wp2
  all_goals (go_ret; refine ⟨ret_bool ?_, rfl⟩)
  all_goals (unfold mayB; first | (rw [Bool.eq_iff_iff]; simp only [decide_eq_true_eq]; omega) | (symm; rw [decide_eq_false_iff_not]; omega))


set_option maxRecDepth 100000 in
set_option maxHeartbeats 1000000 in
theorem place_any (w : World) (p c : Int) : Calls Tryz.prog 162 #[.agg #[.int .i64 p, .int .i64 c]] w fun e w' => e = .returned (.bool (placeB p c)) ∧ w' = w.alloc (ridO p c) := by
  go_enter Tryz.func162, Tryz.ntmps162
  go_wp2
  all_goals (go_ret; refine ⟨ret_bool ?_, rfl⟩)
  all_goals (unfold placeB; first | (rw [Bool.eq_iff_iff]; simp only [decide_eq_true_eq]; omega) | (symm; rw [decide_eq_false_iff_not]; omega))

set_option maxRecDepth 100000 in
set_option maxHeartbeats 1000000 in
theorem rmay_any (w : World) (k s v : ByteArray) : Calls Tryz.prog 40 #[.agg #[.string k, .string s, .string v]] w fun e w' => e = .returned (.bool (mayB k s v)) ∧ w' = w.alloc (rowO k s v) := by
  go_enter Tryz.func40, Tryz.ntmps40
  go_wp2
  all_goals (go_ret; refine ⟨ret_bool ?_, rfl⟩)
  all_goals (unfold mayB; first | (rw [Bool.eq_iff_iff]; simp only [decide_eq_true_eq]; omega) | (symm; rw [decide_eq_false_iff_not]; omega))


set_option maxRecDepth 100000 in
set_option maxHeartbeats 1000000 in
theorem pad_any (w : World) (s : ByteArray) (most : Nat) (hs : s.size ≤ most) (hm : most ≤ 100) :
    Calls Tryz.prog 41 #[.string s, .int .i64 most] w fun e w' => ∃ v', e = .returned v' ∧ w'.ownsRow w.heap.size 5 1 v' (most + 1) (byteV (part s most)) ∧ Below w.heap.size w w' := by
  obtain ⟨i, hi, hz0, hz1, hz2⟩ := info_parts infoU8
  have b0 : (0 : Int) ≤ (s.size : Int) := by omega
  have b1 : (s.size : Int) < 256 := by omega
  have b2 : (s.size : Int) ≤ (most : Int) := by omega
  have b3 : (most : Int) ≤ 100 := by omega
  have ho : (w.alloc (.cells (byteV [(s.size : Int)]).toArray 5)).ownsRow w.heap.size 5 1 (.slice (some ⟨w.heap.size, 0, none⟩) 1 1) 1 (byteV [(s.size : Int)]) := World.ownsRow_lit w (byteV [(s.size : Int)]).toArray 1 (Nat.le_refl _) (by unfold maxLen; omega) rfl
  have hb1 : Below w.heap.size w (w.alloc (.cells (byteV [(s.size : Int)]).toArray 5)) := (Below.refl _ _).alloc (Nat.le_refl _) _
  have HO := Lib.hid ho
  have HB := Lib.hid hb1
  clear ho hb1
  go_enter Tryz.func41, Tryz.ntmps41
  go_wp2_with (at_builtin; refine Lib.wpList_append_own_string _ rfl _ _ _ _ rfl w.heap.size 5 i Tryz.underlying33 Tryz.underlying9 hi hz0 hz1 hz2 _ 1 _ rfl HO.out s rfl ?d1 ?d2 ?d3 ?_)
  case d1 => unfold maxLen; omega
  case d2 => omega
  case d3 => exact HB.out.size
  intro v2 w2 hown2 hg2 _
  have hb2 : Below w.heap.size w w2 := HB.out.grown hg2 HB.out.size (fun k hk => by cases hk; exact Nat.le_refl _)
  rw [strCells_bytes, show byteV [(s.size : Int)] ++ byteV (bytesL s) = byteV ([(s.size : Int)] ++ bytesL s) by simp [byteV]] at hown2
  rw [show 1 + s.size = s.size + 1 by omega] at hown2
  obtain ⟨g2, c2, rfl⟩ := own_form hown2
  obtain ⟨v3, w3, hr3, ho3, hg3⟩ := zeros_own w2 w.heap.size g2 (s.size + 1) c2 _ (most - s.size) hown2 (by omega) hb2.size
  rw [show ((most - s.size : Nat) : Int) = (most : Int) - (s.size : Int) by omega] at hr3
  rw [show s.size + 1 + (most - s.size) = most + 1 by omega, show [(s.size : Int)] ++ bytesL s ++ List.replicate (most - s.size) 0 = part s most by simp [part]] at ho3
  have hb3 : Below w.heap.size w w3 := hb2.grown hg3 hb2.size (fun k hk => by cases hk; exact (hown2.lt g2 rfl).1)
  have HR := Lib.hid hr3
  have HB3 := Lib.hid hb3
  have HO3 := Lib.hid ho3
  clear hown2 hg2 hb2 hr3 hb3 ho3 hg3
  go_wp2_with (at_builtin; refine Lib.wpList_append_run _ rfl _ _ _ _ rfl _ _ rfl rfl _ _ (HR.out _) ?_)
  go_ret
  exact ⟨_, rfl, HO3.out, HB3.out⟩

end Go.Proofs.YtljbhdldfffpfaaGreat.Lf
namespace Go.Proofs.YtljbhdldfffpfaaGreat.Lf
open Go.Proofs.YtljbhdldfffpfaaGreat
open Go.RowKit

/-- The bytes of a row. -/
def rowL (k s v : ByteArray) : List Int := [1] ++ part k 8 ++ part s 6 ++ part v 8

theorem may_sizes {k s v : ByteArray} (h : mayB k s v = true) : 1 ≤ k.size ∧ k.size ≤ 8 ∧ s.size ≤ 6 ∧ v.size ≤ 8 := of_decide_eq_true h

end Go.Proofs.YtljbhdldfffpfaaGreat.Lf
namespace Go.Proofs.YtljbhdldfffpfaaGreat.Lf
open Go.Proofs.YtljbhdldfffpfaaGreat
open Go.RowKit

theorem own_below {w w' : World} {B n : Nat} {v : Value} {xs : List Value} (h : w.ownsRow B 5 1 v n xs) (hb : Below w.heap.size w w') : w'.ownsRow B 5 1 v n xs := by
  obtain ⟨h1, ⟨e, h2⟩ | ⟨g, cap, cur, e, a, b, r⟩⟩ := h
  · exact ⟨h1, .inl ⟨e, h2⟩⟩
  · exact ⟨h1, .inr ⟨g, cap, cur, e, a, (hb.block g (Array.getElem?_eq_some_iff.1 b).1).trans b, r⟩⟩

/-- What a call sees that grows a row and keeps a box. -/
def Kp (w W : World) (k s v : ByteArray) (x : Value) (n : Nat) (l : List Int) : Prop := Below (w.heap.size + 1) (w.alloc (rowO k s v)) W ∧ W.ownsRow (w.heap.size + 1) 5 1 x n (byteV l)
theorem Kp.drew {w W : World} {k s v : ByteArray} {x : Value} {n : Nat} {l : List Int} (h : Kp w W k s v x n l) : Kp w W.drew k s v x n l := ⟨h.1.drew, h.2⟩
theorem Kp.box {w W : World} {k s v : ByteArray} {x : Value} {n : Nat} {l : List Int} (h : Kp w W k s v x n l) : W.heap[w.heap.size]? = some (rowO k s v) := (h.1.block _ (by omega)).trans (heap_alloc_new w _)
theorem Kp.size {w W : World} {k s v : ByteArray} {x : Value} {n : Nat} {l : List Int} (h : Kp w W k s v x n l) : w.heap.size + 1 ≤ W.heap.size := by have := h.1.size; simpa using this

theorem pad_in {w W : World} {k s v : ByteArray} {x : Value} {n : Nat} {l : List Int} (h : Kp w W k s v x n l) (t : ByteArray) (most : Nat) (ht : t.size ≤ most) (hm : most ≤ 100) :
    Calls Tryz.prog 41 #[.string t, .int .i64 most] W fun e w' => ∃ g cap, e = .returned (.slice (some ⟨g, 0, none⟩) (most + 1) cap) ∧ Kp w w' k s v x n l ∧ (∀ j u, (byteV (part t most))[j]? = some u → w'.cell? ((⟨g, 0, none⟩ : Addr).add j) = some u) ∧ most + 1 ≤ cap := by
  refine (pad_any W t most ht hm).mono ?_
  rintro e w' ⟨y, rfl, ho, hb⟩
  obtain ⟨g, cap, rfl, h1, h2, h3, h4, h5, h6⟩ := own_pt ho (by omega)
  refine ⟨g, cap, rfl, ⟨h.1.trans (hb.mono h.size), own_below h.2 hb⟩, ho.cells (g := g) rfl, h3⟩

theorem pads (t : ByteArray) (most : Nat) (ht : t.size ≤ most) : (byteV (part t most)).length = (most + 1) * 1 := by
  rw [byteV, List.length_map, part_len ht]; omega

set_option maxRecDepth 100000 in
set_option maxHeartbeats 1000000 in
theorem rrow_ok (w : World) (k s v : ByteArray) (hm : mayB k s v = true) : Calls Tryz.prog 13 #[.agg #[.string k, .string s, .string v]] w fun e w' => ∃ x, e = .returned (.tuple #[x, .int .i64 0]) ∧ w'.ownsRow w.heap.size 5 1 x 26 (byteV (rowL k s v)) ∧ Below w.heap.size w w' := by
  obtain ⟨i, hi, hz0, hz1, hz2⟩ := info_parts infoU8
  obtain ⟨k1, k2, s1, v1⟩ := may_sizes hm
  go_enter Tryz.func13, Tryz.ntmps13
  go_wp2_with fail
  refine (rmay_any _ k s v).mono ?_
  rintro e w' ⟨rfl, rfl⟩
  have K0 : Kp w (((w.alloc (.cells #[.string k, .string s, .string v] 39)).alloc (rowO k s v)).alloc (.cells #[.int .u8 1] 5)) k s v (.slice (some ⟨((w.alloc (.cells #[.string k, .string s, .string v] 39)).alloc (rowO k s v)).heap.size, 0, none⟩) 1 1) 1 [1] := by
    refine ⟨((Below.refl _ _).alloc (by simp) _).alloc (by simp) _, ?_⟩
    exact World.ownsRow_lit _ (byteV [1]).toArray 1 (by simp) (by unfold maxLen; omega) rfl
  generalize hW1 : (w.alloc (.cells #[.string k, .string s, .string v] 39)).alloc (rowO k s v) = w1 at *
  have kb1 : w1.heap[w.heap.size]? = some (rowO k s v) := by
    have h1 := K0.box
    have h2 : w.heap.size < w1.heap.size := by rw [← hW1]; simp; omega
    exact (Below.heap_alloc w1 _ _ h2).symm.trans h1
  have c0 := (cell_of (cs := #[.string k, .string s, .string v]) kb1 0).1
  have kbA := K0.box
  have c1 := (cell_of (cs := #[.string k, .string s, .string v]) kbA 0).1
  have HK0 := Lib.hid K0
  clear kb1 K0 hW1 kbA
  go_wp2_with fail
  refine (pad_in HK0.out k 8 (by omega) (by omega)).mono ?_
  rintro e w2 ⟨g2, p2, rfl, K2, n2, q2⟩
  have HK2 := Lib.hid K2
  have HN2 := Lib.hid n2
  clear K2 n2 c0 c1
  have l2 := Lib.hid (pads k 8 (by omega))
  go_wp2_with (at_builtin; refine wpList_append_own _ rfl _ _ 33 rfl (w.heap.size + 1) 5 i (.int .u8 0) 1 1 Tryz.underlying33 hi hz0 hz1 hz2 rfl (by decide) _ 1 (byteV [1]) rfl HK2.out.2 ⟨g2, 0, none⟩ 9 p2 (byteV (part k 8)) rfl l2.out HN2.out (byteV_one _) (by unfold maxLen; omega) (by omega) HK2.out.size ?_)
  intro x3 w3 ho3 hg3 _
  have hB3 := HK2.out.1.grown hg3 HK2.out.size (fun j hj => (HK2.out.2.lt j hj).1)
  have K3 : Kp w w3 k s v x3 10 ([1] ++ part k 8) := ⟨hB3, by rw [show byteV ([1] ++ part k 8) = byteV [1] ++ byteV (part k 8) by simp [byteV]]; exact ho3⟩
  clear ho3 hg3 hB3
  have kb3 := K3.box
  have c0 := (cell_of (cs := #[.string k, .string s, .string v]) kb3 1).1
  have c1 := (cell_of (cs := #[.string k, .string s, .string v]) kb3 2).1
  have HK3 := Lib.hid K3
  have HK3d := Lib.hid K3.drew
  have ls := Lib.hid (pads s 6 (by omega))
  have lv := Lib.hid (pads v 8 (by omega))
  clear K3 kb3
  go_wp2
  go_region_law (first
      | (refine step_append_lies _ rfl (.tmp 17) (.tmp 20) 33 rfl (w.heap.size + 1) 5 i (.int .u8 0) 1 1 Tryz.underlying33 hi hz0 hz1 hz2 rfl (by decide) (.slice (some ⟨g5, 0, none⟩) 17 p5) 17 (byteV ([1] ++ part k 8 ++ part s 6)) rfl HK6.out.2 ⟨g6, 0, none⟩ 9 p6 (byteV (part v 8)) rfl lv.out HN6.out (byteV_one _) (by omega) (by unfold maxLen; omega) (by omega) HK6.out.size _ rfl ?_; intro g7 p7 w7 o7 r7 a7 b7)
      | (go_simp; go_at_call 41; refine (pad_in HK5.out v 8 (by omega) (by omega)).mono ?_; rintro e w6 ⟨g6, p6, rfl, K6, n6, q6⟩; have HK6 := Lib.hid K6; have HN6 := Lib.hid n6; have c6 := (cell_of (cs := #[.string k, .string s, .string v]) K6.box 2).1; clear K6 n6)
      | (go_simp; go_at_call 41; first | (refine (pad_in HK3.out s 6 (by omega) (by omega)).mono ?_; rintro e w4 ⟨g4, p4, rfl, K4, n4, q4⟩; have HK4 := Lib.hid K4; have HN4 := Lib.hid n4; have c4 := (cell_of (cs := #[.string k, .string s, .string v]) K4.box 2).1; clear K4 n4) | (refine (pad_in HK3d.out s 6 (by omega) (by omega)).mono ?_; rintro e w4 ⟨g4, p4, rfl, K4, n4, q4⟩; have HK4 := Lib.hid K4; have HN4 := Lib.hid n4; have c4 := (cell_of (cs := #[.string k, .string s, .string v]) K4.box 2).1; clear K4 n4))
      | (refine step_append_lies _ rfl (.tmp 13) (.tmp 16) 33 rfl (w.heap.size + 1) 5 i (.int .u8 0) 1 1 Tryz.underlying33 hi hz0 hz1 hz2 rfl (by decide) x3 10 (byteV ([1] ++ part k 8)) rfl HK4.out.2 ⟨g4, 0, none⟩ 7 p4 (byteV (part s 6)) rfl ls.out HN4.out (byteV_one _) (by omega) (by unfold maxLen; omega) (by omega) HK4.out.size _ rfl ?_; intro g5 p5 w5 o5 r5 a5 b5; have HK5 : Hid (Kp w w5 k s v (.slice (some ⟨g5, 0, none⟩) 17 p5) 17 ([1] ++ part k 8 ++ part s 6)) := ⟨HK4.out.1.grown r5 HK4.out.size (fun j hj => (HK4.out.2.lt j hj).1), by rw [show byteV ([1] ++ part k 8 ++ part s 6) = byteV ([1] ++ part k 8) ++ byteV (part s 6) by simp [byteV]]; exact o5⟩; have c5 := (cell_of (cs := #[.string k, .string s, .string v]) HK5.out.box 2).1))
  all_goals (go_wp2; go_ret2)
  all_goals
    have hB7 := HK6.out.1.grown r7 HK6.out.size (fun j hj => (HK6.out.2.lt j hj).1)
    have hBw : Below w.heap.size w (w.alloc (rowO k s v)) := (Below.refl _ _).alloc (Nat.le_refl _) _
    refine ⟨_, rfl, ?_, hBw.trans (hB7.mono (by omega))⟩
    rw [show byteV (rowL k s v) = byteV ([1] ++ part k 8 ++ part s 6) ++ byteV (part v 8) by simp [byteV, rowL]]
    exact o7.mono (by omega)
end Go.Proofs.YtljbhdldfffpfaaGreat.Lf
namespace Go.Proofs.YtljbhdldfffpfaaGreat.Lf
open Go.Proofs.YtljbhdldfffpfaaGreat
open Go.RowKit

/-- The bytes of a stub. -/
def stubL (p c : Int) : List Int := [2, p, c] ++ List.replicate 23 0

def z26 : List Int := List.replicate 26 0

end Go.Proofs.YtljbhdldfffpfaaGreat.Lf
