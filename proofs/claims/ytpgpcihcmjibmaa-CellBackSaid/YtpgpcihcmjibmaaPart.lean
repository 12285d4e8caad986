/- The parts of a row as bytes; appendPart, and the reference's pad. -/
import Derived.Test.YtpgpcihcmjibmaaLow
import Derived.Laws.AppendOwnNone
import Derived.Laws.OwnMore
import Derived.Deep.AppendLies
namespace Go.Proofs.Ytpgpcihcmjibmaa
open Go.RowKit

def bytesL (s : ByteArray) : List Int := s.data.toList.map (fun b => (b.toNat : Int))
theorem bytesL_len (s : ByteArray) : (bytesL s).length = s.size := by
  unfold bytesL
  rw [List.length_map]
  exact Array.length_toList
theorem bytesL_ok (s : ByteArray) : bytesOk (bytesL s) := by
  intro x hx
  obtain ⟨b, _, rfl⟩ := List.mem_map.1 hx
  have := b.toNat_lt
  omega
theorem strCells_bytes (s : ByteArray) : Lib.strCells s = byteV (bytesL s) := by
  unfold Lib.strCells byteV bytesL
  rw [List.map_map]
  rfl
theorem bytesL_bstr {l : List Int} (h : bytesOk l) : bytesL (bstr l) = l := by
  unfold bytesL bstr
  rw [bstr_list]
  show List.map _ ([] ++ _) = l
  rw [List.nil_append, List.map_map]
  have : ∀ x ∈ l, ((fun b : UInt8 => (b.toNat : Int)) ∘ fun n : Int => UInt8.ofNat n.toNat) x = x := by
    intro x hx
    have := h x hx
    show ((UInt8.ofNat x.toNat).toNat : Int) = x
    rw [UInt8.toNat_ofNat', Nat.mod_eq_of_lt (by omega)]
    omega
  rw [List.map_congr_left this]
  simp
theorem bytesL_inj {s t : ByteArray} (h : bytesL s = bytesL t) : s = t := by
  have h2 : s.data.toList = t.data.toList := by
    unfold bytesL at h
    refine List.map_inj_right ?_ |>.1 h
    intro a b e
    exact UInt8.toNat_inj.1 (by exact_mod_cast e)
  cases s; cases t
  simp only at h2
  congr
  exact Array.ext' h2
theorem bstr_bytesL (s : ByteArray) : bstr (bytesL s) = s := bytesL_inj (bytesL_bstr (bytesL_ok s))
theorem bstr_size {l : List Int} (h : bytesOk l) : (bstr l).size = l.length := by rw [← bytesL_len, bytesL_bstr h]

/-- The bytes of a part: its length, itself, zeros. -/
def part (s : ByteArray) (n : Nat) : List Int := (s.size : Int) :: (bytesL s ++ List.replicate (n - s.size) 0)
theorem part_len {s : ByteArray} {n : Nat} (h : s.size ≤ n) : (part s n).length = n + 1 := by
  unfold part
  rw [List.length_cons, List.length_append, bytesL_len, List.length_replicate]
  omega
theorem part_ok {s : ByteArray} {n : Nat} (h : s.size ≤ n) (hn : n < 256) : bytesOk (part s n) := by
  intro x hx
  rcases List.mem_cons.1 hx with rfl | hx
  · omega
  rcases List.mem_append.1 hx with hx | hx
  · exact bytesL_ok s x hx
  · rw [List.mem_replicate] at hx; omega

theorem own_form {w : World} {B n : Nat} {v : Value} {l : List Value} (h : w.ownsRow B 5 1 v (n + 1) l) : ∃ g cap, v = .slice (some ⟨g, 0, none⟩) (n + 1) cap := by
  obtain ⟨g, cap, hv, _⟩ := h.form (by omega)
  exact ⟨g, cap, hv⟩

set_option maxRecDepth 100000 in
set_option maxHeartbeats 1000000 in
theorem part_any (w : World) (B n : Nat) (v : Value) (l : List Int) (ho : w.ownsRow B 5 1 v n (byteV l)) (hn : n ≤ 1000) (hB : B ≤ w.heap.size) (s : ByteArray) (most : Nat) (hs : s.size ≤ most) (hm : most ≤ 100) :
    Calls Try.prog 19 #[v, .string s, .int .i64 most] w fun e w' => ∃ v', e = .returned v' ∧ w'.ownsRow B 5 1 v' (n + (most + 1)) (byteV (l ++ part s most)) ∧ Below B w w' := by
  obtain ⟨i, hi, hz0, hz1, hz2⟩ := info_parts infoU8
  have b0 : (0 : Int) ≤ (s.size : Int) := by omega
  have b1 : (s.size : Int) < 256 := by omega
  have b2 : (s.size : Int) ≤ (most : Int) := by omega
  have b3 : (most : Int) ≤ 100 := by omega
  have HO := Lib.hid ho
  have hoa : ∀ o, (w.alloc o).ownsRow B 5 1 v n (byteV l) := fun o => ho.alloc o
  have HA := Lib.hid hoa
  clear ho hoa
  go_enter Try.func19, Try.ntmps19
  go_wp2_with (at_builtin; refine wpList_append_own _ rfl _ _ 26 rfl B 5 i (.int .u8 0) 1 1 Try.underlying26 hi hz0 hz1 hz2 rfl (by decide) v n (byteV l) rfl (HA.out _) ⟨w.heap.size, 0, none⟩ 1 1 (byteV [(s.size : Int)]) rfl ?c2 ?c3 ?c4 ?c5 ?c6 ?c7 ?_)
  case c2 => rfl
  case c3 =>
    intro q u hu
    have hj : q < 1 := by have := (List.getElem?_eq_some_iff.1 hu).1; simpa [byteV] using this
    obtain rfl : q = 0 := by omega
    simp [byteV] at hu
    subst hu
    show World.cell? _ ⟨w.heap.size, 0, none⟩ = _
    rw [(cell_of (heap_alloc_new w _) 0).1]
    rfl
  case c4 => exact byteV_one _
  case c5 => unfold maxLen; omega
  case c6 => omega
  case c7 => simp; omega
  intro v1 w1 hown1 hg1 _
  have hb1 : Below B w w1 := ((Below.refl _ w).alloc hB _).grown hg1 (by simp; omega) (fun k hk => (HO.out.lt k hk).1)
  have hz1' := hb1.size
  obtain ⟨g1, c1, rfl⟩ := own_form hown1
  have HO1 := Lib.hid hown1
  have HB1 := Lib.hid hb1
  clear hown1 hg1 hb1
  go_wp2_with (at_builtin; refine Lib.wpList_append_own_string _ rfl _ _ _ _ rfl B 5 i Try.underlying26 Try.underlying9 hi hz0 hz1 hz2 _ (n + 1) _ rfl HO1.out s rfl ?d1 ?d2 ?d3 ?_)
  case d1 => unfold maxLen; omega
  case d2 => omega
  case d3 => exact (Nat.le_trans hB HB1.out.size)
  intro v2 w2 hown2 hg2 _
  have hb2 : Below B w w2 := HB1.out.grown hg2 (Nat.le_trans hB HB1.out.size) (fun k hk => (HO1.out.lt k hk).1)
  rw [strCells_bytes, show byteV l ++ (byteV [(s.size : Int)] ++ byteV (bytesL s)) = byteV (l ++ [(s.size : Int)] ++ bytesL s) by simp [byteV]] at hown2
  rw [show n + 1 + s.size = (n + s.size) + 1 by omega] at hown2
  obtain ⟨g2, c2, rfl⟩ := own_form hown2
  obtain ⟨v3, w3, hr3, ho3, hg3⟩ := zeros_own w2 B g2 (n + s.size + 1) c2 _ (most - s.size) hown2 (by omega) (Nat.le_trans hB hb2.size)
  rw [show ((most - s.size : Nat) : Int) = (most : Int) - (s.size : Int) by omega] at hr3
  rw [show n + s.size + 1 + (most - s.size) = n + (most + 1) by omega, show l ++ [(s.size : Int)] ++ bytesL s ++ List.replicate (most - s.size) 0 = l ++ part s most by simp [part]] at ho3
  have hb3 : Below B w w3 := hb2.grown hg3 (Nat.le_trans hB hb2.size) (fun k hk => by cases hk; exact (hown2.lt g2 rfl).1)
  have HR := Lib.hid hr3
  have HB3 := Lib.hid hb3
  have HO3 := Lib.hid ho3
  clear hown2 hg2 hb2 hr3 hb3 ho3 hg3
  go_wp2_with (at_builtin; refine Lib.wpList_append_run _ rfl _ _ _ _ rfl _ _ rfl rfl _ _ (HR.out _) ?_)
  go_ret
  exact ⟨_, rfl, HO3.out, HB3.out⟩
end Go.Proofs.Ytpgpcihcmjibmaa
