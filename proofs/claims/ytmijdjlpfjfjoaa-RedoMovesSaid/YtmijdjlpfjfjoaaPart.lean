/- The parts of a row as bytes; appendPart, and the reference's pad. -/
import Derived.Test.YtmijdjlpfjfjoaaLow
import Derived.Laws.AppendOwnNone
import Derived.Laws.OwnMore
import Derived.Deep.AppendLies
namespace Go.Proofs.Ytmijdjlpfjfjoaa
open Go.RowKit

def bytesL (s : ByteArray) : List Int := s.data.toList.map (fun b => (b.toNat : Int))

theorem bytesL_len (s : ByteArray) : (bytesL s).length = s.size := by
  unfold bytesL
  rw [List.length_map]
  exact Array.length_toList

theorem bytesL_ok (s : ByteArray) : bytesOk (bytesL s) := by
  intro x hx
  obtain ⟨b, _, rfl⟩ := List.mem_map.1 hx
  have := b.toNat_lt
  omega

theorem strCells_bytes (s : ByteArray) : Lib.strCells s = byteV (bytesL s) := by
  unfold Lib.strCells byteV bytesL
  rw [List.map_map]
  rfl

theorem bytesL_bstr {l : List Int} (h : bytesOk l) : bytesL (bstr l) = l := by
  unfold bytesL bstr
  rw [bstr_list]
  show List.map _ ([] ++ _) = l
  rw [List.nil_append, List.map_map]
  have : ∀ x ∈ l, ((fun b : UInt8 => (b.toNat : Int)) ∘ fun n : Int => UInt8.ofNat n.toNat) x = x := by
    intro x hx
    have := h x hx
    show ((UInt8.ofNat x.toNat).toNat : Int) = x
    rw [UInt8.toNat_ofNat', Nat.mod_eq_of_lt (by omega)]
    omega
  rw [List.map_congr_left this]
  simp

theorem bytesL_inj {s t : ByteArray} (h : bytesL s = bytesL t) : s = t := by
  have h2 : s.data.toList = t.data.toList := by
    unfold bytesL at h
    refine List.map_inj_right ?_ |>.1 h
    intro a b e
    exact UInt8.toNat_inj.1 (by exact_mod_cast e)
  cases s; cases t
  simp only at h2
  congr
  exact Array.ext' h2

theorem bstr_bytesL (s : ByteArray) : bstr (bytesL s) = s := bytesL_inj (bytesL_bstr (bytesL_ok s))

theorem bstr_size {l : List Int} (h : bytesOk l) : (bstr l).size = l.length := by rw [← bytesL_len, bytesL_bstr h]

/-- The bytes of a part: its length, itself, zeros. -/
def part (s : ByteArray) (n : Nat) : List Int := (s.size : Int) :: (bytesL s ++ List.replicate (n - s.size) 0)

theorem part_len {s : ByteArray} {n : Nat} (h : s.size ≤ n) : (part s n).length = n + 1 := by
  unfold part
  rw [List.length_cons, List.length_append, bytesL_len, List.length_replicate]
  omega

theorem part_ok {s : ByteArray} {n : Nat} (h : s.size ≤ n) (hn : n < 256) : bytesOk (part s n) := by
  intro x hx
  rcases List.mem_cons.1 hx with rfl | hx
  · omega
  rcases List.mem_append.1 hx with hx | hx
  · exact bytesL_ok s x hx
  · rw [List.mem_replicate] at hx; omega

theorem own_form {w : World} {B n : Nat} {v : Value} {l : List Value} (h : w.ownsRow B 5 1 v (n + 1) l) : ∃ g cap, v = .slice (some ⟨g, 0, none⟩) (n + 1) cap := by
  obtain ⟨g, cap, hv, _⟩ := h.form (by omega)
  exact ⟨g, cap, hv⟩

end Go.Proofs.Ytmijdjlpfjfjoaa
