/- half and number: a tile's bytes and its number. -/
import Derived.Test.YtmijdjlpfjfjoaaByt
namespace Go.Proofs.Ytmijdjlpfjfjoaa
open Go.RowKit

def head (n : Int) : List Int := [n / 16777216, n / 65536 % 256, n / 256 % 256, n % 256]
def tileL (n : Int) (l : List Int) : List Int := head n ++ (l ++ List.replicate (60 - l.length) 0)
def hvL (n : Int) (k : Nat) : List Int := (head n).take k ++ List.replicate (64 - k) 0
def hv (n : Int) (k : Nat) : Array Value := (byteV (hvL n k)).toArray
theorem hv_4 (n : Int) : hvL n 4 = head n ++ List.replicate 60 0 := rfl

theorem splice_tile (n : Int) {l : List Int} (hl : l.length ≤ 60) : splice (byteV (hvL n 4)) 4 (byteV l) = byteV (tileL n l) := by
  rw [hv_4]
  unfold splice tileL byteV
  simp only [List.map_append, List.length_map, List.map_replicate]
  rw [List.take_left' (by simp [head]), List.drop_append, List.drop_eq_nil_of_le (by simp [head]), List.drop_replicate]
  simp only [head, List.map_cons, List.map_nil, List.length_cons, List.length_nil, List.nil_append]
  rw [show 60 - (4 + l.length - (0 + 1 + 1 + 1 + 1)) = 60 - l.length by omega]


theorem or_step {a b : Int} (a0 : 0 ≤ a) (ha : a < 16777216) (b0 : 0 ≤ b) (hb : b < 256) : bits BinOp.or .u32 (a * 256 % 4294967296) b = a * 256 + b := by
  obtain ⟨x, rfl⟩ := Int.eq_ofNat_of_zero_le a0
  obtain ⟨y, rfl⟩ := Int.eq_ofNat_of_zero_le b0
  have h1 : ((x : Int) * 256 % 4294967296) = ((2 ^ 8 * x : Nat) : Int) := by omega
  have h2 : (2 ^ 8 * x ||| y) = 2 ^ 8 * x + y := (Nat.two_pow_add_eq_or_of_lt (by omega) x).symm
  rw [h1]
  show IntKind.wrap .u32 ((BitVec.ofInt 32 ((2 ^ 8 * x : Nat) : Int) ||| BitVec.ofInt 32 (y : Int)).toNat : Int) = _
  rw [BitVec.ofInt_natCast, BitVec.ofInt_natCast, BitVec.toNat_or, BitVec.toNat_ofNat, BitVec.toNat_ofNat, Nat.mod_eq_of_lt (by omega), Nat.mod_eq_of_lt (by omega), h2]
  rw [IntWalk.u32_in _ (by omega)]
  omega

def numL : List Int → Int
  | a :: b :: c :: d :: _ => ((a * 256 + b) * 256 + c) * 256 + d
  | _ => 0
def preN (l : List Int) (k : Nat) : Int := (l.take k).foldl (fun n c => n * 256 + c) 0

end Go.Proofs.Ytmijdjlpfjfjoaa
