/- half and number: a tile's bytes and its number. -/
import Derived.Test.YtolfmgbkbmphkaaByt
namespace Go.Proofs.Ytolfmgbkbmphkaa
open Go.RowKit

def head (n : Int) : List Int := [n / 16777216, n / 65536 % 256, n / 256 % 256, n % 256]
def tileL (n : Int) (l : List Int) : List Int := head n ++ (l ++ List.replicate (60 - l.length) 0)
def hvL (n : Int) (k : Nat) : List Int := (head n).take k ++ List.replicate (64 - k) 0
def hv (n : Int) (k : Nat) : Array Value := (byteV (hvL n k)).toArray
theorem hv_4 (n : Int) : hvL n 4 = head n ++ List.replicate 60 0 := rfl

theorem splice_tile (n : Int) {l : List Int} (hl : l.length ≤ 60) : splice (byteV (hvL n 4)) 4 (byteV l) = byteV (tileL n l) := by
  rw [hv_4]
  unfold splice tileL byteV
  simp only [List.map_append, List.length_map, List.map_replicate]
  rw [List.take_left' (by simp [head]), List.drop_append, List.drop_eq_nil_of_le (by simp [head]), List.drop_replicate]
  simp only [head, List.map_cons, List.map_nil, List.length_cons, List.length_nil, List.nil_append]
  rw [show 60 - (4 + l.length - (0 + 1 + 1 + 1 + 1)) = 60 - l.length by omega]

set_option maxRecDepth 100000 in
set_option maxHeartbeats 400000 in
theorem half_any (w : World) (n : Int) (n0 : 0 ≤ n) (n1 : n < 2147483648) (v : Value) (l : List Int) (h : SlK .u8 w v l) (hl : l.length ≤ 60) : Calls Try.prog 36 #[.int .i64 n, v] w fun e w' => ∃ g, e = .returned (.slice (some ⟨g, 0, none⟩) 64 64) ∧ w.heap.size ≤ g ∧ Below w.heap.size w w' ∧ Blk w' g (tileL n l) := by
  have hmk : ∀ W, (Instr.makeSlice 22 (.int .i64 64) (.int .i64 64)).run Try.prog W = .ok (.slice (some ⟨W.heap.size, 0, none⟩) 64 64) (W.alloc (.cells (hv n 0) 5)) := fun _ => by kernel_rfl
  obtain ⟨p, cap, rfl, h1, h2, h3, h4⟩ := h
  have H4 := Lib.hid h4
  clear h4 h2
  go_enter Try.func36, Try.ntmps36
  go_wp2
  go_loopw [8] (fun i wr => ∃ k : Nat, k ≤ 4 ∧ i = .int .i64 k ∧ wr = w.alloc (.cells (hv n k) 5)) (fun i _ => 4 - (intOf i).toNat)
  case atStart => exact ⟨0, by omega, rfl, rfl⟩
  case round =>
    obtain ⟨k, hk, rfl, rfl⟩ := hrel
    by_cases hlt : k < 4
    · have h0 := (cell_of (heap_alloc_new w (.cells (hv n k) 5)) k).1
      have hf := (cell_of (heap_alloc_new w (.cells (hv n k) 5)) k).2
      obtain rfl | rfl | rfl | rfl : k = 0 ∨ k = 1 ∨ k = 2 ∨ k = 3 := by omega
      · rw [show (hv n 0)[0]? = some (.int .u8 0) from rfl] at h0
        go_wp2
        exact ⟨⟨1, by omega, rfl, rfl⟩, by simp [intOf]⟩
      · rw [show (hv n 1)[1]? = some (.int .u8 0) from rfl] at h0
        go_wp2
        refine ⟨⟨2, by omega, rfl, ?_⟩, by simp [intOf]⟩
        rfl
      · rw [show (hv n 2)[2]? = some (.int .u8 0) from rfl] at h0
        go_wp2
        refine ⟨⟨3, by omega, rfl, ?_⟩, by simp [intOf]⟩
        rfl
      · rw [show (hv n 3)[3]? = some (.int .u8 0) from rfl] at h0
        go_wp2
        refine ⟨⟨4, by omega, rfl, ?_⟩, by simp [intOf]⟩
        rfl
    · obtain rfl : k = 4 := by omega
      go_wp2_with (with_reducible refine wpList_copy_splice (o := ⟨some 24, _, _, _, _, _⟩) rfl (.tmp 22) (.tmp 23) 22 22 rfl 5 Try.underlying22 info5 _ _ _ _ _ _ rfl rfl w.heap.size 4 (byteV (hvL n 4)) 5 ?c1 (byteV l) ?c2 ?c3 ?c4 ?c5 w.heap.size w ?c6 (Nat.le_refl _) ?_)
      case c1 => exact heap_alloc_new w _
      case c2 => show (byteV l).length = Nat.min l.length 60; rw [byteV, List.length_map]; exact (Nat.min_eq_left hl).symm
      case c3 =>
        intro hp
        obtain ⟨a, rfl⟩ : ∃ a, p = some a := by
          cases p with
          | none => rw [(h3 rfl).1] at hp; simp [byteV] at hp
          | some a => exact ⟨a, rfl⟩
        obtain ⟨hs, hbl, hc⟩ := H4.out a rfl
        obtain ⟨ab, ao, asp⟩ := a
        cases hs
        refine ⟨_, rfl, fun j v hv => ?_⟩
        have hj : j < l.length := by have := (List.getElem?_eq_some_iff.1 hv).1; simpa [byteV] using this
        have h2 : (⟨ab, ao, none⟩ : Addr).add j = ⟨ab, ao + j, none⟩ := by unfold Addr.add; split <;> simp_all
        rw [h2, World.cell?_of_block (Below.heap_alloc w _ ab hbl), hc j hj]
        simp [byteV] at hv
        obtain ⟨x, hx, rfl⟩ := hv
        rw [List.getElem?_eq_getElem hj] at hx
        cases hx
        rfl
      case c4 => simp [byteV, hvL, head]; omega
      case c5 => exact byteV_one l
      case c6 => exact (Below.refl _ w).alloc (Nat.le_refl _) _
      intro w3 hH hB
      have HR := hH.out
      rw [splice_tile n hl] at HR
      go_wp2
      go_ret
      exact ⟨_, rfl, Nat.le_refl _, hB, HR⟩

theorem or_step {a b : Int} (a0 : 0 ≤ a) (ha : a < 16777216) (b0 : 0 ≤ b) (hb : b < 256) : bits BinOp.or .u32 (a * 256 % 4294967296) b = a * 256 + b := by
  obtain ⟨x, rfl⟩ := Int.eq_ofNat_of_zero_le a0
  obtain ⟨y, rfl⟩ := Int.eq_ofNat_of_zero_le b0
  have h1 : ((x : Int) * 256 % 4294967296) = ((2 ^ 8 * x : Nat) : Int) := by omega
  have h2 : (2 ^ 8 * x ||| y) = 2 ^ 8 * x + y := (Nat.two_pow_add_eq_or_of_lt (by omega) x).symm
  rw [h1]
  show IntKind.wrap .u32 ((BitVec.ofInt 32 ((2 ^ 8 * x : Nat) : Int) ||| BitVec.ofInt 32 (y : Int)).toNat : Int) = _
  rw [BitVec.ofInt_natCast, BitVec.ofInt_natCast, BitVec.toNat_or, BitVec.toNat_ofNat, BitVec.toNat_ofNat, Nat.mod_eq_of_lt (by omega), Nat.mod_eq_of_lt (by omega), h2]
  rw [IntWalk.u32_in _ (by omega)]
  omega

def numL : List Int → Int
  | a :: b :: c :: d :: _ => ((a * 256 + b) * 256 + c) * 256 + d
  | _ => 0
def preN (l : List Int) (k : Nat) : Int := (l.take k).foldl (fun n c => n * 256 + c) 0

set_option maxRecDepth 100000 in
set_option maxHeartbeats 400000 in
theorem number_any (w : World) (v : Value) (l : List Int) (h : Pt w v l) (hb : bytesOk l) (hl : 4 ≤ l.length) : Calls Try.prog 38 #[v] w fun e w' => e = .returned (.int .u32 (numL l)) ∧ w' = w := by
  obtain ⟨b, off, cap, rfl, h1, h2, h3⟩ := h
  obtain ⟨x0, x1, x2, x3, r, rfl⟩ : ∃ x0 x1 x2 x3 r, l = x0 :: x1 :: x2 :: x3 :: r := by
    match l, hl with
    | x0 :: x1 :: x2 :: x3 :: r, _ => exact ⟨_, _, _, _, _, rfl⟩
  have b0 := hb x0 (by simp)
  have b1 := hb x1 (by simp)
  have b2 := hb x2 (by simp)
  have b3 := hb x3 (by simp)
  have c0 := h3 0 (by simp)
  have c1 := h3 1 (by simp)
  have c2 := h3 2 (by simp)
  have c3 := h3 3 (by simp)
  simp only [List.length_cons, List.getElem_cons_zero, List.getElem_cons_succ, Nat.add_zero] at c0 c1 c2 c3 h1
  obtain ⟨n, hn⟩ : ∃ n, (x0 :: x1 :: x2 :: x3 :: r).length = n := ⟨_, rfl⟩
  have hn4 : 4 ≤ n := by rw [← hn]; exact hl
  have hc4 : 4 ≤ cap := by omega
  rw [hn]
  clear h3 hb h1 hl hn
  go_enter Try.func38, Try.ntmps38
  go_wp2
  go_loopw [3, 9] (fun s i wr => ∃ k : Nat, k ≤ 4 ∧ i = .int .i64 k ∧ s = .int .u32 (preN [x0, x1, x2, x3] k) ∧ wr = w) (fun s i _ => 4 - (intOf i).toNat)
  case atStart => exact ⟨0, by omega, rfl, rfl, rfl⟩
  case round =>
    obtain ⟨k, hk, rfl, rfl, rfl⟩ := hrel
    by_cases hlt : k < 4
    · obtain rfl | rfl | rfl | rfl : k = 0 ∨ k = 1 ∨ k = 2 ∨ k = 3 := by omega
      all_goals go_wp2
      · exact ⟨⟨1, by omega, rfl, by rw [or_step (by simp [preN]) (by simp [preN]) b0.1 b0.2]; simp [preN], trivial⟩, by simp [intOf]⟩
      · exact ⟨⟨2, by omega, rfl, by rw [or_step (by simp [preN]; omega) (by simp [preN]; omega) b1.1 b1.2]; simp [preN], trivial⟩, by simp [intOf]⟩
      · exact ⟨⟨3, by omega, rfl, by rw [or_step (by simp [preN]; omega) (by simp [preN]; omega) b2.1 b2.2]; simp [preN], trivial⟩, by simp [intOf]⟩
      · exact ⟨⟨4, by omega, rfl, by rw [or_step (by simp [preN]; omega) (by simp [preN]; omega) b3.1 b3.2]; simp [preN], trivial⟩, by simp [intOf]⟩
    · obtain rfl : k = 4 := by omega
      go_wp2
      go_ret
      exact ⟨by simp [preN, numL], rfl⟩
end Go.Proofs.Ytolfmgbkbmphkaa
