/- PoolNone, a part. -/
import Derived.Test.YtljbhdldfffpfaaGreatQn10
namespace Go.Proofs.YtljbhdldfffpfaaGreat
open Go.RowKit

/-- The reader in block p, and the bytes that are left; they lie in the world w0 in which the reading began. -/
structure RS (w0 w : World) (p : Nat) (sv : Value) (l : List Int) : Prop where
  bx : w.heap[p]? = some (.cells #[sv] 183 (0, 0))
  sl : SlK .u8 w0 sv l
  bel : Below p w0 w
  le : w0.heap.size ≤ p

/-- Only the reader has turned. -/
structure Rd (p : Nat) (w w' : World) : Prop where
  os : w'.os = w.os
  tape : w'.tape = w.tape
  output : w'.output = w.output
  size : w.heap.size ≤ w'.heap.size
  block : ∀ k, k < w.heap.size → k ≠ p → w'.heap[k]? = w.heap[k]?

theorem Rd.refl (p : Nat) (w : World) : Rd p w w := ⟨rfl, rfl, rfl, Nat.le_refl _, fun _ _ _ => rfl⟩
theorem Rd.trans {p : Nat} {a b c : World} (h : Rd p a b) (k : Rd p b c) : Rd p a c :=
  ⟨k.os.trans h.os, k.tape.trans h.tape, k.output.trans h.output, Nat.le_trans h.size k.size, fun i hi h1 => (k.block i (Nat.lt_of_lt_of_le hi h.size) h1).trans (h.block i hi h1)⟩
theorem Rd.of_below {p : Nat} {w w' : World} (h : Below w.heap.size w w') : Rd p w w' := ⟨h.os, h.tape, h.output, h.size, fun k hk _ => h.block k hk⟩
theorem Rd.below {p B : Nat} {w w' : World} (h : Rd p w w') (hB : B ≤ p) (hp : p < w.heap.size) : Below B w w' := ⟨h.os, h.tape, h.output, h.size, fun k hk => h.block k (by omega) (by omega)⟩
theorem RS.lt {w0 w : World} {p : Nat} {sv : Value} {l : List Int} (h : RS w0 w p sv l) : p < w.heap.size := (Array.getElem?_eq_some_iff.1 h.bx).1
theorem RS.on {w0 w w' : World} {p : Nat} {sv : Value} {l : List Int} (h : RS w0 w p sv l) (hb : Below w.heap.size w w') : RS w0 w' p sv l :=
  ⟨(hb.block p h.lt).trans h.bx, h.sl, h.bel.trans (hb.mono (Nat.le_of_lt h.lt)), h.le⟩
theorem RS.now {w0 w : World} {p : Nat} {sv : Value} {l : List Int} (h : RS w0 w p sv l) : SlK .u8 w sv l := h.sl.below h.bel h.le
theorem RS.set {w0 w : World} {p : Nat} {sv sv' : Value} {l l' : List Int} (h : RS w0 w p sv l) (hs : SlK .u8 w0 sv' l') : RS w0 (w.setCell ⟨p, 0, none⟩ sv') p sv' l' ∧ Rd p w (w.setCell ⟨p, 0, none⟩ sv') := by
  refine ⟨⟨?_, hs, ?_, h.le⟩, ⟨rfl, rfl, rfl, by simp, fun k _ hk => setCell_far _ _ _ _ hk⟩⟩
  · rw [heap_setCell_same w p 0 _ _ _ h.bx]
    rfl
  · exact h.bel.trans ⟨rfl, rfl, rfl, by simp, fun k hk => setCell_far _ _ _ _ (by omega)⟩

/-- The rest of a slice. -/
theorem SlK.rest {w : World} {b off n cap : Nat} {l : List Int} (h : SlK .u8 w (.slice (some ⟨b, off, none⟩) n cap) l) {k : Nat} (hk : k ≤ n) : n = l.length ∧ SlK .u8 w (.slice (some ⟨b, off + k, none⟩) (n - k) (cap - k)) (l.drop k) ∧ (n = k → SlK .u8 w (.slice (some ⟨b, off, none⟩) 0 0) (l.drop k)) := by
  obtain ⟨p, c, e, h1, h2, h3, h4⟩ := h
  cases e
  obtain ⟨h5, h6, h7⟩ := h4 _ rfl
  refine ⟨rfl, ⟨_, cap - k, by rw [List.length_drop], by rw [List.length_drop]; omega, fun x hx => h2 x (List.mem_of_mem_drop hx), (fun e => by cases e), fun a e => ?_⟩, fun e => ?_⟩
  · cases e
    refine ⟨rfl, h6, fun j hj => ?_⟩
    rw [List.length_drop] at hj
    rw [List.getElem_drop, ← h7 (k + j) (by omega)]
    show w.cell? ⟨b, off + k + j, none⟩ = w.cell? ⟨b, off + (k + j), none⟩
    rw [Nat.add_assoc]
  · rw [List.drop_eq_nil_of_le (by omega)]
    exact ⟨_, 0, rfl, Nat.le_refl _, (fun x hx => by cases hx), (fun e => by cases e), fun a e => by cases e; exact ⟨rfl, h6, fun j hj => by cases hj⟩⟩

/-- A list without its first elements; a word that no rule takes apart. -/
def dr (l : List Int) (k : Nat) : List Int := l.drop k
theorem dr_dr (l : List Int) (j k : Nat) : dr (dr l j) k = dr l (j + k) := List.drop_drop

/-- What a call of the reader leaves, whose answer is r. -/
def RPost (w0 w : World) (p : Nat) (r : Value) (l : List Int) (e : Ending) (w' : World) : Prop := e = .returned r ∧ ∃ sv', RS w0 w' p sv' l ∧ Rd p w w'

theorem SlK.pre {w : World} {A : Option Addr} {n cap : Nat} {l : List Int} (h : SlK .u8 w (.slice A n cap) l) {k : Nat} (hk : k ≤ n) : SlK .u8 w (.slice A k cap) (l.take k) := by
  obtain ⟨p, c, e, h1, h2, h3, h4⟩ := h
  cases e
  have hl : (l.take k).length = k := by rw [List.length_take]; omega
  refine ⟨A, cap, by rw [hl], by omega, fun x hx => h2 x (List.mem_of_mem_take hx), fun e => ⟨by rw [(h3 e).1]; simp, (h3 e).2⟩, fun a ha => ?_⟩
  obtain ⟨h5, h6, h7⟩ := h4 a ha
  refine ⟨h5, h6, fun j hj => ?_⟩
  rw [hl] at hj
  rw [List.getElem_take, h7 j (by omega)]

theorem SlK.suf {w : World} {A : Option Addr} {n cap : Nat} {l : List Int} (h : SlK .u8 w (.slice A n cap) l) {k : Nat} (hk : k ≤ n) : SlK .u8 w (.slice (A.map fun x => x.add k) (n - k) (cap - k)) (l.drop k) ∧ (n = k → SlK .u8 w (.slice A 0 0) (l.drop k)) := by
  cases A with
  | none =>
    obtain ⟨p, c, e, h1, h2, h3, h4⟩ := h
    cases e
    obtain ⟨h5, h6⟩ := h3 rfl
    subst h5 h6
    obtain rfl : k = 0 := Nat.le_zero.1 hk
    exact ⟨slK_nil w, fun _ => slK_nil w⟩
  | some a =>
    obtain ⟨b, off, sp⟩ := a
    obtain rfl : sp = none := by
      obtain ⟨_, _, e, _, _, _, h4⟩ := h
      cases e
      exact (h4 _ rfl).1
    have e : (⟨b, off, none⟩ : Addr).add k = ⟨b, off + k, none⟩ := by
      unfold Addr.add
      split
      · rename_i e; rw [e]; rfl
      · rfl
    rw [Option.map_some, e]
    exact (h.rest hk).2

/-- What cut leaves: the first k bytes. -/
def CutPost (w0 w : World) (p k : Nat) (l : List Int) (e : Ending) (w' : World) : Prop := ∃ A c sv', e = .returned (.slice A (l.take k).length c) ∧ SlK .u8 w0 (.slice A (l.take k).length c) (l.take k) ∧ RS w0 w' p sv' (dr l k) ∧ Rd p w w'
theorem cut_fin {w0 w : World} {p k m cap : Nat} {A : Option Addr} {l : List Int} {v' : Value} (h : RS w0 w p (.slice A l.length cap) l) (hm : min k l.length = m) (hs : SlK .u8 w0 v' (l.drop m)) : CutPost w0 w p k l (.returned (.slice A m cap)) (w.setCell ⟨p, 0, none⟩ v') := by
  have e1 : l.take m = l.take k := by rw [← hm]; exact (List.take_eq_take_min ..).symm
  have e2 : l.drop m = dr l k := by
    show l.drop m = l.drop k
    rcases Nat.le_total k l.length with h | h
    · rw [← hm, Nat.min_eq_left h]
    · rw [List.drop_eq_nil_of_le h, ← hm, Nat.min_eq_right h, List.drop_length]
  have e3 : (l.take k).length = m := by rw [List.length_take, hm]
  have hp := h.sl.pre (k := m) (by omega)
  rw [e1] at hp
  exact ⟨A, cap, v', by rw [e3], by rw [e3]; exact hp, h.set (e2 ▸ hs)⟩

set_option maxRecDepth 100000 in
set_option maxHeartbeats 400000 in
theorem cut_any {w0 w : World} {p : Nat} {sv : Value} {l : List Int} (h : RS w0 w p sv l) (k : Nat) (hk : k ≤ 1000) :
    Calls Tryz.prog 165 #[.pointer (some ⟨p, 0, none⟩), .int .i64 k] w (CutPost w0 w p k l) := by
  have c0 : w.cell? ⟨p, 0, none⟩ = some sv := (cell_of h.bx 0).1
  have f0 := (cell_of h.bx 0).2
  have HN := Lib.hid h.sl
  have HH := Lib.hid h
  obtain ⟨A, cap, rfl, h1, -⟩ := h.sl
  clear h
  go_enter Tryz.func165, Tryz.ntmps165
  go_wp2
  · go_ret
    obtain rfl : cap = l.length := by assumption
    exact cut_fin (m := l.length) HH.out (by omega) ((HN.out.suf (Nat.le_refl _)).2 rfl)
  · go_ret
    exact cut_fin (m := l.length) HH.out (by omega) (by simpa using (HN.out.suf (Nat.le_refl _)).1)
  · go_ret
    obtain rfl : cap = k := by assumption
    have e : l.length = cap := by omega
    rw [show l.length - cap = 0 by omega]
    exact cut_fin (m := cap) HH.out (by omega) ((HN.out.suf (by omega)).2 e)
  · go_ret
    exact cut_fin (m := k) HH.out (by omega) (HN.out.suf (by omega)).1

theorem getD_ok {l : List Int} (h : bytesOk l) (k : Nat) : 0 ≤ l.getD k 0 ∧ l.getD k 0 < 256 := by
  rw [List.getD_eq_getElem?_getD]
  cases e : l[k]? with
  | none => simp
  | some x => simpa using h x (List.mem_of_getElem? e)
theorem numR_bd {l : List Int} (h : bytesOk l) : ∀ k, 0 ≤ numR l k ∧ numR l k < 256 ^ k
  | 0 => by simp [numR]
  | k + 1 => by
    have := numR_bd h k
    have := getD_ok h k
    rw [numR_s, Int.pow_succ]
    split <;> omega
theorem or_add (N x : Int) (h0 : 0 ≤ N) (h1 : N < 65536) (x0 : 0 ≤ x) (x1 : x < 256) : bits BinOp.or IntKind.i64 (N * 256) x = N * 256 + x := by
  obtain ⟨n, rfl⟩ := Int.eq_ofNat_of_zero_le h0
  obtain ⟨m, rfl⟩ := Int.eq_ofNat_of_zero_le x0
  unfold bits
  show IntKind.i64.wrap ((BitVec.ofInt 64 ((n : Int) * 256) ||| BitVec.ofInt 64 (m : Int)).toNat : Int) = _
  rw [BitVec.toNat_or, show ((n : Int) * 256) = ((2 ^ 8 * n : Nat) : Int) by omega, BitVec.ofInt_natCast, BitVec.ofInt_natCast, BitVec.toNat_ofNat, BitVec.toNat_ofNat, Nat.mod_eq_of_lt (by omega), Nat.mod_eq_of_lt (by omega), ← Nat.two_pow_add_eq_or_of_lt (by omega)]
  rw [IntWalk.i64_in _ (by omega)]
  omega

theorem numR_S {l : List Int} {k : Nat} (h : k < l.length) : numR l (k + 1) = numR l k * 256 + l.getD k 0 := (numR_s l k).trans (if_pos h)
theorem numR_ge {l : List Int} : ∀ {k : Nat}, l.length ≤ k → numR l k = numR l l.length
  | 0, h => by rw [Nat.le_zero.1 h]
  | k + 1, h => by
    rcases Nat.lt_or_ge k l.length with hk | hk
    · rw [show l.length = k + 1 by omega]
    · rw [show numR l (k + 1) = numR l k from (numR_s l k).trans (if_neg (by omega)), numR_ge hk]
theorem numR_take (l : List Int) (n : Nat) : ∀ k, k ≤ n → numR (l.take n) k = numR l k
  | 0, _ => by rw [numR_0, numR_0]
  | k + 1, h => by
    rw [numR_s, numR_s, numR_take l n k (by omega)]
    simp only [List.getD_eq_getElem?_getD, List.getElem?_take, if_pos (show k < n by omega), List.length_take]
    by_cases hl : k < l.length
    · rw [if_pos (by omega), if_pos hl]
    · rw [if_neg (by omega), if_neg hl]
theorem numR_cut (l : List Int) (k : Nat) : numR (l.take k) (l.take k).length = numR l k := by
  rw [← numR_ge (List.length_take_le _ _), numR_take l k k (Nat.le_refl _)]

def NRel (w : World) (m : List Int) (n i : Value) (wr : World) : Prop := ∃ j : Nat, j ≤ m.length ∧ i = .int .i64 j ∧ n = .int .i64 (numR m j) ∧ w = wr

set_option maxRecDepth 100000 in
set_option maxHeartbeats 1000000 in
theorem rnum_any {w0 w : World} {p : Nat} {sv : Value} {l : List Int} (h : RS w0 w p sv l) (k : Nat) (hk : k ≤ 3) :
    Calls Tryz.prog 149 #[.pointer (some ⟨p, 0, none⟩), .int .i64 k] w (RPost w0 w p (.int .i64 (numR l k)) (dr l k)) := by
  have hok := h.sl.ok
  have HOK := Lib.hid hok
  have HH := Lib.hid h
  clear h hok
  go_enter Tryz.func149, Tryz.ntmps149
  go_wp2_with fail
  refine (cut_any HH.out k (by omega)).mono ?_
  rintro e w1 ⟨A, c, s1, rfl, hm, h1, g1⟩
  have HM := Lib.hid (hm.below h1.bel h1.le)
  have hokm : bytesOk (l.take k) := fun x hx => HOK.out x (List.mem_of_mem_take hx)
  have hlen : (l.take k).length ≤ 3 := Nat.le_trans (List.length_take_le _ _) hk
  have hcut := numR_cut l k
  have H1 := Lib.hid h1
  have G1 := Lib.hid g1
  clear hm h1 g1 HH
  generalize hmm : l.take k = m at *
  have HCUT := Lib.hid hcut
  have HOKM := Lib.hid hokm
  clear hcut hokm hmm
  go_upto_region 3 with (fail)
  go_loopw [5, 12] (fun n i wr => NRel w1 m n i wr) (fun _ i _ => m.length - (RowKit.intOf i).toNat)
  case atStart => exact ⟨0, Nat.zero_le _, rfl, by rw [numR_0], rfl⟩
  case round =>
    obtain ⟨j, hj, rfl, rfl, rfl⟩ := hrel
    by_cases hlt : j < m.length
    · obtain ⟨b1, b2⟩ := numR_bd HOKM.out j
      have b3 : numR m j < 65536 := by
        refine Int.lt_of_lt_of_le b2 ?_
        obtain rfl | rfl | rfl : j = 0 ∨ j = 1 ∨ j = 2 := by omega
        · decide
        · decide
        · decide
      obtain ⟨x1, x2⟩ := getD_ok HOKM.out j
      have e1 : numR m (j + 1) = numR m j * 256 + m.getD j 0 := numR_S hlt
      obtain ⟨b, off, hA, hc⟩ : ∃ b off, A = some ⟨b, off, none⟩ ∧ w1.cell? ⟨b, off + j, none⟩ = some (.int .u8 (m.getD j 0)) := by
        obtain ⟨p, c, e, h1, h2, h3, h4⟩ := HM.out
        cases e
        cases A with
        | none => rw [(h3 rfl).1] at hlt; cases hlt
        | some a =>
          obtain ⟨h5, h6, h7⟩ := h4 a rfl
          obtain ⟨b, off, sp⟩ := a
          cases h5
          refine ⟨b, off, rfl, ?_⟩
          have := h7 j hlt
          rw [this, List.getD_eq_getElem?_getD, List.getElem?_eq_getElem hlt]
          rfl
      subst hA
      obtain ⟨N, hN⟩ : ∃ N, N = numR m j := ⟨_, rfl⟩
      obtain ⟨x, hx⟩ : ∃ x, x = m.getD j 0 := ⟨_, rfl⟩
      rw [← hN] at b1 b3 e1 ⊢
      rw [← hx] at x1 x2 e1 hc
      have HE := Lib.hid e1
      have HO := Lib.hid (or_add N x b1 b3 x1 x2)
      clear hN hx e1 b2
      have z1 : (0 : Int) ≤ (j : Int) := by omega
      have z2 : (j : Int) < (m.length : Int) := by omega
      go_wp2
      go_roundw
      case rel => exact ⟨j + 1, hlt, rfl, by rw [HO.out, HE.out], rfl⟩
      case measure => simp [RowKit.intOf]; omega
    · obtain rfl : j = m.length := by omega
      go_wp2
      go_ret
      rw [HCUT.out]
      exact ⟨rfl, s1, H1.out, G1.out⟩
end Go.Proofs.YtljbhdldfffpfaaGreat
