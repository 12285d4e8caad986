/- PoolNone, a part. -/
import Derived.Test.YtljbhdldfffpfaaGreatQn26
import Derived.Laws.AppendOwnNone
import Derived.Deep.AppendLies
import Derived.Test.YtljbhdldfffpfaaGreatQn1
import Derived.Lib.SmallJoins
import Derived.Laws.StructEq
namespace Go.Proofs.YtljbhdldfffpfaaGreat.Lf
open Go.Proofs.YtljbhdldfffpfaaGreat
open Go.RowKit

theorem z26_ok : bytesOk z26 := by intro x hx; rw [z26, List.mem_replicate] at hx; omega

theorem bstr_eql {l l' : List Int} (h : bytesOk l) (h' : bytesOk l') : ((bstr l).toList == (bstr l').toList) = decide (l = l') := by
  rw [Bool.eq_iff_iff, beq_iff_eq, toList_eq, toList_eq, decide_eq_true_eq]
  constructor
  · intro e
    refine bstr_inj h h' ?_
    generalize bstr l = x at *
    generalize bstr l' = y at *
    cases x; cases y
    simp only at e
    congr
    exact Array.ext' e
  · rintro rfl; rfl

end Go.Proofs.YtljbhdldfffpfaaGreat.Lf
namespace Go.Proofs.YtljbhdldfffpfaaGreat.Lf
open Go.Proofs.YtljbhdldfffpfaaGreat
open Go.RowKit

def empB (l : List Int) : Bool := decide (l = [] ∨ l = z26)
def nrm (l : List Int) : List Int := if empB l = true then [] else l
def sameB (l l' : List Int) : Bool := decide (nrm l = nrm l')

theorem empB_26 {l : List Int} (h : l.length = 26) : empB l = zerosB l := by
  unfold empB
  rw [Bool.eq_iff_iff, decide_eq_true_eq]
  constructor
  · rintro (rfl | rfl)
    · cases h
    · decide
  · intro hz
    have := zeros_rep hz
    rw [h] at this
    exact .inr this

theorem empB_no {l : List Int} (h0 : l ≠ []) (h : l.length ≠ 26) : empB l = false := by
  unfold empB
  rw [decide_eq_false_iff_not]
  rintro (rfl | rfl)
  · exact h0 rfl
  · exact h rfl

theorem nrm_or (l : List Int) : (empB l = true ∧ nrm l = []) ∨ (empB l = false ∧ nrm l = l ∧ l ≠ []) := by
  cases h : empB l
  · refine .inr ⟨rfl, by unfold nrm; rw [h]; rfl, ?_⟩
    rintro rfl
    cases h
  · exact .inl ⟨rfl, by unfold nrm; rw [if_pos h]⟩

theorem sameB_tt {l m : List Int} (h : empB l = true) (h' : empB m = true) : sameB l m = true := by
  unfold sameB nrm; rw [if_pos h, if_pos h']; rfl
theorem sameB_ne {l m : List Int} (h : empB l ≠ empB m) : sameB l m = decide (l = m) := by
  have hne : l ≠ m := fun e => h (by rw [e])
  unfold sameB
  rw [decide_eq_false hne, decide_eq_false_iff_not]
  rcases nrm_or l with ⟨a, b⟩ | ⟨a, b, c⟩ <;> rcases nrm_or m with ⟨a', b'⟩ | ⟨a', b', c'⟩
  · exact absurd (a.trans a'.symm) h
  · rw [b, b']; exact fun e => c' e.symm
  · rw [b, b']; exact c
  · exact absurd (a.trans a'.symm) h
theorem sameB_ff {l m : List Int} (h : empB l = false) (h' : empB m = false) : sameB l m = decide (l = m) := by
  unfold sameB nrm; rw [if_neg (by rw [h]; decide), if_neg (by rw [h']; decide)]

set_option maxRecDepth 100000 in
set_option maxHeartbeats 400000 in
theorem lzeros_any (w : World) (v : Value) (l : List Int) (h : Pt w v l) (hl : l.length ≤ 100000) : Calls Tryz.prog 110 #[v] w fun e w' => e = .returned (.bool (zerosB l)) ∧ w' = w := by
  obtain ⟨b, off, cap, rfl, h1, h2, h3⟩ := h
  have H3 := Lib.hid h3
  obtain ⟨n, hN⟩ : ∃ n, l.length = n := ⟨_, rfl⟩
  rw [hN] at h1 hl ⊢
  have HN := Lib.hid hN
  clear h3 hN
  go_enter Tryz.func110, Tryz.ntmps110
  go_wp2
  go_loopw [7] (fun i wr => ∃ k : Nat, k ≤ n ∧ (∀ j (hj : j < l.length), j < k → l[j] = 0) ∧ i = .int .i64 k ∧ w = wr) (fun i _ => n - (RowKit.intOf i).toNat)
  case atStart => exact ⟨0, by omega, fun j _ h => by omega, rfl, rfl⟩
  case round =>
    obtain ⟨k, hk, hz, rfl, rfl⟩ := hrel
    have HZ := Lib.hid hz
    clear hz
    by_cases hlt : k < n
    · have hkl : k < l.length := by have := HN.out; omega
      have c0 := H3.out k hkl
      by_cases h0 : l[k] = 0
      · have HZ2 : Hid (∀ j (hj : j < l.length), j < k + 1 → l[j] = 0) := fun j hj hlt => by
          by_cases e : j = k
          · subst e; exact h0
          · exact HZ.out j hj (by omega)
        rw [h0] at c0
        clear h0
        go_wp2
        go_roundw
        case rel => exact ⟨k + 1, by omega, HZ2.out, by go_num, trivial⟩
        case measure => simp [RowKit.intOf]; omega
      · have HF := Lib.hid (zerosB_false hkl h0)
        have hx : (l[k] != 0) = true := by simpa using h0
        go_wp2
        go_ret
        exact ⟨ret_bool HF.out.symm, rfl⟩
    · obtain rfl : k = n := by omega
      have HF := Lib.hid (zerosB_true (l := l) (fun j hj => HZ.out j hj (by have := HN.out; omega)))
      go_wp2
      go_ret
      exact ⟨ret_bool HF.out.symm, rfl⟩

theorem ret_b {a b : Bool} (h : a = b) : Ending.returned (.bool a) = .returned (.bool b) := by rw [h]

set_option maxRecDepth 100000 in
set_option maxHeartbeats 400000 in
theorem empty_any (w : World) (v : Value) (l : List Int) (h : SlK .u8 w v l) : Calls Tryz.prog 97 #[v] w fun e w' => e = .returned (.bool (empB l)) ∧ w' = w := by
  by_cases h0 : l = []
  · subst h0
    obtain ⟨p, cap, rfl, _⟩ := h
    rw [List.length_nil]
    go_enter Tryz.func97, Tryz.ntmps97
    go_wp2
    go_ret
    exact ⟨rfl, rfl⟩
  · have hp := h.pt h0
    have hn : ¬ l.length = 0 := by simpa using h0
    obtain ⟨b, off, cap, rfl, h1, h2, h3⟩ := id hp
    by_cases h26 : l.length = 26
    · have HE := Lib.hid (empB_26 h26)
      have HZ := Lib.hid (lzeros_any w _ l hp (by omega))
      rw [h26] at h1 hn HZ ⊢
      clear h hp h3 h0 h26
      go_enter Tryz.func97, Tryz.ntmps97
      go_wp2_with fail
      refine HZ.out.mono ?_
      rintro e w' ⟨rfl, rfl⟩
      go_wp2
      go_ret
      exact ⟨ret_b HE.out.symm, rfl⟩
    · have HE := Lib.hid (empB_no h0 h26)
      have hx : (((l.length : Nat) : Int) == 0) = false := by simpa using h0
      have hy : (((l.length : Nat) : Int) == 26) = false := by simp; omega
      obtain ⟨n, hN⟩ : ∃ n, l.length = n := ⟨_, rfl⟩
      rw [hN] at h1 hn h26 hx hy ⊢
      clear h hp h3 h0 hN
      go_enter Tryz.func97, Tryz.ntmps97
      go_wp2
      go_ret
      exact ⟨ret_b HE.out.symm, rfl⟩

set_option maxRecDepth 100000 in
set_option maxHeartbeats 400000 in
theorem equal_any (w : World) (v u : Value) (l m : List Int) (h : SlK .u8 w v l) (h' : SlK .u8 w u m) : Calls Tryz.prog 71 #[v, u] w fun e w' => e = .returned (.bool (decide (l = m))) ∧ w' = w := by
  have v0 := conv_slK h
  have v1 := conv_slK h'
  have HE := Lib.hid (bstr_eql h.ok h'.ok)
  obtain ⟨p, cap, rfl, -⟩ := h
  obtain ⟨q, caq, rfl, -⟩ := h'
  go_enter Tryz.func71, Tryz.ntmps71
  go_wp2
  go_ret
  exact ⟨ret_b HE.out, rfl⟩

set_option maxRecDepth 100000 in
set_option maxHeartbeats 400000 in
theorem sameCell_any (w : World) (v u : Value) (l m : List Int) (h : SlK .u8 w v l) (h' : SlK .u8 w u m) : Calls Tryz.prog 78 #[v, u] w fun e w' => e = .returned (.bool (sameB l m)) ∧ w' = w := by
  have H1 := Lib.hid (empty_any w v l h)
  have H2 := Lib.hid (empty_any w u m h')
  have H3 := Lib.hid (equal_any w v u l m h h')
  obtain ⟨p, cap, rfl, -⟩ := h
  obtain ⟨q, caq, rfl, -⟩ := h'
  cases e1 : empB l <;> cases e2 : empB m <;> rw [e1] at H1 <;> rw [e2] at H2
  · have HE := Lib.hid (sameB_ff e1 e2)
    clear e1 e2
    go_enter Tryz.func78, Tryz.ntmps78
    go_wp2_with fail
    refine H1.out.mono ?_
    rintro e w' ⟨rfl, rfl⟩
    go_wp2_with fail
    refine H3.out.mono ?_
    rintro e w' ⟨rfl, rfl⟩
    go_wp2
    go_ret
    exact ⟨ret_b HE.out.symm, rfl⟩
  · have HE := Lib.hid (sameB_ne (l := l) (m := m) (by rw [e1, e2]; decide))
    clear e1 e2
    go_enter Tryz.func78, Tryz.ntmps78
    go_wp2_with fail
    refine H1.out.mono ?_
    rintro e w' ⟨rfl, rfl⟩
    go_wp2_with fail
    refine H3.out.mono ?_
    rintro e w' ⟨rfl, rfl⟩
    go_wp2
    go_ret
    exact ⟨ret_b HE.out.symm, rfl⟩
  · have HE := Lib.hid (sameB_ne (l := l) (m := m) (by rw [e1, e2]; decide))
    clear e1 e2
    go_enter Tryz.func78, Tryz.ntmps78
    go_wp2_with fail
    refine H1.out.mono ?_
    rintro e w' ⟨rfl, rfl⟩
    go_wp2_with fail
    refine H2.out.mono ?_
    rintro e w' ⟨rfl, rfl⟩
    go_wp2_with fail
    refine H3.out.mono ?_
    rintro e w' ⟨rfl, rfl⟩
    go_wp2
    go_ret
    exact ⟨ret_b HE.out.symm, rfl⟩
  · have HE := Lib.hid (sameB_tt e1 e2)
    clear e1 e2
    go_enter Tryz.func78, Tryz.ntmps78
    go_wp2_with fail
    refine H1.out.mono ?_
    rintro e w' ⟨rfl, rfl⟩
    go_wp2_with fail
    refine H2.out.mono ?_
    rintro e w' ⟨rfl, rfl⟩
    go_wp2
    go_ret
    exact ⟨ret_b HE.out.symm, rfl⟩

set_option maxRecDepth 100000 in
set_option maxHeartbeats 1000000 in
theorem clone_any (w : World) (v : Value) (l : List Int) (h : SlK .u8 w v l) (hl : l.length ≤ 100000) : Calls Tryz.prog 74 #[v] w fun e w' => ∃ v', e = .returned v' ∧ w'.ownsRow w.heap.size 5 1 v' l.length (byteV l) ∧ Below w.heap.size w w' := by
  obtain ⟨i, hi, hz0, hz1, hz2⟩ := info_parts infoU8
  obtain ⟨p, cap, rfl, h1, h2, h3, h4⟩ := h
  cases p with
  | none =>
    obtain ⟨rfl, rfl⟩ := h3 rfl
    rw [List.length_nil]
    have q0 := Lib.run_eql_slice_nil (P := Tryz.prog) w 33 5 none 0 0 0 0 Tryz.underlying33
    simp only [Option.isNone_none] at q0
    go_enter Tryz.func74, Tryz.ntmps74
    go_wp2
    go_ret
    exact ⟨_, rfl, ⟨rfl, .inl ⟨rfl, rfl⟩⟩, Below.refl _ _⟩
  | some a =>
    obtain ⟨hs, hbl, hc⟩ := h4 a rfl
    obtain ⟨b, off, asp⟩ := a
    cases hs
    have hp : Pt w (.slice (some ⟨b, off, none⟩) l.length cap) l := ⟨b, off, cap, rfl, h1, hbl, hc⟩
    obtain ⟨n, hN⟩ : ∃ n, l.length = n := ⟨_, rfl⟩
    rw [hN] at h1 hl hp ⊢
    have HN := Lib.hid hN
    have T0 : Below w.heap.size w (w.alloc (.cells #[] 5)) := (Below.refl _ _).alloc (Nat.le_refl _) _
    have O0 : (w.alloc (.cells #[] 5)).ownsRow w.heap.size 5 1 (.slice (some ⟨w.heap.size, 0, none⟩) 0 0) 0 [] := World.ownsRow_made w #[] 0 (Nat.le_refl _) (by unfold maxLen; omega) rfl
    have HP := Lib.hid hp
    have q0 := Lib.run_eql_slice_nil (P := Tryz.prog) w 33 5 (some ⟨b, off, none⟩) n cap 0 0 Tryz.underlying33
    simp only [Option.isNone_some] at q0
    clear h2 h3 h4 hc hp hN
    go_enter Tryz.func74, Tryz.ntmps74
    go_wp2_with (at_builtin; refine wpList_append_own _ rfl _ _ 33 rfl w.heap.size 5 i (.int .u8 0) 1 1 Tryz.underlying33 hi hz0 hz1 hz2 rfl (by decide) _ 0 [] rfl O0 ⟨b, off, none⟩ n cap (byteV l) rfl ?c2 (HP.out.below T0 (Nat.le_refl _)).news (byteV_one _) (by unfold maxLen; omega) (by omega) T0.size ?_)
    case c2 => simp [byteV, HN.out]
    intro v' w' ho hg _
    go_wp2
    go_ret
    exact ⟨_, rfl, ho, T0.grown hg T0.size (fun k hk => by cases hk; exact Nat.le_refl _)⟩

end Go.Proofs.YtljbhdldfffpfaaGreat.Lf
namespace Go.Proofs.YtljbhdldfffpfaaGreat.Lf
open Go.Proofs.YtljbhdldfffpfaaGreat
open Go.RowKit

def rowP (k s v : ByteArray) : List Int := if mayB k s v = true then rowL k s v else []

end Go.Proofs.YtljbhdldfffpfaaGreat.Lf
namespace Go.Proofs.YtljbhdldfffpfaaGreat.Lf
open Go.Proofs.YtljbhdldfffpfaaGreat
open Go.RowKit Go.Joins Go.ChangeShapes Go.WideShapes

/-- The world in which a law's two boxes lie. -/
def Bx (w W : World) (o1 o2 : Obj) : Prop := Below w.heap.size w W ∧ W.heap[w.heap.size]? = some o1 ∧ W.heap[w.heap.size + 1]? = some o2
theorem bx_new (w : World) (o1 o2 : Obj) : Bx w ((w.alloc o1).alloc o2) o1 o2 := ⟨((Below.refl _ _).alloc (Nat.le_refl _) _).alloc (by simp) _, (Below.heap_alloc _ _ _ (by simp)).trans (heap_alloc_new w _), alloc_two w _ _⟩
theorem Bx.lt {w W : World} {o1 o2 : Obj} (h : Bx w W o1 o2) : w.heap.size + 1 < W.heap.size := (Array.getElem?_eq_some_iff.1 h.2.2).1
theorem Bx.on {w W W' : World} {o1 o2 : Obj} (h : Bx w W o1 o2) (hb : Below W.heap.size W W') : Bx w W' o1 o2 :=
  ⟨h.1.trans (hb.mono (by have := h.lt; omega)), (hb.block _ (by have := h.lt; omega)).trans h.2.1, (hb.block _ h.lt).trans h.2.2⟩

-- A row, or a place, by value: what comes in.
section
variable {H : Type} {enc : TypeId × Value → H} {w : World} {base : Nat} {spare : Nat → Bool} {held : Bool}
end
end Go.Proofs.YtljbhdldfffpfaaGreat.Lf
namespace Go.Proofs.YtljbhdldfffpfaaGreat.Lf
open Go.Proofs.YtljbhdldfffpfaaGreat
open Go.RowKit

def head (n : Int) : List Int := [n / 16777216, n / 65536 % 256, n / 256 % 256, n % 256]
def tileL (n : Int) (l : List Int) : List Int := head n ++ (l ++ List.replicate (60 - l.length) 0)
def hvL (n : Int) (k : Nat) : List Int := (head n).take k ++ List.replicate (64 - k) 0
def hv (n : Int) (k : Nat) : Array Value := (byteV (hvL n k)).toArray
theorem hv_4 (n : Int) : hvL n 4 = head n ++ List.replicate 60 0 := rfl

theorem splice_tile (n : Int) {l : List Int} (hl : l.length ≤ 60) : splice (byteV (hvL n 4)) 4 (byteV l) = byteV (tileL n l) := by
  rw [hv_4]
  unfold splice tileL byteV
  simp only [List.map_append, List.length_map, List.map_replicate]
  rw [List.take_left' (by simp [head]), List.drop_append, List.drop_eq_nil_of_le (by simp [head]), List.drop_replicate]
  simp only [head, List.map_cons, List.map_nil, List.length_cons, List.length_nil, List.nil_append]
  rw [show 60 - (4 + l.length - (0 + 1 + 1 + 1 + 1)) = 60 - l.length by omega]

set_option maxRecDepth 100000 in
set_option maxHeartbeats 400000 in
theorem half_any (w : World) (n : Int) (n0 : 0 ≤ n) (n1 : n < 2147483648) (v : Value) (l : List Int) (h : SlK .u8 w v l) (hl : l.length ≤ 60) : Calls Tryz.prog 107 #[.int .i64 n, v] w fun e w' => ∃ g, e = .returned (.slice (some ⟨g, 0, none⟩) 64 64) ∧ w.heap.size ≤ g ∧ Below w.heap.size w w' ∧ Blk w' g (tileL n l) := by
  have hmk : ∀ W, (Instr.makeSlice 33 (.int .i64 64) (.int .i64 64)).run Tryz.prog W = .ok (.slice (some ⟨W.heap.size, 0, none⟩) 64 64) (W.alloc (.cells (hv n 0) 5)) := fun _ => by kernel_rfl
  obtain ⟨p, cap, rfl, h1, h2, h3, h4⟩ := h
  have H4 := Lib.hid h4
  clear h4 h2
  go_enter Tryz.func107, Tryz.ntmps107
  go_wp2
  go_loopw [8] (fun i wr => ∃ k : Nat, k ≤ 4 ∧ i = .int .i64 k ∧ wr = w.alloc (.cells (hv n k) 5)) (fun i _ => 4 - (RowKit.intOf i).toNat)
  case atStart => exact ⟨0, by omega, rfl, rfl⟩
  case round =>
    obtain ⟨k, hk, rfl, rfl⟩ := hrel
    by_cases hlt : k < 4
    · have h0 := (cell_of (heap_alloc_new w (.cells (hv n k) 5)) k).1
      have hf := (cell_of (heap_alloc_new w (.cells (hv n k) 5)) k).2
      obtain rfl | rfl | rfl | rfl : k = 0 ∨ k = 1 ∨ k = 2 ∨ k = 3 := by omega
      · rw [show (hv n 0)[0]? = some (.int .u8 0) from rfl] at h0
        go_wp2
        exact ⟨⟨1, by omega, rfl, rfl⟩, by simp [RowKit.intOf]⟩
      · rw [show (hv n 1)[1]? = some (.int .u8 0) from rfl] at h0
        go_wp2
        refine ⟨⟨2, by omega, rfl, ?_⟩, by simp [RowKit.intOf]⟩
        rfl
      · rw [show (hv n 2)[2]? = some (.int .u8 0) from rfl] at h0
        go_wp2
        refine ⟨⟨3, by omega, rfl, ?_⟩, by simp [RowKit.intOf]⟩
        rfl
      · rw [show (hv n 3)[3]? = some (.int .u8 0) from rfl] at h0
        go_wp2
        refine ⟨⟨4, by omega, rfl, ?_⟩, by simp [RowKit.intOf]⟩
        rfl
    · obtain rfl : k = 4 := by omega
      go_wp2_with (with_reducible refine wpList_copy_splice (o := ⟨some 24, _, _, _, _, _⟩) rfl (.tmp 22) (.tmp 23) 33 33 rfl 5 Tryz.underlying33 info5 _ _ _ _ _ _ rfl rfl w.heap.size 4 (byteV (hvL n 4)) 5 ?c1 (byteV l) ?c2 ?c3 ?c4 ?c5 w.heap.size w ?c6 (Nat.le_refl _) ?_)
      case c1 => exact heap_alloc_new w _
      case c2 => show (byteV l).length = Nat.min l.length 60; rw [byteV, List.length_map]; exact (Nat.min_eq_left hl).symm
      case c3 =>
        intro hp
        obtain ⟨a, rfl⟩ : ∃ a, p = some a := by
          cases p with
          | none => rw [(h3 rfl).1] at hp; simp [byteV] at hp
          | some a => exact ⟨a, rfl⟩
        obtain ⟨hs, hbl, hc⟩ := H4.out a rfl
        obtain ⟨ab, ao, asp⟩ := a
        cases hs
        refine ⟨_, rfl, fun j v hv => ?_⟩
        have hj : j < l.length := by have := (List.getElem?_eq_some_iff.1 hv).1; simpa [byteV] using this
        have h2 : (⟨ab, ao, none⟩ : Addr).add j = ⟨ab, ao + j, none⟩ := by unfold Addr.add; split <;> simp_all
        rw [h2, World.cell?_of_block (Below.heap_alloc w _ ab hbl), hc j hj]
        simp [byteV] at hv
        obtain ⟨x, hx, rfl⟩ := hv
        rw [List.getElem?_eq_getElem hj] at hx
        cases hx
        rfl
      case c4 => simp [byteV, hvL, head]; omega
      case c5 => exact byteV_one l
      case c6 => exact (Below.refl _ w).alloc (Nat.le_refl _) _
      intro w3 hH hB
      have HR := hH.out
      rw [splice_tile n hl] at HR
      go_wp2
      go_ret
      exact ⟨_, rfl, Nat.le_refl _, hB, HR⟩

theorem or_step {a b : Int} (a0 : 0 ≤ a) (ha : a < 16777216) (b0 : 0 ≤ b) (hb : b < 256) : bits BinOp.or .u32 (a * 256 % 4294967296) b = a * 256 + b := by
  obtain ⟨x, rfl⟩ := Int.eq_ofNat_of_zero_le a0
  obtain ⟨y, rfl⟩ := Int.eq_ofNat_of_zero_le b0
  have h1 : ((x : Int) * 256 % 4294967296) = ((2 ^ 8 * x : Nat) : Int) := by omega
  have h2 : (2 ^ 8 * x ||| y) = 2 ^ 8 * x + y := (Nat.two_pow_add_eq_or_of_lt (by omega) x).symm
  rw [h1]
  show IntKind.wrap .u32 ((BitVec.ofInt 32 ((2 ^ 8 * x : Nat) : Int) ||| BitVec.ofInt 32 (y : Int)).toNat : Int) = _
  rw [BitVec.ofInt_natCast, BitVec.ofInt_natCast, BitVec.toNat_or, BitVec.toNat_ofNat, BitVec.toNat_ofNat, Nat.mod_eq_of_lt (by omega), Nat.mod_eq_of_lt (by omega), h2]
  rw [IntWalk.u32_in _ (by omega)]
  omega

def numL : List Int → Int
  | a :: b :: c :: d :: _ => ((a * 256 + b) * 256 + c) * 256 + d
  | _ => 0
def preN (l : List Int) (k : Nat) : Int := (l.take k).foldl (fun n c => n * 256 + c) 0

set_option maxRecDepth 100000 in
set_option maxHeartbeats 400000 in
theorem number_any (w : World) (v : Value) (l : List Int) (h : Pt w v l) (hb : bytesOk l) (hl : 4 ≤ l.length) : Calls Tryz.prog 127 #[v] w fun e w' => e = .returned (.int .u32 (numL l)) ∧ w' = w := by
  obtain ⟨b, off, cap, rfl, h1, h2, h3⟩ := h
  obtain ⟨x0, x1, x2, x3, r, rfl⟩ : ∃ x0 x1 x2 x3 r, l = x0 :: x1 :: x2 :: x3 :: r := by
    match l, hl with
    | x0 :: x1 :: x2 :: x3 :: r, _ => exact ⟨_, _, _, _, _, rfl⟩
  have b0 := hb x0 (by simp)
  have b1 := hb x1 (by simp)
  have b2 := hb x2 (by simp)
  have b3 := hb x3 (by simp)
  have c0 := h3 0 (by simp)
  have c1 := h3 1 (by simp)
  have c2 := h3 2 (by simp)
  have c3 := h3 3 (by simp)
  simp only [List.length_cons, List.getElem_cons_zero, List.getElem_cons_succ, Nat.add_zero] at c0 c1 c2 c3 h1
  obtain ⟨n, hn⟩ : ∃ n, (x0 :: x1 :: x2 :: x3 :: r).length = n := ⟨_, rfl⟩
  have hn4 : 4 ≤ n := by rw [← hn]; exact hl
  have hc4 : 4 ≤ cap := by omega
  rw [hn]
  clear h3 hb h1 hl hn
  go_enter Tryz.func127, Tryz.ntmps127
  go_wp2
  go_loopw [3, 9] (fun s i wr => ∃ k : Nat, k ≤ 4 ∧ i = .int .i64 k ∧ s = .int .u32 (preN [x0, x1, x2, x3] k) ∧ wr = w) (fun s i _ => 4 - (RowKit.intOf i).toNat)
  case atStart => exact ⟨0, by omega, rfl, rfl, rfl⟩
  case round =>
    obtain ⟨k, hk, rfl, rfl, rfl⟩ := hrel
    by_cases hlt : k < 4
    · obtain rfl | rfl | rfl | rfl : k = 0 ∨ k = 1 ∨ k = 2 ∨ k = 3 := by omega
      all_goals go_wp2
      · exact ⟨⟨1, by omega, rfl, by rw [or_step (by simp [preN]) (by simp [preN]) b0.1 b0.2]; simp [preN], trivial⟩, by simp [RowKit.intOf]⟩
      · exact ⟨⟨2, by omega, rfl, by rw [or_step (by simp [preN]; omega) (by simp [preN]; omega) b1.1 b1.2]; simp [preN], trivial⟩, by simp [RowKit.intOf]⟩
      · exact ⟨⟨3, by omega, rfl, by rw [or_step (by simp [preN]; omega) (by simp [preN]; omega) b2.1 b2.2]; simp [preN], trivial⟩, by simp [RowKit.intOf]⟩
      · exact ⟨⟨4, by omega, rfl, by rw [or_step (by simp [preN]; omega) (by simp [preN]; omega) b3.1 b3.2]; simp [preN], trivial⟩, by simp [RowKit.intOf]⟩
    · obtain rfl : k = 4 := by omega
      go_wp2
      go_ret
      exact ⟨by simp [preN, numL], rfl⟩
end Go.Proofs.YtljbhdldfffpfaaGreat.Lf
