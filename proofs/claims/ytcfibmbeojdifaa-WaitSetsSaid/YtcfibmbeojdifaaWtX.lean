/- WaitSets: who waits anew waits for nobody of before: plainly, and what its walk leans on. -/
import Derived.Test.YtcfibmbeojdifaaWtL
import Derived.Test.YtcfibmbeojdifaaRow
namespace Go.Proofs.Ytcfibmbeojdifaa
open Go.RowKit Go.Maps Go.WideMaps

/-- A slice of bytes: any that reads l. -/
def RdU (w : World) (v : Value) (L : List Int) : Prop := ∃ A c, v = .slice A L.length c ∧ ∀ j (h : j < L.length), ∃ g o, A = some ⟨g, o, none⟩ ∧ g < w.heap.size ∧ w.cell? ⟨g, o + j, none⟩ = some (.int .u8 L[j]) ∧ 0 ≤ L[j] ∧ L[j] ≤ 255
theorem bnd8' {x : Int} (h : (Lit.int .u8 x).wf = true) : 0 ≤ x ∧ x ≤ 255 := by
  simp only [Lit.wf, Bool.and_eq_true, decide_eq_true_eq] at h
  have hmin : IntKind.u8.min = 0 := rfl
  have hmax : IntKind.u8.max = 255 := rfl
  omega
theorem rdU_of {w : World} {v : Value} {l : List Int} (h : SlK .u8 w v l) : RdU w v l := by
  obtain ⟨A, c, rfl, _, hwf, hn, hA⟩ := h
  refine ⟨A, c, rfl, fun j hj => ?_⟩
  cases A with
  | none => rw [(hn rfl).1] at hj; simp at hj
  | some a =>
    obtain ⟨hs, hbl, hc⟩ := hA a rfl
    obtain ⟨g, o, s⟩ := a
    dsimp only at hs
    subst hs
    exact ⟨g, o, rfl, hbl, hc j hj, bnd8' (hwf _ (List.getElem_mem hj))⟩

/-- Which of 0 to 9 are among these, 3 left out. -/
def inB (ys : List Int) (j : Nat) : Bool := decide ((j : Int) ∈ ys) && decide (j ≠ 3)
def upTo (ys : List Int) (i : Nat) : List Int := ((List.range i).filter (inB ys)).map fun a : Nat => (a : Int)
theorem mem_upTo {ys : List Int} {i : Nat} {x : Int} : x ∈ upTo ys i ↔ ∃ a : Nat, a < i ∧ x = (a : Int) ∧ x ∈ ys ∧ x ≠ 3 := by
  simp only [upTo, List.mem_map, List.mem_filter, List.mem_range, inB, Bool.and_eq_true, decide_eq_true_eq]
  constructor
  · rintro ⟨a, ⟨h1, h2, h3⟩, rfl⟩; exact ⟨a, h1, rfl, h2, by omega⟩
  · rintro ⟨a, h1, rfl, h2, h3⟩; exact ⟨a, ⟨h1, h2, by omega⟩, rfl⟩
theorem upTo_succ (ys : List Int) (i : Nat) : upTo ys (i + 1) = upTo ys i ++ (if inB ys i then [(i : Int)] else []) := by
  unfold upTo
  rw [List.range_succ, List.filter_append, List.map_append]
  by_cases h : inB ys i = true
  · simp [h]
  · simp [h]
theorem upTo_prefix {ys : List Int} {i : Nat} : ∀ {m : Nat}, i ≤ m → ∃ t, upTo ys m = upTo ys i ++ t
  | 0, h => ⟨[], by simp [show i = 0 by omega]⟩
  | m + 1, h => by
    by_cases e : i = m + 1
    · subst e; exact ⟨[], by simp⟩
    · obtain ⟨t, ht⟩ := upTo_prefix (ys := ys) (i := i) (m := m) (by omega)
      exact ⟨t ++ (if inB ys m then [(m : Int)] else []), by rw [upTo_succ, ht, List.append_assoc]⟩
theorem upTo_up (ys : List Int) : ∀ i : Nat, (upTo ys i).Pairwise (· < ·)
  | 0 => by simp [upTo]
  | i + 1 => by
    rw [upTo_succ]
    by_cases h : inB ys i = true
    · rw [if_pos h]
      refine List.pairwise_append.2 ⟨upTo_up ys i, by simp, fun a ha b hb => ?_⟩
      obtain ⟨c, hc, rfl, _⟩ := mem_upTo.1 ha
      simp only [List.mem_singleton] at hb
      subst hb
      omega
    · rw [if_neg h, List.append_nil]
      exact upTo_up ys i
/-- The entry that comes next. -/
theorem upTo_at {ys : List Int} {i m : Nat} (hi : i < m) (h : inB ys i = true) : ∃ hl : (upTo ys i).length < (upTo ys m).length, (upTo ys m)[(upTo ys i).length] = (i : Int) := by
  obtain ⟨t, ht⟩ := upTo_prefix (ys := ys) (i := i + 1) (m := m) hi
  rw [upTo_succ, if_pos h] at ht
  refine ⟨by rw [ht]; simp, ?_⟩
  have : (upTo ys m)[(upTo ys i).length]? = some (i : Int) := by rw [ht]; simp
  rw [List.getElem?_eq_some_iff] at this
  exact this.2
theorem sets_row {xs ys : List Int} (hy : ∀ y ∈ ys, 0 ≤ y ∧ y < 10) (es : List (Int × Int)) (h3 : es = setE (setE [] 3 xs) 3 ys) : rowL es 3 = upTo ys 10 := by
  subst h3
  refine rising_eq (rowL_row _ _).up (upTo_up _ _) fun x => ?_
  rw [(rowL_row _ _).iff, mem_upTo, mem_setE]
  constructor
  · rintro (⟨_, h⟩ | ⟨_, h1, h2⟩)
    · exact absurd rfl h
    · have := hy x h1
      exact ⟨x.toNat, by omega, by omega, h1, h2⟩
  · rintro ⟨a, h1, h2, h4, h5⟩
    exact Or.inr ⟨rfl, h4, h5⟩
theorem clear_row (es : List (Int × Int)) (x : Int) : rowL (setE es x []) x = [] := by
  refine List.eq_nil_iff_forall_not_mem.2 fun y hy => ?_
  rcases mem_setE.1 (((rowL_row _ _).iff y).1 hy) with ⟨_, h⟩ | ⟨_, h, _⟩
  · exact h rfl
  · cases h
theorem clear_cy (es : List (Int × Int)) (x : Int) : cyB (setE es x []) x = false := cyB_no fun h => by
  obtain ⟨z, hz⟩ := h.front
  rcases mem_setE.1 hz with ⟨_, h⟩ | ⟨_, h, _⟩
  · exact h rfl
  · cases h
def m10 (l : List Int) : List Int := l.map (· % 10)
theorem m10_bd {l : List Int} (y : Int) (h : y ∈ m10 l) : 0 ≤ y ∧ y < 10 := by
  obtain ⟨x, _, rfl⟩ := List.mem_map.1 h
  exact ⟨Int.emod_nonneg _ (by decide), Int.emod_lt_of_pos _ (by decide)⟩
theorem m10_snoc {l : List Int} {i : Nat} (h : i < l.length) : m10 (l.take (i + 1)) = m10 (l.take i) ++ [l[i] % 10] := by
  unfold m10
  rw [← List.take_append_getElem h, List.map_append]
  rfl

theorem SlR.fr {w w' : World} {B pin : Nat} {v : Value} {L : List Int} (h : SlR w B v L) (hp : pin < B) (hf : Fr w.heap.size (fun k => k = pin) w w') : SlR w' B v L :=
  h.kept (row := some pin) ⟨hf.os, hf.tape, hf.output, hf.size, fun k hk hn => hf.block k hk fun e => hn (by rw [e])⟩ (Or.inr fun e => by have := (h.lt pin e).1; omega)
theorem inB_snoc {L : List Int} {z j : Nat} : inB (L ++ [(z : Int)]) j = if j = z then decide (z ≠ 3) else inB L j := by
  unfold inB
  by_cases e : j = z
  · subst e; simp
  · rw [if_neg e]
    have : ¬ (j : Int) = (z : Int) := by omega
    simp [this]

/-- The ten marks. -/
def Marks (w : World) (pin : Nat) (ys : List Int) : Prop := ∃ cur, w.heap[pin]? = some (.cells cur 46 (0, 0)) ∧ cur.size = 10 ∧ ∀ j, j < 10 → cur[j]? = some (.bool (inB ys j))

set_option maxRecDepth 100000 in
set_option maxHeartbeats 1000000 in
theorem sets_walk (w : World) (va vb : Value) (la lb : List Int) (ha : RdU w va la) (hb : RdU w vb lb) : Calls Try.prog 6 #[va, vb] w fun e w' => e = .returned (.bool true) ∧ Below w.heap.size w w' := by
  have CB := begun_any w
  obtain ⟨A, ca, rfl, hA⟩ := ha
  obtain ⟨A', cb, rfl, hA'⟩ := hb
  have HA := Lib.hid hA
  have HB := Lib.hid hA'
  clear hA hA'
  go_enter Try.func6, Try.ntmps6
  go_upto_region 3 with (first | (go_at_call 7; refine CB.mono ?_; rintro e w0 ⟨rfl, hb0⟩))
  have HB0 := Lib.hid hb0
  clear CB hb0
  by_cases h1 : 8 < la.length
  · have h1' : (8 : Int) < (la.length : Int) := by omega
    go_wp2
    go_ret
    exact ⟨rfl, HB0.out⟩
  by_cases h2 : 8 < lb.length
  · have h1' : ¬ (8 : Int) < (la.length : Int) := by omega
    have h2' : (8 : Int) < (lb.length : Int) := by omega
    go_wp2
    go_ret
    exact ⟨rfl, HB0.out⟩
  have h1' : ¬ (8 : Int) < (la.length : Int) := by omega
  have h2' : ¬ (8 : Int) < (lb.length : Int) := by omega
  go_upto_region 5 with fail
  have CN := new_gr w0
  go_upto_region 6 with (first | (go_at_call 8; refine CN.mono ?_; rintro e w1 ⟨rfl, h1, hb1⟩))
  go_upto_region 9 with fail
  have a1 : Below w1.heap.size w1 (w1.alloc (.cells #[.bool false, .bool false, .bool false, .bool false, .bool false, .bool false, .bool false, .bool false, .bool false, .bool false] 46)) := (Below.refl _ _).alloc (Nat.le_refl _) _
  have M0 : Marks (w1.alloc (.cells #[.bool false, .bool false, .bool false, .bool false, .bool false, .bool false, .bool false, .bool false, .bool false, .bool false] 46)) w1.heap.size (m10 (lb.take 0)) := ⟨_, heap_alloc_new _ _, rfl, fun j hj => by
    have : inB (m10 (lb.take 0)) j = false := by simp [inB, m10]
    rw [this]
    match j, hj with
    | 0, _ => rfl
    | 1, _ => rfl
    | 2, _ => rfl
    | 3, _ => rfl
    | 4, _ => rfl
    | 5, _ => rfl
    | 6, _ => rfl
    | 7, _ => rfl
    | 8, _ => rfl
    | 9, _ => rfl⟩
  have HQ0 : (w1.alloc (.cells #[.bool false, .bool false, .bool false, .bool false, .bool false, .bool false, .bool false, .bool false, .bool false, .bool false] 46)).heap.size = w1.heap.size + 1 := by simp
  have HW1 : Hid (Below w.heap.size w w1 ∧ w.heap.size ≤ w0.heap.size ∧ w0.heap.size ≤ w1.heap.size) := ⟨HB0.out.trans (hb1.mono HB0.out.size), HB0.out.size, hb1.size⟩
  have HBP : Hid (w0.heap.size < w1.heap.size) := h1.m.out.lt
  have H1 := Lib.hid h1
  have HLA := Lib.hid h1'
  have HLB := Lib.hid h2'
  have HLEN : Hid (la.length ≤ 8 ∧ lb.length ≤ 8) := ⟨by omega, by omega⟩
  clear h1 hb1 HB0 CN h1' h2' h2
  generalize w1.alloc (.cells #[.bool false, .bool false, .bool false, .bool false, .bool false, .bool false, .bool false, .bool false, .bool false, .bool false] 46) = w2 at *
  generalize hpin : w1.heap.size = pin at *
  generalize hQ : pin + 1 = Q at *
  generalize w0.heap.size + 1 = p at *
  generalize w0.heap.size = B at *
  have R0 : Hid (∃ i : Nat, i ≤ la.length ∧ Value.int .i64 0 = .int .i64 (i : Int) ∧ SlR w2 Q (.slice none 0 0) (m10 (la.take i)) ∧ Below Q w2 w2) := ⟨0, Nat.zero_le _, rfl, World.ownsRow_nil _ _ _ _, Below.refl _ _⟩
  have HM0 := Lib.hid M0
  have HA1 := Lib.hid a1
  have HPQ : Hid (pin < Q) := by show pin < Q; omega
  have HSZ := Lib.hid HQ0
  have HPN := Lib.hid hpin
  clear M0 a1 hpin hQ HQ0 h1
  go_loopw [6, 9] (fun xv iv wr => Hid (∃ i : Nat, i ≤ la.length ∧ iv = .int .i64 (i : Int) ∧ SlR wr Q xv (m10 (la.take i)) ∧ Below Q w2 wr)) (fun _ iv _ => la.length - ivN iv)
  case atStart => exact R0
  case round =>
    obtain ⟨i, hi, rfl, hS, hb⟩ := hrel.out
    clear hrel R0
    have hbw : Below w.heap.size w wr := HW1.out.1.trans ((HA1.out.trans (hb.mono (Nat.le_of_lt HPQ.out))).mono (Nat.le_trans HW1.out.2.1 HW1.out.2.2))
    obtain ⟨pt, cp, rfl⟩ := hS.form
    have hlen : (m10 (la.take i)).length = i := by simp [m10, hi]
    by_cases hlt : i < la.length
    · obtain ⟨g, o, rfl, hg, hcx, hx0, hx1⟩ := HA.out i hlt
      have hcr := (hbw.cell (p := ⟨g, o + i, none⟩) hg).trans hcx
      have hsn := m10_snoc hlt
      generalize la[i] = x at *
      have hz0 : 0 ≤ x % 10 := Int.emod_nonneg _ (by decide)
      have hz1 : x % 10 < 10 := Int.emod_lt_of_pos _ (by decide)
      generalize hz : x % 10 = z at *
      obtain ⟨ii, hii, hy0, hy1, hy2⟩ := info_parts infoI64
      have hltI : (i : Int) < (la.length : Int) := by omega
      have hi0 : (0 : Int) ≤ (i : Int) := by omega
      have hib : (i : Int) ≤ 8 := by have := HLEN.out.1; omega
      have HS := Lib.hid hS
      have HB' := Lib.hid hb
      have HI := Lib.hid hlt
      have HSN := Lib.hid hsn
      have HLI : Hid ((m10 (la.take i)).length = i ∧ i ≤ 8) := ⟨hlen, by have := HLEN.out.1; omega⟩
      clear hS hb hsn hbw hlen hi hlt hcx hg
      generalize m10 (la.take i) = L at *
      go_wp2_with (first
        | (at_builtin; refine wpList_append_own _ rfl _ _ 30 rfl Q 3 ii (.int .i64 0) 1 8 Try.underlying30 hii hy0 hy1 hy2 rfl (by decide) _ _ _ rfl (HS.out.alloc _) ⟨wr.heap.size, 0, none⟩ 1 1 [.int .i64 z] rfl ?c2 ?c3 ?c4 ?c5 ?c6 ?c7 ?_))
      case c2 => rfl
      case c3 => exact news_one wr z
      case c4 => intro u hu; obtain rfl := List.mem_singleton.1 hu; rfl
      case c5 => have := HLI.out; unfold maxLen; omega
      case c6 => have := HLI.out; omega
      case c7 => have := HB'.out.size; have := HSZ.out; simp only [Array.size_push, World.alloc]; omega
      intro v' w6 hown6 hgrow _
      have hb5 : Below Q w2 (wr.alloc (.cells #[.int .i64 z] 3)) := HB'.out.alloc (by have := HB'.out.size; have := HSZ.out; omega) _
      have hb6 : Below Q w2 w6 := hb5.grown hgrow (by have := hb5.size; have := HSZ.out; omega) (fun k hk => (HS.out.lt k hk).1)
      have RR : Hid ((∃ i' : Nat, i' ≤ la.length ∧ Value.int .i64 ((i : Int) + 1) = .int .i64 (i' : Int) ∧ SlR w6 Q v' (m10 (la.take i')) ∧ Below Q w2 w6) ∧ la.length - ivN (.int .i64 ((i : Int) + 1)) < la.length - ivN (.int .i64 (i : Int))) := by
        refine ⟨⟨i + 1, HI.out, rfl, ?_, hb6⟩, by have := HI.out; simp only [ivN]; omega⟩
        rw [HSN.out]
        unfold SlR intV
        rw [List.length_append, List.map_append]
        exact hown6
      clear hb5 hb6 hown6 hgrow
      go_wp2
      exact RR.out
    · obtain rfl : i = la.length := by omega
      rw [List.take_length] at hS hlen ⊢
      have HSX := Lib.hid hS
      have HB2 := Lib.hid hb
      have HBW := Lib.hid hbw
      have HLX := Lib.hid (show (m10 la).length < 1000 by rw [hlen]; have := HLEN.out.1; omega)
      have HXB : Hid (∀ y, y ∈ m10 la → 0 ≤ y ∧ y < 10) := m10_bd
      clear hS hb hbw hlen hi hlt
      generalize m10 la = X at *
      have R1 : Hid (∃ i : Nat, i ≤ lb.length ∧ Value.int .i64 0 = .int .i64 (i : Int) ∧ SlR wr wr.heap.size (.slice none 0 0) (m10 (lb.take i)) ∧ Marks wr pin (m10 (lb.take i)) ∧ Fr wr.heap.size (fun k => k = pin) wr wr) := ⟨0, Nat.zero_le _, rfl, World.ownsRow_nil _ _ _ _, by
        obtain ⟨cur, h1, h2, h3⟩ := HM0.out
        exact ⟨cur, (HB2.out.block pin HPQ.out).trans h1, h2, h3⟩, Fr.refl _ _ _⟩
      obtain ⟨w3, hw3⟩ : ∃ w3, w3 = wr := ⟨_, rfl⟩
      rw [← hw3] at HSX HB2 HBW R1 ⊢
      have HPW : Hid (pin < w3.heap.size) := Nat.lt_of_lt_of_le HPQ.out (Nat.le_trans (Nat.le_of_eq HSZ.out.symm) HB2.out.size)
      clear hw3 HM0
      go_upto_region 13 with fail
      go_loopw [7, 10] (fun yv iv wr => Hid (∃ i : Nat, i ≤ lb.length ∧ iv = .int .i64 (i : Int) ∧ SlR wr w3.heap.size yv (m10 (lb.take i)) ∧ Marks wr pin (m10 (lb.take i)) ∧ Fr w3.heap.size (fun k => k = pin) w3 wr)) (fun _ iv _ => lb.length - ivN iv)
      case atStart => exact R1
      case round =>
        obtain ⟨i, hi, rfl, hS, hM, hF⟩ := hrel.out
        clear hrel R1
        obtain ⟨pt2, cp2, rfl⟩ := hS.form
        have hlen : (m10 (lb.take i)).length = i := by simp [m10, hi]
        by_cases hlt : i < lb.length
        · obtain ⟨g, o, rfl, hg, hcx, hx0, hx1⟩ := HB.out i hlt
          have hpw : w.heap.size ≤ pin := Nat.le_trans HW1.out.2.1 HW1.out.2.2
          have hbk : ∀ wz : World, wz.heap[g]? = wr.heap[g]? → wz.cell? ⟨g, o + i, none⟩ = some (.int .u8 lb[i]) := fun wz hz =>
            (World.cell?_of_block (hz.trans (hF.block g (by have := HPW.out; omega) (by omega)))).trans ((HBW.out.cell (p := ⟨g, o + i, none⟩) hg).trans hcx)
          have hcr := hbk wr rfl
          have hsn := m10_snoc hlt
          have HBK := Lib.hid hbk
          clear hbk hcx
          generalize lb[i] = x at *
          have hz0 : 0 ≤ x % 10 := Int.emod_nonneg _ (by decide)
          have hz1 : x % 10 < 10 := Int.emod_lt_of_pos _ (by decide)
          generalize hz : x % 10 = z' at *
          obtain ⟨z, rfl⟩ : ∃ z : Nat, z' = (z : Int) := ⟨z'.toNat, by omega⟩
          obtain ⟨ii, hii, hy0, hy1, hy2⟩ := info_parts infoI64
          have hltI : (i : Int) < (lb.length : Int) := by omega
          have hi0 : (0 : Int) ≤ (i : Int) := by omega
          have hib : (i : Int) ≤ 8 := by have := HLEN.out.2; omega
          have HS := Lib.hid hS
          have HF := Lib.hid hF
          have HMM := Lib.hid hM
          have HI := Lib.hid hlt
          have HSN := Lib.hid hsn
          have HLI : Hid ((m10 (lb.take i)).length = i ∧ i ≤ 8) := ⟨hlen, by have := HLEN.out.2; omega⟩
          have HG : Hid (g < pin) := Nat.lt_of_lt_of_le hg hpw
          clear hS hF hM hsn hlen hi hlt hg hpw
          generalize m10 (lb.take i) = L at *
          go_upto_region 16 with (first
            | (at_builtin; refine wpList_append_own _ rfl _ _ 30 rfl w3.heap.size 3 ii (.int .i64 0) 1 8 Try.underlying30 hii hy0 hy1 hy2 rfl (by decide) _ _ _ rfl (HS.out.alloc _) ⟨wr.heap.size, 0, none⟩ 1 1 [.int .i64 (z : Int)] rfl ?d2 ?d3 ?d4 ?d5 ?d6 ?d7 ?_))
          case d2 => rfl
          case d3 => exact news_one wr z
          case d4 => intro u hu; obtain rfl := List.mem_singleton.1 hu; rfl
          case d5 => have := HLI.out; unfold maxLen; omega
          case d6 => have := HLI.out; omega
          case d7 => have := HF.out.size; simp only [Array.size_push, World.alloc]; omega
          intro v' w6 hown6 hgrow _
          have hsz := HF.out.size
          have hpw := HPW.out
          have hF5 : Fr w3.heap.size (fun k => k = pin) w3 (wr.alloc (.cells #[.int .i64 (z : Int)] 3)) := HF.out.alloc hsz _
          have hF6 : Fr w3.heap.size (fun k => k = pin) w3 w6 := hF5.grown hgrow (fun k hk => Or.inr (HS.out.lt k hk).1) hF5.size
          have hblk : ∀ k, k < w3.heap.size → w6.heap[k]? = wr.heap[k]? := fun k hk =>
            (hgrow.block k (by simp; omega) (fun e => by have := (HS.out.lt k e.symm).1; omega)).trans (Below.heap_alloc _ _ _ (by omega))
          have hc6 := HBK.out w6 (hblk g (by have := HG.out; omega))
          obtain ⟨cur, hk1, hk2, hk3⟩ := HMM.out
          have hk1' := (hblk pin hpw).trans hk1
          have hd : w6.cell? ⟨pin, z, none⟩ = some (.bool (inB L z)) := (cell_of hk1' z).1.trans (hk3 z (by omega))
          have hf : w6.frozen? ⟨pin, z, none⟩ = false := (cell_of hk1' z).2
          have hz10 : z < 10 := by omega
          have hown6' : SlR w6 w3.heap.size v' (L ++ [(z : Int)]) := by
            unfold SlR intV
            rw [List.length_append, List.map_append]
            exact hown6
          clear hblk hk1 hown6 hgrow hF5 HF HMM HBK hcr
          go_wp2_with fail
          have HS6 := Lib.hid hown6'
          have HC6 : Hid (w6.heap[pin]? = some (.cells cur 46 (0, 0)) ∧ cur.size = 10 ∧ ∀ j, j < 10 → cur[j]? = some (.bool (inB L j))) := ⟨hk1', hk2, hk3⟩
          have HF6 := Lib.hid hF6
          clear hk1' hk2 hk3 hF6 hsz hpw hii hy0 hy1 hy2
          go_region
          have HSZ6 : Hid (w3.heap.size ≤ w6.heap.size) := HF6.out.size
          have R2 : Hid ((∃ i' : Nat, i' ≤ lb.length ∧ Value.int .i64 ((i : Int) + 1) = .int .i64 (i' : Int) ∧ SlR (w6.setCell ⟨pin, z, none⟩ (.bool ((z : Int) != 3))).drew w3.heap.size v' (m10 (lb.take i')) ∧ Marks (w6.setCell ⟨pin, z, none⟩ (.bool ((z : Int) != 3))).drew pin (m10 (lb.take i')) ∧ Fr w3.heap.size (fun k => k = pin) w3 (w6.setCell ⟨pin, z, none⟩ (.bool ((z : Int) != 3))).drew) ∧ lb.length - ivN (.int .i64 ((i : Int) + 1)) < lb.length - ivN (.int .i64 (i : Int))) := by
            have hsame : (w6.setCell ⟨pin, z, none⟩ (.bool ((z : Int) != 3))).drew.heap[pin]? = some (.cells (cur.setIfInBounds z (.bool ((z : Int) != 3))) 46 (0, 0)) := heap_setCell_same _ pin z _ _ _ HC6.out.1
            have hoth : ∀ k, k ≠ pin → (w6.setCell ⟨pin, z, none⟩ (.bool ((z : Int) != 3))).drew.heap[k]? = w6.heap[k]? := fun k hk => heap_setCell_other _ ⟨pin, z, none⟩ k _ hk
            have hsz6 : (w6.setCell ⟨pin, z, none⟩ (.bool ((z : Int) != 3))).drew.heap.size = w6.heap.size := by
              show (w6.setCell ⟨pin, z, none⟩ (.bool ((z : Int) != 3))).heap.size = w6.heap.size
              simp
            have hgr : w6.grownBy (w6.setCell ⟨pin, z, none⟩ (.bool ((z : Int) != 3))).drew (some pin) := ⟨rfl, rfl, rfl, Nat.le_of_eq hsz6.symm, fun k _ hk => hoth k fun e => hk (by rw [e])⟩
            refine ⟨⟨i + 1, HI.out, rfl, ?_, ?_, HF6.out.grown hgr (fun k hk => by cases hk; exact Or.inl rfl) HSZ6.out⟩, by have := HI.out; simp only [ivN]; omega⟩
            · rw [HSN.out]
              exact HS6.out.kept hgr (Or.inr fun e => by have := (HS6.out.lt pin e).1; have := HPW.out; omega)
            · rw [HSN.out]
              refine ⟨_, hsame, by rw [Array.size_setIfInBounds]; exact HC6.out.2.1, fun j hj => ?_⟩
              rw [inB_snoc]
              by_cases e : j = z
              · subst e
                rw [if_pos rfl, Array.getElem?_setIfInBounds_self_of_lt (by rw [HC6.out.2.1]; exact hj)]
                have : ((j : Int) != 3) = decide (j ≠ 3) := by
                  by_cases e3 : j = 3
                  · subst e3; rfl
                  · have e4 : ¬ (j : Int) = 3 := by omega
                    simp [e3, e4]
                rw [this]
              · rw [if_neg e, Array.getElem?_setIfInBounds_ne (by omega)]
                exact HC6.out.2.2 j hj
          clear hown6' hd hf hc6
          generalize (w6.setCell ⟨pin, z, none⟩ (.bool ((z : Int) != 3))).drew = w7 at *
          go_wp2_with fail
          exact R2.out
        · obtain rfl : i = lb.length := by omega
          rw [List.take_length] at hS hlen hM ⊢
          have hsz := hF.size
          have hGB : Below w1.heap.size w1 wr := by
            have e := HPN.out
            have h12 := HA1.out
            have h23 := HB2.out.mono (Nat.le_of_lt HPQ.out)
            have h34 : Below pin w3 wr := hF.below (Nat.le_of_lt HPW.out) (fun k hk => Nat.le_of_eq hk.symm)
            rw [e]
            exact (h12.trans h23).trans h34
          have G := H1.out.on_ hGB
          have hX := HSX.out.fr HPQ.out hF
          have HBR : Hid (Below w.heap.size w wr) := HW1.out.1.trans (hGB.mono (by rw [HPN.out]; exact Nat.le_trans HW1.out.2.1 HW1.out.2.2))
          have HY : Hid (∀ y, y ∈ m10 lb → 0 ≤ y ∧ y < 10) := m10_bd
          have HLY := Lib.hid (show (m10 lb).length < 1000 by rw [hlen]; have := HLEN.out.2; omega)
          have HS := Lib.hid hS
          have HMM := Lib.hid hM
          have CS1 := set_any _ G (by decide) (x := 3) (wf_small (by decide) (by decide)) HLX.out (fun y hy => wf_small (by have := HXB.out y hy; omega) (by have := HXB.out y hy; omega)) hX.rd
          have HGB := Lib.hid hGB.size
          clear hF hM hS hlen hlt hsz hGB G hX hi HB2 HSX HBW H1 HA1 HSZ
          go_upto_region 18 with (first | (go_at_call 13; refine CS1.mono ?_; rintro e w4 ⟨rfl, ob4, h4, _, ht4⟩))
          have hpw := HPW.out
          have hbp := HBP.out
          have hY4 : SlR w4 w3.heap.size (.slice pt2 (m10 lb).length cp2) (m10 lb) :=
            HS.out.kept (row := some B) ⟨ht4.fr.os, ht4.fr.tape, ht4.fr.output, ht4.fr.size, fun k hk hn => ht4.fr.block k hk fun e => hn (by rw [mmb_none e])⟩ (Or.inr fun e => by have := (HS.out.lt B e).1; omega)
          have CS2 := set_any _ h4 (by have := HLX.out; omega) (x := 3) (wf_small (by decide) (by decide)) HLY.out (fun y hy => wf_small (by have := HY.out y hy; omega) (by have := HY.out y hy; omega)) hY4.rd
          have HT4 := Lib.hid ht4
          clear h4 ht4 hY4 CS1 hpw hbp
          go_upto_region 19 with (first | (go_at_call 13; refine CS2.mono ?_; rintro e w5 ⟨rfl, ob5, h5, _, ht5⟩))
          have HT5 := Lib.hid (HT4.out.trans ht5)
          have HN : Hid (0 + X.length + 1 + (m10 lb).length + 1 < 100000) := Lib.hid (show 0 + X.length + 1 + (m10 lb).length + 1 < 100000 by have := HLX.out; have := HLY.out; omega)
          have CO := on_any w5 h5 HN.out (x := 3) (wf_small (by decide) (by decide))
          rw [sets_row HY.out _ rfl] at CO
          have H5 := Lib.hid h5
          clear h5 ht5 CS2 HT4
          go_upto_region 20 with (first | (go_at_call 15; refine CO.mono ?_; rintro e w6 ⟨v6, rfl, hS6, hb6⟩))
          have hB5 : Below w.heap.size w w5 := HBR.out.trans (HT5.out.fr.below HBR.out.size (fun k hk => by rw [mmb_none hk]; exact HW1.out.2.1))
          have HB6 : Hid (Below w.heap.size w w6) := hB5.trans (hb6.mono hB5.size)
          have HBS : Hid (w.heap.size ≤ B) := HW1.out.2.1
          have HG6 := Lib.hid (H5.out.on_ hb6)
          have HM6 : Hid (∀ i, i < 10 → w6.cell? ⟨pin, i, none⟩ = some (.bool (inB (m10 lb) i))) := by
            obtain ⟨cur, h1, h2, h3⟩ := HMM.out
            have hlt := (Array.getElem?_eq_some_iff.1 h1).1
            have hpin : w6.heap[pin]? = wr.heap[pin]? := (hb6.block pin (Nat.lt_of_lt_of_le hlt HT5.out.fr.size)).trans (HT5.out.fr.block pin hlt fun e => by have := mmb_none e; have := HBP.out; omega)
            exact fun i hi => (cell_of (hpin.trans h1) i).1.trans (h3 i hi)
          obtain ⟨N, hNe⟩ : ∃ N, N = (upTo (m10 lb) 10).length := ⟨_, rfl⟩
          have HSH : ∃ A c, v6 = .slice A N c ∧ ∀ i, i < 10 → inB (m10 lb) i = true → ∃ g, A = some ⟨g, 0, none⟩ ∧ (upTo (m10 lb) i).length < N ∧ w6.cell? ⟨g, (upTo (m10 lb) i).length, none⟩ = some (.int .i64 (i : Int)) := by
            rcases hS6.shape with ⟨e0, rfl⟩ | ⟨g, cap, cur, rfl, hg1, hg2, hg3, hg4⟩
            · exact ⟨none, 0, by rw [hNe, e0]; rfl, fun i hi h => by obtain ⟨hl, _⟩ := upTo_at hi h; rw [e0] at hl; simp at hl⟩
            · refine ⟨_, _, by rw [hNe], fun i hi h => ?_⟩
              obtain ⟨hl, he⟩ := upTo_at hi h
              exact ⟨g, rfl, by rw [hNe]; exact hl, (cell_of hg3 _).1.trans ((hg4 _ hl).trans (by rw [he]))⟩
          obtain ⟨A6, c6, rfl, hc6⟩ := HSH
          have HC6 := Lib.hid hc6
          have HNE := Lib.hid hNe
          have HL6 : Hid (N ≤ 10) := by
            have h := List.length_filter_le (inB (m10 lb)) (List.range 10)
            have e : (upTo (m10 lb) 10).length = ((List.range 10).filter (inB (m10 lb))).length := by simp [upTo]
            rw [List.length_range] at h
            rw [hNe, e]
            exact h
          clear hS6 hb6 CO hc6 hB5 hNe
          clear H5 HMM HGB HPN HW1
          go_upto_region 22 with fail
          go_loopw [12, 13] (fun nv iv wz => Hid (∃ i : Nat, i ≤ 10 ∧ iv = .int .i64 (i : Int) ∧ nv = .int .i64 ((upTo (m10 lb) i).length : Int) ∧ wz = w6)) (fun _ iv _ => 10 - ivN iv)
          case atStart => exact ⟨0, by decide, rfl, by simp [upTo], by trivial⟩
          case round =>
            obtain ⟨i, hi, rfl, rfl, rfl⟩ := hrel.out
            clear hrel
            by_cases hlt : i < 10
            · have hltI : (i : Int) < 10 := by omega
              have hi0 : (0 : Int) ≤ (i : Int) := by omega
              have hcm := HM6.out i hlt
              have HI := Lib.hid hlt
              cases hin : inB (m10 lb) i with
              | false =>
                rw [hin] at hcm
                have HE := Lib.hid (show (upTo (m10 lb) (i + 1)).length = (upTo (m10 lb) i).length by rw [upTo_succ, hin]; simp)
                clear hin hlt hi
                generalize (upTo (m10 lb) i).length = m at *
                go_wp2
                exact ⟨⟨i + 1, HI.out, rfl, by rw [HE.out], by trivial⟩, by have := HI.out; simp only [ivN]; omega⟩
              | true =>
                obtain ⟨g, rfl, hl, hcl⟩ := HC6.out i hlt hin
                rw [hin] at hcm
                have HE := Lib.hid (show (upTo (m10 lb) (i + 1)).length = (upTo (m10 lb) i).length + 1 by rw [upTo_succ, hin]; simp)
                have hlI : ((upTo (m10 lb) i).length : Int) < (N : Int) := by omega
                have hmI : ((upTo (m10 lb) i).length : Int) < 10 := by have := HL6.out; omega
                have hm0 : (0 : Int) ≤ ((upTo (m10 lb) i).length : Int) := by omega
                clear hin hlt hi hl
                generalize (upTo (m10 lb) i).length = m at *
                go_wp2
                exact ⟨⟨i + 1, HI.out, rfl, by rw [HE.out]; rfl, by trivial⟩, by have := HI.out; simp only [ivN]; omega⟩
            · obtain rfl : i = 10 := by omega
              rw [← HNE.out]
              have CC := clear_any _ HG6.out HN.out (x := 3) (wf_small (by decide) (by decide))
              clear hlt hi HM6 HC6
              go_upto_region 29 with (first | (go_at_call 9; refine CC.mono ?_; rintro e w7 ⟨rfl, ob7, h7, hb7, _⟩))
              have CO := on_any _ h7 (by have := HN.out; have := HLX.out; have := HLY.out; omega) (x := 3) (wf_small (by decide) (by decide))
              rw [clear_row] at CO
              have CY : ∀ w8, Below w7.heap.size w7 w8 → _ := fun w8 hb8 => (clear_cy (setE (setE [] 3 X) 3 (m10 lb)) 3) ▸ cycle_any w8 (h7.on_ hb8) (Nat.lt_of_le_of_lt (setE_length _ _ _) (by have := setE_length (setE [] 3 X) 3 (m10 lb); have := setE_length [] 3 X; have := HLX.out; have := HLY.out; simp at *; omega)) (who := 3) (wf_small (by decide) (by decide))
              have HB7 := Lib.hid (HB6.out.trans (hb7.mono HBS.out))
              clear h7 hb7 HG6 HB6 CC
              go_wp2_with (first
                | (go_at_call 15; refine CO.mono ?_; rintro e w8 ⟨v8, rfl, hS8, hb8⟩; obtain ⟨A8, c8, rfl⟩ := hS8.form; have CY8 := CY w8 hb8; have HB8 := Lib.hid (HB7.out.trans (hb8.mono HB7.out.size)); clear hS8 hb8)
                | (go_at_call 17; refine CY8.mono ?_; rintro e w9 ⟨rfl, hb9⟩))
              go_ret
              exact ⟨rfl, HB8.out.trans (hb9.mono HB8.out.size)⟩
end Go.Proofs.Ytcfibmbeojdifaa
