/- Bytes in memory: small lemmas, text, rows that grow; no program's function in it. -/
import Derived.Test.YthcndifbegmbkaaByt
import Derived.Lib.AppendStr
namespace Go.Proofs.Ythcndifbegmbkaa
open Go.RowKit

theorem slK_nil (w : World) : SlK .u8 w (.slice none 0 0) [] := ⟨none, 0, rfl, Nat.le_refl _, by simp, (fun _ => ⟨rfl, rfl⟩), (fun a e => by cases e)⟩

theorem SlK.pt {w : World} {v : Value} {l : List Int} (h : SlK .u8 w v l) (hl : l ≠ []) : Pt w v l := by
  obtain ⟨p, cap, rfl, h1, h2, h3, h4⟩ := h
  cases p with
  | none => exact absurd (h3 rfl).1 hl
  | some a =>
    obtain ⟨hs, hbl, hc⟩ := h4 a rfl
    obtain ⟨b, off, asp⟩ := a
    cases hs
    exact ⟨b, off, cap, rfl, h1, hbl, hc⟩

theorem ok_take {l : List Int} (h : bytesOk l) (k : Nat) : bytesOk (l.take k) := fun x hx => h x (List.mem_of_mem_take hx)

theorem ok_drop {l : List Int} (h : bytesOk l) (k : Nat) : bytesOk (l.drop k) := fun x hx => h x (List.mem_of_mem_drop hx)

theorem own_pt {w : World} {B n : Nat} {v : Value} {l : List Int} (h : w.ownsRow B 5 1 v n (byteV l)) (hn : 0 < n) : ∃ g cap, v = .slice (some ⟨g, 0, none⟩) n cap ∧ B ≤ g ∧ g < w.heap.size ∧ n ≤ cap ∧ cap ≤ maxLen ∧ l.length = n ∧ ∀ j (h : j < l.length), w.cell? ⟨g, j, none⟩ = some (.int .u8 l[j]) := by
  obtain ⟨h1, ⟨rfl, h0⟩ | ⟨g, cap, cur, rfl, hB, hg, hle, hm, _, htake⟩⟩ := h
  · omega
  · have hl : l.length = n := by simpa [byteV] using h1
    refine ⟨g, cap, rfl, hB, (Array.getElem?_eq_some_iff.1 hg).1, hle, hm, hl, fun j hj => ?_⟩
    have h2 := (cell_of hg j).1
    rw [h2]
    have e1 : (cur.toList.take (n * 1))[j]? = some (.int .u8 l[j]) := by rw [htake]; simp [byteV, hj]
    rw [List.getElem?_take, if_pos (by omega)] at e1
    simpa using e1

theorem Blk.set {w : World} {g : Nat} {l : List Int} (h : Blk w g l) (i : Nat) (x : Int) : Blk (w.setCell ⟨g, i, none⟩ (.int .u8 x)) g (l.set i x) := by
  unfold Blk
  rw [heap_setCell_same w g i _ _ _ h]
  simp [byteV, List.map_set]

theorem Blk.other {w : World} {g k i : Nat} {l : List Int} {v : Value} (h : Blk w k l) (hk : k ≠ g) : Blk (w.setCell ⟨g, i, none⟩ v) k l := (Below.heap_setCell _ _ _ _ hk).trans h

theorem made_zeros (n : Nat) : madeCells (Value.int .u8 0).cells n = (byteV (List.replicate n 0)).toArray := by
  apply Array.ext
  · simp [size_madeCells, byteV]
  · intro j h1 h2
    simp only [madeCells, Value.cells, byteV, List.map_replicate, Array.getElem_map, Array.getElem_range, List.getElem_toArray, List.getElem_replicate]
    rw [show j % (#[Value.int .u8 0] : Array Value).size = 0 from Nat.mod_one j]
    rfl

theorem make_bytes (w : World) (l c : Nat) (hlc : l ≤ c) (hc : c ≤ 1000000) : (Instr.makeSlice 24 (.int .i64 (l : Int)) (.int .i64 (c : Int))).run Try.prog w = .ok (.slice (some ⟨w.heap.size, 0, none⟩) l c) (w.alloc (.cells (byteV (List.replicate c 0)).toArray 5)) := by
  obtain ⟨i, hi, hz0, hz1, hz2⟩ := info_parts infoU8
  have h := run_makeSlice w 24 5 i (.int .u8 0) Try.underlying24 hi hz0 .i64 .i64 (l : Int) (c : Int) (by omega) (by omega) (by rw [hz1]; simp; omega) (by rw [hz2]; omega) (by omega)
  rw [hz1] at h
  simp only [Int.toNat_natCast, Nat.mul_one] at h
  rw [h, made_zeros]

def bstr (l : List Int) : ByteArray := l.foldl (fun r n => r.push (UInt8.ofNat n.toNat)) ByteArray.empty

theorem conv_slK {W : World} {v : Value} {l : List Int} (h : SlK .u8 W v l) : (convert 24 9 v).run Try.prog W = .ok (.string (bstr l)) W := by
  obtain ⟨p, cap, rfl, h1, h2, h3, h4⟩ := h
  rw [run_convert_bytes_string W 24 9 5 _ _ _ Try.underlying24 Try.underlying5 Try.underlying9]
  cases p with
  | none =>
    obtain ⟨rfl, rfl⟩ := h3 rfl
    rfl
  | some a =>
    obtain ⟨hs, hbl, hc⟩ := h4 a rfl
    refine run_bytesToString W _ _ _ l ?_
    have := run_loadCells_list (P := Try.prog) W a (byteV l) (fun j v hv => by
      obtain ⟨ab, ao, asp⟩ := a
      cases hs
      have hj : j < l.length := by have := (List.getElem?_eq_some_iff.1 hv).1; simpa [byteV] using this
      have h2 : (⟨ab, ao, none⟩ : Addr).add j = ⟨ab, ao + j, none⟩ := by unfold Addr.add; split <;> simp_all
      rw [h2, hc j hj]
      simp [byteV] at hv
      obtain ⟨x, hx, rfl⟩ := hv
      rw [List.getElem?_eq_getElem hj] at hx
      cases hx
      rfl)
    simpa [byteV] using this

/-- A slice that reads l; where it has nothing, nothing is asked of its address (a slice that lies in memory that came in). -/
structure SlW (w : World) (v : Value) (l : List Int) : Prop where
  sh : ∃ p cap, v = .slice p l.length cap ∧ l.length ≤ cap ∧ (p = none → l = [] ∧ cap = 0)
  wf : ∀ x ∈ l, (Lit.int .u8 x).wf = true
  k : l ≠ [] → SlK .u8 w v l
theorem SlK.sw {w : World} {v : Value} {l : List Int} (h : SlK .u8 w v l) : SlW w v l := by
  have h' := h
  obtain ⟨p, cap, e, h1, h2, h3, _⟩ := h
  exact ⟨⟨p, cap, e, h1, h3⟩, h2, fun _ => h'⟩
theorem SlW.below {B : Nat} {w w' : World} {v : Value} {l : List Int} (h : SlW w v l) (hb : Below B w w') (hB : w.heap.size ≤ B) : SlW w' v l := ⟨h.sh, h.wf, fun e => (h.k e).below hb hB⟩
theorem SlW.ok {w : World} {v : Value} {l : List Int} (h : SlW w v l) : bytesOk l := by
  by_cases e : l = []
  · subst e; intro x hx; cases hx
  · exact (h.k e).ok
theorem SlW.form {w : World} {v : Value} {l : List Int} (h : SlW w v l) : ∃ A c, v = .slice A l.length c ∧ l.length ≤ c := by
  obtain ⟨p, cap, e, h1, _⟩ := h.sh
  exact ⟨p, cap, e, h1⟩
theorem conv_slW {W : World} {v : Value} {l : List Int} (h : SlW W v l) : (convert 24 9 v).run Try.prog W = .ok (.string (bstr l)) W := by
  by_cases e : l = []
  · subst e
    obtain ⟨p, cap, rfl, h1, h3⟩ := h.sh
    rw [run_convert_bytes_string W 24 9 5 _ _ _ Try.underlying24 Try.underlying5 Try.underlying9]
    cases p with
    | none => rfl
    | some a => exact run_bytesToString W _ _ _ [] rfl
  · exact conv_slK (h.k e)
theorem below_drewN (B : Nat) (W : World) (n : Nat) : Below B W (W.drewN n) := ⟨rfl, rfl, rfl, Nat.le_refl _, fun _ _ => rfl⟩

theorem conv_drewN {W : World} {v : Value} {l : List Int} (h : SlK .u8 W v l) (n : Nat) : (convert 24 9 v).run Try.prog (W.drewN n) = .ok (.string (bstr l)) (W.drewN n) := conv_slK (h.below (below_drewN W.heap.size W n) (Nat.le_refl _))

/-- The first bytes of a slice. -/
theorem pre_slK {w : World} {g n cap : Nat} {L : List Int} (hg : g < w.heap.size) (hok : bytesOk L) (hc : ∀ j (h : j < L.length), w.cell? ⟨g, j, none⟩ = some (.int .u8 L[j])) (hn : n ≤ L.length) (hcap : n ≤ cap) : SlK .u8 w (.slice (some ⟨g, 0, none⟩) n cap) (L.take n) := by
  have hl : (L.take n).length = n := by simp; omega
  refine Pt.slK ⟨g, 0, cap, by rw [hl], by omega, hg, fun j hj => ?_⟩ (ok_take hok n)
  rw [hl] at hj
  rw [Nat.zero_add, hc j (by omega), List.getElem_take]

theorem bstr_list (l : List Int) (acc : ByteArray) : (l.foldl (fun r n => r.push (UInt8.ofNat n.toNat)) acc).data.toList = acc.data.toList ++ l.map (fun n => UInt8.ofNat n.toNat) := by
  induction l generalizing acc with
  | nil => simp
  | cons a t ih =>
    rw [List.foldl_cons, ih]
    simp [ByteArray.push]

theorem loop_eq (b : ByteArray) : ∀ (n i : Nat) (r : List UInt8), b.size - i = n → ByteArray.toList.loop b i r = r.reverse ++ b.data.toList.drop i := by
  intro n
  induction n with
  | zero =>
    intro i r h
    unfold ByteArray.toList.loop
    have hs : b.data.toList.length = b.size := Array.length_toList
    rw [if_neg (by omega), List.drop_eq_nil_of_le (by omega), List.append_nil]
  | succ n ih =>
    intro i r h
    unfold ByteArray.toList.loop
    have hs : b.data.toList.length = b.size := Array.length_toList
    rw [if_pos (by omega), ih (i + 1) _ (by omega)]
    rw [List.drop_eq_getElem_cons (show i < b.data.toList.length by omega)]
    simp only [List.reverse_cons, List.append_assoc, List.singleton_append]
    congr 2
    show b.data[i]! = _
    rw [getElem!_pos b.data i (show i < b.size by omega)]
    simp

theorem toList_eq (b : ByteArray) : b.toList = b.data.toList := by
  show ByteArray.toList.loop b 0 [] = _
  rw [loop_eq b _ 0 [] rfl]; simp

theorem bstr_inj {l l' : List Int} (h1 : bytesOk l) (h2 : bytesOk l') (h : bstr l = bstr l') : l = l' := by
  have h3 := congrArg (fun b : ByteArray => b.data.toList) h
  simp only [bstr, bstr_list] at h3
  replace h3 := List.append_cancel_left h3
  clear h
  induction l generalizing l' with
  | nil => cases l' with
    | nil => rfl
    | cons b t => simp at h3
  | cons a t ih => cases l' with
    | nil => simp at h3
    | cons b u =>
      simp only [List.map_cons, List.cons.injEq] at h3
      have ha := h1 a (by simp)
      have hb := h2 b (by simp)
      have e := congrArg UInt8.toNat h3.1
      rw [UInt8.toNat_ofNat', UInt8.toNat_ofNat', Nat.mod_eq_of_lt (by omega), Nat.mod_eq_of_lt (by omega)] at e
      rw [ih (fun x hx => h1 x (by simp [hx])) (fun x hx => h2 x (by simp [hx])) h3.2, show a = b by omega]

theorem Pt.pre {w : World} {g off cap n : Nat} {l : List Int} (h : Pt w (.slice (some ⟨g, off, none⟩) n cap) l) {m : Nat} (hm : m ≤ l.length) : Pt w (.slice (some ⟨g, off, none⟩) m cap) (l.take m) := by
  obtain ⟨b, o, c, e, h1, h2, h3⟩ := h
  cases e
  refine ⟨g, off, cap, by rw [List.length_take, Nat.min_eq_left hm], by simp; omega, h2, fun j hj => ?_⟩
  rw [List.length_take] at hj
  rw [List.getElem_take]
  exact h3 j (by omega)

theorem Pt.news {w : World} {g off cap n : Nat} {l : List Int} (h : Pt w (.slice (some ⟨g, off, none⟩) n cap) l) : ∀ j u, (byteV l)[j]? = some u → w.cell? ((⟨g, off, none⟩ : Addr).add j) = some u := by
  obtain ⟨b, o, c, e, h1, h2, h3⟩ := h
  cases e
  intro q u hu
  have hj : q < l.length := by have := (List.getElem?_eq_some_iff.1 hu).1; simpa [byteV] using this
  have h2 : (⟨g, off, none⟩ : Addr).add q = ⟨g, off + q, none⟩ := by unfold Addr.add; split <;> simp_all
  rw [h2, h3 q hj]
  simp [byteV] at hu
  obtain ⟨x, hx, rfl⟩ := hu
  rw [List.getElem?_eq_getElem hj] at hx
  cases hx
  rfl

theorem zero_cells (n : Nat) : Builtin.zeroCells (Value.int .u8 0).cells n = (byteV (List.replicate n 0)).toArray := by
  rw [← made_zeros]
  unfold Builtin.zeroCells madeCells
  rw [show n * (Value.int .u8 0).cells.size = n from Nat.mul_one n]

theorem zeros_own (w : World) (B g n cap : Nat) (l : List Int) (k : Nat) (hown : w.ownsRow B 5 1 (.slice (some ⟨g, 0, none⟩) n cap) n (byteV l)) (hk : n + k ≤ 100000) (hBw : B ≤ w.heap.size) :
    ∃ v' w', (∀ ty, (Builtin.append_ #[24, 3] ty #[.slice (some ⟨g, 0, none⟩) n cap, .int .i64 (k : Int)]).run Try.prog w = .ok v' w') ∧ w'.ownsRow B 5 1 v' (n + k) (byteV (l ++ List.replicate k 0)) ∧ w.grownBy w' (some g) := by
  obtain ⟨i, hi, hz0, hz1, hz2⟩ := info_parts infoU8
  obtain ⟨h1, ⟨e, _⟩ | ⟨g', cap', cur, e, hB, hg, hle, hm, hsz, htake⟩⟩ := hown
  · cases e
  cases e
  have hl : l.length = n := by simpa [byteV] using h1
  have hneg : ¬ ((k : Int) < 0) := by omega
  have hw : IntKind.i64.wrap (k : Int) = k := by rw [IntKind.wrap_i64]; omega
  by_cases hroom : n + k ≤ cap
  · have hst := run_storeCells_at Try.prog g (n * 1) 5 (byteV (List.replicate k 0)) 0 cur w hg (by simp [byteV]; omega) (byteV_one _)
    simp only [Nat.add_zero, Nat.mul_one] at hst
    refine ⟨.slice (some ⟨g, 0, none⟩) (n + k) cap, w.setRow g (cur.toList.take n ++ byteV (List.replicate k 0) ++ cur.toList.drop (n + (byteV (List.replicate k 0)).length)).toArray, fun ty => ?_, ⟨by simp [byteV, hl], .inr ⟨g, cap, _, rfl, hB, setRow_heap _ _ _ _ _ _ hg, hroom, hm, ?_, ?_⟩⟩, ⟨rfl, rfl, rfl, by simp, fun j _ hj => setRow_other _ _ _ _ (fun e => hj (by rw [e]))⟩⟩
    · rcases Nat.eq_zero_or_pos k with rfl | hpos
      · have hs := setRow_self w g cur 5 (0, 0) hg
        have w0 : IntKind.i64.wrap 0 = 0 := by decide
        simp [Builtin.append_, run_underlying Try.underlying24, run_underlying Try.underlying3, sizeOf, typeInfo, hi, asInt, asIntOf, w0, hle, byteV, hs, storeCells]
      · have h48i : ¬ (281474976710656 < (k : Int) * (i.bytes : Int)) := by rw [hz2]; omega
        simp only [Nat.mul_one] at htake
        simp [Builtin.append_, run_underlying Try.underlying24, run_underlying Try.underlying3, sizeOf, typeInfo, zeroValue, hi, hz0, asInt, asIntOf, hw, hneg, h48i, hroom, zero_cells, Addr.add_lit, hz1, hst]
        omega
    · simp [byteV, hsz]
      omega
    · have e1 : cur.toList.take (n * 1) = byteV l := htake
      simp only [Nat.mul_one] at e1 ⊢
      rw [e1, List.take_left' (by simp [byteV, hl])]
      simp [byteV]
  · have hcells : ∀ j u, (byteV l)[j]? = some u → w.drew.cell? ((⟨g, 0, none⟩ : Addr).add j) = some u := by
      intro j u hu
      have hadd : (⟨g, 0, none⟩ : Addr).add j = ⟨g, j, none⟩ := by unfold Addr.add; split <;> simp_all
      rw [hadd]
      show w.cell? _ = _
      rw [cell_of_row w g j cur 5 (0, 0) hg]
      rw [← htake, List.getElem?_take] at hu
      split at hu
      · simpa using hu
      · cases hu
    have hold : (Builtin.firstCells i.size n (.slice (some ⟨g, 0, none⟩) n cap)).run Try.prog w.drew = .ok (byteV l).toArray w.drew :=
      run_firstCells_some w.drew i.size n ⟨g, 0, none⟩ n cap (byteV l) (by rw [hz1]; simp [byteV, hl]) hcells
    have hr := fun ty => Lib.run_append_grow_zeros w 24 3 ty 5 i (.int .u8 0) .i64 .i64 Try.underlying24 Try.underlying3 hi hz0 (some ⟨g, 0, none⟩) n cap (byteV l) hold k (by omega) (by omega) (by omega) (by omega) (by rw [hz2]; omega) (growslice_fits (by omega) (by rw [hz2]; omega))
    have hG := grownCap_ge w (n + k) cap 5
    have hM := grownCap_le_maxLen w (n + k) cap 5 (by unfold maxLen; omega)
    refine ⟨_, _, hr, ⟨by simp [byteV, hl], .inr ⟨w.heap.size, _, _, rfl, hBw, heap_alloc_new w.drew _, hG, hM, ?_, ?_⟩⟩, ⟨rfl, rfl, rfl, by simp, fun j hj _ => Below.heap_alloc w.drew _ j hj⟩⟩
    · simp [size_zeroCells, Value.cells, byteV, hl]
      omega
    · rw [zero_cells, zero_cells]
      simp only [Array.toList_append, Nat.mul_one]
      rw [List.take_left' (by simp [byteV, hl])]
      simp [byteV]

theorem own_slK {w : World} {B n : Nat} {v : Value} {l : List Int} (h : w.ownsRow B 5 1 v n (byteV l)) (hok : bytesOk l) : SlK .u8 w v l := by
  by_cases hn : n = 0
  · obtain ⟨h1, h2⟩ := h
    subst hn
    have hl : l = [] := by simpa [byteV] using h1
    subst hl
    rcases h2 with ⟨rfl, _⟩ | ⟨g, cap, cur, rfl, hB, hg, _⟩
    · exact slK_nil w
    · exact Pt.slK ⟨g, 0, cap, rfl, Nat.zero_le _, (Array.getElem?_eq_some_iff.1 hg).1, fun j hj => by cases hj⟩ hok
  · obtain ⟨g, cap, rfl, a1, a2, a3, a4, a5, a6⟩ := own_pt h (by omega)
    exact Pt.slK ⟨g, 0, cap, by rw [a5], by omega, a2, fun j hj => by rw [Nat.zero_add]; exact a6 j hj⟩ hok

end Go.Proofs.Ythcndifbegmbkaa
