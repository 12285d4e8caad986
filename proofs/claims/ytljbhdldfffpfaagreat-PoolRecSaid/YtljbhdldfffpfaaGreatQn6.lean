/- PoolNone, a part. -/
import Derived.Test.YtljbhdldfffpfaaGreatQn1
import Derived.Lib.AppendStr
import Derived.Deep.AppendLies
import Derived.Deep.RegionLaw
namespace Go.Proofs.YtljbhdldfffpfaaGreat
open Go.RowKit

theorem slK_nil (w : World) : SlK .u8 w (.slice none 0 0) [] := ⟨none, 0, rfl, Nat.le_refl _, by simp, (fun _ => ⟨rfl, rfl⟩), (fun a e => by cases e)⟩

theorem SlK.pt {w : World} {v : Value} {l : List Int} (h : SlK .u8 w v l) (hl : l ≠ []) : Pt w v l := by
  obtain ⟨p, cap, rfl, h1, h2, h3, h4⟩ := h
  cases p with
  | none => exact absurd (h3 rfl).1 hl
  | some a =>
    obtain ⟨hs, hbl, hc⟩ := h4 a rfl
    obtain ⟨b, off, asp⟩ := a
    cases hs
    exact ⟨b, off, cap, rfl, h1, hbl, hc⟩

theorem ok_take {l : List Int} (h : bytesOk l) (k : Nat) : bytesOk (l.take k) := fun x hx => h x (List.mem_of_mem_take hx)

theorem ok_drop {l : List Int} (h : bytesOk l) (k : Nat) : bytesOk (l.drop k) := fun x hx => h x (List.mem_of_mem_drop hx)

theorem own_pt {w : World} {B n : Nat} {v : Value} {l : List Int} (h : w.ownsRow B 5 1 v n (byteV l)) (hn : 0 < n) : ∃ g cap, v = .slice (some ⟨g, 0, none⟩) n cap ∧ B ≤ g ∧ g < w.heap.size ∧ n ≤ cap ∧ cap ≤ maxLen ∧ l.length = n ∧ ∀ j (h : j < l.length), w.cell? ⟨g, j, none⟩ = some (.int .u8 l[j]) := by
  obtain ⟨h1, ⟨rfl, h0⟩ | ⟨g, cap, cur, rfl, hB, hg, hle, hm, _, htake⟩⟩ := h
  · omega
  · have hl : l.length = n := by simpa [byteV] using h1
    refine ⟨g, cap, rfl, hB, (Array.getElem?_eq_some_iff.1 hg).1, hle, hm, hl, fun j hj => ?_⟩
    have h2 := (cell_of hg j).1
    rw [h2]
    have e1 : (cur.toList.take (n * 1))[j]? = some (.int .u8 l[j]) := by rw [htake]; simp [byteV, hj]
    rw [List.getElem?_take, if_pos (by omega)] at e1
    simpa using e1

theorem Blk.set {w : World} {g : Nat} {l : List Int} (h : Blk w g l) (i : Nat) (x : Int) : Blk (w.setCell ⟨g, i, none⟩ (.int .u8 x)) g (l.set i x) := by
  unfold Blk
  rw [heap_setCell_same w g i _ _ _ h]
  simp [byteV, List.map_set]

theorem made_zeros (n : Nat) : madeCells (Value.int .u8 0).cells n = (byteV (List.replicate n 0)).toArray := by
  apply Array.ext
  · simp [size_madeCells, byteV]
  · intro j h1 h2
    simp only [madeCells, Value.cells, byteV, List.map_replicate, Array.getElem_map, Array.getElem_range, List.getElem_toArray, List.getElem_replicate]
    rw [show j % (#[Value.int .u8 0] : Array Value).size = 0 from Nat.mod_one j]
    rfl

def bstr (l : List Int) : ByteArray := l.foldl (fun r n => r.push (UInt8.ofNat n.toNat)) ByteArray.empty

theorem conv_slK {W : World} {v : Value} {l : List Int} (h : SlK .u8 W v l) : (convert 33 9 v).run Tryz.prog W = .ok (.string (bstr l)) W := by
  obtain ⟨p, cap, rfl, h1, h2, h3, h4⟩ := h
  rw [run_convert_bytes_string W 33 9 5 _ _ _ Tryz.underlying33 Tryz.underlying5 Tryz.underlying9]
  cases p with
  | none =>
    obtain ⟨rfl, rfl⟩ := h3 rfl
    rfl
  | some a =>
    obtain ⟨hs, hbl, hc⟩ := h4 a rfl
    refine run_bytesToString W _ _ _ l ?_
    have := run_loadCells_list (P := Tryz.prog) W a (byteV l) (fun j v hv => by
      obtain ⟨ab, ao, asp⟩ := a
      cases hs
      have hj : j < l.length := by have := (List.getElem?_eq_some_iff.1 hv).1; simpa [byteV] using this
      have h2 : (⟨ab, ao, none⟩ : Addr).add j = ⟨ab, ao + j, none⟩ := by unfold Addr.add; split <;> simp_all
      rw [h2, hc j hj]
      simp [byteV] at hv
      obtain ⟨x, hx, rfl⟩ := hv
      rw [List.getElem?_eq_getElem hj] at hx
      cases hx
      rfl)
    simpa [byteV] using this

/-- A slice that reads l; where it has nothing, nothing is asked of its address (a slice that lies in memory that came in). -/
structure SlW (w : World) (v : Value) (l : List Int) : Prop where
  sh : ∃ p cap, v = .slice p l.length cap ∧ l.length ≤ cap ∧ (p = none → l = [] ∧ cap = 0)
  wf : ∀ x ∈ l, (Lit.int .u8 x).wf = true
  k : l ≠ [] → SlK .u8 w v l
theorem SlK.sw {w : World} {v : Value} {l : List Int} (h : SlK .u8 w v l) : SlW w v l := by
  have h' := h
  obtain ⟨p, cap, e, h1, h2, h3, _⟩ := h
  exact ⟨⟨p, cap, e, h1, h3⟩, h2, fun _ => h'⟩
theorem SlW.below {B : Nat} {w w' : World} {v : Value} {l : List Int} (h : SlW w v l) (hb : Below B w w') (hB : w.heap.size ≤ B) : SlW w' v l := ⟨h.sh, h.wf, fun e => (h.k e).below hb hB⟩
theorem SlW.ok {w : World} {v : Value} {l : List Int} (h : SlW w v l) : bytesOk l := by
  by_cases e : l = []
  · subst e; intro x hx; cases hx
  · exact (h.k e).ok
theorem SlW.form {w : World} {v : Value} {l : List Int} (h : SlW w v l) : ∃ A c, v = .slice A l.length c ∧ l.length ≤ c := by
  obtain ⟨p, cap, e, h1, _⟩ := h.sh
  exact ⟨p, cap, e, h1⟩
theorem below_drewN (B : Nat) (W : World) (n : Nat) : Below B W (W.drewN n) := ⟨rfl, rfl, rfl, Nat.le_refl _, fun _ _ => rfl⟩

theorem conv_drewN {W : World} {v : Value} {l : List Int} (h : SlK .u8 W v l) (n : Nat) : (convert 33 9 v).run Tryz.prog (W.drewN n) = .ok (.string (bstr l)) (W.drewN n) := conv_slK (h.below (below_drewN W.heap.size W n) (Nat.le_refl _))

theorem bstr_list (l : List Int) (acc : ByteArray) : (l.foldl (fun r n => r.push (UInt8.ofNat n.toNat)) acc).data.toList = acc.data.toList ++ l.map (fun n => UInt8.ofNat n.toNat) := by
  induction l generalizing acc with
  | nil => simp
  | cons a t ih =>
    rw [List.foldl_cons, ih]
    simp [ByteArray.push]

theorem loop_eq (b : ByteArray) : ∀ (n i : Nat) (r : List UInt8), b.size - i = n → ByteArray.toList.loop b i r = r.reverse ++ b.data.toList.drop i := by
  intro n
  induction n with
  | zero =>
    intro i r h
    unfold ByteArray.toList.loop
    have hs : b.data.toList.length = b.size := Array.length_toList
    rw [if_neg (by omega), List.drop_eq_nil_of_le (by omega), List.append_nil]
  | succ n ih =>
    intro i r h
    unfold ByteArray.toList.loop
    have hs : b.data.toList.length = b.size := Array.length_toList
    rw [if_pos (by omega), ih (i + 1) _ (by omega)]
    rw [List.drop_eq_getElem_cons (show i < b.data.toList.length by omega)]
    simp only [List.reverse_cons, List.append_assoc, List.singleton_append]
    congr 2
    show b.data[i]! = _
    rw [getElem!_pos b.data i (show i < b.size by omega)]
    simp

theorem toList_eq (b : ByteArray) : b.toList = b.data.toList := by
  show ByteArray.toList.loop b 0 [] = _
  rw [loop_eq b _ 0 [] rfl]; simp

theorem bstr_inj {l l' : List Int} (h1 : bytesOk l) (h2 : bytesOk l') (h : bstr l = bstr l') : l = l' := by
  have h3 := congrArg (fun b : ByteArray => b.data.toList) h
  simp only [bstr, bstr_list] at h3
  replace h3 := List.append_cancel_left h3
  clear h
  induction l generalizing l' with
  | nil => cases l' with
    | nil => rfl
    | cons b t => simp at h3
  | cons a t ih => cases l' with
    | nil => simp at h3
    | cons b u =>
      simp only [List.map_cons, List.cons.injEq] at h3
      have ha := h1 a (by simp)
      have hb := h2 b (by simp)
      have e := congrArg UInt8.toNat h3.1
      rw [UInt8.toNat_ofNat', UInt8.toNat_ofNat', Nat.mod_eq_of_lt (by omega), Nat.mod_eq_of_lt (by omega)] at e
      rw [ih (fun x hx => h1 x (by simp [hx])) (fun x hx => h2 x (by simp [hx])) h3.2, show a = b by omega]

theorem Pt.pre {w : World} {g off cap n : Nat} {l : List Int} (h : Pt w (.slice (some ⟨g, off, none⟩) n cap) l) {m : Nat} (hm : m ≤ l.length) : Pt w (.slice (some ⟨g, off, none⟩) m cap) (l.take m) := by
  obtain ⟨b, o, c, e, h1, h2, h3⟩ := h
  cases e
  refine ⟨g, off, cap, by rw [List.length_take, Nat.min_eq_left hm], by simp; omega, h2, fun j hj => ?_⟩
  rw [List.length_take] at hj
  rw [List.getElem_take]
  exact h3 j (by omega)

theorem Pt.news {w : World} {g off cap n : Nat} {l : List Int} (h : Pt w (.slice (some ⟨g, off, none⟩) n cap) l) : ∀ j u, (byteV l)[j]? = some u → w.cell? ((⟨g, off, none⟩ : Addr).add j) = some u := by
  obtain ⟨b, o, c, e, h1, h2, h3⟩ := h
  cases e
  intro q u hu
  have hj : q < l.length := by have := (List.getElem?_eq_some_iff.1 hu).1; simpa [byteV] using this
  have h2 : (⟨g, off, none⟩ : Addr).add q = ⟨g, off + q, none⟩ := by unfold Addr.add; split <;> simp_all
  rw [h2, h3 q hj]
  simp [byteV] at hu
  obtain ⟨x, hx, rfl⟩ := hu
  rw [List.getElem?_eq_getElem hj] at hx
  cases hx
  rfl

theorem zero_cells (n : Nat) : Builtin.zeroCells (Value.int .u8 0).cells n = (byteV (List.replicate n 0)).toArray := by
  rw [← made_zeros]
  unfold Builtin.zeroCells madeCells
  rw [show n * (Value.int .u8 0).cells.size = n from Nat.mul_one n]

theorem zeros_own (w : World) (B g n cap : Nat) (l : List Int) (k : Nat) (hown : w.ownsRow B 5 1 (.slice (some ⟨g, 0, none⟩) n cap) n (byteV l)) (hk : n + k ≤ 100000) (hBw : B ≤ w.heap.size) :
    ∃ v' w', (∀ ty, (Builtin.append_ #[33, 3] ty #[.slice (some ⟨g, 0, none⟩) n cap, .int .i64 (k : Int)]).run Tryz.prog w = .ok v' w') ∧ w'.ownsRow B 5 1 v' (n + k) (byteV (l ++ List.replicate k 0)) ∧ w.grownBy w' (some g) := by
  obtain ⟨i, hi, hz0, hz1, hz2⟩ := info_parts infoU8
  obtain ⟨h1, ⟨e, _⟩ | ⟨g', cap', cur, e, hB, hg, hle, hm, hsz, htake⟩⟩ := hown
  · cases e
  cases e
  have hl : l.length = n := by simpa [byteV] using h1
  have hneg : ¬ ((k : Int) < 0) := by omega
  have hw : IntKind.i64.wrap (k : Int) = k := by rw [IntKind.wrap_i64]; omega
  by_cases hroom : n + k ≤ cap
  · have hst := run_storeCells_at Tryz.prog g (n * 1) 5 (byteV (List.replicate k 0)) 0 cur w hg (by simp [byteV]; omega) (byteV_one _)
    simp only [Nat.add_zero, Nat.mul_one] at hst
    refine ⟨.slice (some ⟨g, 0, none⟩) (n + k) cap, w.setRow g (cur.toList.take n ++ byteV (List.replicate k 0) ++ cur.toList.drop (n + (byteV (List.replicate k 0)).length)).toArray, fun ty => ?_, ⟨by simp [byteV, hl], .inr ⟨g, cap, _, rfl, hB, setRow_heap _ _ _ _ _ _ hg, hroom, hm, ?_, ?_⟩⟩, ⟨rfl, rfl, rfl, by simp, fun j _ hj => setRow_other _ _ _ _ (fun e => hj (by rw [e]))⟩⟩
    · rcases Nat.eq_zero_or_pos k with rfl | hpos
      · have hs := setRow_self w g cur 5 (0, 0) hg
        have w0 : IntKind.i64.wrap 0 = 0 := by decide
        simp [Builtin.append_, run_underlying Tryz.underlying33, run_underlying Tryz.underlying3, sizeOf, typeInfo, hi, asInt, asIntOf, w0, hle, byteV, hs, storeCells]
      · have h48i : ¬ (281474976710656 < (k : Int) * (i.bytes : Int)) := by rw [hz2]; omega
        simp only [Nat.mul_one] at htake
        simp [Builtin.append_, run_underlying Tryz.underlying33, run_underlying Tryz.underlying3, sizeOf, typeInfo, zeroValue, hi, hz0, asInt, asIntOf, hw, hneg, h48i, hroom, zero_cells, Addr.add_lit, hz1, hst]
        omega
    · simp [byteV, hsz]
      omega
    · have e1 : cur.toList.take (n * 1) = byteV l := htake
      simp only [Nat.mul_one] at e1 ⊢
      rw [e1, List.take_left' (by simp [byteV, hl])]
      simp [byteV]
  · have hcells : ∀ j u, (byteV l)[j]? = some u → w.drew.cell? ((⟨g, 0, none⟩ : Addr).add j) = some u := by
      intro j u hu
      have hadd : (⟨g, 0, none⟩ : Addr).add j = ⟨g, j, none⟩ := by unfold Addr.add; split <;> simp_all
      rw [hadd]
      show w.cell? _ = _
      rw [cell_of_row w g j cur 5 (0, 0) hg]
      rw [← htake, List.getElem?_take] at hu
      split at hu
      · simpa using hu
      · cases hu
    have hold : (Builtin.firstCells i.size n (.slice (some ⟨g, 0, none⟩) n cap)).run Tryz.prog w.drew = .ok (byteV l).toArray w.drew :=
      run_firstCells_some w.drew i.size n ⟨g, 0, none⟩ n cap (byteV l) (by rw [hz1]; simp [byteV, hl]) hcells
    have hr := fun ty => Lib.run_append_grow_zeros w 33 3 ty 5 i (.int .u8 0) .i64 .i64 Tryz.underlying33 Tryz.underlying3 hi hz0 (some ⟨g, 0, none⟩) n cap (byteV l) hold k (by omega) (by omega) (by omega) (by omega) (by rw [hz2]; omega) (growslice_fits (by omega) (by rw [hz2]; omega))
    have hG := grownCap_ge w (n + k) cap 5
    have hM := grownCap_le_maxLen w (n + k) cap 5 (by unfold maxLen; omega)
    refine ⟨_, _, hr, ⟨by simp [byteV, hl], .inr ⟨w.heap.size, _, _, rfl, hBw, heap_alloc_new w.drew _, hG, hM, ?_, ?_⟩⟩, ⟨rfl, rfl, rfl, by simp, fun j hj _ => Below.heap_alloc w.drew _ j hj⟩⟩
    · simp [size_zeroCells, Value.cells, byteV, hl]
      omega
    · rw [zero_cells, zero_cells]
      simp only [Array.toList_append, Nat.mul_one]
      rw [List.take_left' (by simp [byteV, hl])]
      simp [byteV]

theorem own_slK {w : World} {B n : Nat} {v : Value} {l : List Int} (h : w.ownsRow B 5 1 v n (byteV l)) (hok : bytesOk l) : SlK .u8 w v l := by
  by_cases hn : n = 0
  · obtain ⟨h1, h2⟩ := h
    subst hn
    have hl : l = [] := by simpa [byteV] using h1
    subst hl
    rcases h2 with ⟨rfl, _⟩ | ⟨g, cap, cur, rfl, hB, hg, _⟩
    · exact slK_nil w
    · exact Pt.slK ⟨g, 0, cap, rfl, Nat.zero_le _, (Array.getElem?_eq_some_iff.1 hg).1, fun j hj => by cases hj⟩ hok
  · obtain ⟨g, cap, rfl, a1, a2, a3, a4, a5, a6⟩ := own_pt h (by omega)
    exact Pt.slK ⟨g, 0, cap, by rw [a5], by omega, a2, fun j hj => by rw [Nat.zero_add]; exact a6 j hj⟩ hok

end Go.Proofs.YtljbhdldfffpfaaGreat
namespace Go.Proofs.YtljbhdldfffpfaaGreat

/-- n in k bytes, the highest first. -/
def numL (n : Int) : Nat → List Int
  | 0 => []
  | k + 1 => (n / 256 ^ k % 256) :: numL n k
def fitB (n : Int) (k : Nat) : Bool := decide (0 ≤ n ∧ n < 256 ^ k)
/-- What the first k bytes are as a number (of those that are there). -/
def numR (l : List Int) : Nat → Int
  | 0 => 0
  | k + 1 => if k < l.length then numR l k * 256 + l.getD k 0 else numR l k
termination_by k => k
theorem numR_0 (l : List Int) : numR l 0 = 0 := by rw [numR]
theorem numR_s (l : List Int) (k : Nat) : numR l (k + 1) = if k < l.length then numR l k * 256 + l.getD k 0 else numR l k := by rw [numR]

abbrev Mv := Int × Int × Int × Int
abbrev Lv := Int × Int × Int × Bool
abbrev Dt := Int × Int
abbrev Opn := Int × Int × List Mv
structure Ent where
  kind : Int
  txn : Int
  unit : Int
  half : Int
  prev : Int
  next : Int
  ap : Int
  ac : Int
  tp : Int
  tc : Int
  old : List Int
  new : List Int
  moves : List Mv
  lives : List Lv
  dirty : List Dt
  opens : List Opn

def b01 (b : Bool) : Int := if b then 1 else 0
def plL (p c : Int) : List Int := numL p 1 ++ numL c 1
def mvL (m : Mv) : List Int := plL m.1 m.2.1 ++ plL m.2.2.1 m.2.2.2
def lvL (m : Lv) : List Int := numL m.1 1 ++ numL m.2.1 3 ++ numL m.2.2.1 3 ++ numL (b01 m.2.2.2) 1
def dtL (m : Dt) : List Int := numL m.1 1 ++ numL m.2 3
def lstL {α : Type} (f : α → List Int) (l : List α) : List Int := if l.length ≤ 40 then numL l.length 1 ++ l.flatMap f else []
def opL (m : Opn) : List Int := numL m.1 2 ++ numL m.2.1 1 ++ lstL mvL m.2.2
def celOk (c : List Int) : Bool := decide (c.length = 0) || decide (c.length = 26)
def celL (c : List Int) : List Int := if celOk c = true then numL c.length 1 ++ c else []
def plB (p c : Int) : Bool := fitB p 1 && fitB c 1
def mvB (m : Mv) : Bool := plB m.1 m.2.1 && plB m.2.2.1 m.2.2.2
def lvB (m : Lv) : Bool := fitB m.1 1 && fitB m.2.1 3 && fitB m.2.2.1 3
def dtB (m : Dt) : Bool := fitB m.1 1 && fitB m.2 3
def lstB {α : Type} (f : α → Bool) (l : List α) : Bool := decide (l.length ≤ 40) && l.all f
def opB (m : Opn) : Bool := fitB m.1 2 && fitB m.2.1 1 && lstB mvB m.2.2
def kindB (n : Int) : Bool := decide (1 ≤ n ∧ n ≤ 10)
def entL (e : Ent) : List Int := numL e.kind 1 ++ numL e.txn 1 ++ numL e.unit 2 ++ numL e.half 1 ++ numL e.prev 3 ++ numL e.next 3 ++ plL e.ap e.ac ++ plL e.tp e.tc ++ celL e.old ++ celL e.new ++ lstL mvL e.moves ++ lstL lvL e.lives ++ lstL dtL e.dirty ++ lstL opL e.opens
def entB (e : Ent) : Bool := kindB e.kind && fitB e.kind 1 && fitB e.txn 1 && fitB e.unit 2 && fitB e.half 1 && fitB e.prev 3 && fitB e.next 3 && plB e.ap e.ac && plB e.tp e.tc && celOk e.old && celOk e.new && lstB mvB e.moves && lstB lvB e.lives && lstB dtB e.dirty && lstB opB e.opens

def mvR (l : List Int) : Mv × List Int := ((numR l 1, numR (l.drop 1) 1, numR (l.drop 2) 1, numR (l.drop 3) 1), l.drop 4)
def lvR (l : List Int) : Lv × List Int := ((numR l 1, numR (l.drop 1) 3, numR (l.drop 4) 3, decide (numR (l.drop 7) 1 = 1)), l.drop 8)
def dtR (l : List Int) : Dt × List Int := ((numR l 1, numR (l.drop 1) 3), l.drop 4)
def celN (l : List Int) : Nat := min (numR l 1).toNat (l.drop 1).length
def celR (l : List Int) : List Int × List Int := ((l.drop 1).take (celN l), (l.drop 1).drop (celN l))
def nR {α : Type} (f : List Int → α × List Int) : Nat → List Int → List α × List Int
  | 0, l => ([], l)
  | k + 1, l => ((nR f k l).1 ++ [(f (nR f k l).2).1], (f (nR f k l).2).2)
def lstR {α : Type} (f : List Int → α × List Int) (l : List Int) : List α × List Int := nR f (numR l 1).toNat (l.drop 1)
def opR (l : List Int) : Opn × List Int := ((numR l 2, numR (l.drop 2) 1, (lstR mvR (l.drop 3)).1), (lstR mvR (l.drop 3)).2)
def r1 (l : List Int) := celR (l.drop 15)
def r2 (l : List Int) := celR (r1 l).2
def r3 (l : List Int) := lstR mvR (r2 l).2
def r4 (l : List Int) := lstR lvR (r3 l).2
def r5 (l : List Int) := lstR dtR (r4 l).2
def r6 (l : List Int) := lstR opR (r5 l).2
def entR (l : List Int) : Ent := ⟨numR l 1, numR (l.drop 1) 1, numR (l.drop 2) 2, numR (l.drop 4) 1, numR (l.drop 5) 3, numR (l.drop 8) 3, numR (l.drop 11) 1, numR (l.drop 12) 1, numR (l.drop 13) 1, numR (l.drop 14) 1, (r1 l).1, (r2 l).1, (r3 l).1, (r4 l).1, (r5 l).1, (r6 l).1⟩

theorem fit_iff {n : Int} {k : Nat} : fitB n k = true ↔ 0 ≤ n ∧ n < 256 ^ k := by simp [fitB]
theorem numL_len (n : Int) (k : Nat) : (numL n k).length = k := by
  induction k with
  | zero => rfl
  | succ k ih => simp [numL, ih]
theorem numL_ok (n : Int) (k : Nat) : bytesOk (numL n k) := by
  induction k with
  | zero => intro x hx; cases hx
  | succ k ih =>
    intro x hx
    rcases List.mem_cons.1 hx with rfl | hx
    · omega
    · exact ih x hx
end Go.Proofs.YtljbhdldfffpfaaGreat
namespace Go.Proofs.YtljbhdldfffpfaaGreat
open Go.RowKit

/-- The writer in block p, with the bytes that it has gathered, and whether something was wrong. -/
def WS (w : World) (p : Nat) (v : Value) (l : List Int) (bad : Bool) : Prop := w.heap[p]? = some (.cells #[v, .bool bad] 168 (0, 0)) ∧ w.ownsRow (p + 1) 5 1 v l.length (byteV l)

/-- Only the writer and its row have turned. -/
structure Wr (p : Nat) (w : World) (v : Value) (w' : World) (v' : Value) : Prop where
  os : w'.os = w.os
  tape : w'.tape = w.tape
  output : w'.output = w.output
  size : w.heap.size ≤ w'.heap.size
  block : ∀ k, k < w.heap.size → k ≠ p → v.ownBlock ≠ some k → w'.heap[k]? = w.heap[k]? ∧ v'.ownBlock ≠ some k

theorem Wr.refl (p : Nat) (w : World) (v : Value) : Wr p w v w v := ⟨rfl, rfl, rfl, Nat.le_refl _, fun _ _ _ h => ⟨rfl, h⟩⟩
theorem Wr.trans {p : Nat} {a b c : World} {u v x : Value} (h : Wr p a u b v) (k : Wr p b v c x) : Wr p a u c x :=
  ⟨k.os.trans h.os, k.tape.trans h.tape, k.output.trans h.output, Nat.le_trans h.size k.size, fun i hi h1 h2 => by
    obtain ⟨a1, a2⟩ := h.block i hi h1 h2
    obtain ⟨b1, b2⟩ := k.block i (Nat.lt_of_lt_of_le hi h.size) h1 a2
    exact ⟨b1.trans a1, b2⟩⟩
theorem Wr.alloc (p : Nat) (w : World) (v : Value) (o : Obj) : Wr p w v (w.alloc o) v := ⟨rfl, rfl, rfl, by simp, fun k hk _ h => ⟨Below.heap_alloc w _ k hk, h⟩⟩
theorem WS.lt {w : World} {p : Nat} {v : Value} {l : List Int} {bad : Bool} (h : WS w p v l bad) : p < w.heap.size := (Array.getElem?_eq_some_iff.1 h.1).1
theorem WS.far {w : World} {p : Nat} {v : Value} {l : List Int} {bad : Bool} (h : WS w p v l bad) {k : Nat} (hk : k ≤ p) : v.ownBlock ≠ some k := fun e => by
  have := h.2.lt k e; omega
theorem Wr.below {p : Nat} {w w' : World} {v v' : Value} {l : List Int} {bad : Bool} (h : WS w p v l bad) (k : Wr p w v w' v') : Below p w w' :=
  ⟨k.os, k.tape, k.output, k.size, fun i hi => (k.block i (Nat.lt_trans hi h.lt) (by omega) (h.far (by omega))).1⟩
theorem own_bel {w w' : World} {B n : Nat} {v : Value} {xs : List Value} {e : TypeId} {sz : Nat} (h : w.ownsRow B e sz v n xs) (hb : Below w.heap.size w w') : w'.ownsRow B e sz v n xs := by
  obtain ⟨h1, ⟨e, h2⟩ | ⟨g, cap, cur, e, a, b, r⟩⟩ := h
  · exact ⟨h1, .inl ⟨e, h2⟩⟩
  · exact ⟨h1, .inr ⟨g, cap, cur, e, a, (hb.block g (Array.getElem?_eq_some_iff.1 b).1).trans b, r⟩⟩
theorem own_at {w w' : World} {B n : Nat} {v : Value} {xs : List Value} {e : TypeId} {sz : Nat} (h : w.ownsRow B e sz v n xs) (hb : ∀ k, v.ownBlock = some k → w'.heap[k]? = w.heap[k]?) : w'.ownsRow B e sz v n xs := by
  obtain ⟨h1, ⟨e, h2⟩ | ⟨g, cap, cur, e, a, b, r⟩⟩ := h
  · exact ⟨h1, .inl ⟨e, h2⟩⟩
  · subst e
    exact ⟨h1, .inr ⟨g, cap, cur, rfl, a, (hb g rfl).trans b, r⟩⟩
theorem WS.on {w w' : World} {p : Nat} {v : Value} {l : List Int} {bad : Bool} (h : WS w p v l bad) (hb : Below w.heap.size w w') : WS w' p v l bad := ⟨(hb.block p h.lt).trans h.1, own_bel h.2 hb⟩
theorem WS.alloc {w : World} {p : Nat} {v : Value} {l : List Int} {bad : Bool} (h : WS w p v l bad) (o : Obj) : WS (w.alloc o) p v l bad := h.on ((Below.refl _ _).alloc (Nat.le_refl _) _)
theorem WS.drew {w : World} {p : Nat} {v : Value} {l : List Int} {bad : Bool} (h : WS w p v l bad) : WS w.drew p v l bad := h
theorem WS.c0 {w : World} {p : Nat} {v : Value} {l : List Int} {bad : Bool} (h : WS w p v l bad) : w.cell? ⟨p, 0, none⟩ = some v := (cell_of h.1 0).1
theorem WS.c1 {w : World} {p : Nat} {v : Value} {l : List Int} {bad : Bool} (h : WS w p v l bad) : w.cell? ⟨p, 1, none⟩ = some (.bool bad) := (cell_of h.1 1).1
theorem WS.f {w : World} {p : Nat} {v : Value} {l : List Int} {bad : Bool} (h : WS w p v l bad) (i : Nat) : w.frozen? ⟨p, i, none⟩ = false := (cell_of h.1 i).2
theorem setCell_far (w : World) (g i : Nat) (v : Value) {k : Nat} (h : k ≠ g) : (w.setCell ⟨g, i, none⟩ v).heap[k]? = w.heap[k]? := Below.heap_setCell _ _ _ _ h

/-- The mark is set. -/
theorem WS.mark {w : World} {p : Nat} {v : Value} {l : List Int} {bad : Bool} (h : WS w p v l bad) (b : Bool) : WS (w.setCell ⟨p, 1, none⟩ (.bool b)) p v l b ∧ Wr p w v (w.setCell ⟨p, 1, none⟩ (.bool b)) v := by
  refine ⟨⟨?_, own_at h.2 fun k hk => setCell_far _ _ _ _ (fun e => h.far (Nat.le_refl p) (by rw [hk, e]))⟩, ⟨rfl, rfl, rfl, by simp, fun k _ hk h2 => ⟨setCell_far _ _ _ _ hk, h2⟩⟩⟩
  rw [heap_setCell_same w p 1 _ _ _ h.1]
  rfl

/-- Something is appended, and the new row is set. -/
theorem WS.put {w w1 : World} {p : Nat} {v v' : Value} {l : List Int} {bad : Bool} (h : WS w p v l bad) {xs : List Int} (ho : w1.ownsRow (p + 1) 5 1 v' (l ++ xs).length (byteV (l ++ xs))) (hg : w.grownBy w1 v.ownBlock)
    (hv : v'.ownBlock = v.ownBlock ∨ ∀ k, v'.ownBlock = some k → w.heap.size ≤ k) : WS (w1.setCell ⟨p, 0, none⟩ v') p v' (l ++ xs) bad ∧ Wr p w v (w1.setCell ⟨p, 0, none⟩ v') v' := by
  have hp : w1.heap[p]? = some (.cells #[v, .bool bad] 168 (0, 0)) := (hg.block p h.lt (fun e => h.far (Nat.le_refl p) e.symm)).trans h.1
  refine ⟨⟨?_, own_at ho fun k hk => setCell_far _ _ _ _ (fun e => by have := ho.lt k hk; omega)⟩, ⟨hg.os, hg.tape, hg.output, by simpa using hg.size, fun k hk hkp h2 => ⟨(setCell_far _ _ _ _ hkp).trans (hg.block k hk (fun e => h2 e.symm)), fun e => ?_⟩⟩⟩
  · rw [heap_setCell_same w1 p 0 _ _ _ hp]
    rfl
  · rcases hv with hv | hv
    · exact h2 (by rw [← hv, e])
    · have := hv k e; omega

set_option maxRecDepth 100000 in
set_option maxHeartbeats 400000 in
theorem need_any {w : World} {p : Nat} {v : Value} {l : List Int} {bad : Bool} (h : WS w p v l bad) (b : Bool) :
    Calls Tryz.prog 131 #[.pointer (some ⟨p, 0, none⟩), .bool b] w fun e w' => e = .returned (.bool b) ∧ WS w' p v l (bad || !b) ∧ Wr p w v w' v := by
  have c1 := h.c1
  have f1 := h.f 1
  have HH := Lib.hid h
  clear h
  cases bad <;> cases b
  all_goals
    go_enter Tryz.func131, Tryz.ntmps131
    go_wp2
    go_ret
    exact ⟨rfl, HH.out.mark _⟩

end Go.Proofs.YtljbhdldfffpfaaGreat
