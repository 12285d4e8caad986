/- PoolNone, a part. -/
import Derived.Test.YtljbhdldfffpfaaGreatQn27
import Derived.Test.YtljbhdldfffpfaaGreatQn28
import Derived.Deep.CutBlock
namespace Go.Proofs.YtljbhdldfffpfaaGreat.Lf
open Go.Proofs.YtljbhdldfffpfaaGreat
open Go.RowKit

/-- A page's value: four slices, a number. -/
def pgV (P : Nat → Option Addr) (N K : Nat → Nat) (n : Int) : Value := .agg #[.slice (P 0) (N 0) (K 0), .slice (P 1) (N 1) (K 1), .slice (P 2) (N 2) (K 2), .slice (P 3) (N 3) (K 3), .int .i64 n]
def pgC (P : Nat → Option Addr) (N K : Nat → Nat) (n : Int) : Array Value := #[.slice (P 0) (N 0) (K 0), .slice (P 1) (N 1) (K 1), .slice (P 2) (N 2) (K 2), .slice (P 3) (N 3) (K 3), .int .i64 n]
def pgO (P : Nat → Option Addr) (N K : Nat → Nat) (n : Int) : Obj := .cells (pgC P N K n) 42
def Cs (w : World) (P : Nat → Option Addr) (N K : Nat → Nat) (c : Nat → List Int) : Prop := ∀ i, i < 4 → N i = (c i).length ∧ SlK .u8 w (.slice (P i) (N i) (K i)) (c i)

theorem pg_cell {w : World} {g : Nat} {P : Nat → Option Addr} {N K : Nat → Nat} {n : Int} (h : w.heap[g]? = some (pgO P N K n)) : (∀ i, i < 4 → w.cell? ⟨g, i, none⟩ = some (.slice (P i) (N i) (K i))) ∧ w.cell? ⟨g, 4, none⟩ = some (.int .i64 n) ∧ ∀ i, w.frozen? ⟨g, i, none⟩ = false := by
  have hc := fun i => cell_of (cs := pgC P N K n) h i
  refine ⟨fun i hi => ?_, (hc 4).1, fun i => (hc i).2⟩
  rw [(hc i).1]
  match i, hi with
  | 0, _ => rfl
  | 1, _ => rfl
  | 2, _ => rfl
  | 3, _ => rfl

theorem Cs.below {w w' : World} {P : Nat → Option Addr} {N K : Nat → Nat} {c : Nat → List Int} (h : Cs w P N K c) {B : Nat} (hb : Below B w w') (hB : w.heap.size ≤ B) : Cs w' P N K c := fun i hi => ⟨(h i hi).1, (h i hi).2.below hb hB⟩

/-- Same, by cells. -/
def pgSame (c c' : Nat → List Int) (n n' : Int) : Bool := (List.range 4).all (fun i => sameB (c i) (c' i)) && decide (n = n')
theorem pgSame_no {c c' : Nat → List Int} {n n' : Int} {k : Nat} (hk : k < 4) (h : sameB (c k) (c' k) = false) : pgSame c c' n n' = false := by
  unfold pgSame
  cases e : (List.range 4).all (fun i => sameB (c i) (c' i))
  · rfl
  · rw [List.all_eq_true] at e
    have := e k (List.mem_range.2 hk)
    rw [h] at this; cases this
theorem pgSame_all {c c' : Nat → List Int} {n n' : Int} (h : ∀ j, j < 4 → sameB (c j) (c' j) = true) : pgSame c c' n n' = decide (n = n') := by
  unfold pgSame
  rw [List.all_eq_true.2 (fun x hx => h x (List.mem_range.1 hx)), Bool.true_and]

set_option maxRecDepth 100000 in
set_option maxHeartbeats 1000000 in
theorem same_any (w : World) (P : Nat → Option Addr) (N K : Nat → Nat) (n : Int) (c : Nat → List Int) (P' : Nat → Option Addr) (N' K' : Nat → Nat) (n' : Int) (c' : Nat → List Int) (h : Cs w P N K c) (h' : Cs w P' N' K' c') :
    Calls Tryz.prog 49 #[pgV P N K n, pgV P' N' K' n'] w fun e w' => e = .returned (.bool (pgSame c c' n n')) ∧ Below w.heap.size w w' := by
  unfold pgV
  have hbx := bx_new w (pgO P N K n) (pgO P' N' K' n')
  have HH := Lib.hid (h.below hbx.1 (Nat.le_refl _))
  have HH' := Lib.hid (h'.below hbx.1 (Nat.le_refl _))
  have HBx := Lib.hid hbx
  clear h h' hbx
  go_enter Tryz.func49, Tryz.ntmps49
  go_upto_region 1 with (fail)
  show Code.wp _ _ _ _ ((w.alloc (pgO P N K n)).alloc (pgO P' N' K' n'))
  generalize (w.alloc (pgO P N K n)).alloc (pgO P' N' K' n') = w1 at *
  have HR : Hid (Below w1.heap.size w1 w1) := Below.refl _ _
  go_wp2
  go_loopw [6] (fun i wr => ∃ k : Nat, k ≤ 4 ∧ (∀ j, j < k → sameB (c j) (c' j) = true) ∧ i = .int .i64 k ∧ Hid (Bx w wr (pgO P N K n) (pgO P' N' K' n')) ∧ Hid (Below w1.heap.size w1 wr)) (fun i _ => 4 - (RowKit.intOf i).toNat)
  case atStart => exact ⟨0, by omega, fun j h => by omega, rfl, HBx, HR⟩
  case round =>
    obtain ⟨k, hk, hz, rfl, HB2, HR2⟩ := hrel
    have HZ := Lib.hid hz
    have C1 := Lib.hid (pg_cell HB2.out.2.1)
    have C2 := Lib.hid (pg_cell HB2.out.2.2)
    clear hz HR HBx
    by_cases hlt : k < 4
    · have c1 := C1.out.1 k hlt
      have c2 := C2.out.1 k hlt
      have hs := fun W (hW : Below wr.heap.size wr W) => sameCell_any W _ _ _ _ ((HH.out k hlt).2.below (HR2.out.trans (hW.mono HR2.out.size)) (Nat.le_refl _)) ((HH'.out k hlt).2.below (HR2.out.trans (hW.mono HR2.out.size)) (Nat.le_refl _))
      clear HH HH' C1 C2
      cases hq : sameB (c k) (c' k)
      · rw [hq] at hs
        have HS := Lib.hid hs
        have HF : Hid (pgSame c c' n n' = false) := pgSame_no hlt hq
        clear hs hq
        go_upto_region 4 with (fail)
        go_region_with (go_at_call 78; refine (HS.out _ (by first | exact Below.refl _ _ | exact (Below.refl _ _).drew)).mono ?_; rintro e w5 ⟨rfl, rfl⟩)
        all_goals go_wp2
        all_goals go_ret
        all_goals exact ⟨ret_b HF.out.symm, by first | exact HB2.out.1 | exact HB2.out.1.drew⟩
      · rw [hq] at hs
        have HS := Lib.hid hs
        have HZ2 : Hid (∀ j, j < k + 1 → sameB (c j) (c' j) = true) := fun j hj => by
          by_cases e : j = k
          · subst e; exact hq
          · exact HZ.out j (by omega)
        have HB3 := HB2.out.on ((Below.refl wr.heap.size wr).drew)
        have HR3 := HR2.out.drew
        have HB3' := Lib.hid HB3
        have HR3' := Lib.hid HR3
        clear hs hq HB3 HR3
        go_upto_region 4 with (fail)
        go_region_with (go_at_call 78; refine (HS.out _ (by first | exact Below.refl _ _ | exact (Below.refl _ _).drew)).mono ?_; rintro e w5 ⟨rfl, rfl⟩)
        all_goals go_wp2
        all_goals go_roundw
        all_goals first
          | exact ⟨k + 1, by omega, HZ2.out, by go_num, by first | exact HB3' | exact HB2, by first | exact HR3' | exact HR2⟩
          | (simp [RowKit.intOf]; omega)
    · obtain rfl : k = 4 := by omega
      have c1 := C1.out.2.1
      have c2 := C2.out.2.1
      have HF : Hid (pgSame c c' n n' = decide (n = n')) := pgSame_all HZ.out
      clear HH HH' C1 C2
      go_wp2
      go_ret
      exact ⟨ret_b (HF.out.symm ▸ rfl), HB2.out.1⟩

end Go.Proofs.YtljbhdldfffpfaaGreat.Lf
namespace Go.Proofs.YtljbhdldfffpfaaGreat.Lf
open Go.Proofs.YtljbhdldfffpfaaGreat
open Go.RowKit

def upd {α : Type} (f : Nat → α) (k : Nat) (x : α) : Nat → α := fun i => if i = k then x else f i

theorem pg_set {w : World} {g : Nat} {P : Nat → Option Addr} {N K : Nat → Nat} {n : Int} (h : w.heap[g]? = some (pgO P N K n)) {k : Nat} (hk : k < 4) (p : Option Addr) (m q : Nat) : (w.setCell ⟨g, k, none⟩ (.slice p m q)).heap[g]? = some (pgO (upd P k p) (upd N k m) (upd K k q) n) := by
  rw [heap_setCell_same w g k _ _ _ h]
  match k, hk with
  | 0, _ => rfl
  | 1, _ => rfl
  | 2, _ => rfl
  | 3, _ => rfl

theorem pg_setN {w : World} {g : Nat} {P : Nat → Option Addr} {N K : Nat → Nat} {n : Int} (h : w.heap[g]? = some (pgO P N K n)) (m : Int) : (w.setCell ⟨g, 4, none⟩ (.int .i64 m)).heap[g]? = some (pgO P N K m) := by
  rw [heap_setCell_same w g 4 _ _ _ h]; rfl

/-- All five cells laid. -/
def finP (W : World) (g : Nat) (P : Nat → Option Addr) (N K : Nat → Nat) (n : Int) : World := ((((W.setCell ⟨g, 0, none⟩ (.slice (P 0) (N 0) (K 0))).setCell ⟨g, 1, none⟩ (.slice (P 1) (N 1) (K 1))).setCell ⟨g, 2, none⟩ (.slice (P 2) (N 2) (K 2))).setCell ⟨g, 3, none⟩ (.slice (P 3) (N 3) (K 3))).setCell ⟨g, 4, none⟩ (.int .i64 n)
theorem finP_heap {W : World} {g : Nat} {P P' : Nat → Option Addr} {N K N' K' : Nat → Nat} {n n' : Int} (h : W.heap[g]? = some (pgO P' N' K' n')) : (finP W g P N K n).heap[g]? = some (pgO P N K n) := by
  unfold finP
  have h1 := pg_set h (k := 0) (by decide) (P 0) (N 0) (K 0)
  have h2 := pg_set h1 (k := 1) (by decide) (P 1) (N 1) (K 1)
  have h3 := pg_set h2 (k := 2) (by decide) (P 2) (N 2) (K 2)
  have h4 := pg_set h3 (k := 3) (by decide) (P 3) (N 3) (K 3)
  exact pg_setN h4 n
theorem finP_below {B : Nat} {w W : World} {g : Nat} {P : Nat → Option Addr} {N K : Nat → Nat} {n : Int} (h : Below B w W) (hg : B ≤ g) : Below B w (finP W g P N K n) :=
  ((((h.setCell (p := ⟨g, 0, none⟩) hg _).setCell (p := ⟨g, 1, none⟩) hg _).setCell (p := ⟨g, 2, none⟩) hg _).setCell (p := ⟨g, 3, none⟩) hg _).setCell (p := ⟨g, 4, none⟩) hg _

/-- Four rows of the call's own. -/
def Co (w : World) (B : Nat) (P : Nat → Option Addr) (N K : Nat → Nat) (c : Nat → List Int) : Prop := ∀ i, i < 4 → N i = (c i).length ∧ w.ownsRow B 5 1 (.slice (P i) (N i) (K i)) (N i) (byteV (c i)) ∧ bytesOk (c i)
theorem Co.cs {w : World} {B : Nat} {P : Nat → Option Addr} {N K : Nat → Nat} {c : Nat → List Int} (h : Co w B P N K c) : Cs w P N K c := fun i hi => ⟨(h i hi).1, own_slK (h i hi).2.1 (h i hi).2.2⟩

theorem own_set {w : World} {B n g i : Nat} {u v : Value} {xs : List Value} (h : w.ownsRow B 5 1 v n xs) (hg : g < B) : (w.setCell ⟨g, i, none⟩ u).ownsRow B 5 1 v n xs := by
  obtain ⟨h1, ⟨e, h2⟩ | ⟨q, cap, cur, e, a, b, r⟩⟩ := h
  · exact ⟨h1, .inl ⟨e, h2⟩⟩
  · exact ⟨h1, .inr ⟨q, cap, cur, e, a, (Below.heap_setCell _ _ _ _ (show q ≠ g by omega)).trans b, r⟩⟩

theorem own_mono {w : World} {B B' n : Nat} {v : Value} {xs : List Value} (h : w.ownsRow B 5 1 v n xs) (hB : B' ≤ B) : w.ownsRow B' 5 1 v n xs := by
  obtain ⟨h1, ⟨e, h2⟩ | ⟨q, cap, cur, e, a, b, r⟩⟩ := h
  · exact ⟨h1, .inl ⟨e, h2⟩⟩
  · exact ⟨h1, .inr ⟨q, cap, cur, e, Nat.le_trans hB a, b, r⟩⟩

def setQ (n i lsn : Int) : Bool := decide (n < lsn) && decide (0 ≤ i) && decide (i < 4)
def setC (c : Nat → List Int) (n i lsn : Int) (b : List Int) : Nat → List Int := if setQ n i lsn = true then upd c i.toNat b else c
def setN (n i lsn : Int) : Int := if setQ n i lsn = true then lsn else n

/-- A page that is the call's own. -/
def PgPost (w : World) (c : Nat → List Int) (n : Int) (e : Ending) (w' : World) : Prop := ∃ P N K, e = .returned (pgV P N K n) ∧ Co w' w.heap.size P N K c ∧ Below w.heap.size w w'

theorem pg_end {W : World} {tmps : Array Value} {g : Nat} {P : Nat → Option Addr} {N K : Nat → Nat} {n : Int} (h8 : tmps.getD 8 undef = .pointer (some ⟨g, 0, none⟩)) (k : W.heap[g]? = some (pgO P N K n)) : (results Tryz.f48 tmps).run Tryz.prog W = .ok (pgV P N K n) W := by
  rw [Array.getD_eq_getD_getElem?] at h8
  have hc := fun i => (cell_of (cs := pgC P N K n) k i).1
  have a0 := hc 0
  have a1 := hc 1
  have a2 := hc 2
  have a3 := hc 3
  have a4 := hc 4
  simp [results, Tryz.results48, go_sem, h8, a0, a1, a2, a3, a4, pgC, pgV]

/-- The state in front of the copies. -/
def Mid (w wx : World) (c : Nat → List Int) (n : Int) : Prop := ∃ P N K, wx.heap[w.heap.size]? = some (pgO P N K n) ∧ Cs w P N K c ∧ Below w.heap.size w wx ∧ ∃ P N K m, wx.heap[w.heap.size + 1]? = some (pgO P N K m)

theorem infoSl : (Tryz.prog.info? 33).map (·.size) = some 1 := by kernel_rfl
theorem ix_any (w : World) (P : Nat → Option Addr) (N K : Nat → Nat) {k : Nat} (hk : k < 4) : (Instr.index 40 (.agg #[.slice (P 0) (N 0) (K 0), .slice (P 1) (N 1) (K 1), .slice (P 2) (N 2) (K 2), .slice (P 3) (N 3) (K 3)]) (.int .i64 (k : Int))).run Tryz.prog w = .ok (.slice (P k) (N k) (K k)) w := by
  obtain ⟨i, hi, hz⟩ := Option.map_eq_some_iff.1 infoSl
  match k, hk with
  | 0, _ => simp [Instr.index, isAgg, sizeOf, typeInfo, hi, run_underlying Tryz.underlying40, asIntOf, go_sem]
  | 1, _ => simp [Instr.index, isAgg, sizeOf, typeInfo, hi, hz, run_underlying Tryz.underlying40, asIntOf, go_sem]
  | 2, _ => simp [Instr.index, isAgg, sizeOf, typeInfo, hi, hz, run_underlying Tryz.underlying40, asIntOf, go_sem]
  | 3, _ => simp [Instr.index, isAgg, sizeOf, typeInfo, hi, hz, run_underlying Tryz.underlying40, asIntOf, go_sem]

/-- k copies made. -/
def StC (w wr : World) (c : Nat → List Int) (n : Int) (k : Nat) : Prop := ∃ P N K, wr.heap[w.heap.size]? = some (pgO P N K n) ∧ (∀ j, j < k → N j = (c j).length ∧ wr.ownsRow (w.heap.size + 2) 5 1 (.slice (P j) (N j) (K j)) (N j) (byteV (c j)) ∧ bytesOk (c j)) ∧ Below w.heap.size w wr ∧ ∃ P N K m, wr.heap[w.heap.size + 1]? = some (pgO P N K m)
theorem own_sl {w : World} {B n : Nat} {v : Value} {xs : List Value} (h : w.ownsRow B 5 1 v n xs) : ∃ p q, v = .slice p n q := by
  obtain ⟨h1, ⟨e, h2⟩ | ⟨q, cap, cur, e, a, b, r⟩⟩ := h
  · subst h2; exact ⟨_, _, e⟩
  · exact ⟨_, _, e⟩
theorem StC.next {w wr w5 : World} {c : Nat → List Int} {n : Int} {k : Nat} (h : StC w wr c n k) (hk : k < 4) (hb : Below wr.heap.size wr w5) {p : Option Addr} {q : Nat} (ho : w5.ownsRow wr.heap.size 5 1 (.slice p (c k).length q) (c k).length (byteV (c k))) (hok : bytesOk (c k)) :
    StC w (w5.setCell ⟨w.heap.size, k, none⟩ (.slice p (c k).length q)) c n (k + 1) := by
  obtain ⟨P, N, K, h1, h2, h3, P', N', K', m', h4⟩ := h
  have hlt := (Array.getElem?_eq_some_iff.1 h4).1
  have h1' := (hb.block _ (by omega)).trans h1
  refine ⟨_, _, _, pg_set h1' hk p _ q, fun j hj => ?_, (h3.trans (hb.mono h3.size)).setCell (p := ⟨w.heap.size, k, none⟩) (Nat.le_refl _) _, P', N', K', m', ?_⟩
  · by_cases e : j = k
    · subst e
      simp only [upd, if_true]
      exact ⟨trivial, own_set (own_mono ho (by omega)) (by omega), hok⟩
    · simp only [upd, if_neg e]
      obtain ⟨a1, a2, a3⟩ := h2 j (by omega)
      exact ⟨a1, own_set (own_below a2 hb) (by omega), a3⟩
  · exact (Below.heap_setCell _ _ _ _ (by simp)).trans ((hb.block _ hlt).trans h4)

set_option maxRecDepth 100000 in
set_option maxHeartbeats 2000000 in
theorem set_any (w : World) (P : Nat → Option Addr) (N K : Nat → Nat) (n : Int) (c : Nat → List Int) (h : Cs w P N K c) (i lsn : Int) (p : Option Addr) (m q : Nat) (b : List Int) (hb : SlK .u8 w (.slice p m q) b) (hm : m = b.length) (hs : ∀ i, i < 4 → (c i).length ≤ 100000) (hs' : b.length ≤ 100000) :
    Calls Tryz.prog 48 #[pgV P N K n, .int .i64 i, .slice p m q, .int .i64 lsn] w (PgPost w (setC c n i lsn b) (setN n i lsn)) := by
  unfold pgV
  have hbx := bx_new w (pgO P N K n) (pgO (fun _ => none) (fun _ => 0) (fun _ => 0) 0)
  have HH := Lib.hid h
  have HB := Lib.hid hb
  have HM := Lib.hid hm
  have HS := Lib.hid hs
  have HS' := Lib.hid hs'
  have HBx := Lib.hid hbx
  clear h hb hbx hm hs hs'
  go_enter Tryz.func48, Tryz.ntmps48
  go_upto_region 1 with (fail)
  show Code.wp _ _ _ _ ((w.alloc (pgO P N K n)).alloc (pgO (fun _ => none) (fun _ => 0) (fun _ => 0) 0))
  generalize (w.alloc (pgO P N K n)).alloc (pgO (fun _ => none) (fun _ => 0) (fun _ => 0) 0) = w1 at *
  have hC := pg_cell HBx.out.2.1
  have c4 := hC.2.1
  have C1 := Lib.hid hC
  clear hC
  go_cut [22] (fun u wx => u = .bool (setQ n i lsn) ∧ w1 = wx)
  case first =>
    go_wp2
    all_goals go_meet
    all_goals
      refine ⟨?_, rfl⟩
      unfold setQ
      simp [*]
      try omega
  case rest =>
    obtain ⟨rfl, rfl⟩ := hcut
    go_upto_if 22 with (fail)
    go_cut [] (fun wx => Mid w wx (setC c n i lsn b) (setN n i lsn))
    case first =>
      cases hq : setQ n i lsn
      · have hM : Hid (Mid w w1 (setC c n i lsn b) (setN n i lsn)) := by
          unfold setC setN
          rw [if_neg (by rw [hq]; decide), if_neg (by rw [hq]; decide)]
          exact ⟨P, N, K, HBx.out.2.1, HH.out, HBx.out.1, _, _, _, _, HBx.out.2.2⟩
        go_wp2
        go_meet
        exact hM.out
      · have hq' := hq
        unfold setQ at hq'
        simp only [Bool.and_eq_true, decide_eq_true_eq] at hq'
        obtain ⟨⟨hl, h0⟩, h4⟩ := hq'
        obtain ⟨k, rfl⟩ : ∃ k : Nat, i = (k : Int) := ⟨i.toNat, by omega⟩
        have hk : k < 4 := by omega
        have hp2 := pg_setN (pg_set HBx.out.2.1 hk p m q) lsn
        have hM : Hid (Mid w ((w1.setCell ⟨w.heap.size, k, none⟩ (.slice p m q)).setCell ⟨w.heap.size, 4, none⟩ (.int .i64 lsn)) (setC c n k lsn b) (setN n k lsn)) := by
          unfold setC setN
          rw [if_pos hq, if_pos hq, Int.toNat_natCast]
          refine ⟨_, _, _, hp2, fun j hj => ?_, (HBx.out.1.setCell (p := ⟨w.heap.size, k, none⟩) (Nat.le_refl _) _).setCell (p := ⟨w.heap.size, 4, none⟩) (Nat.le_refl _) _, _, _, _, _, ((Below.heap_setCell _ _ _ _ (by simp)).trans (Below.heap_setCell _ _ _ _ (by simp))).trans HBx.out.2.2⟩
          by_cases e : j = k
          · subst e; simp only [upd, if_true]; exact ⟨HM.out, HB.out⟩
          · simp only [upd, if_neg e]; exact HH.out j hj
        have hz := pg_cell (pg_set HBx.out.2.1 hk p m q)
        have f1 := (C1.out.2.2 k)
        have f2 := hz.2.2 4
        have d1 := C1.out.1 k hk
        have d2 := hz.2.1
        clear hz hq hp2 hl
        go_wp2
        go_meet
        exact hM.out
    case rest =>
      have hlen : ∀ j, j < 4 → (setC c n i lsn b j).length ≤ 100000 := by
        intro j hj
        unfold setC upd
        by_cases e1 : setQ n i lsn = true
        · rw [if_pos e1]
          by_cases e2 : j = i.toNat
          · rw [if_pos e2]; exact HS'.out
          · rw [if_neg e2]; exact HS.out j hj
        · rw [if_neg e1]; exact HS.out j hj
      have HLen := Lib.hid hlen
      clear hlen c4 C1 HBx HH HB HM HS HS'
      generalize setC c n i lsn b = c1 at *
      generalize setN n i lsn = n1 at *
      generalize setQ n i lsn = q1 at *
      obtain ⟨P1, N1, K1, h1, hc1, hb1, P0, N0, K0, m0, h0⟩ := hcut
      have hp := pg_cell h1
      have d0 := hp.1 0 (by decide)
      have d1 := hp.1 1 (by decide)
      have d2 := hp.1 2 (by decide)
      have d3 := hp.1 3 (by decide)
      have HS : Hid (StC w wc c1 n1 0) := ⟨P1, N1, K1, h1, fun j hj => by omega, hb1, P0, N0, K0, m0, h0⟩
      have HC := Lib.hid hc1
      clear hp h1 hc1 hb1 h0
      go_wp2
      clear d0 d1 d2 d3
      go_loopw [31] (fun i wr => ∃ k : Nat, k ≤ 4 ∧ i = .int .i64 k ∧ Hid (StC w wr c1 n1 k)) (fun i _ => 4 - (RowKit.intOf i).toNat)
      case atStart => exact ⟨0, by omega, rfl, HS⟩
      case round =>
        obtain ⟨k, hk, rfl, HS2⟩ := hrel
        clear HS
        by_cases hlt : k < 4
        · have ix := ix_any wr P1 N1 K1 hlt
          obtain ⟨P2, N2, K2, h2, ho2, hb2, P3, N3, K3, m3, h3⟩ := HS2.out
          have hcl := clone_any wr _ (c1 k) ((HC.out k hlt).2.below hb2 (Nat.le_refl _)) (HLen.out k hlt)
          have hg := (Array.getElem?_eq_some_iff.1 h2).1
          have H2 := Lib.hid h2
          have HCl := Lib.hid hcl
          have HG := Lib.hid hg
          have HOK := Lib.hid (HC.out k hlt).2.ok
          have HN := Lib.hid (HC.out k hlt).1
          clear h2 ho2 hb2 h3 hcl hg
          go_wp2_with fail
          refine HCl.out.mono ?_
          rintro e w5 ⟨v', rfl, ho, hb⟩
          obtain ⟨p', q', rfl⟩ := own_sl ho
          have HX : Hid (StC w (w5.setCell ⟨w.heap.size, k, none⟩ (.slice p' (c1 k).length q')) c1 n1 (k + 1)) := HS2.out.next hlt hb ho HOK.out
          have hp5 := pg_cell ((hb.block _ HG.out).trans H2.out)
          have f1 := hp5.2.2 k
          have d1 := hp5.1 k hlt
          clear ho hb hp5 ix
          go_wp2
          go_roundw
          case rel => exact ⟨k + 1, by omega, by go_num, HX⟩
          case measure => simp [RowKit.intOf]; omega
        · obtain rfl : k = 4 := by omega
          obtain ⟨P2, N2, K2, h2, ho2, hb2, P3, N3, K3, m3, h3⟩ := HS2.out
          have hp2 := pg_cell h2
          have d0 := hp2.1 0 (by decide)
          have d1 := hp2.1 1 (by decide)
          have d2 := hp2.1 2 (by decide)
          have d3 := hp2.1 3 (by decide)
          have d4 := hp2.2.1
          have hp3 := pg_cell h3
          have e0 := hp3.1 0 (by decide)
          have e1 := hp3.1 1 (by decide)
          have e2 := hp3.1 2 (by decide)
          have e3 := hp3.1 3 (by decide)
          have e4 := hp3.2.1
          have f0 := hp3.2.2 0
          have f1 := hp3.2.2 1
          have f2 := hp3.2.2 2
          have f3 := hp3.2.2 3
          have f4 := hp3.2.2 4
          have HF : Hid (PgPost w c1 n1 (.returned (pgV P2 N2 K2 n1)) (finP wr (w.heap.size + 1) P2 N2 K2 n1)) := by
            refine ⟨P2, N2, K2, rfl, fun j hj => ?_, finP_below hb2 (by omega)⟩
            obtain ⟨a1, a2, a3⟩ := ho2 j hj
            exact ⟨a1, own_mono (own_set (own_set (own_set (own_set (own_set a2 (by omega)) (by omega)) (by omega)) (by omega)) (by omega)) (by omega), a3⟩
          have HE := Lib.hid (finP_heap (P := P2) (N := N2) (K := K2) (n := n1) h3)
          clear hp2 hp3 h2 ho2 hb2 h3 HS2
          go_wp2
          change bodyPost _ _ _ _ _ (finP wr (w.heap.size + 1) P2 N2 K2 n1)
          exact bodyPost_ret (pg_end rfl HE.out) rfl HF.out

end Go.Proofs.YtljbhdldfffpfaaGreat.Lf
