/- PoolNone, a part. -/
import Derived.Test.YtljbhdldfffpfaaGreatQn25
namespace Go.Proofs.YtljbhdldfffpfaaGreat.Lf
open Go.Proofs.YtljbhdldfffpfaaGreat
open Go.RowKit

def RdPost (w : World) (l : List Int) (e : Ending) (w' : World) : Prop := ∃ a k s v p c er, Rd l a k s v p c er ∧ e = .returned (.tuple #[.int .i64 a, .agg #[.string k, .string s, .string v], .agg #[.int .i64 p, .int .i64 c], .int .i64 er]) ∧ Below w.heap.size w w'
def RdIs (w : World) (a : Int) (k s v : ByteArray) (p c er : Int) (e : Ending) (w' : World) : Prop := e = .returned (.tuple #[.int .i64 a, .agg #[.string k, .string s, .string v], .agg #[.int .i64 p, .int .i64 c], .int .i64 er]) ∧ Below w.heap.size w w'

theorem alloc_two (w : World) (a b : Obj) : ((w.alloc a).alloc b).heap[w.heap.size + 1]? = some b := by
  have := heap_alloc_new (w.alloc a) b
  rwa [show (w.alloc a).heap.size = w.heap.size + 1 by simp] at this

theorem rd_end {W : World} {tmps : Array Value} {g3 g4 : Nat} {a : Int} {k s v : ByteArray} {p c er : Int} (h2 : tmps.getD 2 undef = .int .i64 a) (h3 : tmps.getD 3 undef = .pointer (some ⟨g3, 0, none⟩)) (h4 : tmps.getD 4 undef = .pointer (some ⟨g4, 0, none⟩)) (h5 : tmps.getD 5 undef = .int .i64 er)
    (k3 : W.heap[g3]? = some (rowO k s v)) (k4 : W.heap[g4]? = some (ridO p c)) : (results Tryz.f111 tmps).run Tryz.prog W = .ok (.tuple #[.int .i64 a, .agg #[.string k, .string s, .string v], .agg #[.int .i64 p, .int .i64 c], .int .i64 er]) W := by
  rw [Array.getD_eq_getD_getElem?] at h2 h3 h4 h5
  have a0 := (cell_of (cs := #[.string k, .string s, .string v]) k3 0).1
  have a1 := (cell_of (cs := #[.string k, .string s, .string v]) k3 1).1
  have a2 := (cell_of (cs := #[.string k, .string s, .string v]) k3 2).1
  have b0 := (cell_of (cs := #[.int .i64 p, .int .i64 c]) k4 0).1
  have b1 := (cell_of (cs := #[.int .i64 p, .int .i64 c]) k4 1).1
  simp [results, Tryz.results111, go_sem, h2, h3, h4, h5, a0, a1, a2, b0, b1]

theorem rd_end' {W : World} {tmps : Array Value} {g3 g4 : Nat} {a : Int} {k s v : ByteArray} {p c er : Int} (h2 : tmps.getD 2 undef = .int .i64 a) (h3 : tmps.getD 3 undef = .pointer (some ⟨g3, 0, none⟩)) (h4 : tmps.getD 4 undef = .pointer (some ⟨g4, 0, none⟩)) (h5 : tmps.getD 5 undef = .int .i64 er)
    (k3 : W.heap[g3]? = some (rowO k s v)) (k4 : W.heap[g4]? = some (ridO p c)) : (results Tryz.f111 tmps).run Tryz.prog W.drew = .ok (.tuple #[.int .i64 a, .agg #[.string k, .string s, .string v], .agg #[.int .i64 p, .int .i64 c], .int .i64 er]) W.drew := rd_end h2 h3 h4 h5 k3 k4

set_option maxRecDepth 100000 in
set_option maxHeartbeats 1000000 in
theorem read_nil (w : World) (A : Option Addr) (cap : Nat) : Calls Tryz.prog 111 #[.slice A 0 cap] w (RdIs w 0 ⟨#[]⟩ ⟨#[]⟩ ⟨#[]⟩ 0 0 0) := by
  go_enter Tryz.func111, Tryz.ntmps111
  go_wp2
  refine bodyPost_ret (v := .tuple #[.int .i64 0, .agg #[.string ⟨#[]⟩, .string ⟨#[]⟩, .string ⟨#[]⟩], .agg #[.int .i64 0, .int .i64 0], .int .i64 0]) ?_ rfl ?_
  · exact rd_end (g3 := w.heap.size) (g4 := w.heap.size + 1) rfl rfl rfl rfl ((Below.heap_alloc _ _ _ (by simp)).trans (heap_alloc_new w _)) (alloc_two w _ _)
  · exact ⟨rfl, ((Below.refl _ _).alloc (Nat.le_refl _) _).alloc (by simp) _⟩

set_option maxRecDepth 100000 in
set_option maxHeartbeats 1000000 in
theorem read_len (w : World) (A : Option Addr) (n cap : Nat) (h0 : n ≠ 0) (h1 : n ≠ 26) : Calls Tryz.prog 111 #[.slice A n cap] w (RdIs w 0 ⟨#[]⟩ ⟨#[]⟩ ⟨#[]⟩ 0 0 4) := by
  have a0 : ¬ n = 0 := h0
  have a1 : ¬ n = 26 := h1
  clear h0 h1
  go_enter Tryz.func111, Tryz.ntmps111
  go_wp2
  refine bodyPost_ret (v := .tuple #[.int .i64 0, .agg #[.string ⟨#[]⟩, .string ⟨#[]⟩, .string ⟨#[]⟩], .agg #[.int .i64 0, .int .i64 0], .int .i64 4]) ?_ rfl ?_
  · exact rd_end (g3 := w.heap.size) (g4 := w.heap.size + 1) rfl rfl rfl rfl ((Below.heap_alloc _ _ _ (by simp)).trans (heap_alloc_new w _)) (alloc_two w _ _)
  · exact ⟨rfl, ((Below.refl _ _).alloc (Nat.le_refl _) _).alloc (by simp) _⟩

def finW (W : World) (g3 g4 : Nat) (k s v : ByteArray) (p c : Int) : World := ((((W.setCell ⟨g3, 0, none⟩ (.string k)).setCell ⟨g3, 1, none⟩ (.string s)).setCell ⟨g3, 2, none⟩ (.string v)).setCell ⟨g4, 0, none⟩ (.int .i64 p)).setCell ⟨g4, 1, none⟩ (.int .i64 c)
theorem finW_row {W : World} {g3 g4 : Nat} {k s v k' s' v' : ByteArray} {p c : Int} (h3 : W.heap[g3]? = some (rowO k' s' v')) (hne : g3 ≠ g4) : (finW W g3 g4 k s v p c).heap[g3]? = some (rowO k s v) := by
  unfold finW
  rw [Below.heap_setCell _ _ _ _ hne, Below.heap_setCell _ _ _ _ hne, heap_setCell_same _ _ _ _ _ _ (heap_setCell_same _ _ _ _ _ _ (heap_setCell_same _ _ _ _ _ _ h3))]
  rfl
theorem finW_rid {W : World} {g3 g4 : Nat} {k s v : ByteArray} {p c p' c' : Int} (h4 : W.heap[g4]? = some (ridO p' c')) (hne : g4 ≠ g3) : (finW W g3 g4 k s v p c).heap[g4]? = some (ridO p c) := by
  have h5 : (((W.setCell ⟨g3, 0, none⟩ (.string k)).setCell ⟨g3, 1, none⟩ (.string s)).setCell ⟨g3, 2, none⟩ (.string v)).heap[g4]? = some (ridO p' c') := by
    rw [Below.heap_setCell _ _ _ _ hne, Below.heap_setCell _ _ _ _ hne, Below.heap_setCell _ _ _ _ hne]; exact h4
  unfold finW
  rw [heap_setCell_same _ _ _ _ _ _ (heap_setCell_same _ _ _ _ _ _ h5)]
  rfl
theorem finW_below {B : Nat} {w W : World} {g3 g4 : Nat} {k s v : ByteArray} {p c : Int} (h : Below B w W) (h3 : B ≤ g3) (h4 : B ≤ g4) : Below B w (finW W g3 g4 k s v p c) :=
  ((((h.setCell (p := ⟨g3, 0, none⟩) h3 _).setCell (p := ⟨g3, 1, none⟩) h3 _).setCell (p := ⟨g3, 2, none⟩) h3 _).setCell (p := ⟨g4, 0, none⟩) h4 _).setCell (p := ⟨g4, 1, none⟩) h4 _

/-- The world in which Read has its two results. -/
def Two (w W : World) : Prop := Below w.heap.size w W ∧ W.heap[w.heap.size]? = some (rowO ⟨#[]⟩ ⟨#[]⟩ ⟨#[]⟩) ∧ W.heap[w.heap.size + 1]? = some (ridO 0 0)
theorem two_new (w : World) : Two w ((w.alloc (rowO ⟨#[]⟩ ⟨#[]⟩ ⟨#[]⟩)).alloc (ridO 0 0)) := ⟨((Below.refl _ _).alloc (Nat.le_refl _) _).alloc (by simp) _, (Below.heap_alloc _ _ _ (by simp)).trans (heap_alloc_new w _), alloc_two w _ _⟩
theorem Two.lt {w W : World} (h : Two w W) : w.heap.size + 1 < W.heap.size := (Array.getElem?_eq_some_iff.1 h.2.2).1
theorem Two.on {w W W' : World} (h : Two w W) (hb : Below W.heap.size W W') : Two w W' :=
  ⟨h.1.trans (hb.mono (by have := h.lt; omega)), (hb.block _ (by have := h.lt; omega)).trans h.2.1, (hb.block _ h.lt).trans h.2.2⟩
theorem Two.cells {w W : World} (h : Two w W) : (W.cell? ⟨w.heap.size, 0, none⟩ = some (.string ⟨#[]⟩) ∧ W.cell? ⟨w.heap.size, 1, none⟩ = some (.string ⟨#[]⟩) ∧ W.cell? ⟨w.heap.size, 2, none⟩ = some (.string ⟨#[]⟩) ∧ W.cell? ⟨w.heap.size + 1, 0, none⟩ = some (.int .i64 0) ∧ W.cell? ⟨w.heap.size + 1, 1, none⟩ = some (.int .i64 0)) ∧
    W.frozen? ⟨w.heap.size, 0, none⟩ = false ∧ W.frozen? ⟨w.heap.size, 1, none⟩ = false ∧ W.frozen? ⟨w.heap.size, 2, none⟩ = false ∧ W.frozen? ⟨w.heap.size + 1, 0, none⟩ = false ∧ W.frozen? ⟨w.heap.size + 1, 1, none⟩ = false :=
  ⟨⟨(cell_of h.2.1 0).1, (cell_of h.2.1 1).1, (cell_of h.2.1 2).1, (cell_of h.2.2 0).1, (cell_of h.2.2 1).1⟩, (cell_of h.2.1 0).2, (cell_of h.2.1 1).2, (cell_of h.2.1 2).2, (cell_of h.2.2 0).2, (cell_of h.2.2 1).2⟩

theorem _root_.Go.Proofs.YtljbhdldfffpfaaGreat.Pt.at0 {w : World} {b off n cap : Nat} {x : Int} {l : List Int} (h : Pt w (.slice (some ⟨b, off, none⟩) n cap) (x :: l)) : w.cell? ⟨b, off, none⟩ = some (.int .u8 x) ∧ b < w.heap.size := by
  obtain ⟨b', o', cap', e, _, h2, h3⟩ := h
  injection e with e1; injection e1 with e1; injection e1 with e1 e4; subst e1 e4
  exact ⟨h3 0 (by simp), h2⟩

set_option maxRecDepth 100000 in
set_option maxHeartbeats 1000000 in
theorem read_x (w : World) (b off cap : Nat) (x : Int) (L : List Int) (h : Pt w (.slice (some ⟨b, off, none⟩) 26 cap) (x :: L)) (h0 : ¬ x = 0) (h1 : ¬ x = 1) (h2 : ¬ x = 2) : Calls Tryz.prog 111 #[.slice (some ⟨b, off, none⟩) 26 cap] w (RdIs w 0 ⟨#[]⟩ ⟨#[]⟩ ⟨#[]⟩ 0 0 4) := by
  have c0 := (((two_new w).1.cell (p := ⟨b, off, none⟩) h.at0.2)).trans h.at0.1
  have hT := two_new w
  have HT := Lib.hid hT
  clear hT
  clear h
  have j0 : (x == 0) = false := by simpa using h0
  have j1 : (x == 1) = false := by simpa using h1
  have j2 : (x == 2) = false := by simpa using h2
  clear h0 h1 h2
  go_enter Tryz.func111, Tryz.ntmps111
  go_upto_region 5 with (fail)
  show Code.wp _ _ _ _ ((w.alloc (rowO ⟨#[]⟩ ⟨#[]⟩ ⟨#[]⟩)).alloc (ridO 0 0))
  generalize (w.alloc (rowO ⟨#[]⟩ ⟨#[]⟩ ⟨#[]⟩)).alloc (ridO 0 0) = W at *
  obtain ⟨⟨x0, x1, x2, x3, x4⟩, y0, y1, y2, y3, y4⟩ := HT.out.cells
  go_wp2
  exact bodyPost_ret (rd_end (W := finW W w.heap.size (w.heap.size + 1) ⟨#[]⟩ ⟨#[]⟩ ⟨#[]⟩ 0 0) rfl rfl rfl rfl (finW_row HT.out.2.1 (by omega)) (finW_rid HT.out.2.2 (by omega))) rfl ⟨rfl, finW_below HT.out.1 (Nat.le_refl _) (by omega)⟩

set_option maxRecDepth 100000 in
set_option maxHeartbeats 1000000 in
theorem read_0 (w : World) (b off cap : Nat) (L : List Int) (h : Pt w (.slice (some ⟨b, off, none⟩) 26 cap) (0 :: L)) (z : Bool) (hz : zerosB (0 :: L) = z) (er : Int) (he : er = if z = true then 0 else 4) : Calls Tryz.prog 111 #[.slice (some ⟨b, off, none⟩) 26 cap] w (RdIs w 0 ⟨#[]⟩ ⟨#[]⟩ ⟨#[]⟩ 0 0 er) := by
  have c0 := (((two_new w).1.cell (p := ⟨b, off, none⟩) h.at0.2)).trans h.at0.1
  have hl := h.lenEq.1
  have hZ := zeros_any _ _ _ (h.below (two_new w).1 (Nat.le_refl _)) (by rw [hl]; omega)
  rw [hz] at hZ
  have hT := two_new w
  have HT := Lib.hid hT
  have HZ := Lib.hid hZ
  have HE := Lib.hid he
  clear hT h hl hz hZ he
  go_enter Tryz.func111, Tryz.ntmps111
  go_upto_region 5 with (fail)
  show Code.wp _ _ _ _ ((w.alloc (rowO ⟨#[]⟩ ⟨#[]⟩ ⟨#[]⟩)).alloc (ridO 0 0))
  generalize (w.alloc (rowO ⟨#[]⟩ ⟨#[]⟩ ⟨#[]⟩)).alloc (ridO 0 0) = W at *
  obtain ⟨⟨x0, x1, x2, x3, x4⟩, y0, y1, y2, y3, y4⟩ := HT.out.cells
  go_wp2_with fail
  refine HZ.out.mono ?_
  rintro e w' ⟨rfl, rfl⟩
  cases z
  · obtain rfl : er = 4 := HE.out
    go_wp2
    exact bodyPost_ret (rd_end (W := finW _ w.heap.size (w.heap.size + 1) ⟨#[]⟩ ⟨#[]⟩ ⟨#[]⟩ 0 0) rfl rfl rfl rfl (finW_row HT.out.2.1 (by omega)) (finW_rid HT.out.2.2 (by omega))) rfl ⟨rfl, finW_below HT.out.1 (Nat.le_refl _) (by omega)⟩
  · obtain rfl : er = 0 := HE.out
    go_wp2
    exact bodyPost_ret (rd_end (W := finW _ w.heap.size (w.heap.size + 1) ⟨#[]⟩ ⟨#[]⟩ ⟨#[]⟩ 0 0) rfl rfl rfl rfl (finW_row HT.out.2.1 (by omega)) (finW_rid HT.out.2.2 (by omega))) rfl ⟨rfl, finW_below HT.out.1 (Nat.le_refl _) (by omega)⟩

theorem RowNo.of {w : World} {k s v : ByteArray} {e : Ending} {w' : World} (h : RowIs w k s v false e w') : RowNo w e w' := ⟨k, s, v, h⟩

set_option maxRecDepth 100000 in
set_option maxHeartbeats 1000000 in
theorem read_1f (w : World) (b off cap : Nat) (L : List Int) (h : Pt w (.slice (some ⟨b, off, none⟩) 26 cap) (1 :: L)) (hR : ∀ W, Below w.heap.size w W → Calls Tryz.prog 129 #[.slice (some ⟨b, off + 1, none⟩) 25 (cap - 1)] W (RowNo W)) : Calls Tryz.prog 111 #[.slice (some ⟨b, off, none⟩) 26 cap] w (RdIs w 0 ⟨#[]⟩ ⟨#[]⟩ ⟨#[]⟩ 0 0 4) := by
  have c0 := (((two_new w).1.cell (p := ⟨b, off, none⟩) h.at0.2)).trans h.at0.1
  have hcap := h.lenEq.2
  have i1 : (26 : Int) ≤ (cap : Int) := by omega
  have i2 : ¬ cap = 1 := by omega
  have hT := two_new w
  have HR := Lib.hid (hR _ hT.1)
  have HT := Lib.hid hT
  clear hT h hR
  go_enter Tryz.func111, Tryz.ntmps111
  go_upto_region 5 with (fail)
  show Code.wp _ _ _ _ ((w.alloc (rowO ⟨#[]⟩ ⟨#[]⟩ ⟨#[]⟩)).alloc (ridO 0 0))
  generalize (w.alloc (rowO ⟨#[]⟩ ⟨#[]⟩ ⟨#[]⟩)).alloc (ridO 0 0) = W at *
  go_wp2_with fail
  refine HR.out.mono ?_
  rintro e W2 ⟨k, s, v, rfl, hb⟩
  have HT2 := Lib.hid ((HT.out.on hb).on (Below.alloc (Below.refl W2.heap.size W2) (Nat.le_refl _) (rowO k s v)))
  clear c0 hb HR
  go_upto_region 17 with (fail)
  show Code.wp _ _ _ _ (W2.alloc (rowO k s v))
  generalize W2.alloc (rowO k s v) = W3 at *
  obtain ⟨⟨x0, x1, x2, x3, x4⟩, y0, y1, y2, y3, y4⟩ := HT2.out.cells
  go_wp2
  exact bodyPost_ret (rd_end (W := finW W3 w.heap.size (w.heap.size + 1) ⟨#[]⟩ ⟨#[]⟩ ⟨#[]⟩ 0 0) rfl rfl rfl rfl (finW_row HT2.out.2.1 (by omega)) (finW_rid HT2.out.2.2 (by omega))) rfl ⟨rfl, finW_below HT2.out.1 (Nat.le_refl _) (by omega)⟩

set_option maxRecDepth 100000 in
set_option maxHeartbeats 1000000 in
theorem read_1t (w : World) (b off cap : Nat) (L : List Int) (h : Pt w (.slice (some ⟨b, off, none⟩) 26 cap) (1 :: L)) (k s v : ByteArray) (hR : ∀ W, Below w.heap.size w W → Calls Tryz.prog 129 #[.slice (some ⟨b, off + 1, none⟩) 25 (cap - 1)] W (RowIs W k s v true)) : Calls Tryz.prog 111 #[.slice (some ⟨b, off, none⟩) 26 cap] w (RdIs w 1 k s v 0 0 0) := by
  have c0 := (((two_new w).1.cell (p := ⟨b, off, none⟩) h.at0.2)).trans h.at0.1
  have hcap := h.lenEq.2
  have i1 : (26 : Int) ≤ (cap : Int) := by omega
  have i2 : ¬ cap = 1 := by omega
  have hT := two_new w
  have HR := Lib.hid (hR _ hT.1)
  have HT := Lib.hid hT
  clear hT h hR
  go_enter Tryz.func111, Tryz.ntmps111
  go_upto_region 5 with (fail)
  show Code.wp _ _ _ _ ((w.alloc (rowO ⟨#[]⟩ ⟨#[]⟩ ⟨#[]⟩)).alloc (ridO 0 0))
  generalize (w.alloc (rowO ⟨#[]⟩ ⟨#[]⟩ ⟨#[]⟩)).alloc (ridO 0 0) = W at *
  go_wp2_with fail
  refine HR.out.mono ?_
  rintro e W2 ⟨rfl, hb⟩
  have HT2 := Lib.hid ((HT.out.on hb).on (Below.alloc (Below.refl W2.heap.size W2) (Nat.le_refl _) (rowO k s v)))
  have kr := heap_alloc_new W2 (rowO k s v)
  have hne : w.heap.size + 1 < W2.heap.size := (HT.out.on hb).lt
  clear c0 hb HR
  go_upto_region 12 with (fail)
  show Code.wp _ _ _ _ (W2.alloc (rowO k s v))
  generalize W2.alloc (rowO k s v) = W3 at *
  generalize W2.heap.size = g6 at *
  obtain ⟨⟨x0, x1, x2, x3, x4⟩, y0, y1, y2, y3, y4⟩ := HT2.out.cells
  have z0 := (cell_of (cs := #[.string k, .string s, .string v]) kr 0).1
  have z1 := (cell_of (cs := #[.string k, .string s, .string v]) kr 1).1
  have z2 := (cell_of (cs := #[.string k, .string s, .string v]) kr 2).1
  have n1 : ¬ g6 = w.heap.size := by omega
  have n2 : ¬ g6 = w.heap.size + 1 := by omega
  clear kr hne
  go_region
  all_goals go_wp2
  have e3 := finW_row (k := k) (s := s) (v := v) (p := 0) (c := 0) HT2.out.2.1 (show w.heap.size ≠ w.heap.size + 1 by omega)
  have e4 := finW_rid (k := k) (s := s) (v := v) (p := 0) (c := 0) HT2.out.2.2 (show w.heap.size + 1 ≠ w.heap.size by omega)
  have eb := finW_below (g3 := w.heap.size) (g4 := w.heap.size + 1) (k := k) (s := s) (v := v) (p := 0) (c := 0) HT2.out.1 (Nat.le_refl _) (by omega)
  clear x0 x1 x2 x3 x4 y0 y1 y2 y3 y4
  change bodyPost _ _ _ _ _ (finW W3 w.heap.size (w.heap.size + 1) k s v 0 0).drew
  generalize finW W3 w.heap.size (w.heap.size + 1) k s v 0 0 = W4 at *
  refine bodyPost_ret (rd_end' (a := 1) (er := 0) rfl rfl rfl rfl e3 e4) rfl ?_
  exact ⟨rfl, eb.drew⟩
set_option maxRecDepth 100000 in
set_option maxHeartbeats 1000000 in
theorem read_2f (w : World) (b off cap : Nat) (L : List Int) (h : Pt w (.slice (some ⟨b, off, none⟩) 26 cap) (2 :: L)) (p c : Int) (hR : ∀ W, Below w.heap.size w W → Calls Tryz.prog 130 #[.slice (some ⟨b, off + 1, none⟩) 25 (cap - 1)] W (StubIs W p c false)) : Calls Tryz.prog 111 #[.slice (some ⟨b, off, none⟩) 26 cap] w (RdIs w 0 ⟨#[]⟩ ⟨#[]⟩ ⟨#[]⟩ 0 0 4) := by
  have c0 := (((two_new w).1.cell (p := ⟨b, off, none⟩) h.at0.2)).trans h.at0.1
  have hcap := h.lenEq.2
  have i1 : (26 : Int) ≤ (cap : Int) := by omega
  have i2 : ¬ cap = 1 := by omega
  have hT := two_new w
  have HR := Lib.hid (hR _ hT.1)
  have HT := Lib.hid hT
  clear hT h hR
  go_enter Tryz.func111, Tryz.ntmps111
  go_upto_region 5 with (fail)
  show Code.wp _ _ _ _ ((w.alloc (rowO ⟨#[]⟩ ⟨#[]⟩ ⟨#[]⟩)).alloc (ridO 0 0))
  generalize (w.alloc (rowO ⟨#[]⟩ ⟨#[]⟩ ⟨#[]⟩)).alloc (ridO 0 0) = W at *
  go_wp2_with fail
  refine HR.out.mono ?_
  rintro e W2 ⟨rfl, hb⟩
  have HT2 := Lib.hid ((HT.out.on hb).on (Below.alloc (Below.refl W2.heap.size W2) (Nat.le_refl _) (ridO p c)))
  clear c0 hb HR
  go_upto_region 17 with (fail)
  show Code.wp _ _ _ _ (W2.alloc (ridO p c))
  generalize W2.alloc (ridO p c) = W3 at *
  obtain ⟨⟨x0, x1, x2, x3, x4⟩, y0, y1, y2, y3, y4⟩ := HT2.out.cells
  go_wp2
  exact bodyPost_ret (rd_end (W := finW W3 w.heap.size (w.heap.size + 1) ⟨#[]⟩ ⟨#[]⟩ ⟨#[]⟩ 0 0) rfl rfl rfl rfl (finW_row HT2.out.2.1 (by omega)) (finW_rid HT2.out.2.2 (by omega))) rfl ⟨rfl, finW_below HT2.out.1 (Nat.le_refl _) (by omega)⟩

set_option maxRecDepth 100000 in
set_option maxHeartbeats 1000000 in
theorem read_2t (w : World) (b off cap : Nat) (L : List Int) (h : Pt w (.slice (some ⟨b, off, none⟩) 26 cap) (2 :: L)) (p c : Int) (hR : ∀ W, Below w.heap.size w W → Calls Tryz.prog 130 #[.slice (some ⟨b, off + 1, none⟩) 25 (cap - 1)] W (StubIs W p c true)) : Calls Tryz.prog 111 #[.slice (some ⟨b, off, none⟩) 26 cap] w (RdIs w 2 ⟨#[]⟩ ⟨#[]⟩ ⟨#[]⟩ p c 0) := by
  have c0 := (((two_new w).1.cell (p := ⟨b, off, none⟩) h.at0.2)).trans h.at0.1
  have hcap := h.lenEq.2
  have i1 : (26 : Int) ≤ (cap : Int) := by omega
  have i2 : ¬ cap = 1 := by omega
  have hT := two_new w
  have HR := Lib.hid (hR _ hT.1)
  have HT := Lib.hid hT
  clear hT h hR
  go_enter Tryz.func111, Tryz.ntmps111
  go_upto_region 5 with (fail)
  show Code.wp _ _ _ _ ((w.alloc (rowO ⟨#[]⟩ ⟨#[]⟩ ⟨#[]⟩)).alloc (ridO 0 0))
  generalize (w.alloc (rowO ⟨#[]⟩ ⟨#[]⟩ ⟨#[]⟩)).alloc (ridO 0 0) = W at *
  go_wp2_with fail
  refine HR.out.mono ?_
  rintro e W2 ⟨rfl, hb⟩
  have HT2 := Lib.hid ((HT.out.on hb).on (Below.alloc (Below.refl W2.heap.size W2) (Nat.le_refl _) (ridO p c)))
  have kr := heap_alloc_new W2 (ridO p c)
  have hne : w.heap.size + 1 < W2.heap.size := (HT.out.on hb).lt
  clear c0 hb HR
  go_upto_region 16 with (fail)
  show Code.wp _ _ _ _ (W2.alloc (ridO p c))
  generalize W2.alloc (ridO p c) = W3 at *
  generalize W2.heap.size = g6 at *
  obtain ⟨⟨x0, x1, x2, x3, x4⟩, y0, y1, y2, y3, y4⟩ := HT2.out.cells
  have z0 := (cell_of (cs := #[.int .i64 p, .int .i64 c]) kr 0).1
  have z1 := (cell_of (cs := #[.int .i64 p, .int .i64 c]) kr 1).1
  have n1 : ¬ g6 = w.heap.size := by omega
  have n2 : ¬ g6 = w.heap.size + 1 := by omega
  clear kr hne
  go_region
  all_goals go_wp2
  have e3 := finW_row (k := ⟨#[]⟩) (s := ⟨#[]⟩) (v := ⟨#[]⟩) (p := p) (c := c) HT2.out.2.1 (show w.heap.size ≠ w.heap.size + 1 by omega)
  have e4 := finW_rid (k := ⟨#[]⟩) (s := ⟨#[]⟩) (v := ⟨#[]⟩) (p := p) (c := c) HT2.out.2.2 (show w.heap.size + 1 ≠ w.heap.size by omega)
  have eb := finW_below (g3 := w.heap.size) (g4 := w.heap.size + 1) (k := ⟨#[]⟩) (s := ⟨#[]⟩) (v := ⟨#[]⟩) (p := p) (c := c) HT2.out.1 (Nat.le_refl _) (by omega)
  clear x0 x1 x2 x3 x4 y0 y1 y2 y3 y4
  change bodyPost _ _ _ _ _ (finW W3 w.heap.size (w.heap.size + 1) ⟨#[]⟩ ⟨#[]⟩ ⟨#[]⟩ p c).drew
  generalize finW W3 w.heap.size (w.heap.size + 1) ⟨#[]⟩ ⟨#[]⟩ ⟨#[]⟩ p c = W4 at *
  refine bodyPost_ret (rd_end' (a := 2) (er := 0) rfl rfl rfl rfl e3 e4) rfl ?_
  exact ⟨rfl, eb.drew⟩

theorem read_any (w : World) (v : Value) (l : List Int) (h : SlK .u8 w v l) : Calls Tryz.prog 111 #[v] w (RdPost w l) := by
  have hok := h.ok
  by_cases hl0 : l = []
  · subst hl0
    obtain ⟨p, cap, rfl, _⟩ := h
    exact (read_nil w p cap).mono fun e w' hh => ⟨_, _, _, _, _, _, _, .empty (.inl rfl), hh⟩
  by_cases hl : l.length = 26
  · obtain ⟨b, off, cap, rfl, h1, h2, h3⟩ := h.pt hl0
    rw [hl] at h1 ⊢
    have hP : Pt w (.slice (some ⟨b, off, none⟩) 26 cap) l := ⟨b, off, cap, by rw [hl], by omega, h2, h3⟩
    obtain ⟨x, L, rfl⟩ : ∃ x L, l = x :: L := by cases l with
      | nil => exact absurd rfl hl0
      | cons x L => exact ⟨x, L, rfl⟩
    have hL : L.length = 25 := by simpa using hl
    have hP1 : Pt w (.slice (some ⟨b, off + 1, none⟩) 25 (cap - 1)) L := hP.cut (k := 1) (by omega) (fun _ => rfl) (by omega) (by omega)
    have hne : x ≠ 0 → x :: L ≠ z26 := fun h e => by have := congrArg (·.head?) e; simp [z26] at this; exact h this
    have hnr : x ≠ 1 → ∀ k s v, mayB k s v = true → x :: L ≠ rowL k s v := fun h k s v _ e => by rw [rowL_cons] at e; injection e with e; exact h e
    have hns : x ≠ 2 → ∀ p c, placeB p c = true → x :: L ≠ stubL p c := fun h p c _ e => by have := congrArg (·.head?) e; simp [stubL] at this; exact h this
    by_cases hx0 : x = 0
    · subst hx0
      cases hz : zerosB (0 :: L)
      · refine (read_0 w b off cap L hP false hz 4 rfl).mono fun e w' hh => ⟨_, _, _, _, _, _, _, .none hl0 (fun e => ?_) (hnr (by decide)) (hns (by decide)), hh⟩
        rw [e] at hz; exact absurd hz (by decide)
      · exact (read_0 w b off cap L hP true hz 0 rfl).mono fun e w' hh => ⟨_, _, _, _, _, _, _, .empty (.inr (by have := zeros_rep hz; rw [hl] at this; exact this)), hh⟩
    by_cases hx1 : x = 1
    · subst hx1
      obtain ⟨c1, t1, c2, t2, c3, t3, P⟩ := prt_of hL (fun x hx => hok x (by simp [hx]))
      cases hq : (partB c1 t1 8 && partB c2 t2 6 && partB c3 t3 8) with
      | false =>
        refine (read_1f w b off cap L hP (fun W hW => readRow_no W _ P (hP1.below hW (Nat.le_refl _)) hq)).mono fun e w' hh => ⟨_, _, _, _, _, _, _, .none hl0 (hne (by decide)) (fun k s v hm e => ?_) (hns (by decide)), hh⟩
        rw [(P.of_row hm e).1] at hq; cases hq
      | true =>
        have hq' : (partB c1 t1 8 = true ∧ partB c2 t2 6 = true) ∧ partB c3 t3 8 = true := by simpa using hq
        obtain ⟨⟨b1, b2⟩, b3⟩ := hq'
        cases hm : mayB (partS c1 t1) (partS c2 t2) (partS c3 t3) with
        | false =>
          refine (read_1f w b off cap L hP (fun W hW => (readRow_ok W _ P (hP1.below hW (Nat.le_refl _)) b1 b2 b3 false hm).mono fun e w' hh => RowNo.of hh)).mono fun e w' hh => ⟨_, _, _, _, _, _, _, .none hl0 (hne (by decide)) (fun k s v hm' e => ?_) (hns (by decide)), hh⟩
          obtain ⟨_, rfl, rfl, rfl⟩ := P.of_row hm' e
          rw [hm] at hm'; cases hm'
        | true =>
          exact (read_1t w b off cap L hP _ _ _ (fun W hW => readRow_ok W _ P (hP1.below hW (Nat.le_refl _)) b1 b2 b3 true hm)).mono fun e w' hh => ⟨_, _, _, _, _, _, _, .row _ _ _ hm (P.row b1 b2 b3), hh⟩
    by_cases hx2 : x = 2
    · subst hx2
      obtain ⟨p, c, r, rfl⟩ : ∃ p c r, L = p :: c :: r := by
        match L, hL with
        | p :: c :: r, _ => exact ⟨p, c, r, rfl⟩
      have hr : r.length = 23 := by simpa using hL
      have hS := fun W (hW : Below w.heap.size w W) => readStub_any W b (off + 1) (cap - 1) p c r (hP1.below hW (Nat.le_refl _)) (fun x hx => hok x (List.mem_cons_of_mem _ hx)) (placeB p c) (zerosB r) rfl rfl
      cases hq : (placeB p c && zerosB r) with
      | false =>
        rw [hq] at hS
        refine (read_2f w b off cap _ hP p c hS).mono fun e w' hh => ⟨_, _, _, _, _, _, _, .none hl0 (hne (by decide)) (hnr (by decide)) (fun p' c' hp e => ?_), hh⟩
        have e1 : p = p' ∧ c = c' ∧ r = List.replicate 23 0 := by simpa [stubL] using e
        obtain ⟨rfl, rfl, rfl⟩ := e1
        rw [hp] at hq
        exact absurd hq (by decide)
      | true =>
        rw [hq] at hS
        have hq' : placeB p c = true ∧ zerosB r = true := by simpa using hq
        exact (read_2t w b off cap _ hP p c hS).mono fun e w' hh => ⟨_, _, _, _, _, _, _, .stub p c hq'.1 (by have := zeros_rep hq'.2; rw [hr] at this; rw [this]; rfl), hh⟩
    exact (read_x w b off cap x L hP hx0 hx1 hx2).mono fun e w' hh => ⟨_, _, _, _, _, _, _, .none hl0 (hne hx0) (hnr hx1) (hns hx2), hh⟩
  · obtain ⟨p, cap, rfl, _⟩ := h
    exact (read_len w p l.length cap (by simpa using hl0) hl).mono fun e w' hh => ⟨_, _, _, _, _, _, _, .none hl0 (fun e => hl (by rw [e]; rfl)) (fun k s v hm e => hl (by rw [e, rowL_len hm])) (fun p c _ e => hl (by rw [e]; rfl)), hh⟩
end Go.Proofs.YtljbhdldfffpfaaGreat.Lf
