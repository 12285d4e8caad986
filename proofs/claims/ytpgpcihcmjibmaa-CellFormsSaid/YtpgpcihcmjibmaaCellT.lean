/- Row, Stub and Read in one word each; begun. -/
import Derived.Test.YtpgpcihcmjibmaaReadR
namespace Go.Proofs.Ytpgpcihcmjibmaa
open Go.RowKit

def rowE (k s v : ByteArray) : Int := if mayB k s v = true then 0 else 1
def rowP (k s v : ByteArray) : List Int := if mayB k s v = true then rowL k s v else []
def stubE (p c : Int) : Int := if placeB p c = true then 0 else 1
def stubP (p c : Int) : List Int := if placeB p c = true then stubL p c else []

theorem row_T (w : World) (k s v : ByteArray) : Calls Try.prog 9 #[.agg #[.string k, .string s, .string v]] w fun e w' => ∃ x, e = .returned (.tuple #[x, .int .i64 (rowE k s v)]) ∧ SlK .u8 w' x (rowP k s v) ∧ Below w.heap.size w w' := by
  cases hm : mayB k s v with
  | true =>
    refine (row_ok w k s v hm).mono ?_
    rintro e w' ⟨x, rfl, ho, hb⟩
    exact ⟨x, by rw [rowE, if_pos hm], by rw [rowP, if_pos hm]; exact own_slK ho (rowL_ok hm), hb⟩
  | false =>
    refine (row_bad w k s v hm).mono ?_
    rintro e w' ⟨rfl, hb⟩
    exact ⟨_, by rw [rowE, if_neg (by rw [hm]; decide)], by rw [rowP, if_neg (by rw [hm]; decide)]; exact slK_nil _, hb⟩
theorem rrow_T (w : World) (k s v : ByteArray) : Calls Try.prog 10 #[.agg #[.string k, .string s, .string v]] w fun e w' => ∃ x, e = .returned (.tuple #[x, .int .i64 (rowE k s v)]) ∧ SlK .u8 w' x (rowP k s v) ∧ Below w.heap.size w w' := by
  cases hm : mayB k s v with
  | true =>
    refine (rrow_ok w k s v hm).mono ?_
    rintro e w' ⟨x, rfl, ho, hb⟩
    exact ⟨x, by rw [rowE, if_pos hm], by rw [rowP, if_pos hm]; exact own_slK ho (rowL_ok hm), hb⟩
  | false =>
    refine (rrow_bad w k s v hm).mono ?_
    rintro e w' ⟨rfl, hb⟩
    exact ⟨_, by rw [rowE, if_neg (by rw [hm]; decide)], by rw [rowP, if_neg (by rw [hm]; decide)]; exact slK_nil _, hb⟩
theorem stub_T (w : World) (p c : Int) : Calls Try.prog 11 #[.agg #[.int .i64 p, .int .i64 c]] w fun e w' => ∃ x, e = .returned (.tuple #[x, .int .i64 (stubE p c)]) ∧ SlK .u8 w' x (stubP p c) ∧ Below w.heap.size w w' := by
  cases hm : placeB p c with
  | true =>
    refine (stub_ok w p c hm).mono ?_
    rintro e w' ⟨g, rfl, _, kg, hb⟩
    exact ⟨_, by rw [stubE, if_pos hm], by rw [stubP, if_pos hm]; exact (kg.pt (n := 26) (c := 26) rfl (Nat.le_refl _)).slK (stubL_ok hm), hb⟩
  | false =>
    refine (stub_bad w p c hm).mono ?_
    rintro e w' ⟨rfl, hb⟩
    exact ⟨_, by rw [stubE, if_neg (by rw [hm]; decide)], by rw [stubP, if_neg (by rw [hm]; decide)]; exact slK_nil _, hb⟩
theorem rstub_T (w : World) (p c : Int) : Calls Try.prog 12 #[.agg #[.int .i64 p, .int .i64 c]] w fun e w' => ∃ x, e = .returned (.tuple #[x, .int .i64 (stubE p c)]) ∧ SlK .u8 w' x (stubP p c) ∧ Below w.heap.size w w' := by
  cases hm : placeB p c with
  | true =>
    refine (rstub_ok w p c hm).mono ?_
    rintro e w' ⟨x, rfl, ho, hb⟩
    exact ⟨x, by rw [stubE, if_pos hm], by rw [stubP, if_pos hm]; exact own_slK ho (stubL_ok hm), hb⟩
  | false =>
    refine (rstub_bad w p c hm).mono ?_
    rintro e w' ⟨rfl, hb⟩
    exact ⟨_, by rw [stubE, if_neg (by rw [hm]; decide)], by rw [stubP, if_neg (by rw [hm]; decide)]; exact slK_nil _, hb⟩

theorem read_row (w : World) (x : Value) {k s v : ByteArray} (hm : mayB k s v = true) (h : SlK .u8 w x (rowL k s v)) : Calls Try.prog 14 #[x] w (RdIs w 1 k s v 0 0 0) := by
  refine (read_any w x _ h).mono ?_
  rintro e w' ⟨a, k', s', v', p, c, er, hr, rfl, hb⟩
  obtain ⟨rfl, rfl, rfl, rfl, rfl, rfl, rfl⟩ := hr.det (.row k s v hm rfl)
  exact ⟨rfl, hb⟩
theorem read_stub (w : World) (x : Value) {p c : Int} (hm : placeB p c = true) (h : SlK .u8 w x (stubL p c)) : Calls Try.prog 14 #[x] w (RdIs w 2 ⟨#[]⟩ ⟨#[]⟩ ⟨#[]⟩ p c 0) := by
  refine (read_any w x _ h).mono ?_
  rintro e w' ⟨a, k', s', v', p', c', er, hr, rfl, hb⟩
  obtain ⟨rfl, rfl, rfl, rfl, rfl, rfl, rfl⟩ := hr.det (.stub p c hm rfl)
  exact ⟨rfl, hb⟩

def tk : ByteArray := ⟨#[107]⟩
def tv : ByteArray := ⟨#[118]⟩
set_option maxRecDepth 100000 in
set_option maxHeartbeats 2000000 in
theorem begun_true (w : World) : Calls Try.prog 8 #[] w fun e w' => e = .returned (.bool true) ∧ Below w.heap.size w w' := by
  have hm : mayB ⟨#[107]⟩ ⟨#[]⟩ ⟨#[118]⟩ = true := by decide
  have hm0 : mayB ⟨#[]⟩ ⟨#[]⟩ ⟨#[]⟩ = false := by decide
  have hp : placeB 3 1 = true := by decide
  have HM := Lib.hid hm
  have HM0 := Lib.hid hm0
  have HPl := Lib.hid hp
  clear hm hm0 hp
  go_enter Try.func8, Try.ntmps8
  go_wp2_with fail
  refine (row_ok w _ _ _ HM.out).mono ?_
  rintro e w1 ⟨x1, rfl, ho1, hb1⟩
  have s1 := own_slK ho1 (rowL_ok HM.out)
  obtain ⟨p1, c1, rfl, -⟩ := id s1
  have hl1 : (rowL ⟨#[107]⟩ ⟨#[]⟩ ⟨#[118]⟩).length = 26 := rowL_len HM.out
  rw [hl1] at s1 ⊢
  have S1 := Lib.hid s1
  have HB1 := Lib.hid hb1
  clear s1 hb1 ho1 hl1
  go_wp2_with fail
  refine (read_row w1 _ HM.out S1.out).mono ?_
  rintro e w2 ⟨rfl, hb2⟩
  have hB2 := HB1.out.trans (hb2.mono HB1.out.size)
  have kr := heap_alloc_new w2 (rowO ⟨#[107]⟩ ⟨#[]⟩ ⟨#[118]⟩)
  have kr2 : ((w2.alloc (rowO ⟨#[107]⟩ ⟨#[]⟩ ⟨#[118]⟩)).alloc (ridO 0 0)).heap[w2.heap.size]? = some (rowO ⟨#[107]⟩ ⟨#[]⟩ ⟨#[118]⟩) := (Below.heap_alloc _ _ _ (by simp)).trans kr
  have hB3 : Below w.heap.size w ((w2.alloc (rowO ⟨#[107]⟩ ⟨#[]⟩ ⟨#[118]⟩)).alloc (ridO 0 0)) := (hB2.alloc hB2.size _).alloc (by have := hB2.size; simp; omega) _
  have KR := Lib.hid kr2
  have HB3 := Lib.hid hB3
  have HZ2 := Lib.hid hB2.size
  clear S1 HB1 hb2 hB2 kr kr2 hB3
  go_upto_region 3 with (fail)
  show Code.wp _ _ _ _ ((w2.alloc (rowO ⟨#[107]⟩ ⟨#[]⟩ ⟨#[118]⟩)).alloc (ridO 0 0))
  generalize (w2.alloc (rowO ⟨#[107]⟩ ⟨#[]⟩ ⟨#[118]⟩)).alloc (ridO 0 0) = w3 at *
  generalize w2.heap.size = g4 at *
  go_wp2_with fail
  refine (stub_ok w3 _ _ HPl.out).mono ?_
  rintro e w4 ⟨g, rfl, hg, kg, hb4⟩
  have s1 := (kg.pt (n := 26) (c := 26) rfl (Nat.le_refl _)).slK (stubL_ok HPl.out)
  have hlt := (Array.getElem?_eq_some_iff.1 KR.out).1
  have KR4 := Lib.hid ((hb4.block _ hlt).trans KR.out)
  have HB4 := Lib.hid (HB3.out.trans (hb4.mono HB3.out.size))
  have S1 := Lib.hid s1
  clear KR HB3 s1 hb4 kg hg hlt
  go_wp2_with fail
  refine (read_stub w4 _ HPl.out S1.out).mono ?_
  rintro e w5 ⟨rfl, hb5⟩
  have hlt := (Array.getElem?_eq_some_iff.1 KR4.out).1
  have KR5 := Lib.hid ((hb5.block _ hlt).trans KR4.out)
  have HB5 := Lib.hid (HB4.out.trans (hb5.mono HB4.out.size))
  clear KR4 HB4 hb5 hlt S1
  have hlt := (Array.getElem?_eq_some_iff.1 KR5.out).1
  have kr6 : ((w5.alloc (rowO ⟨#[]⟩ ⟨#[]⟩ ⟨#[]⟩)).alloc (ridO 3 1)).heap[g4]? = some (rowO ⟨#[107]⟩ ⟨#[]⟩ ⟨#[118]⟩) := ((Below.heap_alloc _ _ _ (by simp; omega)).trans (Below.heap_alloc _ _ _ hlt)).trans KR5.out
  have kd6 := alloc_two w5 (rowO ⟨#[]⟩ ⟨#[]⟩ ⟨#[]⟩) (ridO 3 1)
  have hB6 : Below w.heap.size w ((w5.alloc (rowO ⟨#[]⟩ ⟨#[]⟩ ⟨#[]⟩)).alloc (ridO 3 1)) := (HB5.out.alloc HB5.out.size _).alloc (by have := HB5.out.size; simp; omega) _
  go_upto_region 5 with (fail)
  show Code.wp _ _ _ _ ((w5.alloc (rowO ⟨#[]⟩ ⟨#[]⟩ ⟨#[]⟩)).alloc (ridO 3 1))
  generalize (w5.alloc (rowO ⟨#[]⟩ ⟨#[]⟩ ⟨#[]⟩)).alloc (ridO 3 1) = w6 at *
  generalize w5.heap.size = g5 at *
  have x0 := (cell_of (cs := #[.string ⟨#[107]⟩, .string ⟨#[]⟩, .string ⟨#[118]⟩]) kr6 0).1
  have x1 := (cell_of (cs := #[.string ⟨#[107]⟩, .string ⟨#[]⟩, .string ⟨#[118]⟩]) kr6 1).1
  have x2 := (cell_of (cs := #[.string ⟨#[107]⟩, .string ⟨#[]⟩, .string ⟨#[118]⟩]) kr6 2).1
  have y0 := (cell_of (cs := #[.int .i64 3, .int .i64 1]) kd6 0).1
  have HB6 := Lib.hid hB6
  clear hB6 kr6 kd6 KR5 HB5 hlt
  have hm1 : Hid (∀ W, Calls Try.prog 16 #[.agg #[.string ⟨#[107]⟩, .string ⟨#[]⟩, .string ⟨#[118]⟩]] W fun e w' => e = .returned (.bool true) ∧ w' = W.alloc (rowO ⟨#[107]⟩ ⟨#[]⟩ ⟨#[118]⟩)) := fun W => by
    have := may_any W ⟨#[107]⟩ ⟨#[]⟩ ⟨#[118]⟩
    rw [HM.out] at this; exact this
  have hm2 : Hid (∀ W, Calls Try.prog 16 #[.agg #[.string ⟨#[]⟩, .string ⟨#[]⟩, .string ⟨#[]⟩]] W fun e w' => e = .returned (.bool false) ∧ w' = W.alloc (rowO ⟨#[]⟩ ⟨#[]⟩ ⟨#[]⟩)) := fun W => by
    have := may_any W ⟨#[]⟩ ⟨#[]⟩ ⟨#[]⟩
    rw [HM0.out] at this; exact this
  go_wp2_with fail
  refine (hm1.out _).mono ?_
  rintro e w' ⟨rfl, rfl⟩
  go_wp2_with fail
  refine (hm2.out _).mono ?_
  rintro e w' ⟨rfl, rfl⟩
  go_wp2
  go_ret
  exact ⟨rfl, (HB6.out.alloc HB6.out.size _).alloc (by have := HB6.out.size; simp; omega) _⟩
end Go.Proofs.Ytpgpcihcmjibmaa
