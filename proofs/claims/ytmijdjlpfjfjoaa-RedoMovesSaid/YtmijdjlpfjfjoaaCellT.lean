/- Row, Stub and Read in one word each; begun. -/
import Derived.Test.YtmijdjlpfjfjoaaReadR
namespace Go.Proofs.Ytmijdjlpfjfjoaa
open Go.RowKit

def rowE (k s v : ByteArray) : Int := if mayB k s v = true then 0 else 1

def rowP (k s v : ByteArray) : List Int := if mayB k s v = true then rowL k s v else []

def stubE (p c : Int) : Int := if placeB p c = true then 0 else 1

def stubP (p c : Int) : List Int := if placeB p c = true then stubL p c else []

theorem rrow_T (w : World) (k s v : ByteArray) : Calls Try.prog 15 #[.agg #[.string k, .string s, .string v]] w fun e w' => ∃ x, e = .returned (.tuple #[x, .int .i64 (rowE k s v)]) ∧ SlK .u8 w' x (rowP k s v) ∧ Below w.heap.size w w' := by
  cases hm : mayB k s v with
  | true =>
    refine (rrow_ok w k s v hm).mono ?_
    rintro e w' ⟨x, rfl, ho, hb⟩
    exact ⟨x, by rw [rowE, if_pos hm], by rw [rowP, if_pos hm]; exact own_slK ho (rowL_ok hm), hb⟩
  | false =>
    refine (rrow_bad w k s v hm).mono ?_
    rintro e w' ⟨rfl, hb⟩
    exact ⟨_, by rw [rowE, if_neg (by rw [hm]; decide)], by rw [rowP, if_neg (by rw [hm]; decide)]; exact slK_nil _, hb⟩

theorem rstub_T (w : World) (p c : Int) : Calls Try.prog 17 #[.agg #[.int .i64 p, .int .i64 c]] w fun e w' => ∃ x, e = .returned (.tuple #[x, .int .i64 (stubE p c)]) ∧ SlK .u8 w' x (stubP p c) ∧ Below w.heap.size w w' := by
  cases hm : placeB p c with
  | true =>
    refine (rstub_ok w p c hm).mono ?_
    rintro e w' ⟨x, rfl, ho, hb⟩
    exact ⟨x, by rw [stubE, if_pos hm], by rw [stubP, if_pos hm]; exact own_slK ho (stubL_ok hm), hb⟩
  | false =>
    refine (rstub_bad w p c hm).mono ?_
    rintro e w' ⟨rfl, hb⟩
    exact ⟨_, by rw [stubE, if_neg (by rw [hm]; decide)], by rw [stubP, if_neg (by rw [hm]; decide)]; exact slK_nil _, hb⟩



end Go.Proofs.Ytmijdjlpfjfjoaa
