/- readRow. -/
import Derived.Test.YtmijdjlpfjfjoaaText
namespace Go.Proofs.Ytmijdjlpfjfjoaa
open Go.RowKit

/-- The parts of a row's bytes behind its kind. -/
structure Prt (L : List Int) (c1 : Int) (t1 : List Int) (c2 : Int) (t2 : List Int) (c3 : Int) (t3 : List Int) : Prop where
  e1 : L = c1 :: t1
  e2 : t1.drop 8 = c2 :: t2
  e3 : t2.drop 6 = c3 :: t3
  l1 : t1.length = 24
  l2 : t2.length = 15
  l3 : t3.length = 8
  o1 : bytesOk (c1 :: t1)
  o2 : bytesOk (c2 :: t2)
  o3 : bytesOk (c3 :: t3)
theorem prt_of {L : List Int} (h : L.length = 25) (ho : bytesOk L) : ∃ c1 t1 c2 t2 c3 t3, Prt L c1 t1 c2 t2 c3 t3 := by
  obtain ⟨c1, t1, rfl⟩ : ∃ c t, L = c :: t := by cases L with
    | nil => simp at h
    | cons c t => exact ⟨c, t, rfl⟩
  have h1 : t1.length = 24 := by simpa using h
  have g2 : (t1.drop 8).length = 16 := by rw [List.length_drop]; omega
  obtain ⟨c2, t2, e2⟩ : ∃ c t, t1.drop 8 = c :: t := by cases hd : t1.drop 8 with
    | nil => rw [hd] at g2; simp at g2
    | cons c t => exact ⟨c, t, rfl⟩
  have h2 : t2.length = 15 := by rw [e2] at g2; simpa using g2
  have g3 : (t2.drop 6).length = 9 := by rw [List.length_drop]; omega
  obtain ⟨c3, t3, e3⟩ : ∃ c t, t2.drop 6 = c :: t := by cases hd : t2.drop 6 with
    | nil => rw [hd] at g3; simp at g3
    | cons c t => exact ⟨c, t, rfl⟩
  have h3 : t3.length = 8 := by rw [e3] at g3; simpa using g3
  have o1 : bytesOk t1 := fun x hx => ho x (by simp [hx])
  have o2 : bytesOk (c2 :: t2) := by rw [← e2]; exact ok_drop o1 8
  have o3 : bytesOk (c3 :: t3) := by rw [← e3]; exact ok_drop (fun x hx => o2 x (by simp [hx])) 6
  exact ⟨c1, t1, c2, t2, c3, t3, rfl, e2, e3, h1, h2, h3, ho, o2, o3⟩

def RowIs (w : World) (k s v : ByteArray) (b : Bool) (e : Ending) (w' : World) : Prop := e = .returned (.tuple #[.agg #[.string k, .string s, .string v], .bool b]) ∧ Below w.heap.size w w'
def RowNo (w : World) (e : Ending) (w' : World) : Prop := ∃ k s v, e = .returned (.tuple #[.agg #[.string k, .string s, .string v], .bool false]) ∧ Below w.heap.size w w'


end Go.Proofs.Ytmijdjlpfjfjoaa
