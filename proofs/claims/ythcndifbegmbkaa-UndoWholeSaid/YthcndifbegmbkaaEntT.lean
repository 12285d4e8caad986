/- decode; Take. -/
import Derived.Test.YthcndifbegmbkaaEntY
namespace Go.Proofs.Ythcndifbegmbkaa
open Go.RowKit

def DecPost (w : World) (l : List Int) (e : Ending) (w' : World) : Prop := ∃ A1 n1 c1 A2 n2 c2 A3 n3 c3 A4 n4 c4 A5 n5 c5 A6 n6 c6, e = .returned (.agg (entC (entR l) (.slice A1 n1 c1) (.slice A2 n2 c2) (.slice A3 n3 c3) (.slice A4 n4 c4) (.slice A5 n5 c5) (.slice A6 n6 c6))) ∧ EntF w' (w.heap.size + 1) (.slice A1 n1 c1) (.slice A2 n2 c2) (.slice A3 n3 c3) (.slice A4 n4 c4) (.slice A5 n5 c5) (.slice A6 n6 c6) (entR l) ∧ Below w.heap.size w w'

theorem EntF.low {w : World} {B B' : Nat} {s1 s2 s3 s4 s5 s6 : Value} {e : Ent} (h : EntF w B s1 s2 s3 s4 s5 s6 e) (hB : B' ≤ B) : EntF w B' s1 s2 s3 s4 s5 s6 e :=
  ⟨⟨h.old.1, fun b hb => Nat.le_trans hB (h.old.2 b hb)⟩, ⟨h.new.1, fun b hb => Nat.le_trans hB (h.new.2 b hb)⟩, ⟨h.moves.1, fun b hb => Nat.le_trans hB (h.moves.2 b hb)⟩, ⟨h.lives.1, fun b hb => Nat.le_trans hB (h.lives.2 b hb)⟩, ⟨h.dirty.1, fun b hb => Nat.le_trans hB (h.dirty.2 b hb)⟩, h.opens.low hB⟩
theorem entC_all (e : Ent) (A1 A2 A3 A4 A5 A6 : Option Addr) (n1 c1 n2 c2 n3 c3 n4 c4 n5 c5 n6 c6 : Nat) : (entC e (.slice A1 n1 c1) (.slice A2 n2 c2) (.slice A3 n3 c3) (.slice A4 n4 c4) (.slice A5 n5 c5) (.slice A6 n6 c6)).all (·.oneCell') = true := by simp [entC, Value.oneCell']
def ent0 : Array Value := #[.int .i64 0, .int .i64 0, .int .i64 0, .int .i64 0, .int .i64 0, .int .i64 0, .int .i64 0, .int .i64 0, .int .i64 0, .int .i64 0, .slice none 0 0, .slice none 0 0, .slice none 0 0, .slice none 0 0, .slice none 0 0, .slice none 0 0]
theorem setRow_far (w : World) (g : Nat) (cs : Array Value) {k : Nat} (h : k ≠ g) : (w.setRow g cs).heap[k]? = w.heap[k]? := setRow_other _ _ _ _ h
theorem setRow_size (w : World) (g : Nat) (cs : Array Value) : (w.setRow g cs).heap.size = w.heap.size := by simp [World.setRow]
theorem setRow_below (w : World) (g : Nat) (cs : Array Value) {B : Nat} (hB : B ≤ g) : Below B w (w.setRow g cs) := ⟨rfl, rfl, rfl, by rw [setRow_size]; exact Nat.le_refl _, fun k hk => setRow_far _ _ _ (by omega)⟩
theorem Kpt.row {g B : Nat} (w : World) (cs : Array Value) (hB : g < B) : Kpt B w (w.setRow g cs) := ⟨by rw [setRow_size]; exact Nat.le_refl _, fun b hb _ => setRow_far _ _ _ (by omega)⟩

end Go.Proofs.Ythcndifbegmbkaa
namespace Go.Proofs.Ythcndifbegmbkaa
open Go.RowKit

theorem bstr_eqlE {l l' : List Int} (h : bytesOk l) (h' : bytesOk l') : ((bstr l).toList == (bstr l').toList) = decide (l = l') := by
  rw [Bool.eq_iff_iff, beq_iff_eq, toList_eq, toList_eq, decide_eq_true_eq]
  constructor
  · intro e
    refine bstr_inj h h' ?_
    generalize bstr l = x at *
    generalize bstr l' = y at *
    cases x; cases y
    simp only at e
    congr
    exact Array.ext' e
  · rintro rfl; rfl
theorem ret_bE {a b : Bool} (h : a = b) : Ending.returned (.bool a) = .returned (.bool b) := by rw [h]


theorem flat_ok {α : Type} {f : α → List Int} (hf : ∀ x, bytesOk (f x)) (xs : List α) : bytesOk (xs.flatMap f) := by
  intro y hy
  obtain ⟨x, _, h⟩ := List.mem_flatMap.1 hy
  exact hf x y h
theorem app_ok {a b : List Int} (h : bytesOk a) (k : bytesOk b) : bytesOk (a ++ b) := fun x hx => (List.mem_append.1 hx).elim (h x) (k x)
theorem lstL_ok {α : Type} {f : α → List Int} (hf : ∀ x, bytesOk (f x)) (xs : List α) : bytesOk (lstL f xs) := by
  unfold lstL
  split
  · exact app_ok (numL_ok _ _) (flat_ok hf xs)
  · intro x hx; cases hx
theorem plL_ok (a c : Int) : bytesOk (plL a c) := app_ok (numL_ok _ _) (numL_ok _ _)
theorem mvL_ok (m : Mv) : bytesOk (mvL m) := app_ok (plL_ok _ _) (plL_ok _ _)
theorem lvL_ok (m : Lv) : bytesOk (lvL m) := app_ok (app_ok (app_ok (numL_ok _ _) (numL_ok _ _)) (numL_ok _ _)) (numL_ok _ _)
theorem dtL_ok (m : Dt) : bytesOk (dtL m) := app_ok (numL_ok _ _) (numL_ok _ _)
theorem opL_ok (m : Opn) : bytesOk (opL m) := app_ok (app_ok (numL_ok _ _) (numL_ok _ _)) (lstL_ok mvL_ok _)
theorem celL_ok {c : List Int} (h : bytesOk c) : bytesOk (celL c) := by
  unfold celL
  split
  · exact app_ok (numL_ok _ _) h
  · intro x hx; cases hx
theorem entL_okE {e : Ent} (ho : bytesOk e.old) (hn : bytesOk e.new) : bytesOk (entL e) := by
  unfold entL
  exact app_ok (app_ok (app_ok (app_ok (app_ok (app_ok (app_ok (app_ok (app_ok (app_ok (app_ok (app_ok (app_ok (numL_ok _ _) (numL_ok _ _)) (numL_ok _ _)) (numL_ok _ _)) (numL_ok _ _)) (numL_ok _ _)) (plL_ok _ _)) (plL_ok _ _)) (celL_ok ho)) (celL_ok hn)) (lstL_ok mvL_ok _)) (lstL_ok lvL_ok _)) (lstL_ok dtL_ok _)) (lstL_ok opL_ok _)

def tkB (l : List Int) : Bool := entB (entR l) && decide (l = entL (entR l))
def ent00 : Ent := ⟨0, 0, 0, 0, 0, 0, 0, 0, 0, 0, [], [], [], [], [], []⟩
def tkE (l : List Int) : Ent := if tkB l = true then entR l else ent00
def tkN (l : List Int) : Int := if tkB l = true then 0 else 4
theorem tk_yes {l : List Int} (h : tkB l = true) : tkE l = entR l ∧ tkN l = 0 := ⟨if_pos h, if_pos h⟩
theorem tk_no {l : List Int} (h : tkB l = false) : tkE l = ent00 ∧ tkN l = 4 := by unfold tkE tkN; rw [h]; exact ⟨rfl, rfl⟩
theorem setRow_alloc (w : World) (old cs : Array Value) (t : TypeId) : (w.alloc (.cells old t)).setRow w.heap.size cs = w.alloc (.cells cs t) := by
  have h := setRow_heap (w.alloc (.cells old t)) w.heap.size old cs t (0, 0) (heap_alloc_new w _)
  have e2 : ((w.alloc (.cells old t)).setRow w.heap.size cs).heap = (w.alloc (.cells cs t)).heap := by
    apply Array.ext_getElem?
    intro i
    by_cases hi : i = w.heap.size
    · subst hi
      rw [h, heap_alloc_new]
    · rw [setRow_far _ _ _ hi]
      show (w.heap.push _)[i]? = (w.heap.push _)[i]?
      rw [Array.getElem?_push, Array.getElem?_push, if_neg hi, if_neg hi]
  have e3 : ∀ a b : World, a.heap = b.heap → a.tape = b.tape → a.drawn = b.drawn → a.os = b.os → a.output = b.output → a = b := by
    intro a b h1 h2 h3 h4 h5
    cases a; cases b
    simp only at h1 h2 h3 h4 h5
    subst h1 h2 h3 h4 h5
    rfl
  exact e3 _ _ e2 rfl rfl rfl rfl
theorem ent0_F (w : World) (B : Nat) : EntF w B (.slice none 0 0) (.slice none 0 0) (.slice none 0 0) (.slice none 0 0) (.slice none 0 0) (.slice none 0 0) ent00 := by
  have h1 : SlF w B (.slice none 0 0) [] := ⟨slK_nil w, fun b hb => by cases hb⟩
  have h2 : ∀ k, ElF w B (.slice none 0 0) k [] := fun k => ⟨⟨none, 0, rfl, Nat.le_refl _, fun _ => rfl, fun a e => by cases e⟩, fun b hb => by cases hb⟩
  exact ⟨h1, h1, h2 4, h2 4, h2 2, ⟨[], rfl, (h2 3).1, (h2 3).2, fun o ho => by cases ho⟩⟩

def TkPost (w : World) (l : List Int) (e : Ending) (w' : World) : Prop := ∃ A1 n1 c1 A2 n2 c2 A3 n3 c3 A4 n4 c4 A5 n5 c5 A6 n6 c6, e = .returned (.tuple #[.agg (entC (tkE l) (.slice A1 n1 c1) (.slice A2 n2 c2) (.slice A3 n3 c3) (.slice A4 n4 c4) (.slice A5 n5 c5) (.slice A6 n6 c6)), .int .i64 (tkN l)]) ∧ EntF w' (w.heap.size + 1) (.slice A1 n1 c1) (.slice A2 n2 c2) (.slice A3 n3 c3) (.slice A4 n4 c4) (.slice A5 n5 c5) (.slice A6 n6 c6) (tkE l) ∧ Below w.heap.size w w'


end Go.Proofs.Ythcndifbegmbkaa
