/- The writer: places, cells, moves, lives, dirty pages; The writer: elements of lists. -/
import Derived.Test.YthcndifbegmbkaaEntN
import Derived.Laws.AppendOwnNone
import Derived.Maps.AppendAt
namespace Go.Proofs.Ythcndifbegmbkaa
open Go.RowKit

def I64 (n : Int) : Prop := -9223372036854775808 ≤ n ∧ n ≤ 9223372036854775807




theorem or_not2 (a b c : Bool) : ((a || !b) || !c) = (a || !(b && c)) := by cases a <;> cases b <;> cases c <;> rfl
theorem plL_len (a c : Int) : (plL a c).length = 2 := by simp [plL, numL_len]


theorem run_append_sl {W : World} {B n : Nat} {v sv : Value} {xs l : List Int} (hown : W.ownsRow B 5 1 v n (byteV xs)) (hs : SlW W sv l) (hn : n + l.length ≤ 200000) (hB : B ≤ W.heap.size) :
    ∃ v' w', (∀ ty, (Builtin.append_ #[24, 24] ty #[v, sv]).run Try.prog W = .ok v' w') ∧ w'.ownsRow B 5 1 v' (n + l.length) (byteV (xs ++ l)) ∧ W.grownBy w' v.ownBlock ∧ (v'.ownBlock = v.ownBlock ∨ ∀ k, v'.ownBlock = some k → W.heap.size ≤ k) := by
  obtain ⟨i, hi, hz0, hz1, hz2⟩ := info_parts infoU8
  obtain ⟨⟨p, cap, rfl, h1, h3⟩, h2, hk⟩ := hs
  cases p with
  | none =>
    obtain ⟨rfl, rfl⟩ := h3 rfl
    refine ⟨v, W, fun ty => run_append_owned_none W B 24 ty 5 i 1 Try.underlying24 hi v n _ hown, by simpa using hown, ⟨rfl, rfl, rfl, Nat.le_refl _, fun _ _ _ => rfl⟩, .inl rfl⟩
  | some a =>
    have hnews : ∀ j u, (byteV l)[j]? = some u → W.cell? (a.add j) = some u := fun j u hu => by
      have hne : l ≠ [] := fun e => by rw [e] at hu; simp [byteV] at hu
      obtain ⟨q, c', hva, _, _, _, h4⟩ := hk hne
      have hqa : q = some a := (Value.slice.inj hva).1.symm
      obtain ⟨hsp, hbl, hc⟩ := h4 a hqa
      obtain ⟨ab, ao, asp⟩ := a
      cases hsp
      have hj : j < l.length := by have := (List.getElem?_eq_some_iff.1 hu).1; simpa [byteV] using this
      have e2 : (⟨ab, ao, none⟩ : Addr).add j = ⟨ab, ao + j, none⟩ := by unfold Addr.add; split <;> simp_all
      rw [e2, hc j hj]
      simp [byteV] at hu
      obtain ⟨x, hx, rfl⟩ := hu
      rw [List.getElem?_eq_getElem hj] at hx
      cases hx
      rfl
    have hR := fun ty => run_append_own_at (P := Try.prog) W B 24 ty 5 i (.int .u8 0) 1 1 Try.underlying24 hi hz0 hz1 hz2 rfl (by decide) v n (byteV xs) hown a l.length cap (byteV l) (by simp [byteV]) hnews (byteV_one _) (by unfold maxLen; omega) (by omega) hB
    obtain ⟨v', w', hr, k2, k3, _, k5⟩ := hR 0
    refine ⟨v', w', fun ty => hr, by rw [show byteV (xs ++ l) = byteV xs ++ byteV l by simp [byteV]]; exact k2, k3, ?_⟩
    rcases k5 with e | e
    · exact .inl e
    · refine .inr fun k hk => ?_
      rw [e] at hk; cases hk; exact Nat.le_refl _

theorem own_shape {w : World} {B sz n : Nat} {e : TypeId} {v : Value} {xs : List Value} (h : w.ownsRow B e sz v n xs) : ∃ A m cp, v = .slice A m cp := by
  rcases h.2 with ⟨rfl, _⟩ | ⟨g, cap, cur, rfl, _⟩
  · exact ⟨_, _, _, rfl⟩
  · exact ⟨_, _, _, rfl⟩

theorem celB_no {c : List Int} (h : celOk c = false) : celL c = [] := by unfold celL; rw [h]; rfl
theorem celB_yes {c : List Int} (h : celOk c = true) : celL c = numL c.length 1 ++ c := by unfold celL; rw [if_pos h]


end Go.Proofs.Ythcndifbegmbkaa
namespace Go.Proofs.Ythcndifbegmbkaa
open Go.RowKit

def mvI (m : Mv) : Prop := I64 m.1 ∧ I64 m.2.1 ∧ I64 m.2.2.1 ∧ I64 m.2.2.2
def lvI (m : Lv) : Prop := I64 m.1 ∧ I64 m.2.1 ∧ I64 m.2.2.1
def dtI (m : Dt) : Prop := I64 m.1 ∧ I64 m.2
/-- The cells of an element. -/
def mvV (m : Mv) : List Value := [.int .i64 m.1, .int .i64 m.2.1, .int .i64 m.2.2.1, .int .i64 m.2.2.2]
def lvV (m : Lv) : List Value := [.int .i64 m.1, .int .i64 m.2.1, .int .i64 m.2.2.1, .bool m.2.2.2]
def dtV (m : Dt) : List Value := [.int .i64 m.1, .int .i64 m.2]
theorem mvL_len (m : Mv) : (mvL m).length = 4 := by simp [mvL, plL_len]
theorem lvL_len (m : Lv) : (lvL m).length = 8 := by simp [lvL, numL_len]
theorem dtL_len (m : Dt) : (dtL m).length = 4 := by simp [dtL, numL_len]





end Go.Proofs.Ythcndifbegmbkaa
