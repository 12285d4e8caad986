/- The reference's Loose. -/
import Derived.Test.YtliakndgbfbicaaRww
import Derived.OwnWalk
namespace Go.Proofs.Ytliakndgbfbicaa
open Go.RowKit Go.Maps

theorem infoI64 : (Try.prog.info? 3).map (fun i => (i.zero, i.size, i.bytes)) = some (some (.int .i64 0), 1, 8) := by kernel_rfl

/-- The wet ones of the first i, rising. -/
def wetL (f : Nat → Bool) : Nat → List Int
  | 0 => []
  | i + 1 => if f i = true then wetL f i ++ [(i : Int)] else wetL f i
theorem wetL_len (f : Nat → Bool) (i : Nat) : (wetL f i).length ≤ i := by
  induction i with
  | zero => exact Nat.le_refl _
  | succ i ih =>
    unfold wetL
    split
    · rw [List.length_append]; simp; omega
    · omega
theorem wetL_mem (f : Nat → Bool) (i : Nat) (x : Int) : x ∈ wetL f i ↔ ∃ j : Nat, j < i ∧ f j = true ∧ x = j := by
  induction i with
  | zero => simp [wetL]
  | succ i ih =>
    unfold wetL
    split
    · rename_i h
      rw [List.mem_append, ih]
      constructor
      · rintro (⟨j, h1, h2, h3⟩ | h1)
        · exact ⟨j, by omega, h2, h3⟩
        · exact ⟨i, by omega, h, by simpa using h1⟩
      · rintro ⟨j, h1, h2, h3⟩
        by_cases e : j = i
        · subst e; right; simp [h3]
        · left; exact ⟨j, by omega, h2, h3⟩
    · rename_i h
      rw [ih]
      constructor
      · rintro ⟨j, h1, h2, h3⟩; exact ⟨j, by omega, h2, h3⟩
      · rintro ⟨j, h1, h2, h3⟩
        by_cases e : j = i
        · subst e; exact absurd h2 h
        · exact ⟨j, by omega, h2, h3⟩
theorem wetL_sorted (f : Nat → Bool) (i : Nat) : (wetL f i).Pairwise (· < ·) := by
  induction i with
  | zero => simp [wetL]
  | succ i ih =>
    unfold wetL
    split
    · rw [List.pairwise_append]
      refine ⟨ih, by simp, fun a ha b hb => ?_⟩
      obtain ⟨j, h1, _, rfl⟩ := (wetL_mem f i a).1 ha
      simp at hb
      subst hb
      omega
    · exact ih

section
variable {w : World} {r gn gw gt gm : Nat} {vn vw vt : Value} {d : Rf}

def intV (l : List Int) : List Value := l.map (Value.int .i64)

set_option maxRecDepth 100000 in
set_option maxHeartbeats 2000000 in
theorem rloose (h : RfAt w r gn gw gt gm vn vw vt d) : Calls Try.prog 31 #[.pointer (some ⟨r, 0, none⟩)] w fun e w' => ∃ v, e = .returned v ∧ w'.ownsRow w.heap.size 3 1 v (wetL d.wet d.k).length (intV (wetL d.wet d.k)) ∧ Below w.heap.size w w' := by
  obtain ⟨ii, hi, hz0, hz1, hz2⟩ := info_parts infoI64
  have ST := Lib.hid h.st
  have HR := Lib.hid h
  have hkle := h.kle
  have hrl := (Array.getElem?_eq_some_iff.1 h.cells).1
  obtain ⟨pt, ct, rfl, _, _, _⟩ := h.st
  clear h
  go_enter Try.func31, Try.ntmps31
  go_wp2
  go_loopw [3, 4] (fun sv iv wr => ∃ i : Nat, i ≤ d.k ∧ iv = .int .i64 i ∧ wr.ownsRow w.heap.size 3 1 sv (wetL d.wet i).length (intV (wetL d.wet i)) ∧ Below w.heap.size w wr) (fun sv iv _ => d.k - ivN iv)
  case atStart => exact ⟨0, Nat.zero_le _, rfl, World.ownsRow_nil _ _ _ _, Below.refl _ _⟩
  case round =>
    obtain ⟨i, hi', rfl, ho, hb⟩ := hrel
    have c2 := (hb.cell (p := ⟨r, 2, none⟩) hrl).trans HR.out.c2
    have HO := Lib.hid ho
    have HB := Lib.hid hb
    have hz := hb.size
    clear ho hb
    by_cases hlt : i < d.k
    · obtain ⟨c3, e3, _⟩ := ST.out.some (by omega)
      cases e3
      have hk0 : 0 < d.k := by omega
      obtain ⟨cur, hcur, _⟩ := HR.out.wet hk0
      have hgt := (Array.getElem?_eq_some_iff.1 hcur).1
      have x0 : wr.cell? ⟨gt, i, none⟩ = some (.bool (d.wet i)) := (HB.out.cell (p := ⟨gt, i, none⟩) hgt).trans ((HR.out.wet hk0).cell hlt).1
      clear hcur hk0
      cases hw : d.wet i with
      | false =>
        rw [hw] at x0
        have e1 : wetL d.wet (i + 1) = wetL d.wet i := by rw [wetL, if_neg (by simp [hw])]
        have E1 := Lib.hid e1
        clear e1
        go_wp2
        go_roundw
        case rel => exact ⟨i + 1, by omega, by go_num, by rw [E1.out]; exact HO.out, HB.out⟩
        case measure => simp [ivN]; omega
      | true =>
        rw [hw] at x0
        have e1 : wetL d.wet (i + 1) = wetL d.wet i ++ [(i : Int)] := by rw [wetL, if_pos hw]
        have E1 := Lib.hid e1
        have hL := wetL_len d.wet i
        clear e1
        go_wp2_with (at_builtin; refine wpList_append_own _ rfl _ _ 44 rfl w.heap.size 3 ii (.int .i64 0) 1 8 Try.underlying44 hi hz0 hz1 hz2 rfl (by decide) _ _ _ rfl (HO.out.alloc _) ⟨wr.heap.size, 0, none⟩ 1 1 [.int .i64 i] rfl ?c2 ?c3 ?c4 ?c5 ?c6 ?c7 ?_)
        · rfl
        · unfold maxLen; omega
        · omega
        · omega
        intro v' w2 hown hgrow _
        have hb2 : Below w.heap.size w w2 := (HB.out.alloc hz _).grown hgrow (by simp; omega) (fun k hk => (HO.out.lt k hk).1)
        have e2 : intV (wetL d.wet i) ++ [Value.int .i64 i] = intV (wetL d.wet (i + 1)) := by rw [E1.out]; simp [intV]
        have e3 : (wetL d.wet i).length + 1 = (wetL d.wet (i + 1)).length := by rw [E1.out]; simp
        rw [e2, e3] at hown
        have HW := Lib.hid hown
        clear e2 e3 hown hgrow
        go_wp2
        go_roundw
        case rel => exact ⟨i + 1, by omega, by go_num, HW.out, hb2⟩
        case measure => simp [ivN]; omega
    · obtain rfl : i = d.k := by omega
      go_wp2
      go_ret
      exact ⟨_, rfl, HO.out, HB.out⟩
end
end Go.Proofs.Ytliakndgbfbicaa
