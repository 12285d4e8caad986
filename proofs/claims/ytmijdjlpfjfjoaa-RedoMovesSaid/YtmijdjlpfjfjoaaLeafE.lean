/- Small functions of leaf: areZeros, isEmpty, Equal, sameCell, Clone; the reference's blank. -/
import Derived.Test.YtmijdjlpfjfjoaaReadR
import Derived.Laws.AppendOwnNone
import Derived.Deep.AppendLies
namespace Go.Proofs.Ytmijdjlpfjfjoaa
open Go.RowKit

def empB (l : List Int) : Bool := decide (l = [] ∨ l = z26)
def nrm (l : List Int) : List Int := if empB l = true then [] else l
def sameB (l l' : List Int) : Bool := decide (nrm l = nrm l')

theorem z26_ne : z26 ≠ [] := by decide

theorem empB_26 {l : List Int} (h : l.length = 26) : empB l = zerosB l := by
  unfold empB
  rw [Bool.eq_iff_iff, decide_eq_true_eq]
  constructor
  · rintro (rfl | rfl)
    · cases h
    · decide
  · intro hz
    have := zeros_rep hz
    rw [h] at this
    exact .inr this

theorem empB_no {l : List Int} (h0 : l ≠ []) (h : l.length ≠ 26) : empB l = false := by
  unfold empB
  rw [decide_eq_false_iff_not]
  rintro (rfl | rfl)
  · exact h0 rfl
  · exact h rfl

theorem nrm_or (l : List Int) : (empB l = true ∧ nrm l = []) ∨ (empB l = false ∧ nrm l = l ∧ l ≠ []) := by
  cases h : empB l
  · refine .inr ⟨rfl, by unfold nrm; rw [h]; rfl, ?_⟩
    rintro rfl
    cases h
  · exact .inl ⟨rfl, by unfold nrm; rw [if_pos h]⟩

theorem sameB_tt {l m : List Int} (h : empB l = true) (h' : empB m = true) : sameB l m = true := by
  unfold sameB nrm; rw [if_pos h, if_pos h']; rfl
theorem sameB_ne {l m : List Int} (h : empB l ≠ empB m) : sameB l m = decide (l = m) := by
  have hne : l ≠ m := fun e => h (by rw [e])
  unfold sameB
  rw [decide_eq_false hne, decide_eq_false_iff_not]
  rcases nrm_or l with ⟨a, b⟩ | ⟨a, b, c⟩ <;> rcases nrm_or m with ⟨a', b'⟩ | ⟨a', b', c'⟩
  · exact absurd (a.trans a'.symm) h
  · rw [b, b']; exact fun e => c' e.symm
  · rw [b, b']; exact c
  · exact absurd (a.trans a'.symm) h
theorem sameB_ff {l m : List Int} (h : empB l = false) (h' : empB m = false) : sameB l m = decide (l = m) := by
  unfold sameB nrm; rw [if_neg (by rw [h]; decide), if_neg (by rw [h']; decide)]


theorem ret_b {a b : Bool} (h : a = b) : Ending.returned (.bool a) = .returned (.bool b) := by rw [h]




set_option maxRecDepth 100000 in
set_option maxHeartbeats 1000000 in
theorem clone_any (w : World) (v : Value) (l : List Int) (h : SlK .u8 w v l) (hl : l.length ≤ 100000) : Calls Try.prog 28 #[v] w fun e w' => ∃ v', e = .returned v' ∧ w'.ownsRow w.heap.size 5 1 v' l.length (byteV l) ∧ Below w.heap.size w w' := by
  obtain ⟨i, hi, hz0, hz1, hz2⟩ := info_parts infoU8
  obtain ⟨p, cap, rfl, h1, h2, h3, h4⟩ := h
  cases p with
  | none =>
    obtain ⟨rfl, rfl⟩ := h3 rfl
    rw [List.length_nil]
    have q0 := Lib.run_eql_slice_nil (P := Try.prog) w 22 5 none 0 0 0 0 Try.underlying22
    simp only [Option.isNone_none] at q0
    go_enter Try.func28, Try.ntmps28
    go_wp2
    go_ret
    exact ⟨_, rfl, ⟨rfl, .inl ⟨rfl, rfl⟩⟩, Below.refl _ _⟩
  | some a =>
    obtain ⟨hs, hbl, hc⟩ := h4 a rfl
    obtain ⟨b, off, asp⟩ := a
    cases hs
    have hp : Pt w (.slice (some ⟨b, off, none⟩) l.length cap) l := ⟨b, off, cap, rfl, h1, hbl, hc⟩
    obtain ⟨n, hN⟩ : ∃ n, l.length = n := ⟨_, rfl⟩
    rw [hN] at h1 hl hp ⊢
    have HN := Lib.hid hN
    have T0 : Below w.heap.size w (w.alloc (.cells #[] 5)) := (Below.refl _ _).alloc (Nat.le_refl _) _
    have O0 : (w.alloc (.cells #[] 5)).ownsRow w.heap.size 5 1 (.slice (some ⟨w.heap.size, 0, none⟩) 0 0) 0 [] := World.ownsRow_made w #[] 0 (Nat.le_refl _) (by unfold maxLen; omega) rfl
    have HP := Lib.hid hp
    have q0 := Lib.run_eql_slice_nil (P := Try.prog) w 22 5 (some ⟨b, off, none⟩) n cap 0 0 Try.underlying22
    simp only [Option.isNone_some] at q0
    clear h2 h3 h4 hc hp hN
    go_enter Try.func28, Try.ntmps28
    go_wp2_with (at_builtin; refine wpList_append_own _ rfl _ _ 22 rfl w.heap.size 5 i (.int .u8 0) 1 1 Try.underlying22 hi hz0 hz1 hz2 rfl (by decide) _ 0 [] rfl O0 ⟨b, off, none⟩ n cap (byteV l) rfl ?c2 (HP.out.below T0 (Nat.le_refl _)).news (byteV_one _) (by unfold maxLen; omega) (by omega) T0.size ?_)
    case c2 => simp [byteV, HN.out]
    intro v' w' ho hg _
    go_wp2
    go_ret
    exact ⟨_, rfl, ho, T0.grown hg T0.size (fun k hk => by cases hk; exact Nat.le_refl _)⟩

set_option maxRecDepth 100000 in
set_option maxHeartbeats 4000000 in
theorem blank_any (w : World) (v : Value) (l : List Int) (h : SlK .u8 w v l) : Calls Try.prog 22 #[v] w fun e w' => e = .returned (.bool (empB l)) ∧ Below w.heap.size w w' := by
  by_cases h0 : l = []
  · subst h0
    obtain ⟨p, cap, rfl, _⟩ := h
    rw [List.length_nil]
    go_enter Try.func22, Try.ntmps22
    go_upto_region 1 with (fail)
    go_region
    all_goals (go_wp2; go_ret)
    exact ⟨rfl, (Below.refl _ _).drew⟩
  · have he : empB l = decide (l = z26) := by unfold empB; rw [decide_eq_decide]; exact ⟨fun h => h.resolve_left h0, .inr⟩
    have hE := (bstr_eql h.ok z26_ok).trans he.symm
    have hmk : ∀ W, (Instr.makeSlice 22 (.int .i64 26) (.int .i64 26)).run Try.prog W = .ok (.slice (some ⟨W.heap.size, 0, none⟩) 26 26) (W.alloc (.cells (byteV z26).toArray 5)) := fun W => make_bytes W 26 26 (by omega) (by omega)
    have v0 := conv_slK h
    have hs := h
    obtain ⟨p, cap, rfl, -⟩ := h
    have d0 : (((l.length : Nat) : Int) == 0) = false := by simpa using h0
    have a0 : ¬ l.length = 0 := by simpa using h0
    obtain ⟨n, hN⟩ : ∃ n, l.length = n := ⟨_, rfl⟩
    rw [hN] at hs v0 d0 a0 ⊢
    have v1 : (convert 22 9 (.slice p n cap)).run Try.prog w.drew = .ok (.string (bstr l)) w.drew := conv_slK (hs.below (B := w.heap.size) ((Below.refl _ _).drew) (Nat.le_refl _))
    have v2 : (convert 22 9 (.slice p n cap)).run Try.prog (w.drew.alloc (.cells (byteV z26).toArray 5)) = .ok (.string (bstr l)) (w.drew.alloc (.cells (byteV z26).toArray 5)) := conv_slK (hs.below (B := w.heap.size) ((Below.refl _ _).drew.alloc (by simp) _) (Nat.le_refl _))
    have u2 : (convert 22 9 (.slice (some ⟨w.heap.size, 0, none⟩) 26 26)).run Try.prog (w.drew.alloc (.cells (byteV z26).toArray 5)) = .ok (.string (bstr z26)) (w.drew.alloc (.cells (byteV z26).toArray 5)) := conv_slK (((blk_new w.drew z26).pt (n := 26) (c := 26) rfl (Nat.le_refl _)).slK z26_ok)
    have v3 : (convert 22 9 (.slice p n cap)).run Try.prog (w.alloc (.cells (byteV z26).toArray 5)).drew = .ok (.string (bstr l)) (w.alloc (.cells (byteV z26).toArray 5)).drew := v2
    have u3 : (convert 22 9 (.slice (some ⟨w.heap.size, 0, none⟩) 26 26)).run Try.prog (w.alloc (.cells (byteV z26).toArray 5)).drew = .ok (.string (bstr z26)) (w.alloc (.cells (byteV z26).toArray 5)).drew := u2
    have HE := Lib.hid hE
    have HB := Lib.hid (((Below.refl w.heap.size w).alloc (Nat.le_refl _) (.cells (byteV z26).toArray 5)).drew)
    clear h0 he hE hs hN
    generalize bstr l = X at *
    generalize bstr z26 = Y at *
    go_enter Try.func22, Try.ntmps22
    go_upto_region 1 with (fail)
    go_region
    all_goals (go_wp2; go_ret)
    all_goals exact ⟨ret_b HE.out, HB.out⟩

end Go.Proofs.Ytmijdjlpfjfjoaa
