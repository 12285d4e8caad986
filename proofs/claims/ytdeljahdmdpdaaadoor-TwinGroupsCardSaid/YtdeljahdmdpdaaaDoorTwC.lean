/- twin.Join, Front, Split by the library's contracts. -/
import Derived.Test.YtdeljahdmdpdaaaDoorTwB
import Derived.Test.YtdeljahdmdpdaaaDoorShelf
import Derived.WalkKit
import Derived.Below
import Derived.Shelf.Strings.Split
namespace Go.Proofs.YtdeljahdmdpdaaaDoor
open Go.RowKit Go.Lib

/-- A text of these bytes. -/
def B (l : List UInt8) : ByteArray := ⟨l.toArray⟩
theorem B_data (l : List UInt8) : (B l).data.toList = l := by simp [B]
theorem B_size (l : List UInt8) : (B l).size = l.length := by simp [B, ByteArray.size]
theorem B_surj (a : ByteArray) : ∃ l, a = B l ∧ a.size = l.length := by
  refine ⟨a.data.toList, ?_, by rw [Lib.size_eq]⟩
  cases a with
  | mk d => simp [B]
theorem B_app (a b : List UInt8) : B a ++ B b = B (a ++ b) := by
  apply ByteArray.ext
  apply Array.toList_inj.1
  simp [B, ByteArray.data_append]
theorem B_inj {a b : List UInt8} (h : B a = B b) : a = b := by
  have := congrArg (fun x : ByteArray => x.data.toList) h
  simpa only [B_data] using this

/-- The library's variable holds some number. -/
def Ml (w : World) : Prop := ∃ m, w.cell? ⟨0, 0, none⟩ = some (.int .i64 m)
theorem Ml.lt {w : World} (h : Ml w) : 0 < w.heap.size := by
  obtain ⟨m, hm⟩ := h
  exact World.block_lt_of_cell? _ _ hm
theorem Ml.below {w w' : World} {n : Nat} (h : Ml w) (hb : Below n w w') (hn : 0 < n) : Ml w' := by
  obtain ⟨m, hm⟩ := h
  exact ⟨m, by rw [hb.cell (p := ⟨0, 0, none⟩) hn]; exact hm⟩

theorem count_len (s sub : List UInt8) : count s sub ≤ s.length + 1 := count_le s sub

set_option maxHeartbeats 4000000 in
theorem join_any (s k : List UInt8) (w : World) (hm : Ml w) (hs : s.length ≤ 1000) (hk : k.length ≤ 1000) :
    Calls Tryd.prog 10 #[.string (B s), .string (B k)] w fun e w' => e = .returned (.string (B (jn s k))) ∧ Below w.heap.size w w' := by
  obtain ⟨m, hm⟩ := hm
  have c := Tryd.strings_ReplaceAll (B s) ⟨#[0]⟩ ⟨#[0, 255]⟩ m w (by rw [B_size]; omega) hm (by decide) (by
    have : Lib.countB (B s) ⟨#[0]⟩ ≤ s.length + 1 := by
      show count (B s).data.toList [0] ≤ _
      rw [B_data]; exact count_le _ _
    have h2 : (⟨#[0, 255]⟩ : ByteArray).size = 2 := rfl
    rw [B_size, h2]; omega)
  rw [B_data] at c
  change Calls Tryd.prog 16 #[.string (B s), .string ⟨#[0]⟩, .string ⟨#[0, 255]⟩] w (fun e w' => e = .returned (.string (B (replaceAll s [0] [0, 255]))) ∧ Below w.heap.size w w') at c
  rw [repl_esc] at c
  have he := esc_len s
  have n1 : ¬ 9223372036854775807 < (B (esc s)).size + 2 := by rw [B_size]; omega
  have n2 : ¬ 9223372036854775807 < (B (esc s)).size + 2 + (B k).size := by rw [B_size, B_size]; omega
  have e2 : B (esc s) ++ (⟨#[0, 1]⟩ : ByteArray) ++ B k = B (jn s k) := by
    have : (⟨#[0, 1]⟩ : ByteArray) = B [0, 1] := rfl
    rw [this, B_app, B_app]; simp [jn]
  go_enter Tryd.func10, Tryd.ntmps10
  go_wp2_with fail
  refine c.mono ?_
  rintro e w1 ⟨rfl, hb⟩
  clear c
  go_wp2_with fail
  go_ret
  exact ⟨rfl, hb⟩

theorem front_any (s : List UInt8) (w : World) (hm : Ml w) (hs : s.length ≤ 1000) :
    Calls Tryd.prog 12 #[.string (B s)] w fun e w' => e = .returned (.string (B (jn s []))) ∧ Below w.heap.size w w' := by
  have c := join_any s [] w hm hs (by simp)
  change Calls Tryd.prog 10 #[.string (B s), .string ⟨#[]⟩] w _ at c
  go_enter Tryd.func12, Tryd.ntmps12
  go_wp2_with fail
  refine c.mono ?_
  rintro e w1 ⟨rfl, hb⟩
  clear c
  go_wp2_with fail
  go_ret
  exact ⟨rfl, hb⟩

theorem clone_any (s : List UInt8) (w : World) (hs : s.length ≤ 10000) :
    Calls Tryd.prog 15 #[.string (B s)] w fun e w' => e = .returned (.string (B s)) ∧ Below w.heap.size w w' := by
  have c := Tryd.stringslite_Clone (B s) w (by rw [B_size]; omega)
  go_enter Tryd.func15, Tryd.ntmps15
  go_wp2_with fail
  refine c.mono ?_
  rintro e w1 ⟨rfl, hb⟩
  clear c
  go_wp2_with fail
  go_ret
  exact ⟨rfl, hb⟩

theorem below_drew0 (w : World) (n : Nat) : Below w.heap.size w (w.drewN n) := ⟨rfl, rfl, rfl, Nat.le_refl _, fun _ _ => rfl⟩

/-- What Split answers. -/
def splA (s : List UInt8) : Value := match spl s with
  | some x => .tuple #[.string (B x.1), .string (B x.2), .bool true]
  | none => .tuple #[.string ⟨#[]⟩, .string ⟨#[]⟩, .bool false]

theorem len_cut (s : List UInt8) : (cut s [0, 1]).1.length ≤ s.length ∧ (cut s [0, 1]).2.1.length ≤ s.length := by
  unfold cut
  split <;> simp <;> omega

theorem une_le : ∀ (n : Nat) (s : List UInt8), s.length ≤ n → (replaceAll s [0, 255] [0]).length ≤ s.length
  | _, [], _ => by simp [replaceAll, replace, replaceNum, replaceK, count_nil]
  | 0, _ :: _, h => by simp at h
  | n + 1, [b], _ => by
    rw [repl_skip (by simp) (by simp) (pre2_one _ _ _)]; simp [replaceAll, replace, replaceNum, replaceK, count_nil]
  | n + 1, b :: c :: l, h => by
    have h1 := une_le n (c :: l) (by simpa using h)
    have h2 := une_le n l (by simp at h; omega)
    by_cases hp : [0, 255].isPrefixOf (b :: c :: l) = true
    · rw [repl_pre (by simp) (by simp) hp]
      simp
      omega
    · rw [repl_skip (by simp) (by simp) (by cases hq : [0, 255].isPrefixOf (b :: c :: l) with | true => exact absurd hq hp | false => rfl)]
      simpa using h1
theorem une_len (s : List UInt8) : (replaceAll s [0, 255] [0]).length ≤ s.length := une_le _ s (Nat.le_refl _)

set_option maxHeartbeats 4000000 in
theorem split_any (s : List UInt8) (w : World) (hm : Ml w) (hs : s.length ≤ 1000) :
    Calls Tryd.prog 8 #[.string (B s)] w fun e w' => e = .returned (splA s) ∧ Below w.heap.size w w' := by
  obtain ⟨m, hmc⟩ := id hm
  have c := Tryd.strings_Cut (B s) ⟨#[0, 1]⟩ m w (by rw [B_size]; omega) hmc
  rw [B_data] at c
  obtain ⟨l1, l2⟩ := len_cut s
  obtain ⟨⟨f, k, ok⟩, hc⟩ : ∃ x, cut s [0, 1] = x := ⟨_, rfl⟩
  have hp := prg_eq s
  unfold prg at hp
  rw [hc] at hp l1 l2
  dsimp only at hp l1 l2
  change Calls Tryd.prog 13 #[.string (B s), .string ⟨#[0, 1]⟩] w (fun e w' => e = .returned (.tuple #[.string (B (cut s [0, 1]).1), .string (B (cut s [0, 1]).2.1), .bool (cut s [0, 1]).2.2]) ∧ ∃ n, w' = w.drewN n) at c
  rw [hc] at c
  dsimp only at c
  have hA : splA s = if ok = true ∧ count f [0] = count f [0, 255] then .tuple #[.string (B (replaceAll f [0, 255] [0])), .string (B k), .bool true] else .tuple #[.string ⟨#[]⟩, .string ⟨#[]⟩, .bool false] := by
    unfold splA
    by_cases hk : ok = true ∧ count f [0] = count f [0, 255]
    · rw [if_pos hk] at hp
      rw [if_pos hk, ← hp]
    · rw [if_neg hk] at hp
      rw [if_neg hk, ← hp]
  rw [hA]
  clear hA hp hc
  obtain ⟨p, hp⟩ : ∃ p, count f [0] = p := ⟨_, rfl⟩
  obtain ⟨q, hq⟩ : ∃ q, count f [0, 255] = q := ⟨_, rfl⟩
  rw [hp, hq]
  obtain ⟨R, hR⟩ : ∃ R : Value, (if ok = true ∧ p = q then Value.tuple #[.string (B (replaceAll f [0, 255] [0])), .string (B k), .bool true] else .tuple #[.string ⟨#[]⟩, .string ⟨#[]⟩, .bool false]) = R := ⟨_, rfl⟩
  rw [hR]
  go_enter Tryd.func8, Tryd.ntmps8
  go_wp2_with fail
  refine c.mono ?_
  rintro e w1 ⟨rfl, n, hn⟩
  have hb1 : Below w.heap.size w w1 := hn ▸ below_drew0 w n
  have hm1 := hm.below hb1 hm.lt
  have hs1 := hb1.size
  obtain ⟨m1, hmc1⟩ := id hm1
  have cc0 := Tryd.strings_Count_any (B f) ⟨#[0]⟩ m1 w1 (by rw [B_size]; omega) hmc1 (by decide)
  have cc1 := Tryd.strings_Count_any (B f) ⟨#[0, 255]⟩ m1 w1 (by rw [B_size]; omega) hmc1 (by decide)
  have eb0 : Lib.countB (B f) ⟨#[0]⟩ = count f [0] := by show count (B f).data.toList [0] = _; rw [B_data]
  have eb1 : Lib.countB (B f) ⟨#[0, 255]⟩ = count f [0, 255] := by show count (B f).data.toList [0, 255] = _; rw [B_data]
  rw [eb0, hp] at cc0
  rw [eb1, hq] at cc1
  have cr := Tryd.strings_ReplaceAll (B f) ⟨#[0, 255]⟩ ⟨#[0]⟩ m1 w1 (by rw [B_size]; omega) hmc1 (by decide) (by
    rw [eb1]
    have := count_le f [0, 255]
    have h2 : (⟨#[0]⟩ : ByteArray).size = 1 := rfl
    rw [B_size, h2]; omega)
  rw [B_data] at cr
  change Calls Tryd.prog 16 #[.string (B f), .string ⟨#[0, 255]⟩, .string ⟨#[0]⟩] w1 (fun e w' => e = .returned (.string (B (replaceAll f [0, 255] [0]))) ∧ Below w1.heap.size w1 w') at cr
  have lr := une_len f
  clear c hn eb0 eb1 hmc1
  cases ok with
  | false =>
    go_wp2_with fail
    go_ret3
    rw [if_neg (by simp)] at hR
    exact ⟨hR ▸ rfl, hb1⟩
  | true =>
    by_cases hpq : p = q
    · subst hpq
      rw [if_pos ⟨rfl, rfl⟩] at hR
      go_wp2_with fail
      refine cc0.mono ?_
      rintro e w2 ⟨rfl, rfl⟩
      go_wp2_with fail
      refine cc1.mono ?_
      rintro e w2 ⟨rfl, rfl⟩
      go_wp2_with fail
      refine cr.mono ?_
      rintro e w2 ⟨rfl, hb2⟩
      have hs2 := hb2.size
      go_wp2_with fail
      refine (clone_any _ w2 (by omega)).mono ?_
      rintro e w3 ⟨rfl, hb3⟩
      have hs3 := hb3.size
      go_wp2_with fail
      refine (clone_any _ w3 (by omega)).mono ?_
      rintro e w4 ⟨rfl, hb4⟩
      go_wp2_with fail
      go_ret3
      exact ⟨hR ▸ rfl, hb1.trans ((hb2.trans (hb3.trans (hb4.mono hs3) |>.mono hs2)).mono hs1)⟩
    · have hi : ((p : Int) == (q : Int)) = false := beq_eq_false_iff_ne.2 (by omega)
      rw [if_neg (by simp [hpq])] at hR
      go_wp2_with fail
      refine cc0.mono ?_
      rintro e w2 ⟨rfl, rfl⟩
      go_wp2_with fail
      refine cc1.mono ?_
      rintro e w2 ⟨rfl, rfl⟩
      go_wp2_with fail
      go_ret3
      exact ⟨hR ▸ rfl, hb1⟩
end Go.Proofs.YtdeljahdmdpdaaaDoor
