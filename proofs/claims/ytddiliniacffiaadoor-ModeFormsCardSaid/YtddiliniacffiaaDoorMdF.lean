/- ModeForms: the walk. -/
import Derived.Test.YtddiliniacffiaaDoorMdW
import Derived.Lib.Hide
import Derived.Laws.NewBlocks
import Derived.Deep.CutBlock
import Derived.Deep.DeepCutAuto
import Derived.Deep.RegionHeld
namespace Go.Proofs.YtddiliniacffiaaDoor
open Go.RowKit

/-- The text of a mode's row. -/
def rowS : Nat → Value
  | 0 => .string ⟨#[121, 121, 121, 121, 121]⟩
  | 1 => .string ⟨#[121, 121, 121, 121, 110]⟩
  | 2 => .string ⟨#[121, 121, 121, 110, 110]⟩
  | 3 => .string ⟨#[121, 121, 110, 121, 110]⟩
  | _ => .string ⟨#[121, 110, 110, 110, 110]⟩
/-- The block of a mode's row of numbers. -/
def blk (g : Nat) : Nat → Nat
  | 0 => g + 1
  | 1 => g + 1 + 1
  | 2 => g + 1 + 1 + 1
  | 3 => g + 1 + 1 + 1 + 1
  | _ => g + 1 + 1 + 1 + 1 + 1
structure Fs (g : Nat) (w w' : World) : Prop where
  s : ∀ a : Nat, a < 5 → w'.cell? ⟨g, a, none⟩ = some (rowS a)
  o : ∀ a : Nat, a < 5 → w'.cell? ⟨g + 1 + 1 + 1 + 1 + 1 + 1, a, none⟩ = some (.slice (some ⟨blk g a, 0, none⟩) 5 5)
  i : ∀ a b : Nat, a < 5 → b < 5 → w'.cell? ⟨blk g a, b, none⟩ = some (.int .i64 (jN a b))
  b : Below w.heap.size w w'

theorem Fs.drew {g : Nat} {w w' : World} (h : Fs g w w') : Fs g w w'.drew := ⟨h.s, h.o, h.i, h.b.drew⟩
/-- A mode's text: the byte at b is 'y' where the two go together. -/
theorem row_text (a b : Nat) (ha : a < 5) (hb : b < 5) : ∃ (st : ByteArray) (q : Int), rowS a = .string st ∧ (q == 121) = gN a b ∧ ∃ _ : b < st.size, (st[b].toNat : Int) = q := by
  match a, b, ha, hb with
  | 0, 0, _, _ | 0, 1, _, _ | 0, 2, _, _ | 0, 3, _, _ | 0, 4, _, _ | 1, 0, _, _ | 1, 1, _, _ | 1, 2, _, _ | 1, 3, _, _ | 2, 0, _, _ | 2, 1, _, _ | 2, 2, _, _ | 3, 0, _, _ | 3, 1, _, _ | 3, 3, _, _ | 4, 0, _, _ => exact ⟨_, 121, rfl, rfl, by decide, rfl⟩
  | 1, 4, _, _ | 2, 3, _, _ | 2, 4, _, _ | 3, 2, _, _ | 3, 4, _, _ | 4, 1, _, _ | 4, 2, _, _ | 4, 3, _, _ | 4, 4, _, _ => exact ⟨_, 110, rfl, rfl, by decide, rfl⟩
  | _ + 5, _, h, _ => omega
  | _, _ + 5, _, h => omega
theorem Tb.drew {w : World} (T : Tb w) : Tb w.drew := ⟨T.g, T.j, T.lt⟩
theorem Tb.drewN {w : World} (T : Tb w) (n : Nat) : Tb (w.drewN n) := ⟨T.g, T.j, T.lt⟩

set_option maxRecDepth 100000 in
set_option maxHeartbeats 4000000 in
theorem forms_walk (w : World) (T : Tb w) : Calls Tryd.prog 5 #[] w fun e w' => e = .returned (.bool true) ∧ Below w.heap.size w w' := by
  go_enter Tryd.func5, Tryd.ntmps5
  go_wp2_with fail
  refine (begun_any w T).mono ?_
  rintro e' w1 ⟨rfl, rfl⟩
  obtain ⟨g, hg⟩ : ∃ g, w1.heap.size = g := ⟨_, rfl⟩
  go_wp2_with fail
  go_loopw [3] (fun i wr => ∃ a : Nat, a ≤ 5 ∧ i = .int .i64 a ∧ Hid (Fs g w1 wr)) (fun i _ => 5 - (RowKit.intOf i).toNat)
  case atStart =>
    refine ⟨0, by omega, rfl, Lib.hid ⟨fun a ha => ?_, fun a ha => ?_, fun a b ha hb => ?_, ?_⟩⟩
    · match a, ha with
      | 0, _ | 1, _ | 2, _ | 3, _ | 4, _ => (repeat rw [World.cell?_alloc_past _ _ _ (by first | (simp only [World.size_alloc]; omega) | omega)]); rw [World.cell?_alloc_at _ _ _ _ (by first | (simp only [World.size_alloc]; omega) | omega)]; rfl
      | _ + 5, h => omega
    · match a, ha with
      | 0, _ | 1, _ | 2, _ | 3, _ | 4, _ => (repeat rw [World.cell?_alloc_past _ _ _ (by first | (simp only [World.size_alloc]; omega) | omega)]); rw [World.cell?_alloc_at _ _ _ _ (by first | (simp only [World.size_alloc]; omega) | omega)]; rfl
      | _ + 5, h => omega
    · match a, b, ha, hb with
      | 0, 0, _, _ | 0, 1, _, _ | 0, 2, _, _ | 0, 3, _, _ | 0, 4, _, _ | 1, 0, _, _ | 1, 1, _, _ | 1, 2, _, _ | 1, 3, _, _ | 1, 4, _, _ | 2, 0, _, _ | 2, 1, _, _ | 2, 2, _, _ | 2, 3, _, _ | 2, 4, _, _ | 3, 0, _, _ | 3, 1, _, _ | 3, 2, _, _ | 3, 3, _, _ | 3, 4, _, _ | 4, 0, _, _ | 4, 1, _, _ | 4, 2, _, _ | 4, 3, _, _ | 4, 4, _, _ => (simp only [blk]; (repeat rw [World.cell?_alloc_past _ _ _ (by first | (simp only [World.size_alloc]; omega) | omega)]); rw [World.cell?_alloc_at _ _ _ _ (by first | (simp only [World.size_alloc]; omega) | omega)]; rfl)
      | _ + 5, _, h, _ => omega
      | _, _ + 5, _, h => omega
    · exact (((((((Below.refl w1.heap.size w1).alloc (Nat.le_refl _) _).alloc (by first | (simp only [World.size_alloc]; omega) | omega) _).alloc (by first | (simp only [World.size_alloc]; omega) | omega) _).alloc (by first | (simp only [World.size_alloc]; omega) | omega) _).alloc (by first | (simp only [World.size_alloc]; omega) | omega) _).alloc (by first | (simp only [World.size_alloc]; omega) | omega) _).alloc (by first | (simp only [World.size_alloc]; omega) | omega) _
  case round =>
    obtain ⟨a, ha, rfl, HF⟩ := hrel
    by_cases ha5 : a < 5
    · have ha4 : (a : Int) < 5 := by omega
      go_wp2_with fail
      go_loopw [4] (fun i wr' => ∃ b : Nat, b ≤ 5 ∧ i = .int .i64 b ∧ Hid (Fs g w1 wr')) (fun i _ => 5 - (RowKit.intOf i).toNat)
      case atStart => exact ⟨0, by omega, rfl, HF⟩
      case round =>
        obtain ⟨b, hb, rfl, HF⟩ := hrel
        by_cases hb5 : b < 5
        · have hb4 : (b : Int) < 5 := by omega
          go_upto_region 11 with (fail)
          go_cut [45] (fun u wx => u = .bool false ∧ wx = wr.drew)
          case first =>
            obtain ⟨st, q, hst, hq, hidx⟩ := row_text a b ha5 hb5
            obtain ⟨bk, hbk⟩ : ∃ bk, blk g a = bk := ⟨_, rfl⟩
            obtain ⟨jj, hjj⟩ : ∃ jj : Int, (jN a b : Int) = jj := ⟨_, rfl⟩
            obtain ⟨gg, hgg⟩ : ∃ gg, gN a b = gg := ⟨_, rfl⟩
            have TT : Tb wr.drew := (T.below HF.out.b T.lt).drew
            have HG := Lib.hid (goesN TT ha5 hb5 hgg)
            have HJ := Lib.hid (joinN TT ha5 hb5 rfl)
            rw [hjj] at HJ
            have SD : wr.drew.cell? ⟨g, a, none⟩ = some (.string st) ∧ wr.drew.cell? ⟨g + 1 + 1 + 1 + 1 + 1 + 1, a, none⟩ = some (.slice (some ⟨bk, 0, none⟩) 5 5) ∧ wr.drew.cell? ⟨bk, b, none⟩ = some (.int .i64 jj) :=
              ⟨hst ▸ HF.out.s a ha5, hbk ▸ HF.out.o a ha5, hbk ▸ hjj ▸ HF.out.i a b ha5 hb5⟩
            rw [hgg] at hq
            clear TT hst hbk hjj hgg T hg
            have ha0 : (0 : Int) ≤ (a : Int) := by omega
            have hb0 : (0 : Int) ≤ (b : Int) := by omega
            refine wp_region_held_drew (S := fun W : World => W.cell? ⟨g, a, none⟩ = some (.string st) ∧ W.cell? ⟨g + 1 + 1 + 1 + 1 + 1 + 1, a, none⟩ = some (.slice (some ⟨bk, 0, none⟩) 5 5) ∧ W.cell? ⟨bk, b, none⟩ = some (.int .i64 jj)) (by kernel_rfl) SD (fun hHeld => ?_)
            refine wpAnyH_take (i := 0) (oi := ⟨_, _, _, _, _, _⟩) (v := ?_) rfl (by kernel_rfl) (by kernel_rfl) (by kernel_rfl) (fun _ _ _ h => h) (Or.inl ⟨by rfl, ?_⟩) (by assumption) ?_
            rotate_left
            · intro W hSW
              try dsimp only at hSW
              go_simp
              try with_reducible rfl
            rotate_left
            try simp only [Act.put, List.setIfInBounds_toArray, List.set_cons_zero, List.set_cons_succ]
            refine wpAnyH_take (i := 1) (oi := ⟨_, _, _, _, _, _⟩) (v := ?_) rfl (by kernel_rfl) (by kernel_rfl) (by kernel_rfl) (fun _ _ _ h => h) (Or.inl ⟨by rfl, ?_⟩) (by assumption) ?_
            rotate_left
            · intro W hSW
              try dsimp only at hSW
              go_simp
              try with_reducible rfl
            rotate_left
            try simp only [Act.put, List.setIfInBounds_toArray, List.set_cons_zero, List.set_cons_succ]
            refine wpAnyH_take (i := 3) (oi := ⟨_, _, _, _, _, _⟩) (v := ?_) rfl (by kernel_rfl) (by kernel_rfl) (by kernel_rfl) (fun _ _ _ h => h) (Or.inl ⟨by rfl, ?_⟩) (by assumption) ?_
            rotate_left
            · intro W hSW
              try dsimp only at hSW
              go_simp
              try with_reducible rfl
            rotate_left
            try simp only [Act.put, List.setIfInBounds_toArray, List.set_cons_zero, List.set_cons_succ]
            refine wpAnyH_take (i := 4) (oi := ⟨_, _, _, _, _, _⟩) (v := ?_) rfl (by kernel_rfl) (by kernel_rfl) (by kernel_rfl) (fun _ _ _ h => h) (Or.inl ⟨by rfl, ?_⟩) (by assumption) ?_
            rotate_left
            · intro W hSW
              try dsimp only at hSW
              go_simp
              try with_reducible rfl
            rotate_left
            try simp only [Act.put, List.setIfInBounds_toArray, List.set_cons_zero, List.set_cons_succ]
            refine wpAnyH_take (i := 5) (oi := ⟨_, _, _, _, _, _⟩) (v := ?_) rfl (by kernel_rfl) (by kernel_rfl) (by kernel_rfl) (fun _ _ _ h => h) (Or.inl ⟨by rfl, ?_⟩) (by assumption) ?_
            rotate_left
            · intro W hSW
              try dsimp only at hSW
              go_simp
              try with_reducible rfl
            rotate_left
            try simp only [Act.put, List.setIfInBounds_toArray, List.set_cons_zero, List.set_cons_succ]
            refine wpAnyH_take (i := 6) (oi := ⟨_, _, _, _, _, _⟩) (v := ?_) rfl (by kernel_rfl) (by kernel_rfl) (by kernel_rfl) (fun _ _ _ h => h) (Or.inl ⟨by rfl, ?_⟩) (by assumption) ?_
            rotate_left
            · intro W hSW
              try dsimp only at hSW
              go_simp
              try with_reducible rfl
            rotate_left
            try simp only [Act.put, List.setIfInBounds_toArray, List.set_cons_zero, List.set_cons_succ]
            refine wpAnyH_take (i := 7) (oi := ⟨_, _, _, _, _, _⟩) (v := ?_) rfl (by kernel_rfl) (by kernel_rfl) (by kernel_rfl) (fun _ _ _ h => h) (Or.inl ⟨by rfl, ?_⟩) (by assumption) ?_
            rotate_left
            · intro W hSW
              try dsimp only at hSW
              go_simp
              try with_reducible rfl
            rotate_left
            try simp only [Act.put, List.setIfInBounds_toArray, List.set_cons_zero, List.set_cons_succ]
            refine wpAnyH_take (i := 8) (oi := ⟨_, _, _, _, _, _⟩) (v := .int .u8 q) rfl (by kernel_rfl) (by kernel_rfl) (by kernel_rfl) (fun _ _ _ h => h) (Or.inl ⟨by rfl, ?_⟩) (by assumption) ?_
            · intro W hSW
              obtain ⟨hz, hz2⟩ := hidx
              go_simp
            try simp only [Act.put, List.setIfInBounds_toArray, List.set_cons_zero, List.set_cons_succ]
            refine wpAnyH_take (i := 9) (oi := ⟨_, _, _, _, _, _⟩) (v := ?_) rfl (by kernel_rfl) (by kernel_rfl) (by kernel_rfl) (fun _ _ _ h => h) (Or.inl ⟨by rfl, ?_⟩) (by assumption) ?_
            rotate_left
            · intro W hSW
              try dsimp only at hSW
              go_simp
              try with_reducible rfl
            rotate_left
            try simp only [Act.put, List.setIfInBounds_toArray, List.set_cons_zero, List.set_cons_succ]
            refine wpAnyH_ready (rs := [2]) (by kernel_rfl) (by simp) ?_
            refine AllReadyH.cons (o := ⟨_, _, _, _, _, _⟩) rfl (fun K hK => ?_) AllReadyH.nil
            rw [if_pos (by rfl)]
            go_simp
            go_at_call 7
            refine HG.out.mono ?_
            rintro e w2 ⟨rfl, rfl⟩
            go_wp2_with fail
            refine hK.out _ _ hHeld (fun hHeld => ?_)
            clear hK K
            try simp only [Act.put, List.setIfInBounds_toArray, List.set_cons_zero, List.set_cons_succ]
            refine wpAnyH_take (i := 10) (oi := ⟨_, _, _, _, _, _⟩) (v := ?_) rfl (by kernel_rfl) (by kernel_rfl) (by kernel_rfl) (fun _ _ _ h => h) (Or.inl ⟨by rfl, ?_⟩) (by assumption) ?_
            rotate_left
            · intro W hSW
              try dsimp only at hSW
              go_simp
              try with_reducible rfl
            rotate_left
            try simp only [Act.put, List.setIfInBounds_toArray, List.set_cons_zero, List.set_cons_succ]
            refine wpAnyH_take (i := 11) (oi := ⟨_, _, _, _, _, _⟩) (v := ?_) rfl (by kernel_rfl) (by kernel_rfl) (by kernel_rfl) (fun _ _ _ h => h) (Or.inl ⟨by rfl, ?_⟩) (by assumption) ?_
            rotate_left
            · intro W hSW
              try dsimp only at hSW
              go_simp
              try with_reducible rfl
            rotate_left
            try simp only [Act.put, List.setIfInBounds_toArray, List.set_cons_zero, List.set_cons_succ]
            refine wpAnyH_take (i := 12) (oi := ⟨_, _, _, _, _, _⟩) (v := ?_) rfl (by kernel_rfl) (by kernel_rfl) (by kernel_rfl) (fun _ _ _ h => h) (Or.inl ⟨by rfl, ?_⟩) (by assumption) ?_
            rotate_left
            · intro W hSW
              try dsimp only at hSW
              go_simp
              try with_reducible rfl
            rotate_left
            try simp only [Act.put, List.setIfInBounds_toArray, List.set_cons_zero, List.set_cons_succ]
            refine wpAnyH_take (i := 13) (oi := ⟨_, _, _, _, _, _⟩) (v := ?_) rfl (by kernel_rfl) (by kernel_rfl) (by kernel_rfl) (fun _ _ _ h => h) (Or.inl ⟨by rfl, ?_⟩) (by assumption) ?_
            rotate_left
            · intro W hSW
              try dsimp only at hSW
              go_simp
              try with_reducible rfl
            rotate_left
            try simp only [Act.put, List.setIfInBounds_toArray, List.set_cons_zero, List.set_cons_succ]
            refine wpAnyH_take (i := 15) (oi := ⟨_, _, _, _, _, _⟩) (v := ?_) rfl (by kernel_rfl) (by kernel_rfl) (by kernel_rfl) (fun _ _ _ h => h) (Or.inl ⟨by rfl, ?_⟩) (by assumption) ?_
            rotate_left
            · intro W hSW
              try dsimp only at hSW
              go_simp
              try with_reducible rfl
            rotate_left
            try simp only [Act.put, List.setIfInBounds_toArray, List.set_cons_zero, List.set_cons_succ]
            refine wpAnyH_take (i := 16) (oi := ⟨_, _, _, _, _, _⟩) (v := ?_) rfl (by kernel_rfl) (by kernel_rfl) (by kernel_rfl) (fun _ _ _ h => h) (Or.inl ⟨by rfl, ?_⟩) (by assumption) ?_
            rotate_left
            · intro W hSW
              try dsimp only at hSW
              go_simp
              try with_reducible rfl
            rotate_left
            try simp only [Act.put, List.setIfInBounds_toArray, List.set_cons_zero, List.set_cons_succ]
            refine wpAnyH_take (i := 17) (oi := ⟨_, _, _, _, _, _⟩) (v := ?_) rfl (by kernel_rfl) (by kernel_rfl) (by kernel_rfl) (fun _ _ _ h => h) (Or.inl ⟨by rfl, ?_⟩) (by assumption) ?_
            rotate_left
            · intro W hSW
              try dsimp only at hSW
              go_simp
              try with_reducible rfl
            rotate_left
            try simp only [Act.put, List.setIfInBounds_toArray, List.set_cons_zero, List.set_cons_succ]
            refine wpAnyH_take (i := 18) (oi := ⟨_, _, _, _, _, _⟩) (v := ?_) rfl (by kernel_rfl) (by kernel_rfl) (by kernel_rfl) (fun _ _ _ h => h) (Or.inl ⟨by rfl, ?_⟩) (by assumption) ?_
            rotate_left
            · intro W hSW
              try dsimp only at hSW
              go_simp
              try with_reducible rfl
            rotate_left
            try simp only [Act.put, List.setIfInBounds_toArray, List.set_cons_zero, List.set_cons_succ]
            refine wpAnyH_take (i := 19) (oi := ⟨_, _, _, _, _, _⟩) (v := ?_) rfl (by kernel_rfl) (by kernel_rfl) (by kernel_rfl) (fun _ _ _ h => h) (Or.inl ⟨by rfl, ?_⟩) (by assumption) ?_
            rotate_left
            · intro W hSW
              try dsimp only at hSW
              go_simp
              try with_reducible rfl
            rotate_left
            try simp only [Act.put, List.setIfInBounds_toArray, List.set_cons_zero, List.set_cons_succ]
            refine wpAnyH_take (i := 20) (oi := ⟨_, _, _, _, _, _⟩) (v := ?_) rfl (by kernel_rfl) (by kernel_rfl) (by kernel_rfl) (fun _ _ _ h => h) (Or.inl ⟨by rfl, ?_⟩) (by assumption) ?_
            rotate_left
            · intro W hSW
              try dsimp only at hSW
              go_simp
              try with_reducible rfl
            rotate_left
            try simp only [Act.put, List.setIfInBounds_toArray, List.set_cons_zero, List.set_cons_succ]
            refine wpAnyH_take (i := 21) (oi := ⟨_, _, _, _, _, _⟩) (v := ?_) rfl (by kernel_rfl) (by kernel_rfl) (by kernel_rfl) (fun _ _ _ h => h) (Or.inl ⟨by rfl, ?_⟩) (by assumption) ?_
            rotate_left
            · intro W hSW
              try dsimp only at hSW
              go_simp
              try with_reducible rfl
            rotate_left
            try simp only [Act.put, List.setIfInBounds_toArray, List.set_cons_zero, List.set_cons_succ]
            refine wpAnyH_ready (rs := [14]) (by kernel_rfl) (by simp) ?_
            refine AllReadyH.cons (o := ⟨_, _, _, _, _, _⟩) rfl (fun K hK => ?_) AllReadyH.nil
            rw [if_pos (by rfl)]
            go_simp
            go_at_call 9
            refine HJ.out.mono ?_
            rintro e w3 ⟨rfl, rfl⟩
            go_wp2_with fail
            refine hK.out _ _ hHeld (fun hHeld => ?_)
            clear hK K
            try simp only [Act.put, List.setIfInBounds_toArray, List.set_cons_zero, List.set_cons_succ]
            refine wpAnyH_take (i := 22) (oi := ⟨_, _, _, _, _, _⟩) (v := ?_) rfl (by kernel_rfl) (by kernel_rfl) (by kernel_rfl) (fun _ _ _ h => h) (Or.inl ⟨by rfl, ?_⟩) (by assumption) ?_
            rotate_left
            · intro W hSW
              try dsimp only at hSW
              go_simp
              try with_reducible rfl
            rotate_left
            try simp only [Act.put, List.setIfInBounds_toArray, List.set_cons_zero, List.set_cons_succ]
            refine wpAnyH_take (i := 23) (oi := ⟨_, _, _, _, _, _⟩) (v := ?_) rfl (by kernel_rfl) (by kernel_rfl) (by kernel_rfl) (fun _ _ _ h => h) (Or.inl ⟨by rfl, ?_⟩) (by assumption) ?_
            rotate_left
            · intro W hSW
              try dsimp only at hSW
              go_simp
              try with_reducible rfl
            rotate_left
            try simp only [Act.put, List.setIfInBounds_toArray, List.set_cons_zero, List.set_cons_succ]
            refine wpAnyH_done (by kernel_rfl) ?_ _
            go_wp2
            go_meet
            exact ⟨rfl, rfl⟩
          case rest =>
            obtain ⟨rfl, rfl⟩ := hcut
            go_wp2_with fail
            go_roundw
            case rel => exact ⟨b + 1, by omega, by go_num, Lib.hid (HF.out.drew)⟩
            case measure => simp [RowKit.intOf]; omega
        · have hb4 : ¬ (b : Int) < 5 := by omega
          clear hb5
          go_wp2_with fail
          go_roundw
          case rel => exact ⟨a + 1, by omega, by go_num, HF⟩
          case measure => simp [RowKit.intOf]; omega
    · have ha4 : ¬ (a : Int) < 5 := by omega
      clear ha5
      have B := HF.out.b
      have TT := T.below B T.lt
      go_wp2_with fail
      refine (goes_any (-1) 0 wr TT).mono ?_
      rintro e' w2 ⟨rfl, rfl⟩
      rw [show gZ (-1) 0 = false from rfl]
      go_wp2_with fail
      refine (goes_any 0 5 w2 TT).mono ?_
      rintro e' w3 ⟨rfl, rfl⟩
      rw [show gZ 0 5 = false from rfl]
      go_wp2_with fail
      refine (join_any 5 0 w3 TT).mono ?_
      rintro e' w4 ⟨rfl, rfl⟩
      rw [show jZ 5 0 = -1 from rfl]
      go_wp2_with fail
      refine (join_any 0 (-1) w4 TT).mono ?_
      rintro e' w5 ⟨rfl, rfl⟩
      rw [show jZ 0 (-1) = -1 from rfl]
      go_wp2_with fail
      go_ret
      exact ⟨rfl, B⟩
end Go.Proofs.YtddiliniacffiaaDoor
