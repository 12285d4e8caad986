/- Which texts are two keys, and which are not: the law walked. -/
import Derived.Test.YtdeljahdmdpdaaaDoorTwG
import Derived.Laws.NewBlocks
namespace Go.Proofs.YtdeljahdmdpdaaaDoor
open Go.RowKit Go.Lib

def bads : List (List UInt8) := [[], [97], [0], [97, 0], [97, 0, 2], [97, 0, 0, 1], [0, 255]]
theorem bads_none : ∀ k, k < 7 → spl (bads.getD k []) = none
  | 0, _ => rfl
  | 1, _ => rfl
  | 2, _ => rfl
  | 3, _ => rfl
  | 4, _ => rfl
  | 5, _ => rfl
  | 6, _ => rfl
  | _ + 7, h => by omega
theorem bads_len : ∀ k, (bads.getD k []).length ≤ 10
  | 0 => by decide
  | 1 => by decide
  | 2 => by decide
  | 3 => by decide
  | 4 => by decide
  | 5 => by decide
  | 6 => by decide
  | n + 7 => by simp [bads]

set_option maxHeartbeats 8000000 in
theorem forms_walk (w : World) (hm : Ml w) :
    Calls Tryd.prog 5 #[] w fun e w' => e = .returned (.bool true) ∧ Below w.heap.size w w' := by
  have hlt := hm.lt
  have hBt := B_list
  go_enter Tryd.func5, Tryd.ntmps5
  go_wp2_with fail
  refine (begun_any w hm).mono ?_
  rintro e w1 ⟨rfl, hb1⟩
  have hs1 := hb1.size
  go_wp2_with fail
  obtain ⟨C, hC⟩ : ∃ C : Array Value, #[Value.string { data := #[] }, Value.string { data := #[97] }, Value.string { data := #[0] }, Value.string { data := #[97, 0] }, Value.string { data := #[97, 0, 2] }, Value.string { data := #[97, 0, 0, 1] }, Value.string { data := #[0, 255] }] = C := ⟨_, rfl⟩
  have hCg : ∀ k, k < 7 → C[k]? = some (.string (B (bads.getD k []))) := by
    subst hC
    intro k hk
    match k, hk with
    | 0, _ => rfl
    | 1, _ => rfl
    | 2, _ => rfl
    | 3, _ => rfl
    | 4, _ => rfl
    | 5, _ => rfl
    | 6, _ => rfl
    | _ + 7, h => omega
  rw [hC]
  clear hC
  obtain ⟨g, hg⟩ : ∃ g, w1.heap.size = g := ⟨_, rfl⟩
  obtain ⟨w2, hw2⟩ : ∃ w2, w1.alloc (Obj.cells C 9) = w2 := ⟨_, rfl⟩
  have hc2 : ∀ k, k < 7 → w2.cell? ⟨g, k, none⟩ = some (.string (B (bads.getD k []))) := by
    intro k hk
    rw [← hw2, ← hg, World.cell?_alloc_new]
    exact hCg k hk
  have hz2 : g < w2.heap.size := by rw [← hw2, ← hg]; simp
  have hB2 : Below w.heap.size w w2 := hw2 ▸ hb1.alloc hs1 _
  rw [hg, hw2]
  clear hCg hw2 hb1
  go_loopw [2] (fun i wr => ∃ k : Nat, k ≤ 7 ∧ i = .int .i64 k ∧ Below w.heap.size w wr ∧ g < wr.heap.size ∧ Hid (∀ k, k < 7 → wr.cell? ⟨g, k, none⟩ = some (.string (B (bads.getD k []))))) (fun i _ => 7 - (RowKit.intOf i).toNat)
  case atStart => exact ⟨0, by omega, rfl, hB2, hz2, hidI hc2⟩
  case round =>
    obtain ⟨k, hk, rfl, hB, hz, hc⟩ := hrel
    clear hc2 hz2 hB2
    have hsr := hB.size
    have hmr := hm.below hB hlt
    by_cases hk7 : k < 7
    · have hck := hc.out k hk7
      have hn := bads_none k hk7
      have hl := bads_len k
      generalize bads.getD k [] = t at hck hn hl
      go_wp2_with fail
      refine (split_any t wr hmr (by omega)).mono ?_
      rintro e w3 ⟨rfl, hb3⟩
      have hs3 := hb3.size
      rw [splA_none hn]
      go_wp2_with fail
      go_roundw
      case rel => exact ⟨k + 1, by omega, by go_num, hB.trans (hb3.mono hsr), by omega, hidI fun j hj => (hb3.cell (p := ⟨g, j, none⟩) hz).trans (hc.out j hj)⟩
      case measure => simp [RowKit.intOf]; omega
    · have hkk : k = 7 := by omega
      subst hkk
      clear hc
      go_wp2_with fail
      refine (split_any [120, 0, 255, 121, 0, 1, 0, 1, 122] wr hmr (by decide)).mono ?_
      rintro e w3 ⟨rfl, hb3⟩
      have hB3 := hB.trans (hb3.mono hsr)
      have hs3 := hB3.size
      rw [splA_some (x := ([120, 0, 121], [0, 1, 122])) rfl]
      dsimp only
      go_wp2_with fail
      refine (join_any [] [] w3 (hm.below hB3 hlt) (by decide) (by decide)).mono ?_
      rintro e w4 ⟨rfl, hb4⟩
      have hB4 := hB3.trans (hb4.mono hs3)
      have hs4 := hB4.size
      rw [show jn [] [] = [0, 1] from rfl]
      go_wp2_with fail
      refine (join_any [0] [] w4 (hm.below hB4 hlt) (by decide) (by decide)).mono ?_
      rintro e w5 ⟨rfl, hb5⟩
      have hB5 := hB4.trans (hb5.mono hs4)
      rw [show jn [0] [] = [0, 255, 0, 1] from rfl]
      go_wp2_with fail
      go_ret
      exact ⟨rfl, hB5⟩
end Go.Proofs.YtdeljahdmdpdaaaDoor
