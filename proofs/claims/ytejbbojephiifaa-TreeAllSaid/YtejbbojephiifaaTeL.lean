/- tree: refill. -/
import Derived.Test.YtejbbojephiifaaTeR
namespace Go.Proofs.Ytejbbojephiifaa
open Go.RowKit

/-- One statement on a node whose child stands alone: the key's. -/
theorem mend_key {h : Nat} {w W : World} {b q n cp : Nat} {R : Rest} {A B : List (ByteArray × G h)} {k0 : ByteArray} {c : G h} {lo hi : Nat} {v0 : Value} {l0 : List (ByteArray × G h)} (s : NS h W b R (.slice (some ⟨q, 0, none⟩) n cp) (A ++ (k0, c) :: B)) (hn : n = (A ++ (k0, c) :: B).length)
    (hA : ∀ x ∈ A, Kid h (Ok h) x) (hB : ∀ x ∈ B, Kid h (Ok h) x) (ho : Ok h c) (h2 : 2 ≤ cnt h c) (h4 : cnt h c ≤ 4) (hk : kk h (A ++ (k0, c) :: B) = kk h l0) (hlo : lo ≤ n) (hhi : n ≤ hi)
    (hf : Foot w.heap.size (b :: (own1 v0 ++ kf h l0)) (b :: (own1 (.slice (some ⟨q, 0, none⟩) n cp) ++ kf h (A ++ (k0, c) :: B)))) (hr : Fr w.heap.size (· ∈ b :: (own1 v0 ++ kf h l0)) w W) :
    Mend h w b R v0 l0 lo hi (W.setCell ⟨q, A.length * 2, none⟩ (.string (leastK (kvs h c)))) := by
  have s1 := s.key hn (leastK (kvs h c))
  have e : kf h (A ++ (leastK (kvs h c), c) :: B) = kf h (A ++ (k0, c) :: B) := by rw [kf_app, kf_app, kf_cons, kf_cons]
  have hl : (A ++ (leastK (kvs h c), c) :: B).length = n := by rw [hn]; simp
  refine ⟨_, _, s1, by rw [← hk, kk_app, kk_app, kk_cons, kk_cons], fun x hx => ?_, by rw [hl]; exact hlo, by rw [hl]; exact hhi, by rw [e]; exact hf, ?_⟩
  · rcases List.mem_append.1 hx with hx | hx
    · exact hA x hx
    · rcases List.mem_cons.1 hx with rfl | hx
      · exact ⟨h2, h4, ho, rfl⟩
      · exact hB x hx
  · exact hr.setCell (p := ⟨q, A.length * 2, none⟩) (hf.mem (List.mem_cons_of_mem _ (List.mem_append_left _ (own1_mem.2 rfl)))) _
/-- What the last statement meets. -/
theorem NS.tail {h : Nat} {W : World} {b q n cp : Nat} {R : Rest} {A B : List (ByteArray × G h)} {k0 : ByteArray} {c : G h} (s : NS h W b R (.slice (some ⟨q, 0, none⟩) n cp) (A ++ (k0, c) :: B)) (ho : Ok h c) (hc : 0 < cnt h c) :
    W.cell? ⟨b, 1, none⟩ = some (.slice (some ⟨q, 0, none⟩) n cp) ∧ W.cell? ⟨q, A.length * 2 + 1, none⟩ = some (.pointer (some ⟨gb h c, 0, none⟩)) ∧ (∃ k, W.cell? ⟨q, A.length * 2, none⟩ = some (.string k)) ∧ W.frozen? ⟨q, A.length * 2, none⟩ = false ∧
      Calls Try.prog 47 #[.pointer (some ⟨gb h c, 0, none⟩)] W.drew fun e w' => e = .returned (.string (leastK (kvs h c))) ∧ w' = W.drew :=
  ⟨s.pa.at_.c1, s.item.1, s.item.2.1, s.item.2.2, least_G W.drew ((s.kids (k0, c) (List.mem_append_right _ (List.mem_cons_self ..))).same (w' := W.drew) (fun _ _ => rfl)) ho hc⟩

set_option maxRecDepth 100000 in
set_option maxHeartbeats 2000000 in
theorem refill_enough (w : World) {h : Nat} {b q n cp : Nat} {R : Rest} {A B : List (ByteArray × G h)} {k0 : ByteArray} {c : G h} (s : NS h w b R (.slice (some ⟨q, 0, none⟩) n cp) (A ++ (k0, c) :: B)) (hn : n = (A ++ (k0, c) :: B).length) (hsm : n ≤ 900)
    (hA : ∀ x ∈ A, Kid h (Ok h) x) (hB : ∀ x ∈ B, Kid h (Ok h) x) (ho : Ok h c) (h2 : 2 ≤ cnt h c) (h4 : cnt h c ≤ 4) :
    Calls Try.prog 40 #[.pointer (some ⟨b, 0, none⟩), .int .i64 A.length] w fun e w' => e = .returned (.tuple #[]) ∧ Mend h w b R (.slice (some ⟨q, 0, none⟩) n cp) (A ++ (k0, c) :: B) (n - 1) n w' := by
  have hx : (k0, c) ∈ A ++ (k0, c) :: B := List.mem_append_right _ (List.mem_cons_self ..)
  have hca : At h R0 w c := s.kids _ hx
  obtain ⟨c1, d1, _, _, _⟩ := s.tail ho (by omega)
  have hlen : A.length < n := by rw [hn]; simp
  have HC := Lib.hid (count_G w hca (by omega))
  have HT := Lib.hid (fun W (hW : Below w.heap.size w W) => (s.below hW).tail ho (by omega))
  have HF := Lib.hid (fun W (hW : Below w.heap.size w W) => mend_key (w := w) (v0 := .slice (some ⟨q, 0, none⟩) n cp) (l0 := A ++ (k0, c) :: B) (lo := n - 1) (hi := n) (s.below hW) hn hA hB ho h2 h4 rfl (by omega) (Nat.le_refl _) (Foot.refl s.lt) (Fr.of_below hW))
  have h2I : ¬ (cnt h c : Int) < 2 := by omega
  have hli : (A.length : Int) < (n : Int) := by omega
  generalize cnt h c = m at *
  generalize leastK (kvs h c) = kq at *
  generalize gb h c = bc at *
  generalize A.length = i at *
  clear hca hx s hA hB h2 h4 ho hn
  go_enter Try.func40, Try.ntmps40
  go_wp2_with (go_at_call 30; refine HC.out.mono ?_; rintro e w1 ⟨rfl, hb1⟩)
  have HB1 := Lib.hid hb1
  obtain ⟨a1, b1, ⟨kx, a0⟩, af, hL⟩ := HT.out w1 hb1
  have HL := Lib.hid hL
  clear hb1 hL
  go_region_with (go_at_call 47; refine (HL.out).mono ?_; rintro e w2 ⟨rfl, hw⟩; obtain rfl := hw.symm; clear hw)
  all_goals go_wp2
  all_goals go_end0
  all_goals exact ⟨rfl, HF.out w1.drew HB1.out.drew⟩
end Go.Proofs.Ytejbbojephiifaa
