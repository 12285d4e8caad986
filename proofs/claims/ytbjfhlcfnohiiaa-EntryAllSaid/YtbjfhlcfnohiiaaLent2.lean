/- Lent and Back. -/
import Derived.Test.YtbjfhlcfnohiiaaLow
namespace Go.Proofs.Ytbjfhlcfnohiiaa
open Go.RowKit

/-- The first k bytes of l, zeros behind. -/
def cp (l : List Int) (n k : Nat) : List Int := l.take k ++ List.replicate (n - k) 0

theorem cp_len {l : List Int} {n k : Nat} (h : k ≤ l.length) (hn : l.length ≤ n) : (cp l n k).length = n := by simp [cp]; omega

theorem cp_set {l : List Int} {n k : Nat} (h : k < l.length) (hn : l.length ≤ n) : (cp l n k).set k l[k] = cp l n (k + 1) := by
  obtain ⟨m, hm⟩ : ∃ m, n - k = m + 1 := ⟨n - k - 1, by omega⟩
  have hk : (l.take k).length = k := by simp; omega
  unfold cp
  rw [hm, show n - (k + 1) = m by omega, List.set_append, if_neg (by omega), hk, Nat.sub_self, List.replicate_succ, List.set_cons_zero, ← List.take_append_getElem h, List.append_assoc]
  rfl

theorem cp_0 (l : List Int) (n : Nat) : cp l n 0 = List.replicate n 0 := by simp [cp]

set_option maxRecDepth 100000 in
set_option maxHeartbeats 1000000 in
theorem lent_any (w : World) (v : Value) (l : List Int) (h : SlK .u8 w v l) (hl : l.length ≤ 100000) : Calls Try.prog 11 #[v] w fun e w' => ∃ g, e = .returned (.slice (some ⟨g, 0, none⟩) l.length (l.length + 4)) ∧ w.heap.size ≤ g ∧ Blk w' g (l ++ [7, 7, 7, 7]) ∧ Below w.heap.size w w' := by
  obtain ⟨i, hi, hz0, hz1, hz2⟩ := info_parts infoU8
  have HK := Lib.hid h
  obtain ⟨p, cap, rfl, h1, h2, h3, h4⟩ := h
  have hmk : ∀ W, (Instr.makeSlice 24 (.int .i64 (l.length : Int)) (.int .i64 ((l.length : Int) + 4))).run Try.prog W = .ok (.slice (some ⟨W.heap.size, 0, none⟩) l.length (l.length + 4)) (W.alloc (.cells (byteV (List.replicate (l.length + 4) 0)).toArray 5)) := fun W => make_bytes W l.length (l.length + 4) (by omega) (by omega)
  have hB0 : Below w.heap.size w (w.alloc (.cells (byteV (List.replicate (l.length + 4) 0)).toArray 5)) := (Below.refl _ _).alloc (Nat.le_refl _) _
  have k0 : Blk (w.alloc (.cells (byteV (List.replicate (l.length + 4) 0)).toArray 5)) w.heap.size (cp l (l.length + 4) 0) := by rw [cp_0]; exact blk_new w _
  have H3 := Lib.hid h3
  have H4 := Lib.hid h4
  clear h2 h3 h4
  go_enter Try.func11, Try.ntmps11
  go_wp2
  generalize w.alloc (.cells (byteV (List.replicate (l.length + 4) 0)).toArray 5) = w1 at *
  have hgo := Nat.le_refl w.heap.size
  generalize hG : w.heap.size = g at hB0 k0 hgo ⊢
  clear hmk
  go_loopw [4] (fun i wr => ∃ k : Nat, k ≤ l.length ∧ i = .int .i64 k ∧ Blk wr g (cp l (l.length + 4) k) ∧ Below g w wr) (fun i _ => l.length - (intOf i).toNat)
  case atStart => exact ⟨0, by omega, rfl, k0, hB0⟩
  case round =>
    obtain ⟨k, hk, rfl, kb, hb⟩ := hrel
    by_cases hlt : k < l.length
    · obtain ⟨a, rfl⟩ : ∃ a, p = some a := by
        cases p with
        | none => have := (H3.out rfl).1; subst this; simp at hlt
        | some a => exact ⟨a, rfl⟩
      obtain ⟨hs, hbl, hc⟩ := H4.out a rfl
      obtain ⟨b, off, asp⟩ := a
      cases hs
      have e1 := (World.cell?_of_block (w := w) (w' := wr) (a := ⟨b, off + k, none⟩) (hb.block b (by rw [← hG]; exact hbl))).trans (hc k hlt)
      have e2 := kb.cell (j := k) (by rw [cp_len hk (by omega)]; omega)
      have f2 := (cell_of kb k).2
      have n1 := kb.set k l[k]
      rw [cp_set hlt (by omega)] at n1
      have n2 := hb.setCell (p := ⟨g, k, none⟩) (Nat.le_refl _) (.int .u8 l[k])
      have K1 := Lib.hid n1
      have K2 := Lib.hid n2
      clear n1 n2 kb hb hc
      go_wp2
      go_roundw
      case rel => exact ⟨k + 1, by omega, by go_num, K1.out, K2.out⟩
      case measure => simp [intOf]; omega
    · obtain rfl : k = l.length := by omega
      have hcp : cp l (l.length + 4) l.length = l ++ List.replicate 4 0 := by simp [cp]
      rw [hcp] at kb
      have hgl := kb.lt
      have k2 : Blk (wr.alloc (.cells #[.int .u8 7, .int .u8 7, .int .u8 7, .int .u8 7] 5)) g (l ++ List.replicate 4 0) := (Below.heap_alloc _ _ _ hgl).trans kb
      have k3 : Blk (wr.alloc (.cells #[.int .u8 7, .int .u8 7, .int .u8 7, .int .u8 7] 5)) wr.heap.size [7, 7, 7, 7] := heap_alloc_new wr _
      have hb2 : Below g w (wr.alloc (.cells #[.int .u8 7, .int .u8 7, .int .u8 7, .int .u8 7] 5)) := hb.alloc (by omega) _
      have hap : ∀ ty, (Builtin.append_ #[24, 24] ty #[.slice (some ⟨g, 0, none⟩) l.length (l.length + 4), .slice (some ⟨wr.heap.size, 0, none⟩) 4 4]).run Try.prog (wr.alloc (.cells #[.int .u8 7, .int .u8 7, .int .u8 7, .int .u8 7] 5)) = _ := fun ty =>
        run_append_room _ 24 ty 5 i Try.underlying24 hi g l.length (l.length + 4) _ k2 ⟨wr.heap.size, 0, none⟩ 4 4 (byteV [7, 7, 7, 7]) (by rw [hz1]; rfl) (fun j u hu => by
          have hj : j < 4 := by have := (List.getElem?_eq_some_iff.1 hu).1; simpa [byteV] using this
          have h2 : (⟨wr.heap.size, 0, none⟩ : Addr).add j = ⟨wr.heap.size, j, none⟩ := by unfold Addr.add; split <;> simp_all
          rw [h2, (cell_of k3 j).1]
          simpa using hu) (byteV_one _) (Nat.le_refl _) (by rw [hz1]; simp [byteV])
      have n1 := setRow_heap _ g _ (((byteV (l ++ List.replicate 4 0)).toArray.toList.take (l.length * i.size) ++ byteV [7, 7, 7, 7] ++ (byteV (l ++ List.replicate 4 0)).toArray.toList.drop (l.length * i.size + (byteV [7, 7, 7, 7]).length)).toArray) _ _ k2
      have n2 := below_setRow (g := g) hb2 (Nat.le_refl _) (((byteV (l ++ List.replicate 4 0)).toArray.toList.take (l.length * i.size) ++ byteV [7, 7, 7, 7] ++ (byteV (l ++ List.replicate 4 0)).toArray.toList.drop (l.length * i.size + (byteV [7, 7, 7, 7]).length)).toArray)
      have hL : (byteV (l ++ List.replicate 4 0)).toArray.toList.take (l.length * i.size) ++ byteV [7, 7, 7, 7] ++ (byteV (l ++ List.replicate 4 0)).toArray.toList.drop (l.length * i.size + (byteV [7, 7, 7, 7]).length) = byteV (l ++ [7, 7, 7, 7]) := by
        rw [hz1, Nat.mul_one]
        simp [byteV]
      rw [hL] at hap n1 n2
      generalize (wr.alloc (.cells #[.int .u8 7, .int .u8 7, .int .u8 7, .int .u8 7] 5)).setRow g (byteV (l ++ [7, 7, 7, 7])).toArray = w9 at *
      have N1 := Lib.hid n1
      have N2 := Lib.hid n2
      clear hL n1 n2 kb hb hb2 k2 k3 k0 hB0
      go_wp2_with (at_builtin; refine Lib.wpList_append_run _ rfl _ _ _ _ rfl _ _ rfl rfl _ _ (hap _) ?_)
      go_ret
      exact ⟨g, rfl, by omega, N1.out, by rw [hG]; exact N2.out⟩

theorem sev_get (l : List Int) {k : Nat} (h : k < (l ++ [7, 7, 7, 7]).length) : (l ++ [7, 7, 7, 7])[k] = if hk : k < l.length then l[k] else 7 := by
  rw [List.getElem_append]
  split
  · rfl
  · rename_i hk
    simp at h
    obtain h0 | h0 | h0 | h0 : k - l.length = 0 ∨ k - l.length = 1 ∨ k - l.length = 2 ∨ k - l.length = 3 := by omega
    all_goals simp [h0]

set_option maxRecDepth 100000 in
set_option maxHeartbeats 1000000 in
theorem back_true (w : World) (g : Nat) (v : Value) (l : List Int) (hg : Blk w g (l ++ [7, 7, 7, 7])) (h : SlK .u8 w v l) (hl : l.length ≤ 100000) : Calls Try.prog 20 #[.slice (some ⟨g, 0, none⟩) l.length (l.length + 4), v] w fun e w' => e = .returned (.bool true) ∧ w' = w := by
  obtain ⟨p, cap, rfl, h1, h2, h3, h4⟩ := h
  have H3 := Lib.hid h3
  have H4 := Lib.hid h4
  have HG := Lib.hid hg
  clear h2 h3 h4 hg
  go_enter Try.func20, Try.ntmps20
  go_wp2
  go_loopw [6] (fun i wr => ∃ k : Nat, k ≤ l.length + 4 ∧ i = .int .i64 k ∧ w = wr) (fun i _ => l.length + 4 - (intOf i).toNat)
  case atStart => exact ⟨0, by omega, rfl, rfl⟩
  case round =>
    obtain ⟨k, hk, rfl, rfl⟩ := hrel
    by_cases hlt : k < l.length + 4
    · have e2 := HG.out.cell (j := k) (by simp; omega)
      rw [sev_get] at e2
      by_cases hkl : k < l.length
      · rw [dif_pos hkl] at e2
        obtain ⟨a, rfl⟩ : ∃ a, p = some a := by
          cases p with
          | none => have := (H3.out rfl).1; subst this; simp at hkl
          | some a => exact ⟨a, rfl⟩
        obtain ⟨hs, hbl, hc⟩ := H4.out a rfl
        obtain ⟨b, off, asp⟩ := a
        cases hs
        have e1 := hc k hkl
        clear hc
        go_wp2
        go_roundw
        case rel => exact ⟨k + 1, by omega, by go_num, trivial⟩
        case measure => simp [intOf]; omega
      · rw [dif_neg hkl] at e2
        go_wp2
        go_roundw
        case rel => exact ⟨k + 1, by omega, by go_num, trivial⟩
        case measure => simp [intOf]; omega
    · obtain rfl : k = l.length + 4 := by omega
      go_wp2
      go_ret
      exact ⟨rfl, rfl⟩

end Go.Proofs.Ytbjfhlcfnohiiaa
