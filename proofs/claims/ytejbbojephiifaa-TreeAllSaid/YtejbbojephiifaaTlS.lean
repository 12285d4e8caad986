/- The tree's laws: a shape is sound. -/
import Derived.Test.YtejbbojephiifaaTlB
namespace Go.Proofs.Ytejbbojephiifaa
open Go.RowKit

structure SndR (rows : List (List Nat)) (keys : Nat) : Prop where
  pos : 0 < rows.length
  len : rows.length ≤ 100000
  one : (rows.getD 0 []).length = 1
  sm : ∀ i, i < rows.length → (rows.getD i []).length ≤ 100000
  bnd : ∀ i, i < rows.length → ∀ n ∈ rows.getD i [], n ≤ 4 ∧ (rows.length ≠ 1 → 2 ≤ n)
  sum : ∀ i, i < rows.length → (rows.getD i []).sum = if i + 1 < rows.length then (rows.getD (i + 1) []).length else keys

theorem sh_kids (h : Nat) : ∀ gs : List (G (h + 1)), (gs.flatMap (kids h)).flatMap (kvs h) = gs.flatMap (kvs (h + 1))
  | [] => rfl
  | g :: r => by
    rw [List.flatMap_cons, List.flatMap_append, List.flatMap_cons, sh_kids h r]
    congr 1
    obtain ⟨b, v, l⟩ : Nd (G h) := g
    show (l.map (·.2)).flatMap (kvs h) = kk h l
    rw [List.flatMap_map]
    rfl
theorem cnt_kids (h : Nat) : ∀ gs : List (G (h + 1)), (gs.map (cnt (h + 1))).sum = (gs.flatMap (kids h)).length
  | [] => rfl
  | g :: r => by
    rw [List.map_cons, List.sum_cons, List.flatMap_cons, List.length_append, cnt_kids h r]
    congr 1
    obtain ⟨b, v, l⟩ : Nd (G h) := g
    show l.length = (l.map (·.2)).length
    rw [List.length_map]
theorem cnt_kvs : ∀ gs : List (G 0), (gs.map (cnt 0)).sum = (gs.flatMap (kvs 0)).length
  | [] => rfl
  | g :: r => by
    rw [List.map_cons, List.sum_cons, List.flatMap_cons, List.length_append, cnt_kvs r]
    rfl
theorem lv_sum : ∀ (h : Nat) (gs : List (G h)) (i : Nat), i < h + 1 → ((lv h gs).getD i []).sum = if i + 1 < h + 1 then ((lv h gs).getD (i + 1) []).length else (gs.flatMap (kvs h)).length
  | 0, gs, i, hi => by
    obtain rfl : i = 0 := by omega
    rw [if_neg (by omega)]
    exact cnt_kvs gs
  | h + 1, gs, 0, _ => by
    rw [if_pos (by omega)]
    show (gs.map (cnt (h + 1))).sum = ((lv h (gs.flatMap (kids h))).getD 0 []).length
    obtain ⟨r, h1, _, t, h2⟩ := lv_head h (gs.flatMap (kids h))
    rw [h2, cnt_kids]
    exact h1.symm
  | h + 1, gs, i + 1, hi => by
    have := lv_sum h (gs.flatMap (kids h)) i (by omega)
    rw [sh_kids] at this
    show ((lv h (gs.flatMap (kids h))).getD i []).sum = if i + 1 + 1 < h + 1 + 1 then ((lv h (gs.flatMap (kids h))).getD (i + 1) []).length else _
    rw [this]
    by_cases c : i + 1 < h + 1
    · rw [if_pos c, if_pos (by omega)]
    · rw [if_neg c, if_neg (by omega)]
theorem lv_bnd : ∀ (h : Nat) (gs : List (G h)), (∀ g ∈ gs, Ok h g ∧ 2 ≤ cnt h g ∧ cnt h g ≤ 4) → ∀ r ∈ lv h gs, ∀ n ∈ r, 2 ≤ n ∧ n ≤ 4
  | 0, gs, hk, r, hr, n, hn => by
    have hr : r = gs.map (cnt 0) := List.mem_singleton.1 hr
    subst hr
    obtain ⟨g, hg, rfl⟩ := List.mem_map.1 hn
    exact (hk g hg).2
  | h + 1, gs, hk, r, hr, n, hn => by
    rcases List.mem_cons.1 hr with rfl | hr
    · obtain ⟨g, hg, rfl⟩ := List.mem_map.1 hn
      exact (hk g hg).2
    · refine lv_bnd h _ (fun g hg => ?_) r hr n hn
      obtain ⟨x, hx, hg⟩ := List.mem_flatMap.1 hg
      obtain ⟨b, v, l⟩ : Nd (G h) := x
      obtain ⟨y, hy, rfl⟩ := List.mem_map.1 hg
      have := (hk _ hx).1 y hy
      exact ⟨this.2.2.1, this.1, this.2.1⟩
theorem Fits.snd {h : Nat} {g : G h} {xs : List KV} (hf : Fits h g xs) (hx : xs.length ≤ 100000) : SndR (lv h [g]) xs.length := by
  obtain ⟨o1, o2, o3, rfl⟩ := hf
  have hl := lv_len h [g]
  have htop := lv_top o1 o2 hx (by omega)
  have hmem : ∀ i, i < (lv h [g]).length → (lv h [g]).getD i [] ∈ lv h [g] := fun i hi => by
    rw [List.getD_eq_getElem?_getD, List.getElem?_eq_getElem hi]
    exact List.getElem_mem hi
  refine ⟨by omega, lv_short o1 o2 hx (by omega), ?_, fun i hi => htop _ (hmem i hi), fun i hi n hn => ?_, fun i hi => ?_⟩
  · obtain ⟨r, h1, _, t, h2⟩ := lv_head h [g]
    rw [h2]
    exact h1
  · rcases o2 with rfl | o2
    · have e : lv 0 [g] = [[cnt 0 g]] := rfl
      rw [e] at hn hi ⊢
      obtain rfl : i = 0 := by simp at hi; exact hi
      obtain rfl : n = cnt 0 g := by simpa using hn
      exact ⟨o3, fun e => absurd rfl e⟩
    · have := lv_bnd h [g] (fun g' hg => by rw [List.mem_singleton.1 hg]; exact ⟨o1, o2, o3⟩) _ (hmem i hi) n hn
      exact ⟨this.2, fun _ => this.1⟩
  · have := lv_sum h [g] i (by omega)
    rw [hl, this, List.flatMap_singleton]

theorem sum_take {l : List Nat} {k : Nat} (h : k < l.length) : (l.take (k + 1)).sum = (l.take k).sum + l.getD k 0 := by
  rw [List.take_succ_eq_append_getElem h, List.sum_append, List.getD_eq_getElem?_getD, List.getElem?_eq_getElem h]
  simp
theorem sum_le {m : Nat} : ∀ {l : List Nat}, (∀ n ∈ l, n ≤ m) → l.sum ≤ m * l.length
  | [], _ => by simp
  | x :: r, h => by
    have h1 := h x (List.mem_cons_self ..)
    have h2 := sum_le fun y hy => h y (List.mem_cons_of_mem _ hy)
    rw [List.sum_cons, List.length_cons, Nat.mul_succ]
    omega

set_option maxRecDepth 100000 in
set_option maxHeartbeats 8000000 in
theorem sound_any (w : World) {B : Nat} {s : Value} {rows : List (List Nat)} {keys : Nat} (h : ShA B w s rows) (hR : SndR rows keys) (hk : keys ≤ 100000) :
    Calls Try.prog 19 #[s, .int .i64 keys] w fun e w' => e = .returned (.bool true) ∧ w' = w := by
  obtain ⟨gs, cs, A0, m0, rfl, _, _, c0, _⟩ := h.row hR.pos
  rw [hR.one] at c0
  have H := Lib.hid h
  have HR := Lib.hid hR
  have hp := hR.pos
  have hl := hR.len
  obtain ⟨n, hn⟩ : ∃ n, rows.length = n := ⟨_, rfl⟩
  rw [hn] at hp hl ⊢
  have HN := Lib.hid hn
  clear hn h hR
  go_enter Try.func19, Try.ntmps19
  go_wp2
  go_loop [5] (fun i => ∃ j : Nat, j ≤ n ∧ i = .int .i64 j) (fun i => n - intN i)
  case atStart => exact ⟨0, Nat.zero_le _, rfl⟩
  case round =>
    obtain ⟨j, hj, rfl⟩ := hrel
    clear c0
    by_cases hlt : j < n
    · obtain ⟨gs2, cs2, A, m, e, _, _, c1, c2⟩ := H.out.row (i := j) (by have := HN.out; omega)
      cases e
      have hb := HR.out.bnd j (by have := HN.out; omega)
      have hs := HR.out.sum j (by have := HN.out; omega)
      have hr9 := HR.out.sm j (by have := HN.out; omega)
      rw [HN.out] at hb hs
      have hc3 : j + 1 < n → ∃ A3 m3, w.cell? ⟨gs, j + 1, none⟩ = some (.slice A3 (rows.getD (j + 1) []).length m3) := fun hj1 => by
        obtain ⟨gs3, cs3, A3, m3, e, _, _, c3, _⟩ := H.out.row (i := j + 1) (by have := HN.out; omega)
        cases e
        exact ⟨A3, m3, c3⟩
      generalize rows.getD j [] = r at *
      have HC2 := Lib.hid c2
      have HB := Lib.hid hb
      have HS := Lib.hid hs
      have HC3 := Lib.hid hc3
      obtain ⟨rl, hrl⟩ : ∃ rl, r.length = rl := ⟨_, rfl⟩
      rw [hrl] at c1 hr9
      have HRL := Lib.hid hrl
      clear c2 hb hs hc3 hrl
      go_wp2
      go_loop [6, 7] (fun t i => ∃ k : Nat, k ≤ rl ∧ i = .int .i64 k ∧ t = .int .i64 ((r.take k).sum : Nat)) (fun _ i => rl - intN i)
      case atStart => exact ⟨0, Nat.zero_le _, rfl, rfl⟩
      case round =>
        obtain ⟨k, hkk, rfl, rfl⟩ := hrel
        have hsl : (r.take k).sum ≤ 400000 := by
          have h1 := sum_le (m := 4) (l := r.take k) fun y hy => (HB.out y (List.mem_of_mem_take hy)).1
          rw [List.length_take] at h1
          omega
        by_cases hk2 : k < rl
        · have hkr : k < r.length := by rw [HRL.out]; exact hk2
          obtain ⟨gr, rfl, _, _, c4⟩ := HC2.out k hkr
          have hnx := sum_take hkr
          have hbb := HB.out (r.getD k 0) (by rw [List.getD_eq_getElem?_getD, List.getElem?_eq_getElem hkr]; exact List.getElem_mem hkr)
          generalize r.getD k 0 = x at *
          have hx4 := hbb.1
          have HX := Lib.hid hbb.2
          obtain ⟨S, hS⟩ : ∃ S, (r.take k).sum = S := ⟨_, rfl⟩
          rw [hS] at hsl hnx ⊢
          have HNX := Lib.hid hnx
          have HSS := Lib.hid hS
          clear hnx hbb hS hkr
          by_cases hj0 : j = 0
          · by_cases hn1 : n = 1
            · have e0 : ((j : Int) == 0) = true := beq_iff_eq.2 (by omega)
              have e1 : ((n : Int) == 1) = true := beq_iff_eq.2 (by omega)
              clear hj0 hn1
              go_wp2
              go_round
              case rel => exact ⟨k + 1, by omega, by go_num, by rw [HNX.out]; go_num⟩
              case measure => simp [intN]; omega
            · have hx2 := HX.out hn1
              have e1 : ((n : Int) == 1) = false := beq_eq_false_iff_ne.2 (by omega)
              have e0 : ((j : Int) == 0) = true := beq_iff_eq.2 (by omega)
              clear hj0
              go_wp2
              go_round
              case rel => exact ⟨k + 1, by omega, by go_num, by rw [HNX.out]; go_num⟩
              case measure => simp [intN]; omega
          · have e0 : ((j : Int) == 0) = false := beq_eq_false_iff_ne.2 (by omega)
            have hx2 := HX.out (by omega)
            go_wp2
            go_round
            case rel => exact ⟨k + 1, by omega, by go_num, by rw [HNX.out]; go_num⟩
            case measure => simp [intN]; omega
        · have hkl : k = rl := by omega
          subst hkl
          have eT : r.take k = r := by rw [← HRL.out, List.take_length]
          rw [eT] at hsl ⊢
          obtain ⟨S, hS⟩ : ∃ S, r.sum = S := ⟨_, rfl⟩
          have HS2 := HS.out
          rw [hS] at hsl HS2 ⊢
          clear eT hS
          by_cases hj1 : j + 1 < n
          · rw [if_pos hj1] at HS2
            obtain ⟨A3, m3, c3⟩ := HC3.out hj1
            rw [← HS2] at c3
            have e1 : ((j : Int) + 1 == (n : Int)) = false := beq_eq_false_iff_ne.2 (by omega)
            clear HS2
            go_wp2
            go_round
            case rel => exact ⟨j + 1, by omega, by go_num⟩
            case measure => simp [intN]; omega
          · rw [if_neg hj1] at HS2
            have e1 : ((j : Int) + 1 == (n : Int)) = true := beq_iff_eq.2 (by omega)
            subst HS2
            go_wp2
            go_round
            case rel => exact ⟨j + 1, by omega, by go_num⟩
            case measure => simp [intN]; omega
    · have hjn : j = n := by omega
      subst hjn
      go_wp2
      go_ret
      exact ⟨rfl, rfl⟩
end Go.Proofs.Ytejbbojephiifaa
