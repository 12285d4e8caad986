/- TreeOnce: the walk. -/
import Derived.Test.YtgeebeoediknmaaTlP
namespace Go.Proofs.Ytgeebeoediknmaa
open Go.RowKit

def OnS (M ga p : Nat) (w W : World) (f : Nat → Nat) (xs : List KV) : Prop := TI M ga (ga + 1) W p xs ∧ LR f xs ∧ W.heap[ga]? = some (.cells (lastV f) 50 (0, 0)) ∧ Below w.heap.size w W
theorem OnS.below {M ga p : Nat} {w W W' : World} {f : Nat → Nat} {xs : List KV} (h : OnS M ga p w W f xs) (hM : w.heap.size ≤ M) (hb : Below W.heap.size W W') : OnS M ga p w W' f xs :=
  ⟨h.1.below hb, h.2.1, (hb.block ga (Array.getElem?_eq_some_iff.1 h.2.2.1).1).trans h.2.2.1, h.2.2.2.trans (hb.mono (Nat.le_trans hM h.1.1))⟩
theorem OnS.at {M ga p k : Nat} {w W : World} {f : Nat → Nat} {xs : List KV} (h : OnS M ga p w W f xs) (hk : k < 16) : W.cell? ⟨ga, k, none⟩ = some (.int .i64 (f k : Int)) ∧ W.frozen? ⟨ga, k, none⟩ = false := by
  refine ⟨?_, (cell_of h.2.2.1 k).2⟩
  rw [(cell_of h.2.2.1 k).1]
  exact arrV_at _ hk
theorem upN_le {f : Nat → Nat} {k v : Nat} (hv : v ≤ 100) (hf : ∀ c, f c ≤ 100) : ∀ c, upN f k v c ≤ 100 := fun c => by
  unfold upN
  split
  · exact hv
  · exact hf c
theorem below_set2 {N q i : Nat} {w w' : World} {v : Value} (h : Below N w w') (hq : N ≤ q) : Below N w (w'.setCell ⟨q, i, none⟩ v) :=
  ((Fr.of_below (S := fun _ => False) h).setCell (p := ⟨q, i, none⟩) (.inr hq) v).toBelow (Nat.le_refl _) (fun _ e => e.elim)
theorem conv_nm (w : World) (k : Nat) : (convert 47 9 (.slice (some ⟨w.heap.size, 0, none⟩) 1 1)).run Try.prog (w.alloc (.cells #[.int .u8 (97 + (k : Int))] 5)) = .ok (.string (nm k)) (w.alloc (.cells #[.int .u8 (97 + (k : Int))] 5)) := by
  have h := conv_one w (97 + k)
  rw [show ((97 + k : Nat) : Int) = 97 + (k : Int) by omega] at h
  exact h

set_option maxRecDepth 100000 in
set_option maxHeartbeats 16000000 in
theorem once_walk (w : World) (v : Value) (l : List Int) (hl : SlK .u8 w v l) :
    Calls Try.prog 6 #[v] w fun e w' => e = .returned (.bool true) ∧ Below w.heap.size w w' := by
  obtain ⟨pv, cap, rfl, _⟩ := id hl
  have HL := Lib.hid hl
  clear hl
  go_enter Try.func6, Try.ntmps6
  go_wp2_with fail
  refine (begun_any w).mono ?_
  rintro e w1 ⟨rfl, b1⟩
  by_cases hll : l.length ≤ 100
  · go_wp2_with fail
    refine tnew.mono ?_
    rintro e w2 ⟨p, rfl, t2, b2⟩
    have HB2 := Lib.hid (b1.trans (b2.mono b1.size))
    generalize hM : w1.heap.size = M at *
    have HM : Hid (w.heap.size ≤ M) := hM ▸ b1.size
    have HT2 := Lib.hid t2
    clear b1 b2 hM t2
    obtain ⟨n, hn⟩ : ∃ n, l.length = n := ⟨_, rfl⟩
    have HLN := Lib.hid hn
    have hn100 : n ≤ 100 := by omega
    rw [hn]
    clear hll hn
    go_upto_region 7 with (fail)
    have hz : (#[.int .i64 0, .int .i64 0, .int .i64 0, .int .i64 0, .int .i64 0, .int .i64 0, .int .i64 0, .int .i64 0, .int .i64 0, .int .i64 0, .int .i64 0, .int .i64 0, .int .i64 0, .int .i64 0, .int .i64 0, .int .i64 0] : Array Value) = lastV fun _ => 0 := rfl
    rw [hz]
    have hal := (Below.refl w2.heap.size w2).alloc (Nat.le_refl _) (.cells (lastV fun _ => 0) 50)
    have HS0 : Hid (OnS M w2.heap.size p w (w2.alloc (.cells (lastV fun _ => 0) 50)) (fun _ => 0) []) := by
      refine ⟨?_, fun j _ => .inl ⟨rfl, rfl⟩, heap_alloc_new w2 _, HB2.out.trans (hal.mono (Nat.le_trans HM.out HT2.out.1))⟩
      have h1 := HT2.out.aside hal (Below.refl _ _)
      rw [alloc_sz] at h1
      exact h1
    have hM2 : M ≤ w2.heap.size := HT2.out.1
    generalize w2.alloc (.cells (lastV fun _ => 0) 50) = w3 at *
    generalize w2.heap.size = ga at *
    clear hz hal HB2 HT2
    go_wp2_with fail
    go_loopw [5, 6] (fun nn i wr => ∃ (j : Nat) (f : Nat → Nat) (xs : List KV), j ≤ n ∧ i = .int .i64 j ∧ nn = .int .i64 (xs.length : Int) ∧ Hid (xs.length ≤ j ∧ (∀ c, f c ≤ 100) ∧ OnS M ga p w wr f xs)) (fun _ i _ => n - intN i)
    case atStart => exact ⟨0, fun _ => 0, [], Nat.zero_le _, rfl, rfl, Nat.le_refl _, fun _ => Nat.zero_le _, HS0.out⟩
    case round =>
      obtain ⟨j, f, xs, hj, rfl, rfl, HR⟩ := hrel
      clear HS0
      by_cases hlt : j < n
      · have hxl : xs.length ≤ j := HR.out.1
        obtain ⟨ab, ao, x0, rfl, hx8, hab, hcell⟩ := sl_at (i := j) HL.out HR.out.2.2.2.2.2 (by have := HLN.out; omega)
        obtain ⟨x, rfl, hx9⟩ := u8_nat hx8
        obtain ⟨k, hk⟩ : ∃ k, x % 16 = k := ⟨_, rfl⟩
        have hk16 : k < 16 := by omega
        have hkI : (x : Int) % 16 = (k : Int) := by omega
        have hcv := conv_nm wr k
        have hal := (Below.refl wr.heap.size wr).alloc (Nat.le_refl _) (.cells #[.int .u8 (97 + (k : Int))] 5)
        have HO := Lib.hid (HR.out.2.2.below HM.out hal)
        have HF := Lib.hid HR.out.2.1
        have hcell2 := (hal.cell (p := ⟨ab, ao + j, none⟩) (Nat.lt_of_lt_of_le hab (Nat.le_trans HM.out HR.out.2.2.1.1))).trans hcell
        generalize hwn : wr.alloc (.cells #[.int .u8 (97 + (k : Int))] 5) = wn at *
        obtain ⟨fk, hfk⟩ : ∃ fk, f k = fk := ⟨_, rfl⟩
        have hlk := (HO.out.at hk16).1
        have hlf := (HO.out.at hk16).2
        rw [hfk] at hlk
        have hhas := HO.out.2.1.has hk16
        rw [hfk] at hhas
        have hfk9 : fk ≤ 100 := by rw [← hfk]; exact HF.out k
        have HFK := Lib.hid hfk
        have hbi : ((x : Int) / 16 % 4 == 0) = decide (x / 16 % 4 = 0) := by
          by_cases c : x / 16 % 4 = 0
          · rw [beq_iff_eq.2 (by omega : (x : Int) / 16 % 4 = 0)]; simp [c]
          · rw [beq_eq_false_iff_ne.2 (by omega : (x : Int) / 16 % 4 ≠ 0)]; simp [c]
        have SDk : wn.drew.cell? ⟨ga, k, none⟩ = some (.int .i64 (fk : Int)) := hlk
        have HHS := Lib.hid hhas
        clear HR hx8 hal hk hfk
        by_cases hq : x / 16 % 4 = 0
        · rw [decide_eq_true hq] at hbi
          have HCC := Lib.hid (tcut_keep (HO.out.1.below (Below.refl _ wn).drew) (by omega) (nm k))
          rw [hhas] at HCC
          clear hhas hq
          by_cases hf0 : fk = 0
          · have hd0 : decide (0 < fk) = false := decide_eq_false (by omega)
            have hd1 : decide ((0 : Int) < (fk : Int)) = false := decide_eq_false (by omega)
            rw [hd0] at HCC
            have hhs := HHS.out
            rw [hd0] at hhs
            go_upto_region 14 with (fail)
            go_region_held (fun W => W.cell? ⟨ga, k, none⟩ = some (.int .i64 (fk : Int))) (first | exact SDk | assumption)
              (first | (go_at_call 12; refine HCC.out.mono ?_; rintro e w4 ⟨rfl, t4, b4, k4⟩; have hl4 : w4.cell? ⟨ga, k, none⟩ = some (.int .i64 (fk : Int)) := (World.cell?_of_block (k4 ga (Nat.le_refl _) (by omega))).trans hlk; have H4 := Lib.hid (And.intro t4 (And.intro b4 k4)); clear t4 b4 k4))
            all_goals
              have hh4 : w4.heap[ga]? = some (.cells (lastV f) 50 (0, 0)) := (H4.out.2.2 ga (Nat.le_refl _) (by omega)).trans HO.out.2.2.1
              have hfz := (cell_of hh4 k).2
              have hyl0 := del_len (nm k) xs
              have H5 : Hid (OnS M ga p w (w4.setCell ⟨ga, k, none⟩ (.int .i64 0)) (upN f k 0) (del (nm k) xs) ∧ ∀ c, upN f k 0 c ≤ 100) := by
                refine ⟨⟨H4.out.1.set _, HO.out.2.1.cut HO.out.1.tt.rise hk16, ?_, ?_⟩, upN_le (by omega) HF.out⟩
                · have h1 := heap_setCell_same w4 ga k _ _ (.int .i64 0) hh4
                  have h2 := lastV_set f hk16 0
                  rw [h1]
                  exact congrArg (fun z => some (Obj.cells z 50 (0, 0))) h2
                · exact below_set2 ((HO.out.2.2.2.drew).trans (H4.out.2.1.mono HM.out)) (Nat.le_trans HM.out hM2)
              clear H4 HCC hh4 hcv hlk hlf SDk
              have hyj : ((del (nm k) xs)).length ≤ j + 1 := by omega
              generalize (del (nm k) xs) = ys at *
              generalize upN f k 0 = f2 at *
              obtain ⟨yl, hyl⟩ : ∃ yl, ys.length = yl := ⟨_, rfl⟩
              rw [hyl] at hyl0
              have hli : (xs.length : Int) = (yl : Int) := by rw [hhs] at hyl0; simp at hyl0; omega
              clear hyl0
              have HIN := Lib.hid (And.intro H5.out.1 (And.intro H5.out.2 hyj))
              go_wp2_with fail
              refine (tlen H5.out.1.1.tt).mono ?_
              rintro e w6 ⟨rfl, _, b6⟩
              have HO6 := Lib.hid (H5.out.1.below HM.out b6)
              have HF6 := Lib.hid H5.out.2
              rw [hyl]
              clear b6 H5 HIN
              go_wp2_with fail
              go_loopw [9] (fun i wr => ∃ c : Nat, c ≤ 16 ∧ i = .int .i64 c ∧ Hid (OnS M ga p w wr f2 ys)) (fun i _ => 16 - intN i)
              case atStart => exact ⟨0, Nat.zero_le _, rfl, HO6.out⟩
              case round =>
                obtain ⟨c, hc, rfl, HR⟩ := hrel
                clear HO6
                by_cases hlt2 : c < 16
                · have hcv := conv_nm wr c
                  have hal := (Below.refl wr.heap.size wr).alloc (Nat.le_refl _) (.cells #[.int .u8 (97 + (c : Int))] 5)
                  have HO := Lib.hid (HR.out.below HM.out hal)
                  generalize hwn : wr.alloc (.cells #[.int .u8 (97 + (c : Int))] 5) = wn at *
                  clear hal HR
                  go_wp2_with fail
                  refine (tget HO.out.1.tt (nm c)).mono ?_
                  rintro e w8 ⟨rfl, _, b8⟩
                  have HO8 := Lib.hid (HO.out.below HM.out b8)
                  clear b8 HO hcv hwn
                  have hlr := HO8.out.2.1 c hlt2
                  rcases hlr with ⟨hf, hg⟩ | ⟨hf, cc, hg⟩
                  · rw [hg]
                    simp only [fndV]
                    have hal := (Below.refl w8.heap.size w8).alloc (Nat.le_refl _) (.cells #[.int .i64 0, .int .i64 0] 35)
                    have hbx := heap_alloc_new w8 (.cells #[.int .i64 0, .int .i64 0] 35)
                    have HO9 := Lib.hid (HO8.out.below HM.out hal)
                    go_upto_region 30 with (fail)
                    generalize w8.alloc (.cells #[.int .i64 0, .int .i64 0] 35) = w9 at *
                    generalize w8.heap.size = nb at *
                    obtain ⟨fj, hfj⟩ : ∃ fj, f2 c = fj := ⟨_, rfl⟩
                    obtain ⟨pg, hpg⟩ : ∃ pg : Int, (0 : Int) = pg := ⟨_, rfl⟩
                    have hz : fj = 0 := by rw [← hfj]; exact hf
                    have hd2 : decide ((0 : Int) < (fj : Int)) = false := decide_eq_false (by omega)
                    have hd3 : decide (0 < fj) = false := decide_eq_false (by omega)
                    have SD : w9.drew.cell? ⟨ga, c, none⟩ = some (.int .i64 (fj : Int)) ∧ w9.drew.cell? ⟨nb, 0, none⟩ = some (.int .i64 pg) := ⟨by rw [← hfj]; exact (HO9.out.at hlt2).1, by rw [← hpg]; exact (cell_of hbx 0).1⟩
                    clear hal hbx HO8 hf hg hz hfj hpg
                    refine wp_region_held_drew (S := (fun W : World => W.cell? ⟨ga, c, none⟩ = some (.int .i64 (fj : Int)) ∧ W.cell? ⟨nb, 0, none⟩ = some (.int .i64 pg))) (by kernel_rfl) SD (fun hHeld => ?_)
                    refine wpAnyH_take (i := 0) (oi := ⟨_, _, _, _, _, _⟩) (v := ?_) rfl (by kernel_rfl) (by kernel_rfl) (by kernel_rfl) (fun _ _ _ h => h) (Or.inl ⟨by rfl, ?_⟩) (by assumption) ?_
                    rotate_left
                    · intro W hSW
                      try dsimp only at hSW
                      go_simp
                      try with_reducible rfl
                    rotate_left
                    try simp only [Act.put, List.setIfInBounds_toArray, List.set_cons_zero, List.set_cons_succ]
                    refine wpAnyH_take (i := 1) (oi := ⟨_, _, _, _, _, _⟩) (v := ?_) rfl (by kernel_rfl) (by kernel_rfl) (by kernel_rfl) (fun _ _ _ h => h) (Or.inl ⟨by rfl, ?_⟩) (by assumption) ?_
                    rotate_left
                    · intro W hSW
                      try dsimp only at hSW
                      go_simp
                      try with_reducible rfl
                    rotate_left
                    try simp only [Act.put, List.setIfInBounds_toArray, List.set_cons_zero, List.set_cons_succ]
                    refine wpAnyH_take (i := 2) (oi := ⟨_, _, _, _, _, _⟩) (v := ?_) rfl (by kernel_rfl) (by kernel_rfl) (by kernel_rfl) (fun _ _ _ h => h) (Or.inl ⟨by rfl, ?_⟩) (by assumption) ?_
                    rotate_left
                    · intro W hSW
                      try dsimp only at hSW
                      go_simp
                      try with_reducible rfl
                    rotate_left
                    try simp only [Act.put, List.setIfInBounds_toArray, List.set_cons_zero, List.set_cons_succ]
                    refine wpAnyH_take (i := 3) (oi := ⟨_, _, _, _, _, _⟩) (v := ?_) rfl (by kernel_rfl) (by kernel_rfl) (by kernel_rfl) (fun _ _ _ h => h) (Or.inl ⟨by rfl, ?_⟩) (by assumption) ?_
                    rotate_left
                    · intro W hSW
                      try dsimp only at hSW
                      go_simp
                      try with_reducible rfl
                    rotate_left
                    try simp only [Act.put, List.setIfInBounds_toArray, List.set_cons_zero, List.set_cons_succ]
                    refine wpAnyH_take (i := 4) (oi := ⟨_, _, _, _, _, _⟩) (v := ?_) rfl (by kernel_rfl) (by kernel_rfl) (by kernel_rfl) (fun _ _ _ h => h) (Or.inl ⟨by rfl, ?_⟩) (by assumption) ?_
                    rotate_left
                    · intro W hSW
                      try dsimp only at hSW
                      go_simp
                      try with_reducible rfl
                    rotate_left
                    try simp only [Act.put, List.setIfInBounds_toArray, List.set_cons_zero, List.set_cons_succ]
                    refine wpAnyH_take (i := 5) (oi := ⟨_, _, _, _, _, _⟩) (v := ?_) rfl (by kernel_rfl) (by kernel_rfl) (by kernel_rfl) (fun _ _ _ h => h) (Or.inl ⟨by rfl, ?_⟩) (by assumption) ?_
                    rotate_left
                    · intro W hSW
                      try dsimp only at hSW
                      go_simp
                      try with_reducible rfl
                    rotate_left
                    try simp only [Act.put, List.setIfInBounds_toArray, List.set_cons_zero, List.set_cons_succ]
                    refine wpAnyH_take (i := 6) (oi := ⟨_, _, _, _, _, _⟩) (v := ?_) rfl (by kernel_rfl) (by kernel_rfl) (by kernel_rfl) (fun _ _ _ h => h) (Or.inl ⟨by rfl, ?_⟩) (by assumption) ?_
                    rotate_left
                    · intro W hSW
                      try dsimp only at hSW
                      go_simp
                      try with_reducible rfl
                    rotate_left
                    try simp only [Act.put, List.setIfInBounds_toArray, List.set_cons_zero, List.set_cons_succ]
                    refine wpAnyH_take (i := 7) (oi := ⟨_, _, _, _, _, _⟩) (v := ?_) rfl (by kernel_rfl) (by kernel_rfl) (by kernel_rfl) (fun _ _ _ h => h) (Or.inl ⟨by rfl, ?_⟩) (by assumption) ?_
                    rotate_left
                    · intro W hSW
                      try dsimp only at hSW
                      go_simp
                      try with_reducible rfl
                    rotate_left
                    try simp only [Act.put, List.setIfInBounds_toArray, List.set_cons_zero, List.set_cons_succ]
                    refine wpAnyH_take (i := 8) (oi := ⟨_, _, _, _, _, _⟩) (v := ?_) rfl (by kernel_rfl) (by kernel_rfl) (by kernel_rfl) (fun _ _ _ h => h) (Or.inl ⟨by rfl, ?_⟩) (by assumption) ?_
                    rotate_left
                    · intro W hSW
                      try dsimp only at hSW
                      go_simp
                      try with_reducible rfl
                    rotate_left
                    try simp only [Act.put, List.setIfInBounds_toArray, List.set_cons_zero, List.set_cons_succ]
                    refine wpAnyH_take (i := 9) (oi := ⟨_, _, _, _, _, _⟩) (v := undef) rfl (by kernel_rfl) (by kernel_rfl) (by kernel_rfl) (fun _ _ _ h => h) (Or.inr ⟨by rfl, rfl⟩) (by assumption) ?_
                    try simp only [Act.put, List.setIfInBounds_toArray, List.set_cons_zero, List.set_cons_succ]
                    refine wpAnyH_take (i := 10) (oi := ⟨_, _, _, _, _, _⟩) (v := undef) rfl (by kernel_rfl) (by kernel_rfl) (by kernel_rfl) (fun _ _ _ h => h) (Or.inr ⟨by rfl, rfl⟩) (by assumption) ?_
                    try simp only [Act.put, List.setIfInBounds_toArray, List.set_cons_zero, List.set_cons_succ]
                    refine wpAnyH_take (i := 11) (oi := ⟨_, _, _, _, _, _⟩) (v := undef) rfl (by kernel_rfl) (by kernel_rfl) (by kernel_rfl) (fun _ _ _ h => h) (Or.inr ⟨by rfl, rfl⟩) (by assumption) ?_
                    try simp only [Act.put, List.setIfInBounds_toArray, List.set_cons_zero, List.set_cons_succ]
                    refine wpAnyH_take (i := 12) (oi := ⟨_, _, _, _, _, _⟩) (v := undef) rfl (by kernel_rfl) (by kernel_rfl) (by kernel_rfl) (fun _ _ _ h => h) (Or.inr ⟨by rfl, rfl⟩) (by assumption) ?_
                    try simp only [Act.put, List.setIfInBounds_toArray, List.set_cons_zero, List.set_cons_succ]
                    refine wpAnyH_take (i := 13) (oi := ⟨_, _, _, _, _, _⟩) (v := undef) rfl (by kernel_rfl) (by kernel_rfl) (by kernel_rfl) (fun _ _ _ h => h) (Or.inr ⟨by rfl, rfl⟩) (by assumption) ?_
                    try simp only [Act.put, List.setIfInBounds_toArray, List.set_cons_zero, List.set_cons_succ]
                    refine wpAnyH_take (i := 14) (oi := ⟨_, _, _, _, _, _⟩) (v := undef) rfl (by kernel_rfl) (by kernel_rfl) (by kernel_rfl) (fun _ _ _ h => h) (Or.inr ⟨by rfl, rfl⟩) (by assumption) ?_
                    try simp only [Act.put, List.setIfInBounds_toArray, List.set_cons_zero, List.set_cons_succ]
                    refine wpAnyH_take (i := 15) (oi := ⟨_, _, _, _, _, _⟩) (v := ?_) rfl (by kernel_rfl) (by kernel_rfl) (by kernel_rfl) (fun _ _ _ h => h) (Or.inl ⟨by rfl, ?_⟩) (by assumption) ?_
                    rotate_left
                    · intro W hSW
                      try dsimp only at hSW
                      go_simp
                      try with_reducible rfl
                    rotate_left
                    try simp only [Act.put, List.setIfInBounds_toArray, List.set_cons_zero, List.set_cons_succ]
                    refine wpAnyH_take (i := 16) (oi := ⟨_, _, _, _, _, _⟩) (v := ?_) rfl (by kernel_rfl) (by kernel_rfl) (by kernel_rfl) (fun _ _ _ h => h) (Or.inl ⟨by rfl, ?_⟩) (by assumption) ?_
                    rotate_left
                    · intro W hSW
                      try dsimp only at hSW
                      go_simp
                      try with_reducible rfl
                    rotate_left
                    try simp only [Act.put, List.setIfInBounds_toArray, List.set_cons_zero, List.set_cons_succ]
                    refine wpAnyH_done (by kernel_rfl) ?_ _
                    clear SD
                    go_wp2
                    go_roundw
                    case rel => exact ⟨c + 1, by omega, by go_num, HO9.out.below HM.out (Below.refl _ _).drew⟩
                    case measure => simp [intN]; omega
                  · rw [hg]
                    simp only [fndV]
                    have hal := (Below.refl w8.heap.size w8).alloc (Nat.le_refl _) (.cells #[.int .i64 (f2 c : Int), .int .i64 cc] 35)
                    have hbx := heap_alloc_new w8 (.cells #[.int .i64 (f2 c : Int), .int .i64 cc] 35)
                    have HO9 := Lib.hid (HO8.out.below HM.out hal)
                    obtain ⟨fj, hfj⟩ : ∃ fj, f2 c = fj := ⟨_, rfl⟩
                    rw [hfj] at hal hbx HO9 hf ⊢
                    go_upto_region 30 with (fail)
                    generalize w8.alloc (.cells #[.int .i64 (fj : Int), .int .i64 cc] 35) = w9 at *
                    generalize w8.heap.size = nb at *
                    obtain ⟨pg, hpg⟩ : ∃ pg : Int, (fj : Int) = pg := ⟨_, rfl⟩
                    have hd2 : decide ((0 : Int) < (fj : Int)) = true := decide_eq_true (by omega)
                    have hd3 : decide (0 < fj) = true := decide_eq_true (by omega)
                    have hd4 : (pg != (fj : Int)) = false := by rw [← hpg]; simp
                    have SD : w9.drew.cell? ⟨ga, c, none⟩ = some (.int .i64 (fj : Int)) ∧ w9.drew.cell? ⟨nb, 0, none⟩ = some (.int .i64 pg) := ⟨by rw [← hfj]; exact (HO9.out.at hlt2).1, by rw [← hpg]; exact (cell_of hbx 0).1⟩
                    clear hal hbx HO8 hf hg hfj hpg
                    refine wp_region_held_drew (S := (fun W : World => W.cell? ⟨ga, c, none⟩ = some (.int .i64 (fj : Int)) ∧ W.cell? ⟨nb, 0, none⟩ = some (.int .i64 pg))) (by kernel_rfl) SD (fun hHeld => ?_)
                    refine wpAnyH_take (i := 0) (oi := ⟨_, _, _, _, _, _⟩) (v := ?_) rfl (by kernel_rfl) (by kernel_rfl) (by kernel_rfl) (fun _ _ _ h => h) (Or.inl ⟨by rfl, ?_⟩) (by assumption) ?_
                    rotate_left
                    · intro W hSW
                      try dsimp only at hSW
                      go_simp
                      try with_reducible rfl
                    rotate_left
                    try simp only [Act.put, List.setIfInBounds_toArray, List.set_cons_zero, List.set_cons_succ]
                    refine wpAnyH_take (i := 1) (oi := ⟨_, _, _, _, _, _⟩) (v := ?_) rfl (by kernel_rfl) (by kernel_rfl) (by kernel_rfl) (fun _ _ _ h => h) (Or.inl ⟨by rfl, ?_⟩) (by assumption) ?_
                    rotate_left
                    · intro W hSW
                      try dsimp only at hSW
                      go_simp
                      try with_reducible rfl
                    rotate_left
                    try simp only [Act.put, List.setIfInBounds_toArray, List.set_cons_zero, List.set_cons_succ]
                    refine wpAnyH_take (i := 2) (oi := ⟨_, _, _, _, _, _⟩) (v := ?_) rfl (by kernel_rfl) (by kernel_rfl) (by kernel_rfl) (fun _ _ _ h => h) (Or.inl ⟨by rfl, ?_⟩) (by assumption) ?_
                    rotate_left
                    · intro W hSW
                      try dsimp only at hSW
                      go_simp
                      try with_reducible rfl
                    rotate_left
                    try simp only [Act.put, List.setIfInBounds_toArray, List.set_cons_zero, List.set_cons_succ]
                    refine wpAnyH_take (i := 3) (oi := ⟨_, _, _, _, _, _⟩) (v := ?_) rfl (by kernel_rfl) (by kernel_rfl) (by kernel_rfl) (fun _ _ _ h => h) (Or.inl ⟨by rfl, ?_⟩) (by assumption) ?_
                    rotate_left
                    · intro W hSW
                      try dsimp only at hSW
                      go_simp
                      try with_reducible rfl
                    rotate_left
                    try simp only [Act.put, List.setIfInBounds_toArray, List.set_cons_zero, List.set_cons_succ]
                    refine wpAnyH_take (i := 4) (oi := ⟨_, _, _, _, _, _⟩) (v := ?_) rfl (by kernel_rfl) (by kernel_rfl) (by kernel_rfl) (fun _ _ _ h => h) (Or.inl ⟨by rfl, ?_⟩) (by assumption) ?_
                    rotate_left
                    · intro W hSW
                      try dsimp only at hSW
                      go_simp
                      try with_reducible rfl
                    rotate_left
                    try simp only [Act.put, List.setIfInBounds_toArray, List.set_cons_zero, List.set_cons_succ]
                    refine wpAnyH_take (i := 5) (oi := ⟨_, _, _, _, _, _⟩) (v := ?_) rfl (by kernel_rfl) (by kernel_rfl) (by kernel_rfl) (fun _ _ _ h => h) (Or.inl ⟨by rfl, ?_⟩) (by assumption) ?_
                    rotate_left
                    · intro W hSW
                      try dsimp only at hSW
                      go_simp
                      try with_reducible rfl
                    rotate_left
                    try simp only [Act.put, List.setIfInBounds_toArray, List.set_cons_zero, List.set_cons_succ]
                    refine wpAnyH_take (i := 6) (oi := ⟨_, _, _, _, _, _⟩) (v := ?_) rfl (by kernel_rfl) (by kernel_rfl) (by kernel_rfl) (fun _ _ _ h => h) (Or.inl ⟨by rfl, ?_⟩) (by assumption) ?_
                    rotate_left
                    · intro W hSW
                      try dsimp only at hSW
                      go_simp
                      try with_reducible rfl
                    rotate_left
                    try simp only [Act.put, List.setIfInBounds_toArray, List.set_cons_zero, List.set_cons_succ]
                    refine wpAnyH_take (i := 7) (oi := ⟨_, _, _, _, _, _⟩) (v := ?_) rfl (by kernel_rfl) (by kernel_rfl) (by kernel_rfl) (fun _ _ _ h => h) (Or.inl ⟨by rfl, ?_⟩) (by assumption) ?_
                    rotate_left
                    · intro W hSW
                      try dsimp only at hSW
                      go_simp
                      try with_reducible rfl
                    rotate_left
                    try simp only [Act.put, List.setIfInBounds_toArray, List.set_cons_zero, List.set_cons_succ]
                    refine wpAnyH_take (i := 8) (oi := ⟨_, _, _, _, _, _⟩) (v := ?_) rfl (by kernel_rfl) (by kernel_rfl) (by kernel_rfl) (fun _ _ _ h => h) (Or.inl ⟨by rfl, ?_⟩) (by assumption) ?_
                    rotate_left
                    · intro W hSW
                      try dsimp only at hSW
                      go_simp
                      try with_reducible rfl
                    rotate_left
                    try simp only [Act.put, List.setIfInBounds_toArray, List.set_cons_zero, List.set_cons_succ]
                    refine wpAnyH_take (i := 9) (oi := ⟨_, _, _, _, _, _⟩) (v := ?_) rfl (by kernel_rfl) (by kernel_rfl) (by kernel_rfl) (fun _ _ _ h => h) (Or.inl ⟨by rfl, ?_⟩) (by assumption) ?_
                    rotate_left
                    · intro W hSW
                      try dsimp only at hSW
                      go_simp
                      try with_reducible rfl
                    rotate_left
                    try simp only [Act.put, List.setIfInBounds_toArray, List.set_cons_zero, List.set_cons_succ]
                    refine wpAnyH_take (i := 10) (oi := ⟨_, _, _, _, _, _⟩) (v := ?_) rfl (by kernel_rfl) (by kernel_rfl) (by kernel_rfl) (fun _ _ _ h => h) (Or.inl ⟨by rfl, ?_⟩) (by assumption) ?_
                    rotate_left
                    · intro W hSW
                      try dsimp only at hSW
                      go_simp
                      try with_reducible rfl
                    rotate_left
                    try simp only [Act.put, List.setIfInBounds_toArray, List.set_cons_zero, List.set_cons_succ]
                    refine wpAnyH_take (i := 11) (oi := ⟨_, _, _, _, _, _⟩) (v := ?_) rfl (by kernel_rfl) (by kernel_rfl) (by kernel_rfl) (fun _ _ _ h => h) (Or.inl ⟨by rfl, ?_⟩) (by assumption) ?_
                    rotate_left
                    · intro W hSW
                      try dsimp only at hSW
                      go_simp
                      try with_reducible rfl
                    rotate_left
                    try simp only [Act.put, List.setIfInBounds_toArray, List.set_cons_zero, List.set_cons_succ]
                    refine wpAnyH_take (i := 12) (oi := ⟨_, _, _, _, _, _⟩) (v := ?_) rfl (by kernel_rfl) (by kernel_rfl) (by kernel_rfl) (fun _ _ _ h => h) (Or.inl ⟨by rfl, ?_⟩) (by assumption) ?_
                    rotate_left
                    · intro W hSW
                      try dsimp only at hSW
                      go_simp
                      try with_reducible rfl
                    rotate_left
                    try simp only [Act.put, List.setIfInBounds_toArray, List.set_cons_zero, List.set_cons_succ]
                    refine wpAnyH_take (i := 13) (oi := ⟨_, _, _, _, _, _⟩) (v := ?_) rfl (by kernel_rfl) (by kernel_rfl) (by kernel_rfl) (fun _ _ _ h => h) (Or.inl ⟨by rfl, ?_⟩) (by assumption) ?_
                    rotate_left
                    · intro W hSW
                      try dsimp only at hSW
                      go_simp
                      try with_reducible rfl
                    rotate_left
                    try simp only [Act.put, List.setIfInBounds_toArray, List.set_cons_zero, List.set_cons_succ]
                    refine wpAnyH_take (i := 14) (oi := ⟨_, _, _, _, _, _⟩) (v := ?_) rfl (by kernel_rfl) (by kernel_rfl) (by kernel_rfl) (fun _ _ _ h => h) (Or.inl ⟨by rfl, ?_⟩) (by assumption) ?_
                    rotate_left
                    · intro W hSW
                      try dsimp only at hSW
                      go_simp
                      try with_reducible rfl
                    rotate_left
                    try simp only [Act.put, List.setIfInBounds_toArray, List.set_cons_zero, List.set_cons_succ]
                    refine wpAnyH_take (i := 15) (oi := ⟨_, _, _, _, _, _⟩) (v := ?_) rfl (by kernel_rfl) (by kernel_rfl) (by kernel_rfl) (fun _ _ _ h => h) (Or.inl ⟨by rfl, ?_⟩) (by assumption) ?_
                    rotate_left
                    · intro W hSW
                      try dsimp only at hSW
                      go_simp
                      try with_reducible rfl
                    rotate_left
                    try simp only [Act.put, List.setIfInBounds_toArray, List.set_cons_zero, List.set_cons_succ]
                    refine wpAnyH_take (i := 16) (oi := ⟨_, _, _, _, _, _⟩) (v := ?_) rfl (by kernel_rfl) (by kernel_rfl) (by kernel_rfl) (fun _ _ _ h => h) (Or.inl ⟨by rfl, ?_⟩) (by assumption) ?_
                    rotate_left
                    · intro W hSW
                      try dsimp only at hSW
                      go_simp
                      try with_reducible rfl
                    rotate_left
                    try simp only [Act.put, List.setIfInBounds_toArray, List.set_cons_zero, List.set_cons_succ]
                    refine wpAnyH_done (by kernel_rfl) ?_ _
                    clear SD
                    go_wp2
                    go_roundw
                    case rel => exact ⟨c + 1, by omega, by go_num, HO9.out.below HM.out (Below.refl _ _).drew⟩
                    case measure => simp [intN]; omega
                · have HOn := HR.out
                  clear HR
                  go_wp2_with fail
                  go_roundw
                  case rel => exact ⟨j + 1, f2, ys, by omega, by go_num, by rw [hyl], by have := hyj; omega, HF6.out, HOn⟩
                  case measure => simp [intN]; omega
          · have hd0 : decide (0 < fk) = true := decide_eq_true (by omega)
            have hd1 : decide ((0 : Int) < (fk : Int)) = true := decide_eq_true (by omega)
            rw [hd0] at HCC
            have hhs := HHS.out
            rw [hd0] at hhs
            go_upto_region 14 with (fail)
            go_region_held (fun W => W.cell? ⟨ga, k, none⟩ = some (.int .i64 (fk : Int))) (first | exact SDk | assumption)
              (first | (go_at_call 12; refine HCC.out.mono ?_; rintro e w4 ⟨rfl, t4, b4, k4⟩; have hl4 : w4.cell? ⟨ga, k, none⟩ = some (.int .i64 (fk : Int)) := (World.cell?_of_block (k4 ga (Nat.le_refl _) (by omega))).trans hlk; have H4 := Lib.hid (And.intro t4 (And.intro b4 k4)); clear t4 b4 k4))
            all_goals
              have hh4 : w4.heap[ga]? = some (.cells (lastV f) 50 (0, 0)) := (H4.out.2.2 ga (Nat.le_refl _) (by omega)).trans HO.out.2.2.1
              have hfz := (cell_of hh4 k).2
              have hyl0 := del_len (nm k) xs
              have H5 : Hid (OnS M ga p w (w4.setCell ⟨ga, k, none⟩ (.int .i64 0)) (upN f k 0) (del (nm k) xs) ∧ ∀ c, upN f k 0 c ≤ 100) := by
                refine ⟨⟨H4.out.1.set _, HO.out.2.1.cut HO.out.1.tt.rise hk16, ?_, ?_⟩, upN_le (by omega) HF.out⟩
                · have h1 := heap_setCell_same w4 ga k _ _ (.int .i64 0) hh4
                  have h2 := lastV_set f hk16 0
                  rw [h1]
                  exact congrArg (fun z => some (Obj.cells z 50 (0, 0))) h2
                · exact below_set2 ((HO.out.2.2.2.drew).trans (H4.out.2.1.mono HM.out)) (Nat.le_trans HM.out hM2)
              clear H4 HCC hh4 hcv hlk hlf SDk
              have hyj : ((del (nm k) xs)).length ≤ j + 1 := by omega
              generalize (del (nm k) xs) = ys at *
              generalize upN f k 0 = f2 at *
              obtain ⟨yl, hyl⟩ : ∃ yl, ys.length = yl := ⟨_, rfl⟩
              rw [hyl] at hyl0
              have hli : (xs.length : Int) - 1 = (yl : Int) := by rw [hhs] at hyl0; simp at hyl0; omega
              clear hyl0
              have HIN := Lib.hid (And.intro H5.out.1 (And.intro H5.out.2 hyj))
              go_wp2_with fail
              refine (tlen H5.out.1.1.tt).mono ?_
              rintro e w6 ⟨rfl, _, b6⟩
              have HO6 := Lib.hid (H5.out.1.below HM.out b6)
              have HF6 := Lib.hid H5.out.2
              rw [hyl]
              clear b6 H5 HIN
              go_wp2_with fail
              go_loopw [9] (fun i wr => ∃ c : Nat, c ≤ 16 ∧ i = .int .i64 c ∧ Hid (OnS M ga p w wr f2 ys)) (fun i _ => 16 - intN i)
              case atStart => exact ⟨0, Nat.zero_le _, rfl, HO6.out⟩
              case round =>
                obtain ⟨c, hc, rfl, HR⟩ := hrel
                clear HO6
                by_cases hlt2 : c < 16
                · have hcv := conv_nm wr c
                  have hal := (Below.refl wr.heap.size wr).alloc (Nat.le_refl _) (.cells #[.int .u8 (97 + (c : Int))] 5)
                  have HO := Lib.hid (HR.out.below HM.out hal)
                  generalize hwn : wr.alloc (.cells #[.int .u8 (97 + (c : Int))] 5) = wn at *
                  clear hal HR
                  go_wp2_with fail
                  refine (tget HO.out.1.tt (nm c)).mono ?_
                  rintro e w8 ⟨rfl, _, b8⟩
                  have HO8 := Lib.hid (HO.out.below HM.out b8)
                  clear b8 HO hcv hwn
                  have hlr := HO8.out.2.1 c hlt2
                  rcases hlr with ⟨hf, hg⟩ | ⟨hf, cc, hg⟩
                  · rw [hg]
                    simp only [fndV]
                    have hal := (Below.refl w8.heap.size w8).alloc (Nat.le_refl _) (.cells #[.int .i64 0, .int .i64 0] 35)
                    have hbx := heap_alloc_new w8 (.cells #[.int .i64 0, .int .i64 0] 35)
                    have HO9 := Lib.hid (HO8.out.below HM.out hal)
                    go_upto_region 30 with (fail)
                    generalize w8.alloc (.cells #[.int .i64 0, .int .i64 0] 35) = w9 at *
                    generalize w8.heap.size = nb at *
                    obtain ⟨fj, hfj⟩ : ∃ fj, f2 c = fj := ⟨_, rfl⟩
                    obtain ⟨pg, hpg⟩ : ∃ pg : Int, (0 : Int) = pg := ⟨_, rfl⟩
                    have hz : fj = 0 := by rw [← hfj]; exact hf
                    have hd2 : decide ((0 : Int) < (fj : Int)) = false := decide_eq_false (by omega)
                    have hd3 : decide (0 < fj) = false := decide_eq_false (by omega)
                    have SD : w9.drew.cell? ⟨ga, c, none⟩ = some (.int .i64 (fj : Int)) ∧ w9.drew.cell? ⟨nb, 0, none⟩ = some (.int .i64 pg) := ⟨by rw [← hfj]; exact (HO9.out.at hlt2).1, by rw [← hpg]; exact (cell_of hbx 0).1⟩
                    clear hal hbx HO8 hf hg hz hfj hpg
                    refine wp_region_held_drew (S := (fun W : World => W.cell? ⟨ga, c, none⟩ = some (.int .i64 (fj : Int)) ∧ W.cell? ⟨nb, 0, none⟩ = some (.int .i64 pg))) (by kernel_rfl) SD (fun hHeld => ?_)
                    refine wpAnyH_take (i := 0) (oi := ⟨_, _, _, _, _, _⟩) (v := ?_) rfl (by kernel_rfl) (by kernel_rfl) (by kernel_rfl) (fun _ _ _ h => h) (Or.inl ⟨by rfl, ?_⟩) (by assumption) ?_
                    rotate_left
                    · intro W hSW
                      try dsimp only at hSW
                      go_simp
                      try with_reducible rfl
                    rotate_left
                    try simp only [Act.put, List.setIfInBounds_toArray, List.set_cons_zero, List.set_cons_succ]
                    refine wpAnyH_take (i := 1) (oi := ⟨_, _, _, _, _, _⟩) (v := ?_) rfl (by kernel_rfl) (by kernel_rfl) (by kernel_rfl) (fun _ _ _ h => h) (Or.inl ⟨by rfl, ?_⟩) (by assumption) ?_
                    rotate_left
                    · intro W hSW
                      try dsimp only at hSW
                      go_simp
                      try with_reducible rfl
                    rotate_left
                    try simp only [Act.put, List.setIfInBounds_toArray, List.set_cons_zero, List.set_cons_succ]
                    refine wpAnyH_take (i := 2) (oi := ⟨_, _, _, _, _, _⟩) (v := ?_) rfl (by kernel_rfl) (by kernel_rfl) (by kernel_rfl) (fun _ _ _ h => h) (Or.inl ⟨by rfl, ?_⟩) (by assumption) ?_
                    rotate_left
                    · intro W hSW
                      try dsimp only at hSW
                      go_simp
                      try with_reducible rfl
                    rotate_left
                    try simp only [Act.put, List.setIfInBounds_toArray, List.set_cons_zero, List.set_cons_succ]
                    refine wpAnyH_take (i := 3) (oi := ⟨_, _, _, _, _, _⟩) (v := ?_) rfl (by kernel_rfl) (by kernel_rfl) (by kernel_rfl) (fun _ _ _ h => h) (Or.inl ⟨by rfl, ?_⟩) (by assumption) ?_
                    rotate_left
                    · intro W hSW
                      try dsimp only at hSW
                      go_simp
                      try with_reducible rfl
                    rotate_left
                    try simp only [Act.put, List.setIfInBounds_toArray, List.set_cons_zero, List.set_cons_succ]
                    refine wpAnyH_take (i := 4) (oi := ⟨_, _, _, _, _, _⟩) (v := ?_) rfl (by kernel_rfl) (by kernel_rfl) (by kernel_rfl) (fun _ _ _ h => h) (Or.inl ⟨by rfl, ?_⟩) (by assumption) ?_
                    rotate_left
                    · intro W hSW
                      try dsimp only at hSW
                      go_simp
                      try with_reducible rfl
                    rotate_left
                    try simp only [Act.put, List.setIfInBounds_toArray, List.set_cons_zero, List.set_cons_succ]
                    refine wpAnyH_take (i := 5) (oi := ⟨_, _, _, _, _, _⟩) (v := ?_) rfl (by kernel_rfl) (by kernel_rfl) (by kernel_rfl) (fun _ _ _ h => h) (Or.inl ⟨by rfl, ?_⟩) (by assumption) ?_
                    rotate_left
                    · intro W hSW
                      try dsimp only at hSW
                      go_simp
                      try with_reducible rfl
                    rotate_left
                    try simp only [Act.put, List.setIfInBounds_toArray, List.set_cons_zero, List.set_cons_succ]
                    refine wpAnyH_take (i := 6) (oi := ⟨_, _, _, _, _, _⟩) (v := ?_) rfl (by kernel_rfl) (by kernel_rfl) (by kernel_rfl) (fun _ _ _ h => h) (Or.inl ⟨by rfl, ?_⟩) (by assumption) ?_
                    rotate_left
                    · intro W hSW
                      try dsimp only at hSW
                      go_simp
                      try with_reducible rfl
                    rotate_left
                    try simp only [Act.put, List.setIfInBounds_toArray, List.set_cons_zero, List.set_cons_succ]
                    refine wpAnyH_take (i := 7) (oi := ⟨_, _, _, _, _, _⟩) (v := ?_) rfl (by kernel_rfl) (by kernel_rfl) (by kernel_rfl) (fun _ _ _ h => h) (Or.inl ⟨by rfl, ?_⟩) (by assumption) ?_
                    rotate_left
                    · intro W hSW
                      try dsimp only at hSW
                      go_simp
                      try with_reducible rfl
                    rotate_left
                    try simp only [Act.put, List.setIfInBounds_toArray, List.set_cons_zero, List.set_cons_succ]
                    refine wpAnyH_take (i := 8) (oi := ⟨_, _, _, _, _, _⟩) (v := ?_) rfl (by kernel_rfl) (by kernel_rfl) (by kernel_rfl) (fun _ _ _ h => h) (Or.inl ⟨by rfl, ?_⟩) (by assumption) ?_
                    rotate_left
                    · intro W hSW
                      try dsimp only at hSW
                      go_simp
                      try with_reducible rfl
                    rotate_left
                    try simp only [Act.put, List.setIfInBounds_toArray, List.set_cons_zero, List.set_cons_succ]
                    refine wpAnyH_take (i := 9) (oi := ⟨_, _, _, _, _, _⟩) (v := undef) rfl (by kernel_rfl) (by kernel_rfl) (by kernel_rfl) (fun _ _ _ h => h) (Or.inr ⟨by rfl, rfl⟩) (by assumption) ?_
                    try simp only [Act.put, List.setIfInBounds_toArray, List.set_cons_zero, List.set_cons_succ]
                    refine wpAnyH_take (i := 10) (oi := ⟨_, _, _, _, _, _⟩) (v := undef) rfl (by kernel_rfl) (by kernel_rfl) (by kernel_rfl) (fun _ _ _ h => h) (Or.inr ⟨by rfl, rfl⟩) (by assumption) ?_
                    try simp only [Act.put, List.setIfInBounds_toArray, List.set_cons_zero, List.set_cons_succ]
                    refine wpAnyH_take (i := 11) (oi := ⟨_, _, _, _, _, _⟩) (v := undef) rfl (by kernel_rfl) (by kernel_rfl) (by kernel_rfl) (fun _ _ _ h => h) (Or.inr ⟨by rfl, rfl⟩) (by assumption) ?_
                    try simp only [Act.put, List.setIfInBounds_toArray, List.set_cons_zero, List.set_cons_succ]
                    refine wpAnyH_take (i := 12) (oi := ⟨_, _, _, _, _, _⟩) (v := undef) rfl (by kernel_rfl) (by kernel_rfl) (by kernel_rfl) (fun _ _ _ h => h) (Or.inr ⟨by rfl, rfl⟩) (by assumption) ?_
                    try simp only [Act.put, List.setIfInBounds_toArray, List.set_cons_zero, List.set_cons_succ]
                    refine wpAnyH_take (i := 13) (oi := ⟨_, _, _, _, _, _⟩) (v := undef) rfl (by kernel_rfl) (by kernel_rfl) (by kernel_rfl) (fun _ _ _ h => h) (Or.inr ⟨by rfl, rfl⟩) (by assumption) ?_
                    try simp only [Act.put, List.setIfInBounds_toArray, List.set_cons_zero, List.set_cons_succ]
                    refine wpAnyH_take (i := 14) (oi := ⟨_, _, _, _, _, _⟩) (v := undef) rfl (by kernel_rfl) (by kernel_rfl) (by kernel_rfl) (fun _ _ _ h => h) (Or.inr ⟨by rfl, rfl⟩) (by assumption) ?_
                    try simp only [Act.put, List.setIfInBounds_toArray, List.set_cons_zero, List.set_cons_succ]
                    refine wpAnyH_take (i := 15) (oi := ⟨_, _, _, _, _, _⟩) (v := ?_) rfl (by kernel_rfl) (by kernel_rfl) (by kernel_rfl) (fun _ _ _ h => h) (Or.inl ⟨by rfl, ?_⟩) (by assumption) ?_
                    rotate_left
                    · intro W hSW
                      try dsimp only at hSW
                      go_simp
                      try with_reducible rfl
                    rotate_left
                    try simp only [Act.put, List.setIfInBounds_toArray, List.set_cons_zero, List.set_cons_succ]
                    refine wpAnyH_take (i := 16) (oi := ⟨_, _, _, _, _, _⟩) (v := ?_) rfl (by kernel_rfl) (by kernel_rfl) (by kernel_rfl) (fun _ _ _ h => h) (Or.inl ⟨by rfl, ?_⟩) (by assumption) ?_
                    rotate_left
                    · intro W hSW
                      try dsimp only at hSW
                      go_simp
                      try with_reducible rfl
                    rotate_left
                    try simp only [Act.put, List.setIfInBounds_toArray, List.set_cons_zero, List.set_cons_succ]
                    refine wpAnyH_done (by kernel_rfl) ?_ _
                    clear SD
                    go_wp2
                    go_roundw
                    case rel => exact ⟨c + 1, by omega, by go_num, HO9.out.below HM.out (Below.refl _ _).drew⟩
                    case measure => simp [intN]; omega
                  · rw [hg]
                    simp only [fndV]
                    have hal := (Below.refl w8.heap.size w8).alloc (Nat.le_refl _) (.cells #[.int .i64 (f2 c : Int), .int .i64 cc] 35)
                    have hbx := heap_alloc_new w8 (.cells #[.int .i64 (f2 c : Int), .int .i64 cc] 35)
                    have HO9 := Lib.hid (HO8.out.below HM.out hal)
                    obtain ⟨fj, hfj⟩ : ∃ fj, f2 c = fj := ⟨_, rfl⟩
                    rw [hfj] at hal hbx HO9 hf ⊢
                    go_upto_region 30 with (fail)
                    generalize w8.alloc (.cells #[.int .i64 (fj : Int), .int .i64 cc] 35) = w9 at *
                    generalize w8.heap.size = nb at *
                    obtain ⟨pg, hpg⟩ : ∃ pg : Int, (fj : Int) = pg := ⟨_, rfl⟩
                    have hd2 : decide ((0 : Int) < (fj : Int)) = true := decide_eq_true (by omega)
                    have hd3 : decide (0 < fj) = true := decide_eq_true (by omega)
                    have hd4 : (pg != (fj : Int)) = false := by rw [← hpg]; simp
                    have SD : w9.drew.cell? ⟨ga, c, none⟩ = some (.int .i64 (fj : Int)) ∧ w9.drew.cell? ⟨nb, 0, none⟩ = some (.int .i64 pg) := ⟨by rw [← hfj]; exact (HO9.out.at hlt2).1, by rw [← hpg]; exact (cell_of hbx 0).1⟩
                    clear hal hbx HO8 hf hg hfj hpg
                    refine wp_region_held_drew (S := (fun W : World => W.cell? ⟨ga, c, none⟩ = some (.int .i64 (fj : Int)) ∧ W.cell? ⟨nb, 0, none⟩ = some (.int .i64 pg))) (by kernel_rfl) SD (fun hHeld => ?_)
                    refine wpAnyH_take (i := 0) (oi := ⟨_, _, _, _, _, _⟩) (v := ?_) rfl (by kernel_rfl) (by kernel_rfl) (by kernel_rfl) (fun _ _ _ h => h) (Or.inl ⟨by rfl, ?_⟩) (by assumption) ?_
                    rotate_left
                    · intro W hSW
                      try dsimp only at hSW
                      go_simp
                      try with_reducible rfl
                    rotate_left
                    try simp only [Act.put, List.setIfInBounds_toArray, List.set_cons_zero, List.set_cons_succ]
                    refine wpAnyH_take (i := 1) (oi := ⟨_, _, _, _, _, _⟩) (v := ?_) rfl (by kernel_rfl) (by kernel_rfl) (by kernel_rfl) (fun _ _ _ h => h) (Or.inl ⟨by rfl, ?_⟩) (by assumption) ?_
                    rotate_left
                    · intro W hSW
                      try dsimp only at hSW
                      go_simp
                      try with_reducible rfl
                    rotate_left
                    try simp only [Act.put, List.setIfInBounds_toArray, List.set_cons_zero, List.set_cons_succ]
                    refine wpAnyH_take (i := 2) (oi := ⟨_, _, _, _, _, _⟩) (v := ?_) rfl (by kernel_rfl) (by kernel_rfl) (by kernel_rfl) (fun _ _ _ h => h) (Or.inl ⟨by rfl, ?_⟩) (by assumption) ?_
                    rotate_left
                    · intro W hSW
                      try dsimp only at hSW
                      go_simp
                      try with_reducible rfl
                    rotate_left
                    try simp only [Act.put, List.setIfInBounds_toArray, List.set_cons_zero, List.set_cons_succ]
                    refine wpAnyH_take (i := 3) (oi := ⟨_, _, _, _, _, _⟩) (v := ?_) rfl (by kernel_rfl) (by kernel_rfl) (by kernel_rfl) (fun _ _ _ h => h) (Or.inl ⟨by rfl, ?_⟩) (by assumption) ?_
                    rotate_left
                    · intro W hSW
                      try dsimp only at hSW
                      go_simp
                      try with_reducible rfl
                    rotate_left
                    try simp only [Act.put, List.setIfInBounds_toArray, List.set_cons_zero, List.set_cons_succ]
                    refine wpAnyH_take (i := 4) (oi := ⟨_, _, _, _, _, _⟩) (v := ?_) rfl (by kernel_rfl) (by kernel_rfl) (by kernel_rfl) (fun _ _ _ h => h) (Or.inl ⟨by rfl, ?_⟩) (by assumption) ?_
                    rotate_left
                    · intro W hSW
                      try dsimp only at hSW
                      go_simp
                      try with_reducible rfl
                    rotate_left
                    try simp only [Act.put, List.setIfInBounds_toArray, List.set_cons_zero, List.set_cons_succ]
                    refine wpAnyH_take (i := 5) (oi := ⟨_, _, _, _, _, _⟩) (v := ?_) rfl (by kernel_rfl) (by kernel_rfl) (by kernel_rfl) (fun _ _ _ h => h) (Or.inl ⟨by rfl, ?_⟩) (by assumption) ?_
                    rotate_left
                    · intro W hSW
                      try dsimp only at hSW
                      go_simp
                      try with_reducible rfl
                    rotate_left
                    try simp only [Act.put, List.setIfInBounds_toArray, List.set_cons_zero, List.set_cons_succ]
                    refine wpAnyH_take (i := 6) (oi := ⟨_, _, _, _, _, _⟩) (v := ?_) rfl (by kernel_rfl) (by kernel_rfl) (by kernel_rfl) (fun _ _ _ h => h) (Or.inl ⟨by rfl, ?_⟩) (by assumption) ?_
                    rotate_left
                    · intro W hSW
                      try dsimp only at hSW
                      go_simp
                      try with_reducible rfl
                    rotate_left
                    try simp only [Act.put, List.setIfInBounds_toArray, List.set_cons_zero, List.set_cons_succ]
                    refine wpAnyH_take (i := 7) (oi := ⟨_, _, _, _, _, _⟩) (v := ?_) rfl (by kernel_rfl) (by kernel_rfl) (by kernel_rfl) (fun _ _ _ h => h) (Or.inl ⟨by rfl, ?_⟩) (by assumption) ?_
                    rotate_left
                    · intro W hSW
                      try dsimp only at hSW
                      go_simp
                      try with_reducible rfl
                    rotate_left
                    try simp only [Act.put, List.setIfInBounds_toArray, List.set_cons_zero, List.set_cons_succ]
                    refine wpAnyH_take (i := 8) (oi := ⟨_, _, _, _, _, _⟩) (v := ?_) rfl (by kernel_rfl) (by kernel_rfl) (by kernel_rfl) (fun _ _ _ h => h) (Or.inl ⟨by rfl, ?_⟩) (by assumption) ?_
                    rotate_left
                    · intro W hSW
                      try dsimp only at hSW
                      go_simp
                      try with_reducible rfl
                    rotate_left
                    try simp only [Act.put, List.setIfInBounds_toArray, List.set_cons_zero, List.set_cons_succ]
                    refine wpAnyH_take (i := 9) (oi := ⟨_, _, _, _, _, _⟩) (v := ?_) rfl (by kernel_rfl) (by kernel_rfl) (by kernel_rfl) (fun _ _ _ h => h) (Or.inl ⟨by rfl, ?_⟩) (by assumption) ?_
                    rotate_left
                    · intro W hSW
                      try dsimp only at hSW
                      go_simp
                      try with_reducible rfl
                    rotate_left
                    try simp only [Act.put, List.setIfInBounds_toArray, List.set_cons_zero, List.set_cons_succ]
                    refine wpAnyH_take (i := 10) (oi := ⟨_, _, _, _, _, _⟩) (v := ?_) rfl (by kernel_rfl) (by kernel_rfl) (by kernel_rfl) (fun _ _ _ h => h) (Or.inl ⟨by rfl, ?_⟩) (by assumption) ?_
                    rotate_left
                    · intro W hSW
                      try dsimp only at hSW
                      go_simp
                      try with_reducible rfl
                    rotate_left
                    try simp only [Act.put, List.setIfInBounds_toArray, List.set_cons_zero, List.set_cons_succ]
                    refine wpAnyH_take (i := 11) (oi := ⟨_, _, _, _, _, _⟩) (v := ?_) rfl (by kernel_rfl) (by kernel_rfl) (by kernel_rfl) (fun _ _ _ h => h) (Or.inl ⟨by rfl, ?_⟩) (by assumption) ?_
                    rotate_left
                    · intro W hSW
                      try dsimp only at hSW
                      go_simp
                      try with_reducible rfl
                    rotate_left
                    try simp only [Act.put, List.setIfInBounds_toArray, List.set_cons_zero, List.set_cons_succ]
                    refine wpAnyH_take (i := 12) (oi := ⟨_, _, _, _, _, _⟩) (v := ?_) rfl (by kernel_rfl) (by kernel_rfl) (by kernel_rfl) (fun _ _ _ h => h) (Or.inl ⟨by rfl, ?_⟩) (by assumption) ?_
                    rotate_left
                    · intro W hSW
                      try dsimp only at hSW
                      go_simp
                      try with_reducible rfl
                    rotate_left
                    try simp only [Act.put, List.setIfInBounds_toArray, List.set_cons_zero, List.set_cons_succ]
                    refine wpAnyH_take (i := 13) (oi := ⟨_, _, _, _, _, _⟩) (v := ?_) rfl (by kernel_rfl) (by kernel_rfl) (by kernel_rfl) (fun _ _ _ h => h) (Or.inl ⟨by rfl, ?_⟩) (by assumption) ?_
                    rotate_left
                    · intro W hSW
                      try dsimp only at hSW
                      go_simp
                      try with_reducible rfl
                    rotate_left
                    try simp only [Act.put, List.setIfInBounds_toArray, List.set_cons_zero, List.set_cons_succ]
                    refine wpAnyH_take (i := 14) (oi := ⟨_, _, _, _, _, _⟩) (v := ?_) rfl (by kernel_rfl) (by kernel_rfl) (by kernel_rfl) (fun _ _ _ h => h) (Or.inl ⟨by rfl, ?_⟩) (by assumption) ?_
                    rotate_left
                    · intro W hSW
                      try dsimp only at hSW
                      go_simp
                      try with_reducible rfl
                    rotate_left
                    try simp only [Act.put, List.setIfInBounds_toArray, List.set_cons_zero, List.set_cons_succ]
                    refine wpAnyH_take (i := 15) (oi := ⟨_, _, _, _, _, _⟩) (v := ?_) rfl (by kernel_rfl) (by kernel_rfl) (by kernel_rfl) (fun _ _ _ h => h) (Or.inl ⟨by rfl, ?_⟩) (by assumption) ?_
                    rotate_left
                    · intro W hSW
                      try dsimp only at hSW
                      go_simp
                      try with_reducible rfl
                    rotate_left
                    try simp only [Act.put, List.setIfInBounds_toArray, List.set_cons_zero, List.set_cons_succ]
                    refine wpAnyH_take (i := 16) (oi := ⟨_, _, _, _, _, _⟩) (v := ?_) rfl (by kernel_rfl) (by kernel_rfl) (by kernel_rfl) (fun _ _ _ h => h) (Or.inl ⟨by rfl, ?_⟩) (by assumption) ?_
                    rotate_left
                    · intro W hSW
                      try dsimp only at hSW
                      go_simp
                      try with_reducible rfl
                    rotate_left
                    try simp only [Act.put, List.setIfInBounds_toArray, List.set_cons_zero, List.set_cons_succ]
                    refine wpAnyH_done (by kernel_rfl) ?_ _
                    clear SD
                    go_wp2
                    go_roundw
                    case rel => exact ⟨c + 1, by omega, by go_num, HO9.out.below HM.out (Below.refl _ _).drew⟩
                    case measure => simp [intN]; omega
                · have HOn := HR.out
                  clear HR
                  go_wp2_with fail
                  go_roundw
                  case rel => exact ⟨j + 1, f2, ys, by omega, by go_num, by rw [hyl], by have := hyj; omega, HF6.out, HOn⟩
                  case measure => simp [intN]; omega
        · rw [decide_eq_false hq] at hbi
          have hcc := tput_keep (HO.out.1.below (Below.refl _ wn).drew) (by omega) ⟨nm k, (j : Int) + 1, 0⟩
          dsimp only at hcc
          rw [hhas] at hcc
          have HCC := Lib.hid hcc
          clear hcc
          clear hhas hq
          by_cases hf0 : fk = 0
          · have hd0 : decide (0 < fk) = false := decide_eq_false (by omega)
            have hd1 : ((fk : Int) == 0) = true := beq_iff_eq.2 (by omega)
            rw [hd0] at HCC
            have hhs := HHS.out
            rw [hd0] at hhs
            go_upto_region 19 with (fail)
            have hk16I : (k : Int) < 16 := by omega
            refine wp_region_held_drew (S := (fun W : World => W.cell? ⟨ga, k, none⟩ = some (.int .i64 (fk : Int)))) (by kernel_rfl) SDk (fun hHeld => ?_)
            refine wpAnyH_take (i := 0) (oi := ⟨_, _, _, _, _, _⟩) (v := ?_) rfl (by kernel_rfl) (by kernel_rfl) (by kernel_rfl) (fun _ _ _ h => h) (Or.inl ⟨by rfl, ?_⟩) (by assumption) ?_
            rotate_left
            · intro W hSW
              try dsimp only at hSW
              go_simp
              try with_reducible rfl
            rotate_left
            try simp only [Act.put, List.setIfInBounds_toArray, List.set_cons_zero, List.set_cons_succ]
            refine wpAnyH_take (i := 1) (oi := ⟨_, _, _, _, _, _⟩) (v := ?_) rfl (by kernel_rfl) (by kernel_rfl) (by kernel_rfl) (fun _ _ _ h => h) (Or.inl ⟨by rfl, ?_⟩) (by assumption) ?_
            rotate_left
            · intro W hSW
              try dsimp only at hSW
              go_simp
              try with_reducible rfl
            rotate_left
            try simp only [Act.put, List.setIfInBounds_toArray, List.set_cons_zero, List.set_cons_succ]
            refine wpAnyH_take (i := 2) (oi := ⟨_, _, _, _, _, _⟩) (v := ?_) rfl (by kernel_rfl) (by kernel_rfl) (by kernel_rfl) (fun _ _ _ h => h) (Or.inl ⟨by rfl, ?_⟩) (by assumption) ?_
            rotate_left
            · intro W hSW
              try dsimp only at hSW
              go_simp
              try with_reducible rfl
            rotate_left
            try simp only [Act.put, List.setIfInBounds_toArray, List.set_cons_zero, List.set_cons_succ]
            refine wpAnyH_take (i := 3) (oi := ⟨_, _, _, _, _, _⟩) (v := ?_) rfl (by kernel_rfl) (by kernel_rfl) (by kernel_rfl) (fun _ _ _ h => h) (Or.inl ⟨by rfl, ?_⟩) (by assumption) ?_
            rotate_left
            · intro W hSW
              try dsimp only at hSW
              go_simp
              try with_reducible rfl
            rotate_left
            try simp only [Act.put, List.setIfInBounds_toArray, List.set_cons_zero, List.set_cons_succ]
            refine wpAnyH_take (i := 4) (oi := ⟨_, _, _, _, _, _⟩) (v := ?_) rfl (by kernel_rfl) (by kernel_rfl) (by kernel_rfl) (fun _ _ _ h => h) (Or.inl ⟨by rfl, ?_⟩) (by assumption) ?_
            rotate_left
            · intro W hSW
              try dsimp only at hSW
              go_simp
              try with_reducible rfl
            rotate_left
            try simp only [Act.put, List.setIfInBounds_toArray, List.set_cons_zero, List.set_cons_succ]
            refine wpAnyH_take (i := 6) (oi := ⟨_, _, _, _, _, _⟩) (v := ?_) rfl (by kernel_rfl) (by kernel_rfl) (by kernel_rfl) (fun _ _ _ h => h) (Or.inl ⟨by rfl, ?_⟩) (by assumption) ?_
            rotate_left
            · intro W hSW
              try dsimp only at hSW
              go_simp
              try with_reducible rfl
            rotate_left
            try simp only [Act.put, List.setIfInBounds_toArray, List.set_cons_zero, List.set_cons_succ]
            refine wpAnyH_take (i := 7) (oi := ⟨_, _, _, _, _, _⟩) (v := ?_) rfl (by kernel_rfl) (by kernel_rfl) (by kernel_rfl) (fun _ _ _ h => h) (Or.inl ⟨by rfl, ?_⟩) (by assumption) ?_
            rotate_left
            · intro W hSW
              try dsimp only at hSW
              go_simp
              try with_reducible rfl
            rotate_left
            try simp only [Act.put, List.setIfInBounds_toArray, List.set_cons_zero, List.set_cons_succ]
            refine wpAnyH_take (i := 8) (oi := ⟨_, _, _, _, _, _⟩) (v := ?_) rfl (by kernel_rfl) (by kernel_rfl) (by kernel_rfl) (fun _ _ _ h => h) (Or.inl ⟨by rfl, ?_⟩) (by assumption) ?_
            rotate_left
            · intro W hSW
              try dsimp only at hSW
              go_simp
              try with_reducible rfl
            rotate_left
            try simp only [Act.put, List.setIfInBounds_toArray, List.set_cons_zero, List.set_cons_succ]
            refine wpAnyH_take (i := 9) (oi := ⟨_, _, _, _, _, _⟩) (v := ?_) rfl (by kernel_rfl) (by kernel_rfl) (by kernel_rfl) (fun _ _ _ h => h) (Or.inl ⟨by rfl, ?_⟩) (by assumption) ?_
            rotate_left
            · intro W hSW
              try dsimp only at hSW
              go_simp
              try with_reducible rfl
            rotate_left
            try simp only [Act.put, List.setIfInBounds_toArray, List.set_cons_zero, List.set_cons_succ]
            refine wpAnyH_ready (rs := [5]) (by kernel_rfl) (by simp) ?_
            refine AllReadyH.cons (o := ⟨_, _, _, _, _, _⟩) rfl (fun K hK => ?_) AllReadyH.nil
            rw [if_pos (by rfl)]
            go_simp
            rw [IntWalk.i64_in ((j : Int) + 1) (by omega)]
            go_at_call 14
            refine HCC.out.mono ?_
            rintro e w4 ⟨rfl, t4, b4, k4⟩
            have hl4 : w4.cell? ⟨ga, k, none⟩ = some (.int .i64 (fk : Int)) := (World.cell?_of_block (k4 ga (Nat.le_refl _) (by omega))).trans hlk
            have H4 := Lib.hid (And.intro t4 (And.intro b4 k4))
            clear t4 b4 k4
            go_wp2_with fail
            refine hK.out _ _ hl4 (fun hHeld => ?_)
            clear hK K
            try simp only [Act.put, List.setIfInBounds_toArray, List.set_cons_zero, List.set_cons_succ]
            refine wpAnyH_take (i := 10) (oi := ⟨_, _, _, _, _, _⟩) (v := ?_) rfl (by kernel_rfl) (by kernel_rfl) (by kernel_rfl) (fun _ _ _ h => h) (Or.inl ⟨by rfl, ?_⟩) (by assumption) ?_
            rotate_left
            · intro W hSW
              try dsimp only at hSW
              go_simp
              try with_reducible rfl
            rotate_left
            try simp only [Act.put, List.setIfInBounds_toArray, List.set_cons_zero, List.set_cons_succ]
            refine wpAnyH_done (by kernel_rfl) ?_ _
            have hu9 : True := True.intro
            all_goals
              have hh4 : w4.heap[ga]? = some (.cells (lastV f) 50 (0, 0)) := (H4.out.2.2 ga (Nat.le_refl _) (by omega)).trans HO.out.2.2.1
              have hfz := (cell_of hh4 k).2
              have hyl0 := ins_len ⟨nm k, (j : Int) + 1, 0⟩ xs
              have H5 : Hid (OnS M ga p w (w4.setCell ⟨ga, k, none⟩ (.int .i64 ((j : Int) + 1))) (upN f k (j + 1)) (ins ⟨nm k, (j : Int) + 1, 0⟩ xs) ∧ ∀ c, upN f k (j + 1) c ≤ 100) := by
                refine ⟨⟨H4.out.1.set _, (by have h := HO.out.2.1.put hk16 (v := j + 1) (by omega) 0; rw [show ((j + 1 : Nat) : Int) = (j : Int) + 1 by omega] at h; exact h), ?_, ?_⟩, upN_le (by omega) HF.out⟩
                · have h1 := heap_setCell_same w4 ga k _ _ (.int .i64 ((j : Int) + 1)) hh4
                  have h2 := lastV_set f hk16 (j + 1)
                  rw [show ((j + 1 : Nat) : Int) = (j : Int) + 1 by omega] at h2
                  rw [h1]
                  exact congrArg (fun z => some (Obj.cells z 50 (0, 0))) h2
                · exact below_set2 ((HO.out.2.2.2.drew).trans (H4.out.2.1.mono HM.out)) (Nat.le_trans HM.out hM2)
              clear H4 HCC hh4 hcv hlk hlf SDk
              have hyj : ((ins ⟨nm k, (j : Int) + 1, 0⟩ xs)).length ≤ j + 1 := by (rw [ins_len]; split <;> omega)
              generalize (ins ⟨nm k, (j : Int) + 1, 0⟩ xs) = ys at *
              generalize upN f k (j + 1) = f2 at *
              obtain ⟨yl, hyl⟩ : ∃ yl, ys.length = yl := ⟨_, rfl⟩
              rw [hyl] at hyl0
              have hli : (xs.length : Int) + 1 = (yl : Int) := by rw [show has (nm k) xs = false from hhs] at hyl0; simp at hyl0; omega
              clear hyl0
              have HIN := Lib.hid (And.intro H5.out.1 (And.intro H5.out.2 hyj))
              go_wp2_with fail
              refine (tlen H5.out.1.1.tt).mono ?_
              rintro e w6 ⟨rfl, _, b6⟩
              have HO6 := Lib.hid (H5.out.1.below HM.out b6)
              have HF6 := Lib.hid H5.out.2
              rw [hyl]
              clear b6 H5 HIN
              go_wp2_with fail
              go_loopw [9] (fun i wr => ∃ c : Nat, c ≤ 16 ∧ i = .int .i64 c ∧ Hid (OnS M ga p w wr f2 ys)) (fun i _ => 16 - intN i)
              case atStart => exact ⟨0, Nat.zero_le _, rfl, HO6.out⟩
              case round =>
                obtain ⟨c, hc, rfl, HR⟩ := hrel
                clear HO6
                by_cases hlt2 : c < 16
                · have hcv := conv_nm wr c
                  have hal := (Below.refl wr.heap.size wr).alloc (Nat.le_refl _) (.cells #[.int .u8 (97 + (c : Int))] 5)
                  have HO := Lib.hid (HR.out.below HM.out hal)
                  generalize hwn : wr.alloc (.cells #[.int .u8 (97 + (c : Int))] 5) = wn at *
                  clear hal HR
                  go_wp2_with fail
                  refine (tget HO.out.1.tt (nm c)).mono ?_
                  rintro e w8 ⟨rfl, _, b8⟩
                  have HO8 := Lib.hid (HO.out.below HM.out b8)
                  clear b8 HO hcv hwn
                  have hlr := HO8.out.2.1 c hlt2
                  rcases hlr with ⟨hf, hg⟩ | ⟨hf, cc, hg⟩
                  · rw [hg]
                    simp only [fndV]
                    have hal := (Below.refl w8.heap.size w8).alloc (Nat.le_refl _) (.cells #[.int .i64 0, .int .i64 0] 35)
                    have hbx := heap_alloc_new w8 (.cells #[.int .i64 0, .int .i64 0] 35)
                    have HO9 := Lib.hid (HO8.out.below HM.out hal)
                    go_upto_region 30 with (fail)
                    generalize w8.alloc (.cells #[.int .i64 0, .int .i64 0] 35) = w9 at *
                    generalize w8.heap.size = nb at *
                    obtain ⟨fj, hfj⟩ : ∃ fj, f2 c = fj := ⟨_, rfl⟩
                    obtain ⟨pg, hpg⟩ : ∃ pg : Int, (0 : Int) = pg := ⟨_, rfl⟩
                    have hz : fj = 0 := by rw [← hfj]; exact hf
                    have hd2 : decide ((0 : Int) < (fj : Int)) = false := decide_eq_false (by omega)
                    have hd3 : decide (0 < fj) = false := decide_eq_false (by omega)
                    have SD : w9.drew.cell? ⟨ga, c, none⟩ = some (.int .i64 (fj : Int)) ∧ w9.drew.cell? ⟨nb, 0, none⟩ = some (.int .i64 pg) := ⟨by rw [← hfj]; exact (HO9.out.at hlt2).1, by rw [← hpg]; exact (cell_of hbx 0).1⟩
                    clear hal hbx HO8 hf hg hz hfj hpg
                    refine wp_region_held_drew (S := (fun W : World => W.cell? ⟨ga, c, none⟩ = some (.int .i64 (fj : Int)) ∧ W.cell? ⟨nb, 0, none⟩ = some (.int .i64 pg))) (by kernel_rfl) SD (fun hHeld => ?_)
                    refine wpAnyH_take (i := 0) (oi := ⟨_, _, _, _, _, _⟩) (v := ?_) rfl (by kernel_rfl) (by kernel_rfl) (by kernel_rfl) (fun _ _ _ h => h) (Or.inl ⟨by rfl, ?_⟩) (by assumption) ?_
                    rotate_left
                    · intro W hSW
                      try dsimp only at hSW
                      go_simp
                      try with_reducible rfl
                    rotate_left
                    try simp only [Act.put, List.setIfInBounds_toArray, List.set_cons_zero, List.set_cons_succ]
                    refine wpAnyH_take (i := 1) (oi := ⟨_, _, _, _, _, _⟩) (v := ?_) rfl (by kernel_rfl) (by kernel_rfl) (by kernel_rfl) (fun _ _ _ h => h) (Or.inl ⟨by rfl, ?_⟩) (by assumption) ?_
                    rotate_left
                    · intro W hSW
                      try dsimp only at hSW
                      go_simp
                      try with_reducible rfl
                    rotate_left
                    try simp only [Act.put, List.setIfInBounds_toArray, List.set_cons_zero, List.set_cons_succ]
                    refine wpAnyH_take (i := 2) (oi := ⟨_, _, _, _, _, _⟩) (v := ?_) rfl (by kernel_rfl) (by kernel_rfl) (by kernel_rfl) (fun _ _ _ h => h) (Or.inl ⟨by rfl, ?_⟩) (by assumption) ?_
                    rotate_left
                    · intro W hSW
                      try dsimp only at hSW
                      go_simp
                      try with_reducible rfl
                    rotate_left
                    try simp only [Act.put, List.setIfInBounds_toArray, List.set_cons_zero, List.set_cons_succ]
                    refine wpAnyH_take (i := 3) (oi := ⟨_, _, _, _, _, _⟩) (v := ?_) rfl (by kernel_rfl) (by kernel_rfl) (by kernel_rfl) (fun _ _ _ h => h) (Or.inl ⟨by rfl, ?_⟩) (by assumption) ?_
                    rotate_left
                    · intro W hSW
                      try dsimp only at hSW
                      go_simp
                      try with_reducible rfl
                    rotate_left
                    try simp only [Act.put, List.setIfInBounds_toArray, List.set_cons_zero, List.set_cons_succ]
                    refine wpAnyH_take (i := 4) (oi := ⟨_, _, _, _, _, _⟩) (v := ?_) rfl (by kernel_rfl) (by kernel_rfl) (by kernel_rfl) (fun _ _ _ h => h) (Or.inl ⟨by rfl, ?_⟩) (by assumption) ?_
                    rotate_left
                    · intro W hSW
                      try dsimp only at hSW
                      go_simp
                      try with_reducible rfl
                    rotate_left
                    try simp only [Act.put, List.setIfInBounds_toArray, List.set_cons_zero, List.set_cons_succ]
                    refine wpAnyH_take (i := 5) (oi := ⟨_, _, _, _, _, _⟩) (v := ?_) rfl (by kernel_rfl) (by kernel_rfl) (by kernel_rfl) (fun _ _ _ h => h) (Or.inl ⟨by rfl, ?_⟩) (by assumption) ?_
                    rotate_left
                    · intro W hSW
                      try dsimp only at hSW
                      go_simp
                      try with_reducible rfl
                    rotate_left
                    try simp only [Act.put, List.setIfInBounds_toArray, List.set_cons_zero, List.set_cons_succ]
                    refine wpAnyH_take (i := 6) (oi := ⟨_, _, _, _, _, _⟩) (v := ?_) rfl (by kernel_rfl) (by kernel_rfl) (by kernel_rfl) (fun _ _ _ h => h) (Or.inl ⟨by rfl, ?_⟩) (by assumption) ?_
                    rotate_left
                    · intro W hSW
                      try dsimp only at hSW
                      go_simp
                      try with_reducible rfl
                    rotate_left
                    try simp only [Act.put, List.setIfInBounds_toArray, List.set_cons_zero, List.set_cons_succ]
                    refine wpAnyH_take (i := 7) (oi := ⟨_, _, _, _, _, _⟩) (v := ?_) rfl (by kernel_rfl) (by kernel_rfl) (by kernel_rfl) (fun _ _ _ h => h) (Or.inl ⟨by rfl, ?_⟩) (by assumption) ?_
                    rotate_left
                    · intro W hSW
                      try dsimp only at hSW
                      go_simp
                      try with_reducible rfl
                    rotate_left
                    try simp only [Act.put, List.setIfInBounds_toArray, List.set_cons_zero, List.set_cons_succ]
                    refine wpAnyH_take (i := 8) (oi := ⟨_, _, _, _, _, _⟩) (v := ?_) rfl (by kernel_rfl) (by kernel_rfl) (by kernel_rfl) (fun _ _ _ h => h) (Or.inl ⟨by rfl, ?_⟩) (by assumption) ?_
                    rotate_left
                    · intro W hSW
                      try dsimp only at hSW
                      go_simp
                      try with_reducible rfl
                    rotate_left
                    try simp only [Act.put, List.setIfInBounds_toArray, List.set_cons_zero, List.set_cons_succ]
                    refine wpAnyH_take (i := 9) (oi := ⟨_, _, _, _, _, _⟩) (v := undef) rfl (by kernel_rfl) (by kernel_rfl) (by kernel_rfl) (fun _ _ _ h => h) (Or.inr ⟨by rfl, rfl⟩) (by assumption) ?_
                    try simp only [Act.put, List.setIfInBounds_toArray, List.set_cons_zero, List.set_cons_succ]
                    refine wpAnyH_take (i := 10) (oi := ⟨_, _, _, _, _, _⟩) (v := undef) rfl (by kernel_rfl) (by kernel_rfl) (by kernel_rfl) (fun _ _ _ h => h) (Or.inr ⟨by rfl, rfl⟩) (by assumption) ?_
                    try simp only [Act.put, List.setIfInBounds_toArray, List.set_cons_zero, List.set_cons_succ]
                    refine wpAnyH_take (i := 11) (oi := ⟨_, _, _, _, _, _⟩) (v := undef) rfl (by kernel_rfl) (by kernel_rfl) (by kernel_rfl) (fun _ _ _ h => h) (Or.inr ⟨by rfl, rfl⟩) (by assumption) ?_
                    try simp only [Act.put, List.setIfInBounds_toArray, List.set_cons_zero, List.set_cons_succ]
                    refine wpAnyH_take (i := 12) (oi := ⟨_, _, _, _, _, _⟩) (v := undef) rfl (by kernel_rfl) (by kernel_rfl) (by kernel_rfl) (fun _ _ _ h => h) (Or.inr ⟨by rfl, rfl⟩) (by assumption) ?_
                    try simp only [Act.put, List.setIfInBounds_toArray, List.set_cons_zero, List.set_cons_succ]
                    refine wpAnyH_take (i := 13) (oi := ⟨_, _, _, _, _, _⟩) (v := undef) rfl (by kernel_rfl) (by kernel_rfl) (by kernel_rfl) (fun _ _ _ h => h) (Or.inr ⟨by rfl, rfl⟩) (by assumption) ?_
                    try simp only [Act.put, List.setIfInBounds_toArray, List.set_cons_zero, List.set_cons_succ]
                    refine wpAnyH_take (i := 14) (oi := ⟨_, _, _, _, _, _⟩) (v := undef) rfl (by kernel_rfl) (by kernel_rfl) (by kernel_rfl) (fun _ _ _ h => h) (Or.inr ⟨by rfl, rfl⟩) (by assumption) ?_
                    try simp only [Act.put, List.setIfInBounds_toArray, List.set_cons_zero, List.set_cons_succ]
                    refine wpAnyH_take (i := 15) (oi := ⟨_, _, _, _, _, _⟩) (v := ?_) rfl (by kernel_rfl) (by kernel_rfl) (by kernel_rfl) (fun _ _ _ h => h) (Or.inl ⟨by rfl, ?_⟩) (by assumption) ?_
                    rotate_left
                    · intro W hSW
                      try dsimp only at hSW
                      go_simp
                      try with_reducible rfl
                    rotate_left
                    try simp only [Act.put, List.setIfInBounds_toArray, List.set_cons_zero, List.set_cons_succ]
                    refine wpAnyH_take (i := 16) (oi := ⟨_, _, _, _, _, _⟩) (v := ?_) rfl (by kernel_rfl) (by kernel_rfl) (by kernel_rfl) (fun _ _ _ h => h) (Or.inl ⟨by rfl, ?_⟩) (by assumption) ?_
                    rotate_left
                    · intro W hSW
                      try dsimp only at hSW
                      go_simp
                      try with_reducible rfl
                    rotate_left
                    try simp only [Act.put, List.setIfInBounds_toArray, List.set_cons_zero, List.set_cons_succ]
                    refine wpAnyH_done (by kernel_rfl) ?_ _
                    clear SD
                    go_wp2
                    go_roundw
                    case rel => exact ⟨c + 1, by omega, by go_num, HO9.out.below HM.out (Below.refl _ _).drew⟩
                    case measure => simp [intN]; omega
                  · rw [hg]
                    simp only [fndV]
                    have hal := (Below.refl w8.heap.size w8).alloc (Nat.le_refl _) (.cells #[.int .i64 (f2 c : Int), .int .i64 cc] 35)
                    have hbx := heap_alloc_new w8 (.cells #[.int .i64 (f2 c : Int), .int .i64 cc] 35)
                    have HO9 := Lib.hid (HO8.out.below HM.out hal)
                    obtain ⟨fj, hfj⟩ : ∃ fj, f2 c = fj := ⟨_, rfl⟩
                    rw [hfj] at hal hbx HO9 hf ⊢
                    go_upto_region 30 with (fail)
                    generalize w8.alloc (.cells #[.int .i64 (fj : Int), .int .i64 cc] 35) = w9 at *
                    generalize w8.heap.size = nb at *
                    obtain ⟨pg, hpg⟩ : ∃ pg : Int, (fj : Int) = pg := ⟨_, rfl⟩
                    have hd2 : decide ((0 : Int) < (fj : Int)) = true := decide_eq_true (by omega)
                    have hd3 : decide (0 < fj) = true := decide_eq_true (by omega)
                    have hd4 : (pg != (fj : Int)) = false := by rw [← hpg]; simp
                    have SD : w9.drew.cell? ⟨ga, c, none⟩ = some (.int .i64 (fj : Int)) ∧ w9.drew.cell? ⟨nb, 0, none⟩ = some (.int .i64 pg) := ⟨by rw [← hfj]; exact (HO9.out.at hlt2).1, by rw [← hpg]; exact (cell_of hbx 0).1⟩
                    clear hal hbx HO8 hf hg hfj hpg
                    refine wp_region_held_drew (S := (fun W : World => W.cell? ⟨ga, c, none⟩ = some (.int .i64 (fj : Int)) ∧ W.cell? ⟨nb, 0, none⟩ = some (.int .i64 pg))) (by kernel_rfl) SD (fun hHeld => ?_)
                    refine wpAnyH_take (i := 0) (oi := ⟨_, _, _, _, _, _⟩) (v := ?_) rfl (by kernel_rfl) (by kernel_rfl) (by kernel_rfl) (fun _ _ _ h => h) (Or.inl ⟨by rfl, ?_⟩) (by assumption) ?_
                    rotate_left
                    · intro W hSW
                      try dsimp only at hSW
                      go_simp
                      try with_reducible rfl
                    rotate_left
                    try simp only [Act.put, List.setIfInBounds_toArray, List.set_cons_zero, List.set_cons_succ]
                    refine wpAnyH_take (i := 1) (oi := ⟨_, _, _, _, _, _⟩) (v := ?_) rfl (by kernel_rfl) (by kernel_rfl) (by kernel_rfl) (fun _ _ _ h => h) (Or.inl ⟨by rfl, ?_⟩) (by assumption) ?_
                    rotate_left
                    · intro W hSW
                      try dsimp only at hSW
                      go_simp
                      try with_reducible rfl
                    rotate_left
                    try simp only [Act.put, List.setIfInBounds_toArray, List.set_cons_zero, List.set_cons_succ]
                    refine wpAnyH_take (i := 2) (oi := ⟨_, _, _, _, _, _⟩) (v := ?_) rfl (by kernel_rfl) (by kernel_rfl) (by kernel_rfl) (fun _ _ _ h => h) (Or.inl ⟨by rfl, ?_⟩) (by assumption) ?_
                    rotate_left
                    · intro W hSW
                      try dsimp only at hSW
                      go_simp
                      try with_reducible rfl
                    rotate_left
                    try simp only [Act.put, List.setIfInBounds_toArray, List.set_cons_zero, List.set_cons_succ]
                    refine wpAnyH_take (i := 3) (oi := ⟨_, _, _, _, _, _⟩) (v := ?_) rfl (by kernel_rfl) (by kernel_rfl) (by kernel_rfl) (fun _ _ _ h => h) (Or.inl ⟨by rfl, ?_⟩) (by assumption) ?_
                    rotate_left
                    · intro W hSW
                      try dsimp only at hSW
                      go_simp
                      try with_reducible rfl
                    rotate_left
                    try simp only [Act.put, List.setIfInBounds_toArray, List.set_cons_zero, List.set_cons_succ]
                    refine wpAnyH_take (i := 4) (oi := ⟨_, _, _, _, _, _⟩) (v := ?_) rfl (by kernel_rfl) (by kernel_rfl) (by kernel_rfl) (fun _ _ _ h => h) (Or.inl ⟨by rfl, ?_⟩) (by assumption) ?_
                    rotate_left
                    · intro W hSW
                      try dsimp only at hSW
                      go_simp
                      try with_reducible rfl
                    rotate_left
                    try simp only [Act.put, List.setIfInBounds_toArray, List.set_cons_zero, List.set_cons_succ]
                    refine wpAnyH_take (i := 5) (oi := ⟨_, _, _, _, _, _⟩) (v := ?_) rfl (by kernel_rfl) (by kernel_rfl) (by kernel_rfl) (fun _ _ _ h => h) (Or.inl ⟨by rfl, ?_⟩) (by assumption) ?_
                    rotate_left
                    · intro W hSW
                      try dsimp only at hSW
                      go_simp
                      try with_reducible rfl
                    rotate_left
                    try simp only [Act.put, List.setIfInBounds_toArray, List.set_cons_zero, List.set_cons_succ]
                    refine wpAnyH_take (i := 6) (oi := ⟨_, _, _, _, _, _⟩) (v := ?_) rfl (by kernel_rfl) (by kernel_rfl) (by kernel_rfl) (fun _ _ _ h => h) (Or.inl ⟨by rfl, ?_⟩) (by assumption) ?_
                    rotate_left
                    · intro W hSW
                      try dsimp only at hSW
                      go_simp
                      try with_reducible rfl
                    rotate_left
                    try simp only [Act.put, List.setIfInBounds_toArray, List.set_cons_zero, List.set_cons_succ]
                    refine wpAnyH_take (i := 7) (oi := ⟨_, _, _, _, _, _⟩) (v := ?_) rfl (by kernel_rfl) (by kernel_rfl) (by kernel_rfl) (fun _ _ _ h => h) (Or.inl ⟨by rfl, ?_⟩) (by assumption) ?_
                    rotate_left
                    · intro W hSW
                      try dsimp only at hSW
                      go_simp
                      try with_reducible rfl
                    rotate_left
                    try simp only [Act.put, List.setIfInBounds_toArray, List.set_cons_zero, List.set_cons_succ]
                    refine wpAnyH_take (i := 8) (oi := ⟨_, _, _, _, _, _⟩) (v := ?_) rfl (by kernel_rfl) (by kernel_rfl) (by kernel_rfl) (fun _ _ _ h => h) (Or.inl ⟨by rfl, ?_⟩) (by assumption) ?_
                    rotate_left
                    · intro W hSW
                      try dsimp only at hSW
                      go_simp
                      try with_reducible rfl
                    rotate_left
                    try simp only [Act.put, List.setIfInBounds_toArray, List.set_cons_zero, List.set_cons_succ]
                    refine wpAnyH_take (i := 9) (oi := ⟨_, _, _, _, _, _⟩) (v := ?_) rfl (by kernel_rfl) (by kernel_rfl) (by kernel_rfl) (fun _ _ _ h => h) (Or.inl ⟨by rfl, ?_⟩) (by assumption) ?_
                    rotate_left
                    · intro W hSW
                      try dsimp only at hSW
                      go_simp
                      try with_reducible rfl
                    rotate_left
                    try simp only [Act.put, List.setIfInBounds_toArray, List.set_cons_zero, List.set_cons_succ]
                    refine wpAnyH_take (i := 10) (oi := ⟨_, _, _, _, _, _⟩) (v := ?_) rfl (by kernel_rfl) (by kernel_rfl) (by kernel_rfl) (fun _ _ _ h => h) (Or.inl ⟨by rfl, ?_⟩) (by assumption) ?_
                    rotate_left
                    · intro W hSW
                      try dsimp only at hSW
                      go_simp
                      try with_reducible rfl
                    rotate_left
                    try simp only [Act.put, List.setIfInBounds_toArray, List.set_cons_zero, List.set_cons_succ]
                    refine wpAnyH_take (i := 11) (oi := ⟨_, _, _, _, _, _⟩) (v := ?_) rfl (by kernel_rfl) (by kernel_rfl) (by kernel_rfl) (fun _ _ _ h => h) (Or.inl ⟨by rfl, ?_⟩) (by assumption) ?_
                    rotate_left
                    · intro W hSW
                      try dsimp only at hSW
                      go_simp
                      try with_reducible rfl
                    rotate_left
                    try simp only [Act.put, List.setIfInBounds_toArray, List.set_cons_zero, List.set_cons_succ]
                    refine wpAnyH_take (i := 12) (oi := ⟨_, _, _, _, _, _⟩) (v := ?_) rfl (by kernel_rfl) (by kernel_rfl) (by kernel_rfl) (fun _ _ _ h => h) (Or.inl ⟨by rfl, ?_⟩) (by assumption) ?_
                    rotate_left
                    · intro W hSW
                      try dsimp only at hSW
                      go_simp
                      try with_reducible rfl
                    rotate_left
                    try simp only [Act.put, List.setIfInBounds_toArray, List.set_cons_zero, List.set_cons_succ]
                    refine wpAnyH_take (i := 13) (oi := ⟨_, _, _, _, _, _⟩) (v := ?_) rfl (by kernel_rfl) (by kernel_rfl) (by kernel_rfl) (fun _ _ _ h => h) (Or.inl ⟨by rfl, ?_⟩) (by assumption) ?_
                    rotate_left
                    · intro W hSW
                      try dsimp only at hSW
                      go_simp
                      try with_reducible rfl
                    rotate_left
                    try simp only [Act.put, List.setIfInBounds_toArray, List.set_cons_zero, List.set_cons_succ]
                    refine wpAnyH_take (i := 14) (oi := ⟨_, _, _, _, _, _⟩) (v := ?_) rfl (by kernel_rfl) (by kernel_rfl) (by kernel_rfl) (fun _ _ _ h => h) (Or.inl ⟨by rfl, ?_⟩) (by assumption) ?_
                    rotate_left
                    · intro W hSW
                      try dsimp only at hSW
                      go_simp
                      try with_reducible rfl
                    rotate_left
                    try simp only [Act.put, List.setIfInBounds_toArray, List.set_cons_zero, List.set_cons_succ]
                    refine wpAnyH_take (i := 15) (oi := ⟨_, _, _, _, _, _⟩) (v := ?_) rfl (by kernel_rfl) (by kernel_rfl) (by kernel_rfl) (fun _ _ _ h => h) (Or.inl ⟨by rfl, ?_⟩) (by assumption) ?_
                    rotate_left
                    · intro W hSW
                      try dsimp only at hSW
                      go_simp
                      try with_reducible rfl
                    rotate_left
                    try simp only [Act.put, List.setIfInBounds_toArray, List.set_cons_zero, List.set_cons_succ]
                    refine wpAnyH_take (i := 16) (oi := ⟨_, _, _, _, _, _⟩) (v := ?_) rfl (by kernel_rfl) (by kernel_rfl) (by kernel_rfl) (fun _ _ _ h => h) (Or.inl ⟨by rfl, ?_⟩) (by assumption) ?_
                    rotate_left
                    · intro W hSW
                      try dsimp only at hSW
                      go_simp
                      try with_reducible rfl
                    rotate_left
                    try simp only [Act.put, List.setIfInBounds_toArray, List.set_cons_zero, List.set_cons_succ]
                    refine wpAnyH_done (by kernel_rfl) ?_ _
                    clear SD
                    go_wp2
                    go_roundw
                    case rel => exact ⟨c + 1, by omega, by go_num, HO9.out.below HM.out (Below.refl _ _).drew⟩
                    case measure => simp [intN]; omega
                · have HOn := HR.out
                  clear HR
                  go_wp2_with fail
                  go_roundw
                  case rel => exact ⟨j + 1, f2, ys, by omega, by go_num, by rw [hyl], by have := hyj; omega, HF6.out, HOn⟩
                  case measure => simp [intN]; omega
          · have hd0 : decide (0 < fk) = true := decide_eq_true (by omega)
            have hd1 : ((fk : Int) == 0) = false := beq_eq_false_iff_ne.2 (by omega)
            rw [hd0] at HCC
            have hhs := HHS.out
            rw [hd0] at hhs
            go_upto_region 19 with (fail)
            have hk16I : (k : Int) < 16 := by omega
            refine wp_region_held_drew (S := (fun W : World => W.cell? ⟨ga, k, none⟩ = some (.int .i64 (fk : Int)))) (by kernel_rfl) SDk (fun hHeld => ?_)
            refine wpAnyH_take (i := 0) (oi := ⟨_, _, _, _, _, _⟩) (v := ?_) rfl (by kernel_rfl) (by kernel_rfl) (by kernel_rfl) (fun _ _ _ h => h) (Or.inl ⟨by rfl, ?_⟩) (by assumption) ?_
            rotate_left
            · intro W hSW
              try dsimp only at hSW
              go_simp
              try with_reducible rfl
            rotate_left
            try simp only [Act.put, List.setIfInBounds_toArray, List.set_cons_zero, List.set_cons_succ]
            refine wpAnyH_take (i := 1) (oi := ⟨_, _, _, _, _, _⟩) (v := ?_) rfl (by kernel_rfl) (by kernel_rfl) (by kernel_rfl) (fun _ _ _ h => h) (Or.inl ⟨by rfl, ?_⟩) (by assumption) ?_
            rotate_left
            · intro W hSW
              try dsimp only at hSW
              go_simp
              try with_reducible rfl
            rotate_left
            try simp only [Act.put, List.setIfInBounds_toArray, List.set_cons_zero, List.set_cons_succ]
            refine wpAnyH_take (i := 2) (oi := ⟨_, _, _, _, _, _⟩) (v := ?_) rfl (by kernel_rfl) (by kernel_rfl) (by kernel_rfl) (fun _ _ _ h => h) (Or.inl ⟨by rfl, ?_⟩) (by assumption) ?_
            rotate_left
            · intro W hSW
              try dsimp only at hSW
              go_simp
              try with_reducible rfl
            rotate_left
            try simp only [Act.put, List.setIfInBounds_toArray, List.set_cons_zero, List.set_cons_succ]
            refine wpAnyH_take (i := 3) (oi := ⟨_, _, _, _, _, _⟩) (v := ?_) rfl (by kernel_rfl) (by kernel_rfl) (by kernel_rfl) (fun _ _ _ h => h) (Or.inl ⟨by rfl, ?_⟩) (by assumption) ?_
            rotate_left
            · intro W hSW
              try dsimp only at hSW
              go_simp
              try with_reducible rfl
            rotate_left
            try simp only [Act.put, List.setIfInBounds_toArray, List.set_cons_zero, List.set_cons_succ]
            refine wpAnyH_take (i := 4) (oi := ⟨_, _, _, _, _, _⟩) (v := ?_) rfl (by kernel_rfl) (by kernel_rfl) (by kernel_rfl) (fun _ _ _ h => h) (Or.inl ⟨by rfl, ?_⟩) (by assumption) ?_
            rotate_left
            · intro W hSW
              try dsimp only at hSW
              go_simp
              try with_reducible rfl
            rotate_left
            try simp only [Act.put, List.setIfInBounds_toArray, List.set_cons_zero, List.set_cons_succ]
            refine wpAnyH_take (i := 6) (oi := ⟨_, _, _, _, _, _⟩) (v := ?_) rfl (by kernel_rfl) (by kernel_rfl) (by kernel_rfl) (fun _ _ _ h => h) (Or.inl ⟨by rfl, ?_⟩) (by assumption) ?_
            rotate_left
            · intro W hSW
              try dsimp only at hSW
              go_simp
              try with_reducible rfl
            rotate_left
            try simp only [Act.put, List.setIfInBounds_toArray, List.set_cons_zero, List.set_cons_succ]
            refine wpAnyH_take (i := 7) (oi := ⟨_, _, _, _, _, _⟩) (v := ?_) rfl (by kernel_rfl) (by kernel_rfl) (by kernel_rfl) (fun _ _ _ h => h) (Or.inl ⟨by rfl, ?_⟩) (by assumption) ?_
            rotate_left
            · intro W hSW
              try dsimp only at hSW
              go_simp
              try with_reducible rfl
            rotate_left
            try simp only [Act.put, List.setIfInBounds_toArray, List.set_cons_zero, List.set_cons_succ]
            refine wpAnyH_take (i := 8) (oi := ⟨_, _, _, _, _, _⟩) (v := ?_) rfl (by kernel_rfl) (by kernel_rfl) (by kernel_rfl) (fun _ _ _ h => h) (Or.inl ⟨by rfl, ?_⟩) (by assumption) ?_
            rotate_left
            · intro W hSW
              try dsimp only at hSW
              go_simp
              try with_reducible rfl
            rotate_left
            try simp only [Act.put, List.setIfInBounds_toArray, List.set_cons_zero, List.set_cons_succ]
            refine wpAnyH_take (i := 9) (oi := ⟨_, _, _, _, _, _⟩) (v := ?_) rfl (by kernel_rfl) (by kernel_rfl) (by kernel_rfl) (fun _ _ _ h => h) (Or.inl ⟨by rfl, ?_⟩) (by assumption) ?_
            rotate_left
            · intro W hSW
              try dsimp only at hSW
              go_simp
              try with_reducible rfl
            rotate_left
            try simp only [Act.put, List.setIfInBounds_toArray, List.set_cons_zero, List.set_cons_succ]
            refine wpAnyH_ready (rs := [5]) (by kernel_rfl) (by simp) ?_
            refine AllReadyH.cons (o := ⟨_, _, _, _, _, _⟩) rfl (fun K hK => ?_) AllReadyH.nil
            rw [if_pos (by rfl)]
            go_simp
            rw [IntWalk.i64_in ((j : Int) + 1) (by omega)]
            go_at_call 14
            refine HCC.out.mono ?_
            rintro e w4 ⟨rfl, t4, b4, k4⟩
            have hl4 : w4.cell? ⟨ga, k, none⟩ = some (.int .i64 (fk : Int)) := (World.cell?_of_block (k4 ga (Nat.le_refl _) (by omega))).trans hlk
            have H4 := Lib.hid (And.intro t4 (And.intro b4 k4))
            clear t4 b4 k4
            go_wp2_with fail
            refine hK.out _ _ hl4 (fun hHeld => ?_)
            clear hK K
            try simp only [Act.put, List.setIfInBounds_toArray, List.set_cons_zero, List.set_cons_succ]
            refine wpAnyH_take (i := 10) (oi := ⟨_, _, _, _, _, _⟩) (v := ?_) rfl (by kernel_rfl) (by kernel_rfl) (by kernel_rfl) (fun _ _ _ h => h) (Or.inl ⟨by rfl, ?_⟩) (by assumption) ?_
            rotate_left
            · intro W hSW
              try dsimp only at hSW
              go_simp
              try with_reducible rfl
            rotate_left
            try simp only [Act.put, List.setIfInBounds_toArray, List.set_cons_zero, List.set_cons_succ]
            refine wpAnyH_done (by kernel_rfl) ?_ _
            have hu9 : True := True.intro
            all_goals
              have hh4 : w4.heap[ga]? = some (.cells (lastV f) 50 (0, 0)) := (H4.out.2.2 ga (Nat.le_refl _) (by omega)).trans HO.out.2.2.1
              have hfz := (cell_of hh4 k).2
              have hyl0 := ins_len ⟨nm k, (j : Int) + 1, 0⟩ xs
              have H5 : Hid (OnS M ga p w (w4.setCell ⟨ga, k, none⟩ (.int .i64 ((j : Int) + 1))) (upN f k (j + 1)) (ins ⟨nm k, (j : Int) + 1, 0⟩ xs) ∧ ∀ c, upN f k (j + 1) c ≤ 100) := by
                refine ⟨⟨H4.out.1.set _, (by have h := HO.out.2.1.put hk16 (v := j + 1) (by omega) 0; rw [show ((j + 1 : Nat) : Int) = (j : Int) + 1 by omega] at h; exact h), ?_, ?_⟩, upN_le (by omega) HF.out⟩
                · have h1 := heap_setCell_same w4 ga k _ _ (.int .i64 ((j : Int) + 1)) hh4
                  have h2 := lastV_set f hk16 (j + 1)
                  rw [show ((j + 1 : Nat) : Int) = (j : Int) + 1 by omega] at h2
                  rw [h1]
                  exact congrArg (fun z => some (Obj.cells z 50 (0, 0))) h2
                · exact below_set2 ((HO.out.2.2.2.drew).trans (H4.out.2.1.mono HM.out)) (Nat.le_trans HM.out hM2)
              clear H4 HCC hh4 hcv hlk hlf SDk
              have hyj : ((ins ⟨nm k, (j : Int) + 1, 0⟩ xs)).length ≤ j + 1 := by (rw [ins_len]; split <;> omega)
              generalize (ins ⟨nm k, (j : Int) + 1, 0⟩ xs) = ys at *
              generalize upN f k (j + 1) = f2 at *
              obtain ⟨yl, hyl⟩ : ∃ yl, ys.length = yl := ⟨_, rfl⟩
              rw [hyl] at hyl0
              have hli : (xs.length : Int) = (yl : Int) := by rw [show has (nm k) xs = true from hhs] at hyl0; simp at hyl0; omega
              clear hyl0
              have HIN := Lib.hid (And.intro H5.out.1 (And.intro H5.out.2 hyj))
              go_wp2_with fail
              refine (tlen H5.out.1.1.tt).mono ?_
              rintro e w6 ⟨rfl, _, b6⟩
              have HO6 := Lib.hid (H5.out.1.below HM.out b6)
              have HF6 := Lib.hid H5.out.2
              rw [hyl]
              clear b6 H5 HIN
              go_wp2_with fail
              go_loopw [9] (fun i wr => ∃ c : Nat, c ≤ 16 ∧ i = .int .i64 c ∧ Hid (OnS M ga p w wr f2 ys)) (fun i _ => 16 - intN i)
              case atStart => exact ⟨0, Nat.zero_le _, rfl, HO6.out⟩
              case round =>
                obtain ⟨c, hc, rfl, HR⟩ := hrel
                clear HO6
                by_cases hlt2 : c < 16
                · have hcv := conv_nm wr c
                  have hal := (Below.refl wr.heap.size wr).alloc (Nat.le_refl _) (.cells #[.int .u8 (97 + (c : Int))] 5)
                  have HO := Lib.hid (HR.out.below HM.out hal)
                  generalize hwn : wr.alloc (.cells #[.int .u8 (97 + (c : Int))] 5) = wn at *
                  clear hal HR
                  go_wp2_with fail
                  refine (tget HO.out.1.tt (nm c)).mono ?_
                  rintro e w8 ⟨rfl, _, b8⟩
                  have HO8 := Lib.hid (HO.out.below HM.out b8)
                  clear b8 HO hcv hwn
                  have hlr := HO8.out.2.1 c hlt2
                  rcases hlr with ⟨hf, hg⟩ | ⟨hf, cc, hg⟩
                  · rw [hg]
                    simp only [fndV]
                    have hal := (Below.refl w8.heap.size w8).alloc (Nat.le_refl _) (.cells #[.int .i64 0, .int .i64 0] 35)
                    have hbx := heap_alloc_new w8 (.cells #[.int .i64 0, .int .i64 0] 35)
                    have HO9 := Lib.hid (HO8.out.below HM.out hal)
                    go_upto_region 30 with (fail)
                    generalize w8.alloc (.cells #[.int .i64 0, .int .i64 0] 35) = w9 at *
                    generalize w8.heap.size = nb at *
                    obtain ⟨fj, hfj⟩ : ∃ fj, f2 c = fj := ⟨_, rfl⟩
                    obtain ⟨pg, hpg⟩ : ∃ pg : Int, (0 : Int) = pg := ⟨_, rfl⟩
                    have hz : fj = 0 := by rw [← hfj]; exact hf
                    have hd2 : decide ((0 : Int) < (fj : Int)) = false := decide_eq_false (by omega)
                    have hd3 : decide (0 < fj) = false := decide_eq_false (by omega)
                    have SD : w9.drew.cell? ⟨ga, c, none⟩ = some (.int .i64 (fj : Int)) ∧ w9.drew.cell? ⟨nb, 0, none⟩ = some (.int .i64 pg) := ⟨by rw [← hfj]; exact (HO9.out.at hlt2).1, by rw [← hpg]; exact (cell_of hbx 0).1⟩
                    clear hal hbx HO8 hf hg hz hfj hpg
                    refine wp_region_held_drew (S := (fun W : World => W.cell? ⟨ga, c, none⟩ = some (.int .i64 (fj : Int)) ∧ W.cell? ⟨nb, 0, none⟩ = some (.int .i64 pg))) (by kernel_rfl) SD (fun hHeld => ?_)
                    refine wpAnyH_take (i := 0) (oi := ⟨_, _, _, _, _, _⟩) (v := ?_) rfl (by kernel_rfl) (by kernel_rfl) (by kernel_rfl) (fun _ _ _ h => h) (Or.inl ⟨by rfl, ?_⟩) (by assumption) ?_
                    rotate_left
                    · intro W hSW
                      try dsimp only at hSW
                      go_simp
                      try with_reducible rfl
                    rotate_left
                    try simp only [Act.put, List.setIfInBounds_toArray, List.set_cons_zero, List.set_cons_succ]
                    refine wpAnyH_take (i := 1) (oi := ⟨_, _, _, _, _, _⟩) (v := ?_) rfl (by kernel_rfl) (by kernel_rfl) (by kernel_rfl) (fun _ _ _ h => h) (Or.inl ⟨by rfl, ?_⟩) (by assumption) ?_
                    rotate_left
                    · intro W hSW
                      try dsimp only at hSW
                      go_simp
                      try with_reducible rfl
                    rotate_left
                    try simp only [Act.put, List.setIfInBounds_toArray, List.set_cons_zero, List.set_cons_succ]
                    refine wpAnyH_take (i := 2) (oi := ⟨_, _, _, _, _, _⟩) (v := ?_) rfl (by kernel_rfl) (by kernel_rfl) (by kernel_rfl) (fun _ _ _ h => h) (Or.inl ⟨by rfl, ?_⟩) (by assumption) ?_
                    rotate_left
                    · intro W hSW
                      try dsimp only at hSW
                      go_simp
                      try with_reducible rfl
                    rotate_left
                    try simp only [Act.put, List.setIfInBounds_toArray, List.set_cons_zero, List.set_cons_succ]
                    refine wpAnyH_take (i := 3) (oi := ⟨_, _, _, _, _, _⟩) (v := ?_) rfl (by kernel_rfl) (by kernel_rfl) (by kernel_rfl) (fun _ _ _ h => h) (Or.inl ⟨by rfl, ?_⟩) (by assumption) ?_
                    rotate_left
                    · intro W hSW
                      try dsimp only at hSW
                      go_simp
                      try with_reducible rfl
                    rotate_left
                    try simp only [Act.put, List.setIfInBounds_toArray, List.set_cons_zero, List.set_cons_succ]
                    refine wpAnyH_take (i := 4) (oi := ⟨_, _, _, _, _, _⟩) (v := ?_) rfl (by kernel_rfl) (by kernel_rfl) (by kernel_rfl) (fun _ _ _ h => h) (Or.inl ⟨by rfl, ?_⟩) (by assumption) ?_
                    rotate_left
                    · intro W hSW
                      try dsimp only at hSW
                      go_simp
                      try with_reducible rfl
                    rotate_left
                    try simp only [Act.put, List.setIfInBounds_toArray, List.set_cons_zero, List.set_cons_succ]
                    refine wpAnyH_take (i := 5) (oi := ⟨_, _, _, _, _, _⟩) (v := ?_) rfl (by kernel_rfl) (by kernel_rfl) (by kernel_rfl) (fun _ _ _ h => h) (Or.inl ⟨by rfl, ?_⟩) (by assumption) ?_
                    rotate_left
                    · intro W hSW
                      try dsimp only at hSW
                      go_simp
                      try with_reducible rfl
                    rotate_left
                    try simp only [Act.put, List.setIfInBounds_toArray, List.set_cons_zero, List.set_cons_succ]
                    refine wpAnyH_take (i := 6) (oi := ⟨_, _, _, _, _, _⟩) (v := ?_) rfl (by kernel_rfl) (by kernel_rfl) (by kernel_rfl) (fun _ _ _ h => h) (Or.inl ⟨by rfl, ?_⟩) (by assumption) ?_
                    rotate_left
                    · intro W hSW
                      try dsimp only at hSW
                      go_simp
                      try with_reducible rfl
                    rotate_left
                    try simp only [Act.put, List.setIfInBounds_toArray, List.set_cons_zero, List.set_cons_succ]
                    refine wpAnyH_take (i := 7) (oi := ⟨_, _, _, _, _, _⟩) (v := ?_) rfl (by kernel_rfl) (by kernel_rfl) (by kernel_rfl) (fun _ _ _ h => h) (Or.inl ⟨by rfl, ?_⟩) (by assumption) ?_
                    rotate_left
                    · intro W hSW
                      try dsimp only at hSW
                      go_simp
                      try with_reducible rfl
                    rotate_left
                    try simp only [Act.put, List.setIfInBounds_toArray, List.set_cons_zero, List.set_cons_succ]
                    refine wpAnyH_take (i := 8) (oi := ⟨_, _, _, _, _, _⟩) (v := ?_) rfl (by kernel_rfl) (by kernel_rfl) (by kernel_rfl) (fun _ _ _ h => h) (Or.inl ⟨by rfl, ?_⟩) (by assumption) ?_
                    rotate_left
                    · intro W hSW
                      try dsimp only at hSW
                      go_simp
                      try with_reducible rfl
                    rotate_left
                    try simp only [Act.put, List.setIfInBounds_toArray, List.set_cons_zero, List.set_cons_succ]
                    refine wpAnyH_take (i := 9) (oi := ⟨_, _, _, _, _, _⟩) (v := undef) rfl (by kernel_rfl) (by kernel_rfl) (by kernel_rfl) (fun _ _ _ h => h) (Or.inr ⟨by rfl, rfl⟩) (by assumption) ?_
                    try simp only [Act.put, List.setIfInBounds_toArray, List.set_cons_zero, List.set_cons_succ]
                    refine wpAnyH_take (i := 10) (oi := ⟨_, _, _, _, _, _⟩) (v := undef) rfl (by kernel_rfl) (by kernel_rfl) (by kernel_rfl) (fun _ _ _ h => h) (Or.inr ⟨by rfl, rfl⟩) (by assumption) ?_
                    try simp only [Act.put, List.setIfInBounds_toArray, List.set_cons_zero, List.set_cons_succ]
                    refine wpAnyH_take (i := 11) (oi := ⟨_, _, _, _, _, _⟩) (v := undef) rfl (by kernel_rfl) (by kernel_rfl) (by kernel_rfl) (fun _ _ _ h => h) (Or.inr ⟨by rfl, rfl⟩) (by assumption) ?_
                    try simp only [Act.put, List.setIfInBounds_toArray, List.set_cons_zero, List.set_cons_succ]
                    refine wpAnyH_take (i := 12) (oi := ⟨_, _, _, _, _, _⟩) (v := undef) rfl (by kernel_rfl) (by kernel_rfl) (by kernel_rfl) (fun _ _ _ h => h) (Or.inr ⟨by rfl, rfl⟩) (by assumption) ?_
                    try simp only [Act.put, List.setIfInBounds_toArray, List.set_cons_zero, List.set_cons_succ]
                    refine wpAnyH_take (i := 13) (oi := ⟨_, _, _, _, _, _⟩) (v := undef) rfl (by kernel_rfl) (by kernel_rfl) (by kernel_rfl) (fun _ _ _ h => h) (Or.inr ⟨by rfl, rfl⟩) (by assumption) ?_
                    try simp only [Act.put, List.setIfInBounds_toArray, List.set_cons_zero, List.set_cons_succ]
                    refine wpAnyH_take (i := 14) (oi := ⟨_, _, _, _, _, _⟩) (v := undef) rfl (by kernel_rfl) (by kernel_rfl) (by kernel_rfl) (fun _ _ _ h => h) (Or.inr ⟨by rfl, rfl⟩) (by assumption) ?_
                    try simp only [Act.put, List.setIfInBounds_toArray, List.set_cons_zero, List.set_cons_succ]
                    refine wpAnyH_take (i := 15) (oi := ⟨_, _, _, _, _, _⟩) (v := ?_) rfl (by kernel_rfl) (by kernel_rfl) (by kernel_rfl) (fun _ _ _ h => h) (Or.inl ⟨by rfl, ?_⟩) (by assumption) ?_
                    rotate_left
                    · intro W hSW
                      try dsimp only at hSW
                      go_simp
                      try with_reducible rfl
                    rotate_left
                    try simp only [Act.put, List.setIfInBounds_toArray, List.set_cons_zero, List.set_cons_succ]
                    refine wpAnyH_take (i := 16) (oi := ⟨_, _, _, _, _, _⟩) (v := ?_) rfl (by kernel_rfl) (by kernel_rfl) (by kernel_rfl) (fun _ _ _ h => h) (Or.inl ⟨by rfl, ?_⟩) (by assumption) ?_
                    rotate_left
                    · intro W hSW
                      try dsimp only at hSW
                      go_simp
                      try with_reducible rfl
                    rotate_left
                    try simp only [Act.put, List.setIfInBounds_toArray, List.set_cons_zero, List.set_cons_succ]
                    refine wpAnyH_done (by kernel_rfl) ?_ _
                    clear SD
                    go_wp2
                    go_roundw
                    case rel => exact ⟨c + 1, by omega, by go_num, HO9.out.below HM.out (Below.refl _ _).drew⟩
                    case measure => simp [intN]; omega
                  · rw [hg]
                    simp only [fndV]
                    have hal := (Below.refl w8.heap.size w8).alloc (Nat.le_refl _) (.cells #[.int .i64 (f2 c : Int), .int .i64 cc] 35)
                    have hbx := heap_alloc_new w8 (.cells #[.int .i64 (f2 c : Int), .int .i64 cc] 35)
                    have HO9 := Lib.hid (HO8.out.below HM.out hal)
                    obtain ⟨fj, hfj⟩ : ∃ fj, f2 c = fj := ⟨_, rfl⟩
                    rw [hfj] at hal hbx HO9 hf ⊢
                    go_upto_region 30 with (fail)
                    generalize w8.alloc (.cells #[.int .i64 (fj : Int), .int .i64 cc] 35) = w9 at *
                    generalize w8.heap.size = nb at *
                    obtain ⟨pg, hpg⟩ : ∃ pg : Int, (fj : Int) = pg := ⟨_, rfl⟩
                    have hd2 : decide ((0 : Int) < (fj : Int)) = true := decide_eq_true (by omega)
                    have hd3 : decide (0 < fj) = true := decide_eq_true (by omega)
                    have hd4 : (pg != (fj : Int)) = false := by rw [← hpg]; simp
                    have SD : w9.drew.cell? ⟨ga, c, none⟩ = some (.int .i64 (fj : Int)) ∧ w9.drew.cell? ⟨nb, 0, none⟩ = some (.int .i64 pg) := ⟨by rw [← hfj]; exact (HO9.out.at hlt2).1, by rw [← hpg]; exact (cell_of hbx 0).1⟩
                    clear hal hbx HO8 hf hg hfj hpg
                    refine wp_region_held_drew (S := (fun W : World => W.cell? ⟨ga, c, none⟩ = some (.int .i64 (fj : Int)) ∧ W.cell? ⟨nb, 0, none⟩ = some (.int .i64 pg))) (by kernel_rfl) SD (fun hHeld => ?_)
                    refine wpAnyH_take (i := 0) (oi := ⟨_, _, _, _, _, _⟩) (v := ?_) rfl (by kernel_rfl) (by kernel_rfl) (by kernel_rfl) (fun _ _ _ h => h) (Or.inl ⟨by rfl, ?_⟩) (by assumption) ?_
                    rotate_left
                    · intro W hSW
                      try dsimp only at hSW
                      go_simp
                      try with_reducible rfl
                    rotate_left
                    try simp only [Act.put, List.setIfInBounds_toArray, List.set_cons_zero, List.set_cons_succ]
                    refine wpAnyH_take (i := 1) (oi := ⟨_, _, _, _, _, _⟩) (v := ?_) rfl (by kernel_rfl) (by kernel_rfl) (by kernel_rfl) (fun _ _ _ h => h) (Or.inl ⟨by rfl, ?_⟩) (by assumption) ?_
                    rotate_left
                    · intro W hSW
                      try dsimp only at hSW
                      go_simp
                      try with_reducible rfl
                    rotate_left
                    try simp only [Act.put, List.setIfInBounds_toArray, List.set_cons_zero, List.set_cons_succ]
                    refine wpAnyH_take (i := 2) (oi := ⟨_, _, _, _, _, _⟩) (v := ?_) rfl (by kernel_rfl) (by kernel_rfl) (by kernel_rfl) (fun _ _ _ h => h) (Or.inl ⟨by rfl, ?_⟩) (by assumption) ?_
                    rotate_left
                    · intro W hSW
                      try dsimp only at hSW
                      go_simp
                      try with_reducible rfl
                    rotate_left
                    try simp only [Act.put, List.setIfInBounds_toArray, List.set_cons_zero, List.set_cons_succ]
                    refine wpAnyH_take (i := 3) (oi := ⟨_, _, _, _, _, _⟩) (v := ?_) rfl (by kernel_rfl) (by kernel_rfl) (by kernel_rfl) (fun _ _ _ h => h) (Or.inl ⟨by rfl, ?_⟩) (by assumption) ?_
                    rotate_left
                    · intro W hSW
                      try dsimp only at hSW
                      go_simp
                      try with_reducible rfl
                    rotate_left
                    try simp only [Act.put, List.setIfInBounds_toArray, List.set_cons_zero, List.set_cons_succ]
                    refine wpAnyH_take (i := 4) (oi := ⟨_, _, _, _, _, _⟩) (v := ?_) rfl (by kernel_rfl) (by kernel_rfl) (by kernel_rfl) (fun _ _ _ h => h) (Or.inl ⟨by rfl, ?_⟩) (by assumption) ?_
                    rotate_left
                    · intro W hSW
                      try dsimp only at hSW
                      go_simp
                      try with_reducible rfl
                    rotate_left
                    try simp only [Act.put, List.setIfInBounds_toArray, List.set_cons_zero, List.set_cons_succ]
                    refine wpAnyH_take (i := 5) (oi := ⟨_, _, _, _, _, _⟩) (v := ?_) rfl (by kernel_rfl) (by kernel_rfl) (by kernel_rfl) (fun _ _ _ h => h) (Or.inl ⟨by rfl, ?_⟩) (by assumption) ?_
                    rotate_left
                    · intro W hSW
                      try dsimp only at hSW
                      go_simp
                      try with_reducible rfl
                    rotate_left
                    try simp only [Act.put, List.setIfInBounds_toArray, List.set_cons_zero, List.set_cons_succ]
                    refine wpAnyH_take (i := 6) (oi := ⟨_, _, _, _, _, _⟩) (v := ?_) rfl (by kernel_rfl) (by kernel_rfl) (by kernel_rfl) (fun _ _ _ h => h) (Or.inl ⟨by rfl, ?_⟩) (by assumption) ?_
                    rotate_left
                    · intro W hSW
                      try dsimp only at hSW
                      go_simp
                      try with_reducible rfl
                    rotate_left
                    try simp only [Act.put, List.setIfInBounds_toArray, List.set_cons_zero, List.set_cons_succ]
                    refine wpAnyH_take (i := 7) (oi := ⟨_, _, _, _, _, _⟩) (v := ?_) rfl (by kernel_rfl) (by kernel_rfl) (by kernel_rfl) (fun _ _ _ h => h) (Or.inl ⟨by rfl, ?_⟩) (by assumption) ?_
                    rotate_left
                    · intro W hSW
                      try dsimp only at hSW
                      go_simp
                      try with_reducible rfl
                    rotate_left
                    try simp only [Act.put, List.setIfInBounds_toArray, List.set_cons_zero, List.set_cons_succ]
                    refine wpAnyH_take (i := 8) (oi := ⟨_, _, _, _, _, _⟩) (v := ?_) rfl (by kernel_rfl) (by kernel_rfl) (by kernel_rfl) (fun _ _ _ h => h) (Or.inl ⟨by rfl, ?_⟩) (by assumption) ?_
                    rotate_left
                    · intro W hSW
                      try dsimp only at hSW
                      go_simp
                      try with_reducible rfl
                    rotate_left
                    try simp only [Act.put, List.setIfInBounds_toArray, List.set_cons_zero, List.set_cons_succ]
                    refine wpAnyH_take (i := 9) (oi := ⟨_, _, _, _, _, _⟩) (v := ?_) rfl (by kernel_rfl) (by kernel_rfl) (by kernel_rfl) (fun _ _ _ h => h) (Or.inl ⟨by rfl, ?_⟩) (by assumption) ?_
                    rotate_left
                    · intro W hSW
                      try dsimp only at hSW
                      go_simp
                      try with_reducible rfl
                    rotate_left
                    try simp only [Act.put, List.setIfInBounds_toArray, List.set_cons_zero, List.set_cons_succ]
                    refine wpAnyH_take (i := 10) (oi := ⟨_, _, _, _, _, _⟩) (v := ?_) rfl (by kernel_rfl) (by kernel_rfl) (by kernel_rfl) (fun _ _ _ h => h) (Or.inl ⟨by rfl, ?_⟩) (by assumption) ?_
                    rotate_left
                    · intro W hSW
                      try dsimp only at hSW
                      go_simp
                      try with_reducible rfl
                    rotate_left
                    try simp only [Act.put, List.setIfInBounds_toArray, List.set_cons_zero, List.set_cons_succ]
                    refine wpAnyH_take (i := 11) (oi := ⟨_, _, _, _, _, _⟩) (v := ?_) rfl (by kernel_rfl) (by kernel_rfl) (by kernel_rfl) (fun _ _ _ h => h) (Or.inl ⟨by rfl, ?_⟩) (by assumption) ?_
                    rotate_left
                    · intro W hSW
                      try dsimp only at hSW
                      go_simp
                      try with_reducible rfl
                    rotate_left
                    try simp only [Act.put, List.setIfInBounds_toArray, List.set_cons_zero, List.set_cons_succ]
                    refine wpAnyH_take (i := 12) (oi := ⟨_, _, _, _, _, _⟩) (v := ?_) rfl (by kernel_rfl) (by kernel_rfl) (by kernel_rfl) (fun _ _ _ h => h) (Or.inl ⟨by rfl, ?_⟩) (by assumption) ?_
                    rotate_left
                    · intro W hSW
                      try dsimp only at hSW
                      go_simp
                      try with_reducible rfl
                    rotate_left
                    try simp only [Act.put, List.setIfInBounds_toArray, List.set_cons_zero, List.set_cons_succ]
                    refine wpAnyH_take (i := 13) (oi := ⟨_, _, _, _, _, _⟩) (v := ?_) rfl (by kernel_rfl) (by kernel_rfl) (by kernel_rfl) (fun _ _ _ h => h) (Or.inl ⟨by rfl, ?_⟩) (by assumption) ?_
                    rotate_left
                    · intro W hSW
                      try dsimp only at hSW
                      go_simp
                      try with_reducible rfl
                    rotate_left
                    try simp only [Act.put, List.setIfInBounds_toArray, List.set_cons_zero, List.set_cons_succ]
                    refine wpAnyH_take (i := 14) (oi := ⟨_, _, _, _, _, _⟩) (v := ?_) rfl (by kernel_rfl) (by kernel_rfl) (by kernel_rfl) (fun _ _ _ h => h) (Or.inl ⟨by rfl, ?_⟩) (by assumption) ?_
                    rotate_left
                    · intro W hSW
                      try dsimp only at hSW
                      go_simp
                      try with_reducible rfl
                    rotate_left
                    try simp only [Act.put, List.setIfInBounds_toArray, List.set_cons_zero, List.set_cons_succ]
                    refine wpAnyH_take (i := 15) (oi := ⟨_, _, _, _, _, _⟩) (v := ?_) rfl (by kernel_rfl) (by kernel_rfl) (by kernel_rfl) (fun _ _ _ h => h) (Or.inl ⟨by rfl, ?_⟩) (by assumption) ?_
                    rotate_left
                    · intro W hSW
                      try dsimp only at hSW
                      go_simp
                      try with_reducible rfl
                    rotate_left
                    try simp only [Act.put, List.setIfInBounds_toArray, List.set_cons_zero, List.set_cons_succ]
                    refine wpAnyH_take (i := 16) (oi := ⟨_, _, _, _, _, _⟩) (v := ?_) rfl (by kernel_rfl) (by kernel_rfl) (by kernel_rfl) (fun _ _ _ h => h) (Or.inl ⟨by rfl, ?_⟩) (by assumption) ?_
                    rotate_left
                    · intro W hSW
                      try dsimp only at hSW
                      go_simp
                      try with_reducible rfl
                    rotate_left
                    try simp only [Act.put, List.setIfInBounds_toArray, List.set_cons_zero, List.set_cons_succ]
                    refine wpAnyH_done (by kernel_rfl) ?_ _
                    clear SD
                    go_wp2
                    go_roundw
                    case rel => exact ⟨c + 1, by omega, by go_num, HO9.out.below HM.out (Below.refl _ _).drew⟩
                    case measure => simp [intN]; omega
                · have HOn := HR.out
                  clear HR
                  go_wp2_with fail
                  go_roundw
                  case rel => exact ⟨j + 1, f2, ys, by omega, by go_num, by rw [hyl], by have := hyj; omega, HF6.out, HOn⟩
                  case measure => simp [intN]; omega
      · go_wp2_with fail
        go_ret
        exact ⟨rfl, HR.out.2.2.2.2.2⟩
  · go_wp2_with fail
    go_ret
    exact ⟨rfl, b1⟩
end Go.Proofs.Ytgeebeoediknmaa
