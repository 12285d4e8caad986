/- deed: bare, filled, saved, newestFirst, Push, Save, cut, Back, All, Len. -/
import Derived.Test.YtacidmnhbhbmhaaDdB
namespace Go.Proofs.Ytacidmnhbhbmhaa
open Go.RowKit


set_option maxRecDepth 100000 in
set_option maxHeartbeats 1000000 in
theorem bare_any (w : World) {B p b g : Nat} {v : Value} {L : List Int} {S : Nat → Int} (h : DdAt w B p b g v L S) : Calls Try.prog 23 #[.pointer (some ⟨p, 0, none⟩)] w fun e w' => e = .returned (.bool false) ∧ w' = w := by
  have c0 := h.c0
  clear h
  go_enter Try.func23, Try.ntmps23
  go_wp2
  go_ret
  exact ⟨rfl, rfl⟩
set_option maxRecDepth 100000 in
set_option maxHeartbeats 1000000 in
theorem bare_nil (w : World) : Calls Try.prog 23 #[.pointer none] w fun e w' => e = .returned (.bool true) ∧ w' = w := by
  go_enter Try.func23, Try.ntmps23
  go_wp2
  go_ret
  exact ⟨rfl, rfl⟩
set_option maxRecDepth 100000 in
set_option maxHeartbeats 1000000 in
theorem filled_any (w : World) {B p b g : Nat} {v : Value} {L : List Int} {S : Nat → Int} (h : DdAt w B p b g v L S) : Calls Try.prog 19 #[.pointer (some ⟨p, 0, none⟩)] w fun e w' => e = .returned (.pointer (some ⟨b, 0, none⟩)) ∧ w' = w := by
  have c0 := h.c0
  clear h
  go_enter Try.func19, Try.ntmps19
  go_wp2
  go_ret
  exact ⟨rfl, rfl⟩

/-- Whether there is a savepoint. -/
def svB (S : Nat → Int) (n : Int) : Bool := decide (0 ≤ n) && decide (n < 4) && decide (S n.toNat ≠ -1)
set_option maxRecDepth 100000 in
set_option maxHeartbeats 1000000 in
theorem saved_any (w : World) {B p b g : Nat} {v : Value} {L : List Int} {S : Nat → Int} (h : DdAt w B p b g v L S) (n : Int) : Calls Try.prog 20 #[.pointer (some ⟨p, 0, none⟩), .int .i64 n] w fun e w' => e = .returned (.bool (svB S n)) ∧ w' = w := by
  have CB := bare_any w h
  by_cases h0 : 0 ≤ n
  · by_cases h4 : n < 4
    · obtain ⟨i, rfl⟩ : ∃ i : Nat, n = i := ⟨n.toNat, by omega⟩
      have hi : i < 4 := by omega
      have c0 := h.c0
      have b1 := h.b1
      have si := (h.si hi).1
      clear h
      by_cases he : S i = -1
      · have e1 : svB S (i : Int) = false := by simp [svB, he]
        rw [e1]
        rw [he] at si
        clear e1 he
        go_enter Try.func20, Try.ntmps20
        go_wp2_with (first | (go_at_call 23; refine CB.mono ?_; rintro e w1 ⟨rfl, hw⟩; obtain rfl := hw.symm; clear hw))
        go_ret
        exact ⟨rfl, rfl⟩
      · have e1 : svB S (i : Int) = true := by simp [svB, he]; omega
        rw [e1]
        have he1 : (S i == -1) = false := by simpa using he
        have he2 : (S i != -1) = true := by simpa using he
        generalize S i = x at *
        clear e1 he
        go_enter Try.func20, Try.ntmps20
        go_wp2_with (first | (go_at_call 23; refine CB.mono ?_; rintro e w1 ⟨rfl, hw⟩; obtain rfl := hw.symm; clear hw))
        go_ret
        exact ⟨rfl, rfl⟩
    · have e1 : svB S n = false := by simp [svB]; omega
      rw [e1]
      clear h e1
      go_enter Try.func20, Try.ntmps20
      go_wp2_with (first | (go_at_call 23; refine CB.mono ?_; rintro e w1 ⟨rfl, hw⟩; obtain rfl := hw.symm; clear hw))
      go_ret
      exact ⟨rfl, rfl⟩
  · have e1 : svB S n = false := by simp [svB]; omega
    rw [e1]
    clear h e1
    go_enter Try.func20, Try.ntmps20
    go_wp2_with (first | (go_at_call 23; refine CB.mono ?_; rintro e w1 ⟨rfl, hw⟩; obtain rfl := hw.symm; clear hw))
    go_ret
    exact ⟨rfl, rfl⟩

set_option maxRecDepth 100000 in
set_option maxHeartbeats 1000000 in
theorem len_any (w : World) {B p b g : Nat} {v : Value} {L : List Int} {S : Nat → Int} (h : DdAt w B p b g v L S) : Calls Try.prog 17 #[.pointer (some ⟨p, 0, none⟩)] w fun e w' => e = .returned (.int .i64 (L.length : Int)) ∧ w' = w := by
  have CB := bare_any w h
  have c0 := h.c0
  have b0 := h.b0.1
  obtain ⟨A, c, rfl⟩ := own_sl h.hl
  clear h
  go_enter Try.func17, Try.ntmps17
  go_wp2_with (first | (go_at_call 23; refine CB.mono ?_; rintro e w1 ⟨rfl, hw⟩; obtain rfl := hw.symm; clear hw))
  go_ret
  exact ⟨rfl, rfl⟩
set_option maxRecDepth 100000 in
theorem len_nil (w : World) : Calls Try.prog 17 #[.pointer none] w fun e w' => e = .returned (.int .i64 0) ∧ w' = w := by
  have CB := bare_nil w
  go_enter Try.func17, Try.ntmps17
  go_wp2_with (first | (go_at_call 23; refine CB.mono ?_; rintro e w1 ⟨rfl, hw⟩; obtain rfl := hw.symm; clear hw))
  go_ret
  exact ⟨rfl, rfl⟩

theorem app_nil (W : World) (ty : TypeId) : (Builtin.append_ #[27, 27] ty #[.slice none 0 0, .slice none 0 0]).run Try.prog W = .ok (.slice none 0 0) W := by
  obtain ⟨ii, hii, hy0, hy1, hy2⟩ := info_of infoI64
  exact run_append_owned_none (P := Try.prog) (w := W) 0 27 ty 3 ii 1 Try.underlying27 hii (.slice none 0 0) 0 [] (World.ownsRow_nil _ _ _ _)

set_option maxRecDepth 100000 in
set_option maxHeartbeats 1000000 in
theorem nf_nil (w : World) : Calls Try.prog 24 #[.slice none 0 0] w fun e w' => e = .returned (.slice none 0 0) ∧ w' = w := by
  have CR := Try.slices_Reverse_int_empty none 0 w
  have HA := Lib.hid (app_nil w)
  go_enter Try.func24, Try.ntmps24
  go_wp2_with (first | (with_reducible refine wpList_append_r _ rfl (.const (.slice none 0 0)) (.tmp 4) 27 27 rfl (.slice none 0 0) (.slice none 0 0) rfl rfl (HA.out _) ?_) | (go_at_call 27; refine CR.mono ?_; rintro e w1 ⟨rfl, hw⟩; obtain rfl := hw.symm; clear hw))
  go_ret
  exact ⟨rfl, rfl⟩
set_option maxRecDepth 100000 in
set_option maxHeartbeats 1000000 in
theorem nf_at (w : World) (ad : Addr) (c : Nat) (l : List Int) (hs : ∀ j u, (intV l)[j]? = some u → w.cell? (ad.add j) = some u) (hm : l.length < 100000) :
    Calls Try.prog 24 #[.slice (some ad) l.length c] w fun e w' => ∃ v', e = .returned v' ∧ w'.ownsRow w.heap.size 3 1 v' l.length (intV l.reverse) ∧ Below w.heap.size w w' := by
  obtain ⟨ii, hii, hy0, hy1, hy2⟩ := info_of infoI64
  have hfl : (intV l).length = l.length * 1 := by rw [intV_len, Nat.mul_one]
  have hone := intV_one l
  have h63 : 0 + l.length ≤ maxLen := by unfold maxLen; omega
  have hby : (0 + l.length) * 8 ≤ 140737488355328 := by omega
  have HS := Lib.hid hs
  have HF := Lib.hid hfl
  have HO := Lib.hid hone
  have H6 := Lib.hid h63
  have HY := Lib.hid hby
  have HM := Lib.hid hm
  clear hs hfl hone h63 hby
  obtain ⟨n, hn⟩ : ∃ n, l.length = n := ⟨_, rfl⟩
  have HN := Lib.hid hn
  rw [hn] at HF H6 HY HM ⊢
  clear hn hm
  go_enter Try.func24, Try.ntmps24
  go_upto_region 2 with (at_builtin; refine wpList_append_own_at _ rfl _ _ 27 rfl w.heap.size 3 ii (.int .i64 0) 1 8 Try.underlying27 hii hy0 hy1 hy2 rfl (by decide) (.slice none 0 0) 0 [] rfl (World.ownsRow_nil _ _ _ _) ad n c (intV l) rfl HF.out HS.out HO.out H6.out HY.out (Nat.le_refl _) ?_; intro v2 w2 hown hgr hnil hat)
  clear hii hy0 hy1 hy2 HF HS HO H6 HY
  have hb2 : Below w.heap.size w w2 := (Below.refl _ _).grown hgr (Nat.le_refl _) (fun q hq => by simp [Value.ownBlock] at hq)
  simp only [Nat.zero_add, List.nil_append] at hown
  by_cases h0 : v2 = .slice none 0 0
  · subst h0
    have hl : l = [] := by
      have := hown.2
      rcases this with ⟨_, h⟩ | ⟨g, cap, cur, h, _⟩
      · have := HN.out
        exact List.eq_nil_of_length_eq_zero (by omega)
      · cases h
    subst hl
    have hn0 : n = 0 := HN.out.symm
    subst hn0
    have HW := Lib.hid hown
    have HB := Lib.hid hb2
    have CR := Try.slices_Reverse_int_empty none 0 w2
    clear hgr hnil hat hown hb2
    go_wp2_with (first | (go_at_call 27; refine CR.mono ?_; rintro e w1 ⟨rfl, hw⟩; obtain rfl := hw.symm; clear hw))
    go_ret
    exact ⟨_, rfl, HW.out, HB.out⟩
  · obtain ⟨g, cap, rfl, hbase, hlt, hncap, hcm, hzl, hH⟩ := Lib.holds_of_ownsRow hown h0
    have CR := Try.slices_Reverse_int g 0 cap l w2 hH (by have := HM.out; omega)
    rw [hzl] at CR
    have HW := Lib.hid hown
    have HB := Lib.hid hb2
    have HG := Lib.hid hbase
    clear hgr hnil hat hown hb2 hbase hlt hncap hcm hH h0
    go_wp2_with (first | (go_at_call 27; refine CR.mono ?_; rintro e w1 ⟨rfl, q, hw⟩; obtain rfl := hw.symm; clear hw))
    go_ret
    refine ⟨_, rfl, ?_, Lib.below_putRow HB.out HG.out⟩
    have h2 := Lib.ownsRow_putRow (q := q) (ys := l.reverse) HW.out (by rw [List.length_reverse]; exact hzl) (Nat.le_refl _)
    rw [List.take_of_length_le (by rw [List.length_reverse]; omega)] at h2
    exact h2

/-- A copy, the newest first. -/
theorem nf_any (w : World) (sv : Value) (m : Nat) (l : List Int) (hl : l.length = m) (hs : Src w sv m (intV l)) (hm : m < 100000) :
    Calls Try.prog 24 #[sv] w fun e w' => ∃ v', e = .returned v' ∧ w'.ownsRow w.heap.size 3 1 v' m (intV l.reverse) ∧ Below w.heap.size w w' := by
  subst hl
  rcases hs with ⟨rfl, h1, _⟩ | ⟨ad, c, rfl, h⟩
  · have e : l = [] := List.eq_nil_of_length_eq_zero h1
    subst e
    exact (nf_nil w).mono fun e w' ⟨he, hw⟩ => ⟨_, he, World.ownsRow_nil _ _ _ _, hw ▸ Below.refl _ _⟩
  · exact nf_at w ad c l h hm

theorem all_any (w : World) {B p b g : Nat} {v : Value} {L : List Int} {S : Nat → Int} (h : DdAt w B p b g v L S) (hL : L.length < 100000) :
    Calls Try.prog 15 #[.pointer (some ⟨p, 0, none⟩)] w fun e w' => ∃ v', e = .returned v' ∧ w'.ownsRow w.heap.size 3 1 v' L.length (intV L.reverse) ∧ Below w.heap.size w w' := by
  have CB := bare_any w h
  have c0 := h.c0
  have b0 := h.b0.1
  obtain ⟨A, c, rfl⟩ := own_sl h.hl
  have hs := own_src h.hl (Nat.zero_le _) (Nat.le_refl _)
  rw [sliced_zero, Nat.sub_zero, List.drop_zero, List.take_of_length_le (by rw [intV_len]; omega)] at hs
  have CN := nf_any w _ _ L rfl hs hL
  clear h hs
  go_enter Try.func15, Try.ntmps15
  go_wp2_with (first | (go_at_call 23; refine CB.mono ?_; rintro e w1 ⟨rfl, hw⟩; obtain rfl := hw.symm; clear hw) | (go_at_call 24; refine CN.mono ?_; rintro e w2 ⟨v2, rfl, ho, hb⟩))
  go_ret
  exact ⟨v2, rfl, ho, hb⟩
set_option maxRecDepth 100000 in
theorem all_nil (w : World) : Calls Try.prog 15 #[.pointer none] w fun e w' => e = .returned (.slice none 0 0) ∧ w' = w := by
  have CB := bare_nil w
  go_enter Try.func15, Try.ntmps15
  go_wp2_with (first | (go_at_call 23; refine CB.mono ?_; rintro e w1 ⟨rfl, hw⟩; obtain rfl := hw.symm; clear hw))
  go_ret
  exact ⟨rfl, rfl⟩
end Go.Proofs.Ytacidmnhbhbmhaa
