/- tree: where a key stands in a list. -/
import Derived.Test.YtejbbojephiifaaTeB
namespace Go.Proofs.Ytejbbojephiifaa
open Go.RowKit

theorem nan_any (w : World) (a : ByteArray) : Calls Try.prog 62 #[.string a] w fun e w' => e = .returned (.bool false) ∧ w' = w := by
  go_enter Try.func62, Try.ntmps62
  go_wp2
  go_ret
  exact ⟨by simp, rfl⟩
theorem cmp_any (w : World) (a b : ByteArray) : Calls Try.prog 51 #[.string a, .string b] w fun e w' => e = .returned (.int .i64 (cmpI a b)) ∧ w' = w := by
  have HN := Lib.hid (nan_any w)
  have e0 : Op.bytesLess a.toList b.toList = bL a b := rfl
  cases h : bL a b with
  | true =>
    rw [h] at e0
    rw [show cmpI a b = -1 by simp [cmpI, h]]
    clear h
    go_enter Try.func51, Try.ntmps51
    go_wp2_with (go_at_call 62; refine (HN.out _).mono ?_; rintro e w' ⟨rfl, hw⟩; obtain rfl := hw.symm; clear hw)
    go_ret
    exact ⟨rfl, rfl⟩
  | false =>
    rw [h] at e0
    cases k : bL b a with
    | true =>
      rw [show cmpI a b = 1 by simp [cmpI, h, k]]
      have e1 : (a.toList == b.toList) = false := by
        rw [beq_eq_false_iff_ne]
        intro e
        exact bL_ne k (toList_inj e.symm)
      clear h k
      go_enter Try.func51, Try.ntmps51
      go_wp2_with (go_at_call 62; refine (HN.out _).mono ?_; rintro e w' ⟨rfl, hw⟩; obtain rfl := hw.symm; clear hw)
      go_ret
      exact ⟨rfl, rfl⟩
    | false =>
      rw [show cmpI a b = 0 by simp [cmpI, h, k]]
      have e1 : (a.toList == b.toList) = true := by
        rw [beq_iff_eq, bL_tri h k]
      clear h k
      go_enter Try.func51, Try.ntmps51
      go_wp2_with (go_at_call 62; refine (HN.out _).mono ?_; rintro e w' ⟨rfl, hw⟩; obtain rfl := hw.symm; clear hw)
      go_ret
      exact ⟨rfl, rfl⟩
def intN : Value → Nat
  | .int _ n => n.toNat
  | _ => 0

theorem cloP_any (w : World) (x : KV) (k : ByteArray) : Calls Try.prog 50 #[.agg x.en.toArray, .string k] w fun e w' => e = .returned (.int .i64 (cmpI x.k k)) ∧ Below w.heap.size w w' := by
  have h0 := (cell_of (heap_alloc_new w (.cells x.en.toArray 78)) 0).1
  rw [show x.en.toArray[0]? = some (.string x.k) from rfl] at h0
  go_enter Try.func50, Try.ntmps50
  go_wp2_with (go_at_call 51; refine (cmp_any _ _ _).mono ?_; rintro e w' ⟨rfl, hw⟩; obtain rfl := hw.symm; clear hw)
  go_ret
  exact ⟨rfl, (Below.refl _ _).alloc (Nat.le_refl _) _⟩

set_option maxRecDepth 100000 in
set_option maxHeartbeats 1000000 in
theorem bsfP_any (w : World) (g n c : Nat) (X : Nat → KV) (k : ByteArray) (hn : n ≤ 1000) (hg : g < w.heap.size) (hc : ∀ m, m < n → ∀ j, j < 3 → w.cell? ⟨g, m * 3 + j, none⟩ = (X m).en[j]?)
    (hmono : ∀ a b, a ≤ b → b < n → bL (X b).k k = true → bL (X a).k k = true) :
    Calls Try.prog 49 #[.slice (some ⟨g, 0, none⟩) n c, .string k, .func (.func 50) #[] #[]] w fun e w' =>
      ∃ i : Nat, i ≤ n ∧ (∀ m, m < i → bL (X m).k k = true) ∧ (∀ m, i ≤ m → m < n → bL (X m).k k = false) ∧ e = .returned (.tuple #[.int .i64 i, .bool (decide (i < n ∧ (X i).k = k))]) ∧ Below w.heap.size w w' := by
  have HC := Lib.hid hc
  have HM := Lib.hid hmono
  have HG := Lib.hid hg
  clear hc hmono hg
  have HI := Lib.hid (fun x : KV => atKV x)
  go_enter Try.func49, Try.ntmps49
  go_wp2
  go_loopw [9, 10] (fun s t wr => ∃ i j : Nat, i ≤ j ∧ j ≤ n ∧ s = .int .i64 i ∧ t = .int .i64 j ∧ Hid ((∀ m, m < i → bL (X m).k k = true) ∧ (∀ m, j ≤ m → m < n → bL (X m).k k = false) ∧ Below w.heap.size w wr)) (fun s t _ => intN t - intN s)
  case atStart => exact ⟨0, n, Nat.zero_le _, Nat.le_refl _, rfl, rfl, (fun m h => absurd h (Nat.not_lt_zero m)), (fun m h1 h2 => by omega), Below.refl _ _⟩
  case round =>
    obtain ⟨i, j, hij, hj, rfl, rfl, HR⟩ := hrel
    by_cases hlt : i < j
    · have hm : (i + j) / 2 < n := by omega
      have c0 : ∀ q, q < 3 → wr.cell? ⟨g, (i + j) / 2 * 3 + q, none⟩ = (X ((i + j) / 2)).en[q]? := fun q hq => (World.cell?_of_block (HR.out.2.2.block g HG.out)).trans (HC.out _ hm q hq)
      obtain ⟨x, hx⟩ : ∃ x, X ((i + j) / 2) = x := ⟨_, rfl⟩
      have HX := Lib.hid hx
      rw [hx] at c0
      have HL : Hid (∀ q v, x.en.toArray[q]? = some v → wr.cell? ⟨g, (i + j) / 2 * 3 + q, none⟩ = some v) := fun q v hv => by
        have hq : q < 3 := by
          rcases Nat.lt_or_ge q 3 with h | h
          · exact h
          · rw [Array.getElem?_eq_none (by simpa [KV.en] using h)] at hv; cases hv
        rw [c0 q hq]; simpa using hv
      obtain ⟨h, hh⟩ : ∃ h, (i + j) / 2 = h := ⟨_, rfl⟩
      have e1 : ((i : Int) + (j : Int)) / 2 = (h : Int) := by omega
      have HH := Lib.hid hh
      rw [hh] at HL hx HX hm
      clear c0 hx hh
      have hmI : (h : Int) < (n : Int) := by omega
      have hltI : (i : Int) < (j : Int) := by omega
      cases hb : bL x.k k with
      | true =>
        have ec : cmpI x.k k = -1 := by simp [cmpI, hb]
        have HB := Lib.hid hb
        clear hb
        go_wp2_with (first | (go_at_call 50; refine (cloP_any _ x k).mono ?_; rintro e w2 ⟨rfl, hb2⟩; rw [ec]) | (with_reducible refine wpList_load_at rfl 78 (.tmp 27) rfl g (h * 3) rfl x.en.toArray _ HL.out undKV rfl (HI.out x) ?_))
        go_roundw
        case rel => exact ⟨h + 1, j, by omega, hj, by simp, rfl, (fun m hm2 => HM.out m h (by omega) hm (by rw [HX.out]; exact HB.out)), HR.out.2.1, HR.out.2.2.trans (hb2.mono HR.out.2.2.size)⟩
        case measure => simp [intN]; omega
      | false =>
        have ec : ∃ z : Int, cmpI x.k k = z ∧ 0 ≤ z ∧ z ≤ 1 := by
          refine ⟨_, rfl, ?_⟩
          unfold cmpI
          rw [hb]
          cases bL k x.k <;> simp
        obtain ⟨z, ec, hz0, hz1⟩ := ec
        have hz : ¬ z < 0 := by omega
        have HB := Lib.hid hb
        clear hb
        go_wp2_with (first | (go_at_call 50; refine (cloP_any _ x k).mono ?_; rintro e w2 ⟨rfl, hb2⟩; rw [ec]) | (with_reducible refine wpList_load_at rfl 78 (.tmp 27) rfl g (h * 3) rfl x.en.toArray _ HL.out undKV rfl (HI.out x) ?_))
        go_roundw
        case rel =>
          refine ⟨i, h, by have := HH.out; omega, by omega, rfl, by simp, HR.out.1, (fun m h1 h2 => ?_), HR.out.2.2.trans (hb2.mono HR.out.2.2.size)⟩
          cases e : bL (X m).k k with
          | false => rfl
          | true =>
            have := HM.out h m h1 h2 e
            rw [HX.out, HB.out] at this
            cases this
        case measure => have := HH.out; simp [intN]; omega
    · obtain rfl : i = j := by omega
      by_cases hin : i < n
      · have c0 : ∀ q, q < 3 → wr.cell? ⟨g, i * 3 + q, none⟩ = (X i).en[q]? := fun q hq => (World.cell?_of_block (HR.out.2.2.block g HG.out)).trans (HC.out _ hin q hq)
        obtain ⟨x, hx⟩ : ∃ x, X i = x := ⟨_, rfl⟩
        have HX := Lib.hid hx
        rw [hx] at c0
        have HL : Hid (∀ q v, x.en.toArray[q]? = some v → wr.cell? ⟨g, i * 3 + q, none⟩ = some v) := fun q v hv => by
          have hq : q < 3 := by
            rcases Nat.lt_or_ge q 3 with h | h
            · exact h
            · rw [Array.getElem?_eq_none (by simpa [KV.en] using h)] at hv; cases hv
          rw [c0 q hq]; simpa using hv
        have hinI : (i : Int) < (n : Int) := by omega
        have ec : ∃ z : Int, cmpI x.k k = z ∧ (z == 0) = decide (i < n ∧ (X i).k = k) := by
          refine ⟨_, rfl, ?_⟩
          rw [hx]
          unfold cmpI
          cases h1 : bL x.k k with
          | true => have := bL_ne h1; simp [this]
          | false =>
            cases h2 : bL k x.k with
            | true => have := (bL_ne h2).symm; simp [this]
            | false => simp [bL_tri h1 h2, hin]
        obtain ⟨z, ec, hz⟩ := ec
        obtain ⟨bz, hbz⟩ : ∃ bz, bz = decide (i < n ∧ (X i).k = k) := ⟨_, rfl⟩
        rw [← hbz] at hz
        have HZ := Lib.hid hbz
        clear c0 hx hbz
        go_wp2_with (first | (go_at_call 50; refine (cloP_any _ x k).mono ?_; rintro e w2 ⟨rfl, hb2⟩; rw [ec]) | (refine wpList_load_at (by rfl) 78 (.tmp 43) rfl g (i * 3) rfl x.en.toArray _ HL.out undKV rfl (HI.out x) ?_))
        refine bodyPost_ret (v := .tuple #[.int .i64 i, .bool bz]) (by simp [results, Try.results49, go_sem]) rfl ⟨i, by omega, HR.out.1, HR.out.2.1, by rw [HZ.out], HR.out.2.2.trans (hb2.mono HR.out.2.2.size)⟩
      · obtain rfl : i = n := by omega
        go_wp2_with fail
        refine bodyPost_ret (v := .tuple #[.int .i64 i, .bool false]) (by simp [results, Try.results49, go_sem]) rfl ⟨i, by omega, HR.out.1, HR.out.2.1, by simp, HR.out.2.2⟩

theorem bsfP_none (w : World) (k : ByteArray) :
    Calls Try.prog 49 #[.slice none 0 0, .string k, .func (.func 50) #[] #[]] w fun e w' => e = .returned (.tuple #[.int .i64 0, .bool false]) ∧ w' = w := by
  go_enter Try.func49, Try.ntmps49
  go_wp2
  go_loopw [9, 10] (fun s t wr => s = .int .i64 0 ∧ t = .int .i64 0 ∧ wr = w) (fun _ _ _ => 0)
  case atStart => exact ⟨rfl, rfl, rfl⟩
  case round =>
    obtain ⟨rfl, rfl, rfl⟩ := hrel
    go_wp2_with fail
    refine bodyPost_ret (v := .tuple #[.int .i64 0, .bool false]) (by simp [results, Try.results49, go_sem]) rfl ⟨rfl, rfl⟩

theorem findP_any (w : World) (v : Value) (xs : List KV) (k : ByteArray) (hn : xs.length ≤ 1000) (ho : w.ownsRow 0 78 3 v xs.length (xs.flatMap KV.en)) (hr : Rise KV.k xs) :
    Calls Try.prog 39 #[v, .string k] w fun e w' => ∃ A B is, Stand KV.k xs k A B is ∧ e = .returned (.tuple #[.int .i64 A.length, .bool is]) ∧ Below w.heap.size w w' := by
  obtain ⟨a, cp, rfl⟩ := own_shape ho
  rcases id ho.2 with ⟨e, e0⟩ | ⟨g, cap, cur, e, _, hg, _, _, _, _⟩
  · injection e with e1 e2 e3
    subst e1 e3
    have hx : xs = [] := List.eq_nil_of_length_eq_zero e0
    subst hx
    have HB := Lib.hid (bsfP_none w k)
    clear ho hr
    go_enter Try.func39, Try.ntmps39
    go_wp2_with (go_at_call 49; refine (HB.out).mono ?_; rintro e w' ⟨rfl, hw⟩; obtain rfl := hw.symm; clear hw)
    refine bodyPost_ret (v := .tuple #[.int .i64 0, .bool false]) (by simp [results, Try.results39, go_sem]) rfl ⟨[], [], false, ⟨rfl, (fun x hx => by cases hx), .inr ⟨rfl, (fun x hx => by cases hx)⟩⟩, rfl, Below.refl _ _⟩
  · injection e with e1 e2 e3
    subst e1 e3
    have hgl : g < w.heap.size := (Array.getElem?_eq_some_iff.1 hg).1
    have hX : ∀ m (h : m < xs.length), xs.getD m default = xs[m] := fun m h => by simp [List.getD_eq_getElem?_getD, h]
    have hb := bsfP_any w g xs.length cp (fun m => xs.getD m default) k hn hgl (fun m hm j hj => by
      show _ = (xs.getD m default).en[j]?
      rw [hX m hm]; exact (own_cell KV.en_len ho hm hj).1) (fun a b hab hb h => by
        have ha : a < xs.length := by omega
        rw [hX b hb] at h
        rw [hX a ha]
        rcases Nat.lt_or_ge a b with e | e
        · exact bL_trans (List.pairwise_iff_getElem.1 hr a b ha hb e) h
        · obtain rfl : a = b := by omega
          exact h)
    have HB := Lib.hid hb
    have HX := Lib.hid hX
    have HR := Lib.hid hr
    clear hb hX hr ho hg
    go_enter Try.func39, Try.ntmps39
    go_wp2_with (go_at_call 49; refine (HB.out).mono ?_; rintro e w' ⟨i, hi, hlo, hhi, rfl, hbl⟩)
    obtain ⟨is, hs, h1, h2⟩ := stand_of (kf := KV.k) (xs := xs) (k := k) HR.out hi (fun m h hm => by have := hlo m hm; rwa [HX.out m h] at this) (fun m h hm => by have := hhi m hm h; rwa [HX.out m h] at this)
    have hd : decide (i < xs.length ∧ (xs.getD i default).k = k) = is := by
      by_cases hn : i < xs.length
      · rw [h1 hn, HX.out i hn]; simp [hn]
      · rw [h2 hn]; simp [hn]
    have hl : (xs.take i).length = i := by rw [List.length_take]; omega
    refine bodyPost_ret (v := .tuple #[.int .i64 i, .bool is]) (by simp [results, Try.results39, go_sem, ← hd]) rfl ⟨_, _, is, hs, by rw [hl], hbl⟩

theorem cloQ_any (w : World) (x : KN) (k : ByteArray) : Calls Try.prog 61 #[.agg x.en.toArray, .string k] w fun e w' => e = .returned (.int .i64 (cmpI x.k k)) ∧ Below w.heap.size w w' := by
  have h0 := (cell_of (heap_alloc_new w (.cells x.en.toArray 72)) 0).1
  rw [show x.en.toArray[0]? = some (.string x.k) from rfl] at h0
  go_enter Try.func61, Try.ntmps61
  go_wp2_with (go_at_call 51; refine (cmp_any _ _ _).mono ?_; rintro e w' ⟨rfl, hw⟩; obtain rfl := hw.symm; clear hw)
  go_ret
  exact ⟨rfl, (Below.refl _ _).alloc (Nat.le_refl _) _⟩

set_option maxRecDepth 100000 in
set_option maxHeartbeats 1000000 in
theorem bsfQ_any (w : World) (g n c : Nat) (X : Nat → KN) (k : ByteArray) (hn : n ≤ 1000) (hg : g < w.heap.size) (hc : ∀ m, m < n → ∀ j, j < 2 → w.cell? ⟨g, m * 2 + j, none⟩ = (X m).en[j]?)
    (hmono : ∀ a b, a ≤ b → b < n → bL (X b).k k = true → bL (X a).k k = true) :
    Calls Try.prog 60 #[.slice (some ⟨g, 0, none⟩) n c, .string k, .func (.func 61) #[] #[]] w fun e w' =>
      ∃ i : Nat, i ≤ n ∧ (∀ m, m < i → bL (X m).k k = true) ∧ (∀ m, i ≤ m → m < n → bL (X m).k k = false) ∧ e = .returned (.tuple #[.int .i64 i, .bool (decide (i < n ∧ (X i).k = k))]) ∧ Below w.heap.size w w' := by
  have HC := Lib.hid hc
  have HM := Lib.hid hmono
  have HG := Lib.hid hg
  clear hc hmono hg
  have HI := Lib.hid (fun x : KN => atKN x)
  go_enter Try.func60, Try.ntmps60
  go_wp2
  go_loopw [9, 10] (fun s t wr => ∃ i j : Nat, i ≤ j ∧ j ≤ n ∧ s = .int .i64 i ∧ t = .int .i64 j ∧ Hid ((∀ m, m < i → bL (X m).k k = true) ∧ (∀ m, j ≤ m → m < n → bL (X m).k k = false) ∧ Below w.heap.size w wr)) (fun s t _ => intN t - intN s)
  case atStart => exact ⟨0, n, Nat.zero_le _, Nat.le_refl _, rfl, rfl, (fun m h => absurd h (Nat.not_lt_zero m)), (fun m h1 h2 => by omega), Below.refl _ _⟩
  case round =>
    obtain ⟨i, j, hij, hj, rfl, rfl, HR⟩ := hrel
    by_cases hlt : i < j
    · have hm : (i + j) / 2 < n := by omega
      have c0 : ∀ q, q < 2 → wr.cell? ⟨g, (i + j) / 2 * 2 + q, none⟩ = (X ((i + j) / 2)).en[q]? := fun q hq => (World.cell?_of_block (HR.out.2.2.block g HG.out)).trans (HC.out _ hm q hq)
      obtain ⟨x, hx⟩ : ∃ x, X ((i + j) / 2) = x := ⟨_, rfl⟩
      have HX := Lib.hid hx
      rw [hx] at c0
      have HL : Hid (∀ q v, x.en.toArray[q]? = some v → wr.cell? ⟨g, (i + j) / 2 * 2 + q, none⟩ = some v) := fun q v hv => by
        have hq : q < 2 := by
          rcases Nat.lt_or_ge q 2 with h | h
          · exact h
          · rw [Array.getElem?_eq_none (by simpa [KN.en] using h)] at hv; cases hv
        rw [c0 q hq]; simpa using hv
      obtain ⟨h, hh⟩ : ∃ h, (i + j) / 2 = h := ⟨_, rfl⟩
      have e1 : ((i : Int) + (j : Int)) / 2 = (h : Int) := by omega
      have HH := Lib.hid hh
      rw [hh] at HL hx HX hm
      clear c0 hx hh
      have hmI : (h : Int) < (n : Int) := by omega
      have hltI : (i : Int) < (j : Int) := by omega
      cases hb : bL x.k k with
      | true =>
        have ec : cmpI x.k k = -1 := by simp [cmpI, hb]
        have HB := Lib.hid hb
        clear hb
        go_wp2_with (first | (go_at_call 61; refine (cloQ_any _ x k).mono ?_; rintro e w2 ⟨rfl, hb2⟩; rw [ec]) | (with_reducible refine wpList_load_at rfl 72 (.tmp 27) rfl g (h * 2) rfl x.en.toArray _ HL.out undKN rfl (HI.out x) ?_))
        go_roundw
        case rel => exact ⟨h + 1, j, by omega, hj, by simp, rfl, (fun m hm2 => HM.out m h (by omega) hm (by rw [HX.out]; exact HB.out)), HR.out.2.1, HR.out.2.2.trans (hb2.mono HR.out.2.2.size)⟩
        case measure => simp [intN]; omega
      | false =>
        have ec : ∃ z : Int, cmpI x.k k = z ∧ 0 ≤ z ∧ z ≤ 1 := by
          refine ⟨_, rfl, ?_⟩
          unfold cmpI
          rw [hb]
          cases bL k x.k <;> simp
        obtain ⟨z, ec, hz0, hz1⟩ := ec
        have hz : ¬ z < 0 := by omega
        have HB := Lib.hid hb
        clear hb
        go_wp2_with (first | (go_at_call 61; refine (cloQ_any _ x k).mono ?_; rintro e w2 ⟨rfl, hb2⟩; rw [ec]) | (with_reducible refine wpList_load_at rfl 72 (.tmp 27) rfl g (h * 2) rfl x.en.toArray _ HL.out undKN rfl (HI.out x) ?_))
        go_roundw
        case rel =>
          refine ⟨i, h, by have := HH.out; omega, by omega, rfl, by simp, HR.out.1, (fun m h1 h2 => ?_), HR.out.2.2.trans (hb2.mono HR.out.2.2.size)⟩
          cases e : bL (X m).k k with
          | false => rfl
          | true =>
            have := HM.out h m h1 h2 e
            rw [HX.out, HB.out] at this
            cases this
        case measure => have := HH.out; simp [intN]; omega
    · obtain rfl : i = j := by omega
      by_cases hin : i < n
      · have c0 : ∀ q, q < 2 → wr.cell? ⟨g, i * 2 + q, none⟩ = (X i).en[q]? := fun q hq => (World.cell?_of_block (HR.out.2.2.block g HG.out)).trans (HC.out _ hin q hq)
        obtain ⟨x, hx⟩ : ∃ x, X i = x := ⟨_, rfl⟩
        have HX := Lib.hid hx
        rw [hx] at c0
        have HL : Hid (∀ q v, x.en.toArray[q]? = some v → wr.cell? ⟨g, i * 2 + q, none⟩ = some v) := fun q v hv => by
          have hq : q < 2 := by
            rcases Nat.lt_or_ge q 2 with h | h
            · exact h
            · rw [Array.getElem?_eq_none (by simpa [KN.en] using h)] at hv; cases hv
          rw [c0 q hq]; simpa using hv
        have hinI : (i : Int) < (n : Int) := by omega
        have ec : ∃ z : Int, cmpI x.k k = z ∧ (z == 0) = decide (i < n ∧ (X i).k = k) := by
          refine ⟨_, rfl, ?_⟩
          rw [hx]
          unfold cmpI
          cases h1 : bL x.k k with
          | true => have := bL_ne h1; simp [this]
          | false =>
            cases h2 : bL k x.k with
            | true => have := (bL_ne h2).symm; simp [this]
            | false => simp [bL_tri h1 h2, hin]
        obtain ⟨z, ec, hz⟩ := ec
        obtain ⟨bz, hbz⟩ : ∃ bz, bz = decide (i < n ∧ (X i).k = k) := ⟨_, rfl⟩
        rw [← hbz] at hz
        have HZ := Lib.hid hbz
        clear c0 hx hbz
        go_wp2_with (first | (go_at_call 61; refine (cloQ_any _ x k).mono ?_; rintro e w2 ⟨rfl, hb2⟩; rw [ec]) | (refine wpList_load_at (by rfl) 72 (.tmp 43) rfl g (i * 2) rfl x.en.toArray _ HL.out undKN rfl (HI.out x) ?_))
        refine bodyPost_ret (v := .tuple #[.int .i64 i, .bool bz]) (by simp [results, Try.results60, go_sem]) rfl ⟨i, by omega, HR.out.1, HR.out.2.1, by rw [HZ.out], HR.out.2.2.trans (hb2.mono HR.out.2.2.size)⟩
      · obtain rfl : i = n := by omega
        go_wp2_with fail
        refine bodyPost_ret (v := .tuple #[.int .i64 i, .bool false]) (by simp [results, Try.results60, go_sem]) rfl ⟨i, by omega, HR.out.1, HR.out.2.1, by simp, HR.out.2.2⟩

theorem bsfQ_none (w : World) (k : ByteArray) :
    Calls Try.prog 60 #[.slice none 0 0, .string k, .func (.func 61) #[] #[]] w fun e w' => e = .returned (.tuple #[.int .i64 0, .bool false]) ∧ w' = w := by
  go_enter Try.func60, Try.ntmps60
  go_wp2
  go_loopw [9, 10] (fun s t wr => s = .int .i64 0 ∧ t = .int .i64 0 ∧ wr = w) (fun _ _ _ => 0)
  case atStart => exact ⟨rfl, rfl, rfl⟩
  case round =>
    obtain ⟨rfl, rfl, rfl⟩ := hrel
    go_wp2_with fail
    refine bodyPost_ret (v := .tuple #[.int .i64 0, .bool false]) (by simp [results, Try.results60, go_sem]) rfl ⟨rfl, rfl⟩

theorem findQ_any (w : World) (v : Value) (xs : List KN) (k : ByteArray) (hn : xs.length ≤ 1000) (ho : w.ownsRow 0 72 2 v xs.length (xs.flatMap KN.en)) (hr : Rise KN.k xs) :
    Calls Try.prog 48 #[v, .string k] w fun e w' => ∃ A B is, Stand KN.k xs k A B is ∧ e = .returned (.tuple #[.int .i64 A.length, .bool is]) ∧ Below w.heap.size w w' := by
  obtain ⟨a, cp, rfl⟩ := own_shape ho
  rcases id ho.2 with ⟨e, e0⟩ | ⟨g, cap, cur, e, _, hg, _, _, _, _⟩
  · injection e with e1 e2 e3
    subst e1 e3
    have hx : xs = [] := List.eq_nil_of_length_eq_zero e0
    subst hx
    have HB := Lib.hid (bsfQ_none w k)
    clear ho hr
    go_enter Try.func48, Try.ntmps48
    go_wp2_with (go_at_call 60; refine (HB.out).mono ?_; rintro e w' ⟨rfl, hw⟩; obtain rfl := hw.symm; clear hw)
    refine bodyPost_ret (v := .tuple #[.int .i64 0, .bool false]) (by simp [results, Try.results48, go_sem]) rfl ⟨[], [], false, ⟨rfl, (fun x hx => by cases hx), .inr ⟨rfl, (fun x hx => by cases hx)⟩⟩, rfl, Below.refl _ _⟩
  · injection e with e1 e2 e3
    subst e1 e3
    have hgl : g < w.heap.size := (Array.getElem?_eq_some_iff.1 hg).1
    have hX : ∀ m (h : m < xs.length), xs.getD m default = xs[m] := fun m h => by simp [List.getD_eq_getElem?_getD, h]
    have hb := bsfQ_any w g xs.length cp (fun m => xs.getD m default) k hn hgl (fun m hm j hj => by
      show _ = (xs.getD m default).en[j]?
      rw [hX m hm]; exact (own_cell KN.en_len ho hm hj).1) (fun a b hab hb h => by
        have ha : a < xs.length := by omega
        rw [hX b hb] at h
        rw [hX a ha]
        rcases Nat.lt_or_ge a b with e | e
        · exact bL_trans (List.pairwise_iff_getElem.1 hr a b ha hb e) h
        · obtain rfl : a = b := by omega
          exact h)
    have HB := Lib.hid hb
    have HX := Lib.hid hX
    have HR := Lib.hid hr
    clear hb hX hr ho hg
    go_enter Try.func48, Try.ntmps48
    go_wp2_with (go_at_call 60; refine (HB.out).mono ?_; rintro e w' ⟨i, hi, hlo, hhi, rfl, hbl⟩)
    obtain ⟨is, hs, h1, h2⟩ := stand_of (kf := KN.k) (xs := xs) (k := k) HR.out hi (fun m h hm => by have := hlo m hm; rwa [HX.out m h] at this) (fun m h hm => by have := hhi m hm h; rwa [HX.out m h] at this)
    have hd : decide (i < xs.length ∧ (xs.getD i default).k = k) = is := by
      by_cases hn : i < xs.length
      · rw [h1 hn, HX.out i hn]; simp [hn]
      · rw [h2 hn]; simp [hn]
    have hl : (xs.take i).length = i := by rw [List.length_take]; omega
    refine bodyPost_ret (v := .tuple #[.int .i64 i, .bool is]) (by simp [results, Try.results48, go_sem, ← hd]) rfl ⟨_, _, is, hs, by rw [hl], hbl⟩

/-- The child in which a key stands, or would stand. -/
structure Under (xs : List KN) (k : ByteArray) (A : List KN) (x : KN) (B : List KN) : Prop where
  eq : xs = A ++ x :: B
  lo : A = [] ∨ bL k x.k = false
  hi : ∀ y ∈ B, bL k y.k = true
theorem Stand.under {xs A B : List KN} {k : ByteArray} {is : Bool} (h : Stand KN.k xs k A B is) (hx : xs ≠ []) : ∃ A' x B', Under xs k A' x B' ∧ A'.length = if is then A.length else A.length - 1 := by
  rcases h.hi with ⟨rfl, x, r, rfl, hk, hr⟩ | ⟨rfl, hB⟩
  · exact ⟨A, x, r, ⟨h.eq, .inr (by rw [hk, bL_irr]), hr⟩, rfl⟩
  · rcases List.eq_nil_or_concat A with rfl | ⟨A', x, rfl⟩
    · cases B with
      | nil => exact absurd h.eq hx
      | cons x r => exact ⟨[], x, r, ⟨h.eq, .inl rfl, fun y hy => hB y (by simp [hy])⟩, rfl⟩
    · refine ⟨A', x, B, ⟨by rw [h.eq]; simp, .inr (bL_asym (h.lo x (by simp))), hB⟩, by simp⟩
theorem over_any (w : World) (v : Value) (xs : List KN) (k : ByteArray) (hn : xs.length ≤ 1000) (hx : xs ≠ []) (ho : w.ownsRow 0 72 2 v xs.length (xs.flatMap KN.en)) (hr : Rise KN.k xs) :
    Calls Try.prog 38 #[v, .string k] w fun e w' => ∃ A x B, Under xs k A x B ∧ e = .returned (.int .i64 A.length) ∧ Below w.heap.size w w' := by
  have HF := Lib.hid (findQ_any w v xs k hn ho hr)
  have HX := Lib.hid hx
  clear ho hr hx
  go_enter Try.func38, Try.ntmps38
  go_upto_region 2 with (go_at_call 48; refine (HF.out).mono ?_; rintro e w' ⟨A, B, is, hs, rfl, hb⟩)
  have hl : A.length ≤ 1000 := by have := congrArg List.length hs.eq; rw [List.length_append] at this; omega
  obtain ⟨A', x, B', hu, he⟩ := hs.under HX.out
  generalize A.length = a at *
  have HU := Lib.hid hu
  clear hs hu
  cases is with
  | true =>
    obtain rfl : A'.length = a := he
    go_wp2_with fail
    go_ret
    exact ⟨A', x, B', HU.out, rfl, hb⟩
  | false =>
    simp only [Bool.false_eq_true, if_false] at he
    have HE := Lib.hid he
    clear he
    by_cases h0 : a = 0
    · subst h0
      go_wp2_with fail
      go_ret
      exact ⟨A', x, B', HU.out, by rw [HE.out]; rfl, hb⟩
    · have h1 : ¬ ((a : Int) - 1 < 0) := by omega
      have h2 : (0 : Int) ≤ (a : Int) - 1 := by omega
      go_wp2_with fail
      refine bodyPost_ret (v := .int .i64 ((a : Int) - 1)) ?_ rfl ⟨A', ⟨x, B', HU.out⟩, by rw [HE.out, show ((a - 1 : Nat) : Int) = (a : Int) - 1 by omega], hb⟩
      have hm : max ((a : Int) - 1) 0 = (a : Int) - 1 := by omega
      simp [results, Try.results38, go_sem, hm]
end Go.Proofs.Ytejbbojephiifaa
