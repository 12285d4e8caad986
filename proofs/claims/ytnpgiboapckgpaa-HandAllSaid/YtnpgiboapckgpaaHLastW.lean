/- HandLast: the walk. -/
import Derived.Test.YtnpgiboapckgpaaHdV
import Derived.Laws.BytesString
namespace Go.Proofs.Ytnpgiboapckgpaa
open Go.RowKit

/-- The text of one byte. -/
def ch (m : Nat) : ByteArray := ⟨#[UInt8.ofNat m]⟩
theorem conv_one (w : World) (m : Nat) : (convert 30 9 (.slice (some ⟨w.heap.size, 0, none⟩) 1 1)).run Try.prog (w.alloc (.cells #[.int .u8 (m : Int)] 5)) = .ok (.string (ch m)) (w.alloc (.cells #[.int .u8 (m : Int)] 5)) := by
  rw [run_convert_bytes_string _ 30 9 5 _ _ _ Try.underlying30 Try.underlying5 Try.underlying9]
  have h := run_bytesToString (P := Try.prog) (w.alloc (.cells #[.int .u8 (m : Int)] 5)) ⟨w.heap.size, 0, none⟩ 1 1 [(m : Int)] (by
    have := run_loadCells_list (P := Try.prog) (w.alloc (.cells #[.int .u8 (m : Int)] 5)) ⟨w.heap.size, 0, none⟩ [.int .u8 (m : Int)] (fun j v hv => by
      cases j with
      | zero =>
        simp only [List.getElem?_cons_zero, Option.some.injEq] at hv
        subst hv
        rw [add_off]
        exact (cell_of (heap_alloc_new w (.cells #[.int .u8 (m : Int)] 5)) 0).1
      | succ j => simp at hv)
    simpa using this)
  rw [h]
  rfl

def updL (L : Nat → Nat) (c m : Nat) : Nat → Nat := fun j => if j = c then m else L j
structure La (n : Nat) (L : Nat → Nat) (s : St) : Prop where
  nn : s.n = n
  a : s.a < n
  on : ∀ j, j < n → (s.P j).u = true → ∃ c : Nat, c < 16 ∧ (s.P j).k = (c : Int) ∧ 0 < L c ∧ (s.P j).v = ch (L c - 1)
  z : ∀ j, j < n → (s.P j).n = 0
  one : ∀ i j, i < n → j < n → (s.P i).u = true → (s.P j).u = true → (s.P i).k = (s.P j).k → i = j
theorem La.sim {n a a' : Nat} {L : Nat → Nat} {P P' : Nat → Pl} (h : La n L ⟨n, P, a⟩) (hs : Sim P P') (ha : a' < n) : La n L ⟨n, P', a'⟩ :=
  ⟨rfl, ha, fun j hj hu => by
    rw [(hs j).2.1, (hs j).2.2.1]; exact h.on j hj ((hs j).1.symm.trans hu), fun j hj => (hs j).2.2.2.trans (h.z j hj), fun i j hi hj ui uj e =>
    h.one i j hi hj ((hs i).1.symm.trans ui) ((hs j).1.symm.trans uj) ((hs i).2.1.symm.trans (e.trans (hs j).2.1))⟩
/-- One place takes a key that no other place has. -/
theorem La.take {n a a' j c m : Nat} {L : Nat → Nat} {P P' : Nat → Pl} {x : Pl} (h : La n L ⟨n, P, a⟩) (hs : Sim P P') (ha : a' < n) (hc : c < 16)
    (hno : ∀ i, i < n → i ≠ j → (P i).u = true → (P i).k ≠ (c : Int)) (hk : x.k = (c : Int)) (hv : x.v = ch m) (hz : x.n = 0) : La n (updL L c (m + 1)) ⟨n, up P' j x, a'⟩ := by
  have h2 := h.sim hs ha
  have hno2 : ∀ i, i < n → i ≠ j → (P' i).u = true → (P' i).k ≠ (c : Int) := fun i hi e u => by rw [(hs i).2.1]; exact hno i hi e ((hs i).1.symm.trans u)
  refine ⟨rfl, ha, fun i hi u => ?_, fun i hi => ?_, fun i i2 hi hi2 u u2 e => ?_⟩
  · dsimp only at u ⊢
    by_cases e : i = j
    · subst e
      rw [up_same]
      refine ⟨c, hc, hk, ?_, ?_⟩
      · unfold updL; rw [if_pos rfl]; omega
      · unfold updL; rw [if_pos rfl]; exact hv
    · rw [up_other _ e] at u ⊢
      obtain ⟨c', h1, h3, h4, h5⟩ := h2.on i hi u
      refine ⟨c', h1, h3, ?_⟩
      have hne : c' ≠ c := fun q => hno2 i hi e u (by rw [← q]; exact h3)
      unfold updL
      rw [if_neg hne]
      exact ⟨h4, h5⟩
  · dsimp only
    by_cases e : i = j
    · subst e; rw [up_same]; exact hz
    · rw [up_other _ e]; exact h2.z i hi
  · dsimp only at u u2 e
    by_cases e1 : i = j <;> by_cases e2 : i2 = j
    · rw [e1, e2]
    · subst e1
      rw [up_same] at e
      rw [up_other _ e2] at e u2
      exact absurd (e.symm.trans hk) (hno2 i2 hi2 e2 u2)
    · subst e2
      rw [up_same] at e
      rw [up_other _ e1] at e u
      exact absurd (e.trans hk) (hno2 i hi e1 u)
    · rw [up_other _ e1] at u e
      rw [up_other _ e2] at u2 e
      exact h2.one i i2 hi hi2 u u2 e
theorem la_put {n : Nat} {L : Nat → Nat} {s : St} (h : La n L s) {c m : Nat} (hc : c < 16) : ∃ (s' : St) (out : Int) (was : ByteArray) (had : Bool) (e : Int),
    PutR s (c : Int) (ch m) s' (tup4 out was had e) ∧ La n (updL L c (m + 1)) s' ∧ ∃ j, j < n ∧ (s'.P j).u = true ∧ (s'.P j).k = (c : Int) := by
  obtain ⟨n', P, a⟩ := s
  obtain rfl : n' = n := h.nn
  have ha : a < n' := h.a
  have hhit : ∀ i, hit ⟨n', P, a⟩ (c : Int) i = true ↔ (P i).u = true ∧ (P i).k = (c : Int) := fun i => by
    show ((P i).u && decide ((P i).k = (c : Int))) = true ↔ _
    rw [Bool.and_eq_true, decide_eq_true_eq]
  obtain ⟨i, hf⟩ := First.some n' (hit ⟨n', P, a⟩ (c : Int))
  by_cases hi : i < n'
  · obtain ⟨u, k⟩ := (hhit i).1 (hf.yes hi)
    refine ⟨_, _, _, _, _, .hit i hf hi, h.take (Sim.refl P) ha hc (fun j hj e uj ek => e (h.one j i hj hi uj u (ek.trans k.symm))) k rfl (h.z i hi), i, hi, ?_⟩
    dsimp only
    rw [up_same]
    exact ⟨u, k⟩
  · have e : i = n' := by have := hf.le; omega
    subst e
    have hno : ∀ j, j < i → (P j).u = true → (P j).k ≠ (c : Int) := fun j hj u k => by
      have := hf.no j hj
      rw [(hhit j).2 ⟨u, k⟩] at this
      cases this
    obtain ⟨v, hv⟩ := First.some i (vac ⟨i, P, a⟩)
    by_cases hvi : v < i
    · refine ⟨_, _, _, _, _, .vac v hf hv hvi, h.take (Sim.refl P) ha hc (fun j hj _ => hno j hj) rfl rfl rfl, v, hvi, ?_⟩
      dsimp only
      rw [up_same]
      exact ⟨rfl, rfl⟩
    · have e2 : v = i := by have := hv.le; omega
      subst e2
      have hz0 : (P 0).n = 0 := h.z 0 (Nat.lt_of_le_of_lt (Nat.zero_le _) ha)
      have hn0 : 0 < v := Nat.lt_of_le_of_lt (Nat.zero_le _) ha
      obtain ⟨f, P', a', j, ht⟩ := turn_ends (n := v) _ P a rfl ha ⟨0, hn0, hz0⟩
      obtain ⟨hj, ha', _⟩ := turnF_lt f P a ha ht
      refine ⟨_, _, _, _, _, .turn 0 j a' f P' hf hv (first_at (Nat.zero_le _) (fun j e => absurd e (Nat.not_lt_zero _)) (fun _ => by show decide ((P 0).n = 0) = true; rw [hz0]; rfl)) hn0 ht,
        h.take (turnF_sim f P a ht) ha' hc (fun j hj _ => hno j hj) rfl rfl rfl, j, hj, ?_⟩
      dsimp only
      rw [up_same]
      exact ⟨rfl, rfl⟩
theorem la_get {n : Nat} {L : Nat → Nat} {s : St} (h : La n L s) {c : Nat} (hex : ∃ j, j < n ∧ (s.P j).u = true ∧ (s.P j).k = (c : Int)) : ∃ s1 : St, GetR s (c : Int) s1 (.returned (.tuple #[.string (ch (L c - 1)), .bool true])) ∧ La n L s1 ∧ Sim s.P s1.P := by
  obtain ⟨s1, x, b, hg, hn, ha, hs, ht, hf⟩ := get_total s (c : Int)
  obtain ⟨n', P, a⟩ := s
  obtain rfl : n' = n := h.nn
  obtain ⟨n1, P1, a1⟩ := s1
  obtain rfl : n1 = n' := hn
  obtain rfl : a1 = a := ha
  have hhit : ∀ i, hit ⟨n1, P, a1⟩ (c : Int) i = true ↔ (P i).u = true ∧ (P i).k = (c : Int) := fun i => by
    show ((P i).u && decide ((P i).k = (c : Int))) = true ↔ _
    rw [Bool.and_eq_true, decide_eq_true_eq]
  cases b with
  | false =>
    obtain ⟨j, hj, u, k⟩ := hex
    have := hf rfl j hj
    rw [(hhit j).2 ⟨u, k⟩] at this
    cases this
  | true =>
    obtain ⟨i, hi, hh, hx⟩ := ht rfl
    obtain ⟨u, k⟩ := (hhit i).1 hh
    obtain ⟨c', _, h2, _, h4⟩ := h.on i hi u
    have e : c' = c := by have : (c' : Int) = (c : Int) := h2.symm.trans k; omega
    subst e
    have hx2 : x = ch (L c' - 1) := hx.trans h4
    rw [hx2] at hg
    exact ⟨_, hg, h.sim hs h.a, hs⟩
theorem cntU_pos {P : Nat → Pl} {j : Nat} (hu : (P j).u = true) : ∀ n, j < n → 0 < cntU P n
  | 0, h => by omega
  | n + 1, h => by
    unfold cntU
    by_cases e : j = n
    · subst e; rw [if_pos hu]; omega
    · have := cntU_pos hu n (by omega); omega
theorem owns_int2 {w : World} {b t n : Nat} {v : Value} {l : List Int} (h : w.ownsRow b t 1 v n (intV l)) (hn : 0 < n) : ∃ gk cap, v = .slice (some ⟨gk, 0, none⟩) n cap ∧ b ≤ gk ∧ gk < w.heap.size ∧ ∀ j x, l[j]? = some x → w.cell? ⟨gk, j, none⟩ = some (.int .i64 x) := by
  have h' := h
  obtain ⟨gk, cap, e, hk⟩ := owns_int h hn
  obtain ⟨_, ⟨rfl, rfl⟩ | ⟨g, cap', cur, rfl, hb, hg, _⟩⟩ := h'
  · omega
  · injection e with e1 e2 e3
    injection e1 with e1
    injection e1 with e1 e4
    subst e1
    exact ⟨g, cap', rfl, hb, (Array.getElem?_eq_some_iff.1 hg).1, hk⟩
def lastV (L : Nat → Nat) : Array Value := arrV 16 fun j => .int .i64 ((L j : Nat) : Int)
theorem lastV_zero : (#[.int .i64 0, .int .i64 0, .int .i64 0, .int .i64 0, .int .i64 0, .int .i64 0, .int .i64 0, .int .i64 0, .int .i64 0, .int .i64 0, .int .i64 0, .int .i64 0, .int .i64 0, .int .i64 0, .int .i64 0, .int .i64 0] : Array Value) = lastV fun _ => 0 := rfl
theorem lastV_set (L : Nat → Nat) (c m : Nat) : (arrV 16 fun j => if j = c then Value.int .i64 ((m : Int) + 1) else .int .i64 ((L j : Nat) : Int)) = lastV (updL L c (m + 1)) := by
  unfold lastV updL
  congr 1
  funext j
  split <;> rfl

set_option maxRecDepth 100000 in
set_option maxHeartbeats 8000000 in
theorem last_walk (w : World) (x : Nat) (hx : x < 256) (v1 : Value) (l1 : List Int) (h1 : SlK .u8 w v1 l1) : Calls Try.prog 6 #[.int .u8 (x : Int), v1] w fun e w' => e = .returned (.bool true) ∧ Below w.heap.size w w' := by
  obtain ⟨pv1, cp1, rfl, q1⟩ := h1
  have S1 : Hid (SlK .u8 w (.slice pv1 l1.length cp1) l1) := ⟨_, _, rfl, q1⟩
  clear q1
  go_enter Try.func6, Try.ntmps6
  go_upto_region 3 with (first | (go_at_call 9; refine (begun_any _).mono ?_; rintro e w1 ⟨rfl, b1⟩))
  have B1 := Lib.hid b1
  clear b1
  by_cases hl1 : 40 < l1.length
  · have hl' : (40 : Int) < (l1.length : Int) := by omega
    clear hl1
    go_wp2_with fail
    go_ret
    exact ⟨rfl, B1.out⟩
  have hl' : ¬ (40 : Int) < (l1.length : Int) := by omega
  have L1 : Hid (l1.length ≤ 40) := Nat.le_of_not_lt hl1
  clear hl1
  have hn : (1 : Int) + (x : Int) % 10 = ((1 + x % 10 : Nat) : Int) := by omega
  have hn1 : 1 ≤ 1 + x % 10 := by omega
  have hn10 : 1 + x % 10 ≤ 10 := by omega
  have HNN := Lib.hid hn
  clear hn
  generalize hxn : 1 + x % 10 = n at *
  have HXN := Lib.hid hxn
  clear hxn
  have N1 := Lib.hid hn1
  have N10 := Lib.hid hn10
  clear hn1 hn10
  go_upto_region 6 with (first | (go_at_call 10; rw [HNN.out]; refine (new_mine w w1 (n : Int) B1.out B1.out.size).mono ?_; rintro e w2 ⟨p, g, rfl, m2⟩))
  rw [room_of n N1.out (by have := N10.out; omega)] at m2
  have M2 := Lib.hid m2
  clear m2 B1 hl'
  go_upto_region 7 with (fail)
  have hq := heap_alloc_new w2 (.cells (lastV fun _ => 0) 46)
  have M4 := Lib.hid (M2.out.on ((Below.refl _ _).alloc (Nat.le_refl _) (.cells (lastV fun _ => 0) 46)))
  have HNE : Hid (p ≠ w2.heap.size ∧ g ≠ w2.heap.size ∧ w.heap.size ≤ w2.heap.size) := ⟨Nat.ne_of_lt M2.out.ha.lp, Nat.ne_of_lt M2.out.ha.lg, M2.out.size⟩
  have HQ4 := Lib.hid hq
  clear hq M2
  rw [lastV_zero]
  generalize w2.alloc (.cells (lastV fun _ => 0) 46) = w5 at *
  generalize w2.heap.size = q at *
  clear w2
  go_wp2_with fail
  go_loopw [7] (fun v wr => ∃ (i : Nat) (L : Nat → Nat) (s : St), i ≤ l1.length ∧ v = .int .i64 (i : Int) ∧ Hid (∀ j, L j ≤ i) ∧ La n L s ∧ wr.heap[q]? = some (.cells (lastV L) 46 (0, 0)) ∧ Mine w.heap.size w wr p g s) (fun v _ => l1.length - lvN v)
  case atStart => exact ⟨0, fun _ => 0, newS n, Nat.zero_le _, rfl, fun _ => Nat.le_refl _, ⟨rfl, N1.out, (fun j _ h => by cases h), (fun j _ => rfl), (fun i j _ _ h => by cases h)⟩, HQ4.out, M4.out⟩
  case round =>
    obtain ⟨i, L, s, hi, rfl, HLi, hla, hq, m⟩ := hrel
    have HM := Lib.hid m
    have HQ := Lib.hid hq
    have HL := Lib.hid hla
    have hl1 := L1.out
    clear m hq hla M4 HQ4
    by_cases hlt : i < l1.length
    · obtain ⟨ab, ao, y, rfl, hy, c0⟩ := sl_at S1.out HM.out.be hlt
      have hcv := fun W => conv_one W i
      go_upto_region 11 with (fail)
      have hm : (y : Int) % 16 = ((y % 16 : Nat) : Int) := by omega
      have ht : y % 16 < 16 := Nat.mod_lt _ (by omega)
      rw [hm]
      generalize y % 16 = t at *
      obtain ⟨s2, out, was, had, e, hp, hla2, hex⟩ := la_put HL.out (m := i) ht
      have HP := Lib.hid hp
      have HL2 := Lib.hid hla2
      have HEX := Lib.hid hex
      have HT := Lib.hid ht
      clear hm c0 hy hi hp hla2 hex HL ht
      go_upto_region 12 with (first | (go_at_call 12; refine (put_any _ (HM.out.on ((Below.refl _ _).alloc (Nat.le_refl _) _)).ha HP.out).mono ?_; rintro e6 w6 ⟨rfl, h6, f6⟩; unfold tup4))
      have M6 := Lib.hid ((HM.out.on ((Below.refl _ _).alloc (Nat.le_refl _) _)).step h6 f6)
      have HQ6 := Lib.hid (block_fr ((Below.heap_alloc wr (.cells #[.int .u8 (i : Int)] 5) q (Array.getElem?_eq_some_iff.1 HQ.out).1).trans HQ.out) f6 HNE.out.1 HNE.out.2.1)
      clear h6 f6 HM HQ HP
      have c1 := (cell_of HQ6.out t).1.trans (arrV_at _ HT.out)
      have f1 := (cell_of HQ6.out t).2
      have ht16 : (t : Int) < 16 := by have := HT.out; omega
      have M7 := Lib.hid (M6.out.set HNE.out.1 HNE.out.2.1 HNE.out.2.2 t (.int .i64 ((i : Int) + 1)))
      have hq7 := block_set HQ6.out HT.out (.int .i64 ((i : Int) + 1))
      rw [lastV_set] at hq7
      have HQ7 := Lib.hid hq7
      clear hq7
      have HLi2 : Hid (∀ j, updL L t (i + 1) j ≤ i + 1) := fun j => by
        unfold updL
        split
        · exact Nat.le_refl _
        · have := HLi.out j; omega
      obtain ⟨s3, hg, hla3, hsim⟩ := la_get HL2.out HEX.out
      rw [show updL L t (i + 1) t - 1 = i by unfold updL; rw [if_pos rfl]; rfl] at hg
      have HG := Lib.hid hg
      have HL3 := Lib.hid hla3
      have HEX3 : Hid (∃ j, j < n ∧ (s3.P j).u = true ∧ (s3.P j).k = (t : Int)) := by
        obtain ⟨j, h1, h2, h3⟩ := HEX.out
        exact ⟨j, h1, (hsim j).1.trans h2, (hsim j).2.1.trans h3⟩
      clear hg hla3 hsim HL2 HEX
      generalize updL L t (i + 1) = L' at *
      go_upto_region 13 with (fail)
      clear c1 f1 M6 HQ6
      generalize w6.setCell ⟨q, t, none⟩ (.int .i64 ((i : Int) + 1)) = w7 at *
      clear w6
      go_upto_region 14 with (first | (go_at_call 14; refine (get_any _ M7.out.ha HG.out).mono ?_; rintro e8 w8 ⟨rfl, h8, f8⟩))
      have M8 := Lib.hid (M7.out.step h8 f8)
      have HQ8 := Lib.hid (block_fr HQ7.out f8 HNE.out.1 HNE.out.2.1)
      clear h8 f8 M7 HQ7 HG
      go_upto_region 16 with (fail)
      have M9 := Lib.hid (M8.out.on ((Below.refl _ _).alloc (Nat.le_refl _) (.cells #[.int .u8 (i : Int)] 5)))
      have HQ9 := Lib.hid ((Below.heap_alloc w8 (.cells #[.int .u8 (i : Int)] 5) q (Array.getElem?_eq_some_iff.1 HQ8.out).1).trans HQ8.out)
      clear M8 HQ8
      generalize w8.alloc (.cells #[.int .u8 (i : Int)] 5) = w9 at *
      clear hcv
      have hnn := HL3.out.nn
      have hlen1 : (keysTo s3.P s3.n).length ≤ n := by have := keysTo_len s3.P s3.n; omega
      have hlen0 : 0 < (keysTo s3.P s3.n).length := by
        obtain ⟨j, h1, h2, _⟩ := HEX3.out
        rw [keysTo_cnt]
        exact cntU_pos h2 _ (by omega)
      have HMEM : Hid (∀ x, x ∈ keysTo s3.P s3.n → ∃ j, j < n ∧ (s3.P j).u = true ∧ (s3.P j).k = x) := fun x hx => by
        obtain ⟨j, h1, h2⟩ := keysTo_mem s3.P s3.n x hx
        exact ⟨j, by omega, h2⟩
      clear HEX3
      generalize hK : keysTo s3.P s3.n = K at *
      have HK := Lib.hid hK
      clear hK hnn
      go_upto_region 17 with (first | (go_at_call 21; refine (keys_any _ M9.out.ha).mono ?_; rintro e10 w10 ⟨v10, rfl, ho, hb10⟩; rw [HK.out] at ho))
      obtain ⟨gk, cap, rfl, hgk, hgk2, hcells⟩ := owns_int2 ho hlen0
      have M10 := Lib.hid (M9.out.on hb10)
      have HQ10 := Lib.hid ((hb10.block q (Array.getElem?_eq_some_iff.1 HQ9.out).1).trans HQ9.out)
      have HGK : Hid (p ≠ gk ∧ g ≠ gk ∧ q ≠ gk ∧ gk < w10.heap.size) := ⟨by have := M9.out.ha.lp; omega, by have := M9.out.ha.lg; omega, by have := (Array.getElem?_eq_some_iff.1 HQ9.out).1; omega, hgk2⟩
      have HCK := Lib.hid hcells
      clear ho hb10 hgk hgk2 hcells M9 HQ9
      have hlen2 : ¬ (1 : Int) + (x : Int) % 10 < (K.length : Int) := by rw [HNN.out]; omega
      have LN1 := Lib.hid hlen1
      clear hlen1
      go_upto_region 19 with (first | (go_at_call 23; refine (len_any _ M10.out.ha).mono ?_; rintro e11 w11 ⟨rfl, hb11⟩; rw [HK.out]))
      have M11 := Lib.hid (M10.out.on hb11)
      have HQ11 := Lib.hid ((hb11.block q (Array.getElem?_eq_some_iff.1 HQ10.out).1).trans HQ10.out)
      have HCK11 : Hid (∀ j x, K[j]? = some x → w11.cell? ⟨gk, j, none⟩ = some (.int .i64 x)) := fun j x h => (hb11.cell (p := ⟨gk, j, none⟩) HGK.out.2.2.2).trans (HCK.out j x h)
      have HGK11 : Hid (p ≠ gk ∧ g ≠ gk ∧ q ≠ gk ∧ gk < w11.heap.size) := ⟨HGK.out.1, HGK.out.2.1, HGK.out.2.2.1, Nat.lt_of_lt_of_le HGK.out.2.2.2 hb11.size⟩
      clear hb11 M10 HQ10 HCK HGK hlen2 hlen0 hx
      have HLK : Hid (K.length ≤ 10) := Nat.le_trans LN1.out N10.out
      go_wp2_with fail
      go_loopw [12] (fun v wr => ∃ (m : Nat) (s : St), m ≤ K.length ∧ v = .int .i64 (m : Int) ∧ La n L' s ∧ Sim s3.P s.P ∧ wr.heap[q]? = some (.cells (lastV L') 46 (0, 0)) ∧ Mine w.heap.size w wr p g s ∧ Hid (∀ j x, K[j]? = some x → wr.cell? ⟨gk, j, none⟩ = some (.int .i64 x)) ∧ Hid (gk < wr.heap.size)) (fun v _ => K.length - lvN v)
      case atStart => exact ⟨0, s3, Nat.zero_le _, rfl, HL3.out, Sim.refl _, HQ11.out, M11.out, HCK11.out, HGK11.out.2.2.2⟩
      case round =>
        obtain ⟨m, s4, hm, rfl, hla, hsim, hq, mm, HCR, HGR⟩ := hrel
        have HM := Lib.hid mm
        have HQ := Lib.hid hq
        have HL4 := Lib.hid hla
        have HSI := Lib.hid hsim
        have hlk := HLK.out
        clear hla hsim hq mm M11 HQ11 HCK11 HL3
        by_cases hmk : m < K.length
        · have hkm : K[m]? = some K[m] := List.getElem?_eq_getElem hmk
          obtain ⟨j, hj, hju, hjk⟩ := HMEM.out _ (List.getElem_mem hmk)
          obtain ⟨c, hc16, hck, hL0, _⟩ := HL4.out.on j hj ((HSI.out j).1.trans hju)
          have hKc : K[m] = (c : Int) := hjk.symm.trans ((HSI.out j).2.1.symm.trans hck)
          rw [hKc] at hkm
          obtain ⟨d, hd⟩ : ∃ d, L' c = d + 1 := ⟨L' c - 1, by omega⟩
          have hd40 : d ≤ 40 := by have := HLi2.out c; omega
          have ck := HCR.out m _ hkm
          have cl := (cell_of HQ.out c).1.trans (arrV_at _ hc16)
          rw [hd, show ((d + 1 : Nat) : Int) = (d : Int) + 1 from rfl] at cl
          obtain ⟨s5, hg, hla5, hsim5⟩ := la_get HL4.out (c := c) ⟨j, hj, (HSI.out j).1.trans hju, hck⟩
          rw [hd, Nat.add_sub_cancel] at hg
          have HG := Lib.hid hg
          have HL5 := Lib.hid hla5
          have HSI5 := Lib.hid (HSI.out.trans hsim5)
          have HKM := Lib.hid hkm
          have HD := Lib.hid hd
          have HC16 := Lib.hid hc16
          have hcI : ¬ (15 : Int) < (c : Int) := by omega
          have hc16I : (c : Int) < 16 := by omega
          have hd0 : ((d : Int) + 1 == 0) = false := by simp; omega
          clear hg hla5 hsim5 hkm hj hju hjk hck hL0 hKc hd HL4 HSI hm
          go_upto_region 24 with (fail)
          go_upto_region 25 with (first | (go_at_call 14; refine (get_any _ HM.out.ha HG.out).mono ?_; rintro e12 w12 ⟨rfl, h12, f12⟩))
          have M12 := Lib.hid (HM.out.step h12 f12)
          have HQ12 := Lib.hid (block_fr HQ.out f12 HNE.out.1 HNE.out.2.1)
          have hgb : w12.heap[gk]? = wr.heap[gk]? := f12.block gk HGR.out (by rintro (e | e); exact HGK11.out.1 e.symm; exact HGK11.out.2.1 e.symm)
          have HCR12 : Hid (∀ j x, K[j]? = some x → w12.cell? ⟨gk, j, none⟩ = some (.int .i64 x)) := fun j x h => (World.cell?_of_block (a := ⟨gk, j, none⟩) hgb).trans (HCR.out j x h)
          have HGR12 : Hid (gk < w12.heap.size) := Nat.lt_of_lt_of_le HGR.out f12.size
          clear h12 f12 hgb HM HQ HCR HGR HG ck cl
          have ck := HCR12.out m _ HKM.out
          have cl := (cell_of HQ12.out c).1.trans (arrV_at _ HC16.out)
          rw [HD.out, show ((d + 1 : Nat) : Int) = (d : Int) + 1 from rfl] at cl
          have hcv := fun W => conv_one W d
          go_wp2_with fail
          have hb13 : Below w12.heap.size w12 (w12.alloc (.cells #[.int .u8 (d : Int)] 5)) := (Below.refl _ _).alloc (Nat.le_refl _) _
          exact ⟨⟨m + 1, s5, hmk, by go_num, HL5.out, HSI5.out, (hb13.block q (Array.getElem?_eq_some_iff.1 HQ12.out).1).trans HQ12.out, M12.out.on hb13, fun j x h => (hb13.cell (p := ⟨gk, j, none⟩) HGR12.out).trans (HCR12.out j x h), Nat.lt_of_lt_of_le HGR12.out hb13.size⟩, by simp [lvN]; omega⟩
        · obtain rfl : m = K.length := by omega
          clear hm hmk
          go_wp2_with fail
          exact ⟨⟨i + 1, L', s4, hlt, by go_num, HLi2, HL4.out, HQ.out, HM.out⟩, by simp [lvN]; omega⟩
    · obtain rfl : i = l1.length := by omega
      clear hi hlt
      go_wp2_with fail
      go_ret
      exact ⟨rfl, HM.out.be⟩
end Go.Proofs.Ytnpgiboapckgpaa
