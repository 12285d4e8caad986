/- DeedSaves' walk: a savepoint that is set again stands where it was set last, and all four stand apart. -/
import Derived.Test.YtacidmnhbhbmhaaDdK
namespace Go.Proofs.Ytacidmnhbhbmhaa
open Go.RowKit

/-- The savepoints behind i pushes. -/
def sS (l : List Int) : Nat → Nat → Int
  | 0 => none4
  | i + 1 => fun k => if ((l.getD i 0) % 8).toNat = k then ((i + 1 : Nat) : Int) else sS l i k
theorem sS_ok (l : List Int) : ∀ i k, sS l i k = -1 ∨ ∃ t : Nat, sS l i k = (t : Int) ∧ t ≤ i
  | 0, k => .inl rfl
  | i + 1, k => by
    unfold sS
    split
    · exact .inr ⟨i + 1, rfl, Nat.le_refl _⟩
    · rcases sS_ok l i k with h | ⟨t, h1, h2⟩
      · exact .inl h
      · exact .inr ⟨t, h1, by omega⟩
/-- Two arrays that say where savepoints stand. -/
structure Ar (w : World) (Q pa pb : Nat) (S : Nat → Int) : Prop where
  a : ∃ cur, w.heap[pa]? = some (.cells cur 28 (0, 0)) ∧ cur.size = 4 ∧ ∀ i, i < 4 → ∃ s, cur[i]? = some (.int .i64 s) ∧ (S i ≠ -1 → s = S i)
  b : ∃ cur, w.heap[pb]? = some (.cells cur 29 (0, 0)) ∧ cur.size = 4 ∧ ∀ i, i < 4 → cur[i]? = some (.bool (decide (S i ≠ -1)))
  lo : Q ≤ pa ∧ Q ≤ pb
section
variable {w w' : World} {Q pa pb : Nat} {S : Nat → Int}
theorem Ar.lt (h : Ar w Q pa pb S) : pa < w.heap.size ∧ pb < w.heap.size := by
  obtain ⟨c1, h1, _⟩ := h.a
  obtain ⟨c2, h2, _⟩ := h.b
  exact ⟨lt_of h1, lt_of h2⟩
theorem Ar.kept (h : Ar w Q pa pb S) {X : Nat → Prop} (hf : Fr w.heap.size X w w') (h1 : ¬ X pa) (h2 : ¬ X pb) : Ar w' Q pa pb S := by
  obtain ⟨c1, k1, k2⟩ := h.a
  obtain ⟨c2, l1, l2⟩ := h.b
  exact ⟨⟨c1, (hf.block pa h.lt.1 h1).trans k1, k2⟩, ⟨c2, (hf.block pb h.lt.2 h2).trans l1, l2⟩, h.lo⟩
theorem Ar.on (h : Ar w Q pa pb S) (hb : Below w.heap.size w w') : Ar w' Q pa pb S := h.kept (fr_of hb) (fun e => e) (fun e => e)
theorem Ar.ne (h : Ar w Q pa pb S) : pa ≠ pb := by
  obtain ⟨c1, k1, _⟩ := h.a
  obtain ⟨c2, l1, _⟩ := h.b
  rintro rfl
  rw [k1] at l1
  injection l1 with l1
  injection l1 with _ l2
  exact absurd l2 (by decide)
theorem Ar.ai (h : Ar w Q pa pb S) {i : Nat} (hi : i < 4) : ∃ s, w.cell? ⟨pa, i, none⟩ = some (.int .i64 s) ∧ (S i ≠ -1 → s = S i) ∧ w.frozen? ⟨pa, i, none⟩ = false := by
  obtain ⟨c1, k1, _, k2⟩ := h.a
  obtain ⟨s, k3, k4⟩ := k2 i hi
  exact ⟨s, (cell_of k1 i).1.trans k3, k4, (cell_of k1 i).2⟩
theorem Ar.bi (h : Ar w Q pa pb S) {i : Nat} (hi : i < 4) : w.cell? ⟨pb, i, none⟩ = some (.bool (decide (S i ≠ -1))) ∧ w.frozen? ⟨pb, i, none⟩ = false := by
  obtain ⟨c1, k1, _, k2⟩ := h.b
  exact ⟨(cell_of k1 i).1.trans (k2 i hi), (cell_of k1 i).2⟩
theorem Ar.set (h : Ar w Q pa pb S) {n : Nat} (hn : n < 4) {x : Int} (hx : x ≠ -1) : Ar ((w.setCell ⟨pa, n, none⟩ (.int .i64 x)).setCell ⟨pb, n, none⟩ (.bool true)) Q pa pb (upS S n x) := by
  obtain ⟨c1, k1, k2, k3⟩ := h.a
  obtain ⟨c2, l1, l2, l3⟩ := h.b
  have e1 := heap_setCell_same w pa n _ _ (.int .i64 x) k1
  have e2 : (w.setCell ⟨pa, n, none⟩ (.int .i64 x)).heap[pb]? = w.heap[pb]? := heap_setCell_other _ ⟨pa, n, none⟩ pb _ h.ne.symm
  refine ⟨⟨_, (heap_setCell_other _ ⟨pb, n, none⟩ pa _ h.ne).trans e1, by rw [Array.size_setIfInBounds]; exact k2, fun i hi => ?_⟩, ⟨_, heap_setCell_same _ pb n _ _ _ (e2.trans l1), by rw [Array.size_setIfInBounds]; exact l2, fun i hi => ?_⟩, h.lo⟩
  · unfold upS
    by_cases e : i = n
    · subst e
      exact ⟨x, by rw [Array.getElem?_setIfInBounds_self_of_lt (by omega)], by simp⟩
    · obtain ⟨s, k4, k5⟩ := k3 i hi
      exact ⟨s, by rw [Array.getElem?_setIfInBounds_ne (by omega)]; exact k4, by rw [if_neg e]; exact k5⟩
  · unfold upS
    by_cases e : i = n
    · subst e
      rw [Array.getElem?_setIfInBounds_self_of_lt (by omega)]; simp [hx]
    · rw [Array.getElem?_setIfInBounds_ne (by omega), if_neg e]; exact l3 i hi
end
theorem dd_ty {w : World} {B p b g k : Nat} {v : Value} {L : List Int} {S : Nat → Int} (h : DdAt w B p b g v L S) (hk : Dd b g v k) {cs : Array Value} {t : TypeId} (hb : w.heap[k]? = some (.cells cs t (0, 0))) : t = 48 ∨ t = 3 := by
  rcases hk with rfl | rfl | hk
  · rw [h.hb] at hb
    injection hb with hb
    injection hb with _ h2
    exact .inl h2.symm
  · obtain ⟨cur, h1, _⟩ := h.hs
    rw [h1] at hb
    injection hb with hb
    injection hb with _ h2
    exact .inr h2.symm
  · exact .inr (own_ty h.hl hk hb)
/-- The stack, and the two arrays. -/
structure Jo (w0 w : World) (p pa pb : Nat) (L : List Int) (S S2 : Nat → Int) : Prop where
  ex : ∃ b g v, DdAt w w0.heap.size p b g v L S
  ar : Ar w w0.heap.size pa pb S2
  be : Below w0.heap.size w0 w
section
variable {w0 w w' : World} {p pa pb b g : Nat} {v v' : Value} {L L' : List Int} {S S' S2 : Nat → Int}
theorem Jo.on (h : Jo w0 w p pa pb L S S2) (hb : Below w.heap.size w w') : Jo w0 w' p pa pb L S S2 := by
  obtain ⟨b, g, v, h1⟩ := h.ex
  exact ⟨⟨b, g, v, h1.on hb⟩, h.ar.on hb, h.be.trans (hb.mono h.be.size)⟩
theorem Jo.step (h : Jo w0 w p pa pb L S S2) (h0 : DdAt w w0.heap.size p b g v L S) (h1 : DdAt w' w0.heap.size p b g v' L' S') (hf : Fr w.heap.size (Dd b g v) w w') : Jo w0 w' p pa pb L' S' S2 := by
  obtain ⟨c1, k1, _⟩ := h.ar.a
  obtain ⟨c2, l1, _⟩ := h.ar.b
  exact ⟨⟨b, g, v', h1⟩, h.ar.kept hf (fun e => by rcases dd_ty h0 e k1 with e | e <;> exact absurd e (by decide)) (fun e => by rcases dd_ty h0 e l1 with e | e <;> exact absurd e (by decide)), h.be.trans (hf.below (B' := w0.heap.size) h.be.size fun _ hk => (h0.dlt hk).2)⟩
theorem Jo.congr (h : Jo w0 w p pa pb L S S2) (hL : L = L') (hS : ∀ i, i < 4 → S i = S' i) : Jo w0 w p pa pb L' S' S2 := by
  obtain ⟨b, g, v, h1⟩ := h.ex
  subst hL
  exact ⟨⟨b, g, v, h1.congr hS⟩, h.ar, h.be⟩
theorem Jo.congr2 (h : Jo w0 w p pa pb L S S2) {S2' : Nat → Int} (hS : ∀ i, i < 4 → S i = S' i) (hS2 : ∀ i, i < 4 → S2 i = S2' i) : Jo w0 w p pa pb L S' S2' := by
  obtain ⟨b, g, v, h1⟩ := h.ex
  obtain ⟨c1, k1, k2, k3⟩ := h.ar.a
  obtain ⟨c2, l1, l2, l3⟩ := h.ar.b
  exact ⟨⟨b, g, v, h1.congr hS⟩, ⟨⟨c1, k1, k2, fun i hi => by rw [← hS2 i hi]; exact k3 i hi⟩, ⟨c2, l1, l2, fun i hi => by rw [← hS2 i hi]; exact l3 i hi⟩, h.ar.lo⟩, h.be⟩
theorem jpush (h : Jo w0 w p pa pb L S S2) (hL : L.length < 100000) (x : Int) : Calls Try.prog 13 #[.pointer (some ⟨p, 0, none⟩), .int .i64 x] w fun e w' => e = .returned (.tuple #[]) ∧ Jo w0 w' p pa pb (L ++ [x]) S S2 := by
  obtain ⟨b, g, v, h1⟩ := h.ex
  exact (push_any w h1 h.be.size hL x).mono fun e w' ⟨v', he, h2, _, h3⟩ => ⟨he, h.step h1 h2 h3⟩
theorem jsave (h : Jo w0 w p pa pb L S S2) {n : Nat} (hn : n < 4) : Calls Try.prog 8 #[.pointer (some ⟨p, 0, none⟩), .int .i64 (n : Int)] w fun e w' => e = .returned (.bool true) ∧ Jo w0 w' p pa pb L (upS S n (L.length : Int)) S2 := by
  obtain ⟨b, g, v, h1⟩ := h.ex
  exact (save_any w h1 hn).mono fun e w' ⟨he, h2, h3⟩ => ⟨he, h.step h1 h2 h3⟩
theorem jback (h : Jo w0 w p pa pb L S S2) (hL : L.length < 100000) {n t : Nat} (hn : n < 4) (hS : S n = (t : Int)) (ht : t ≤ L.length) :
    Calls Try.prog 10 #[.pointer (some ⟨p, 0, none⟩), .int .i64 (n : Int)] w fun e w' => ∃ A c, e = .returned (.tuple #[.slice A (L.length - t) c, .bool true]) ∧ Jo w0 w' p pa pb (L.take t) (cutS S t) S2 := by
  obtain ⟨b, g, v, h1⟩ := h.ex
  refine (back_yes w h1 hL hn hS ht).mono fun e w' ⟨v', lv, he, ho, h2, _, h3⟩ => ?_
  obtain ⟨A, c, rfl⟩ := own_sl ho
  exact ⟨A, c, he, h.step h1 h2 h3⟩
theorem jback_no (h : Jo w0 w p pa pb L S S2) {n : Int} (hS : svB S n = false) : Calls Try.prog 10 #[.pointer (some ⟨p, 0, none⟩), .int .i64 n] w fun e w' => e = .returned (.tuple #[.slice none 0 0, .bool false]) ∧ w' = w := by
  obtain ⟨b, g, v, h1⟩ := h.ex
  exact back_no w h1 hS
theorem jlen (h : Jo w0 w p pa pb L S S2) : Calls Try.prog 17 #[.pointer (some ⟨p, 0, none⟩)] w fun e w' => e = .returned (.int .i64 (L.length : Int)) ∧ w' = w := by
  obtain ⟨b, g, v, h1⟩ := h.ex
  exact len_any w h1
theorem Jo.set (h : Jo w0 w p pa pb L S S2) {n : Nat} (hn : n < 4) {x : Int} (hx : x ≠ -1) : Jo w0 ((w.setCell ⟨pa, n, none⟩ (.int .i64 x)).setCell ⟨pb, n, none⟩ (.bool true)) p pa pb L S (upS S2 n x) := by
  obtain ⟨b, g, v, h1⟩ := h.ex
  obtain ⟨c1, k1, _⟩ := h.ar.a
  obtain ⟨c2, l1, _⟩ := h.ar.b
  have hf : Fr w.heap.size (fun k => k = pa ∨ k = pb) w ((w.setCell ⟨pa, n, none⟩ (.int .i64 x)).setCell ⟨pb, n, none⟩ (.bool true)) :=
    Fr.setCell (p := ⟨pb, n, none⟩) (Fr.setCell (p := ⟨pa, n, none⟩) (Fr.refl w.heap.size (fun k => k = pa ∨ k = pb) w) (.inl (.inl rfl)) _) (.inl (.inr rfl)) _
  have hne : ∀ {k : Nat} {cs : Array Value} {t : TypeId}, w.heap[k]? = some (.cells cs t (0, 0)) → t ≠ 28 → t ≠ 29 → ¬ (k = pa ∨ k = pb) := fun {k cs t} hk n1 n2 e => by
    rcases e with rfl | rfl
    · rw [k1] at hk; injection hk with hk; injection hk with _ e; exact n1 e.symm
    · rw [l1] at hk; injection hk with hk; injection hk with _ e; exact n2 e.symm
  refine ⟨⟨b, g, v, h1.kept hf (hne h1.hp (by decide) (by decide)) fun k hk => ?_⟩, h.ar.set hn hx, h.be.trans (hf.below (B' := w0.heap.size) h.be.size fun k hk => by rcases hk with rfl | rfl; exact h.ar.lo.1; exact h.ar.lo.2)⟩
  rcases hk with rfl | rfl | hk
  · exact hne h1.hb (by decide) (by decide)
  · obtain ⟨cur, h2, _⟩ := h1.hs
    exact hne h2 (by decide) (by decide)
  · intro e
    rcases e with rfl | rfl
    · exact absurd (own_ty h1.hl hk k1) (by decide)
    · exact absurd (own_ty h1.hl hk l1) (by decide)
end
theorem jstart {w w0 w1 : World} {p bb g : Nat} (be : Below w.heap.size w w0) (h1 : DdAt w1 w0.heap.size p bb g (.slice none 0 0) [] none4) (hb1 : Below w0.heap.size w0 w1) :
    Jo w ((w1.alloc (.cells #[.int .i64 0, .int .i64 0, .int .i64 0, .int .i64 0] 28)).alloc (.cells #[.bool false, .bool false, .bool false, .bool false] 29)) p w1.heap.size (w1.heap.size + 1) [] none4 none4 := by
  have hw := be.size
  have hw1 := hb1.size
  have h1' : DdAt w1 w.heap.size p bb g (.slice none 0 0) [] none4 := ⟨h1.hp, h1.hb, h1.hs, own_base h1.hl hw, h1.ne, by have := h1.lo.1; omega, by have := h1.lo.2.1; omega, by have := h1.lo.2.2; omega⟩
  have hal : Below w1.heap.size w1 ((w1.alloc (.cells #[.int .i64 0, .int .i64 0, .int .i64 0, .int .i64 0] 28)).alloc (.cells #[.bool false, .bool false, .bool false, .bool false] 29)) := ((Below.refl _ _).alloc (Nat.le_refl _) _).alloc (by simp) _
  refine ⟨⟨bb, g, _, h1'.on hal⟩, ⟨⟨_, (Below.heap_alloc _ _ _ (by simp)).trans (heap_alloc_new _ _), rfl, four ?_ ?_ ?_ ?_⟩, ⟨#[.bool false, .bool false, .bool false, .bool false], ?_, rfl, four rfl rfl rfl rfl⟩, by omega, by omega⟩, (be.trans (hb1.mono hw)).trans (hal.mono (by omega))⟩
  iterate 4 exact ⟨0, rfl, fun h => absurd rfl h⟩
  have := heap_alloc_new (w1.alloc (.cells #[.int .i64 0, .int .i64 0, .int .i64 0, .int .i64 0] 28)) (.cells #[.bool false, .bool false, .bool false, .bool false] 29)
  rw [show (w1.alloc (.cells #[.int .i64 0, .int .i64 0, .int .i64 0, .int .i64 0] 28)).heap.size = w1.heap.size + 1 by simp] at this
  exact this

set_option maxRecDepth 100000 in
set_option maxHeartbeats 8000000 in
theorem saves_walk (w : World) (v : Value) (l : List Int) (hs : SlK .u8 w v l) (n : Nat) :
    Calls Try.prog 5 #[v, .int .u8 (n : Int)] w fun e w' => e = .returned (.bool true) ∧ Below w.heap.size w w' := by
  obtain ⟨A, cap, rfl, -, hwf, hnil, hat⟩ := hs
  have en := Nat.mod_lt n (by decide : 4 > 0)
  have rn : (n : Int) % 4 = ((n % 4 : Nat) : Int) := by simp
  generalize n % 4 = m at *
  have CB := begun_any w
  obtain ⟨len, hlen⟩ : ∃ len, l.length = len := ⟨_, rfl⟩
  have HLN := Lib.hid hlen
  have HNL := Lib.hid hnil
  have HAT := Lib.hid hat
  have HWF := Lib.hid hwf
  rw [hlen]
  clear hnil hat hwf hlen
  go_enter Try.func5, Try.ntmps5
  go_upto_region 3 with (first | (go_at_call 6; refine CB.mono ?_; rintro e w0 ⟨rfl, hb0⟩))
  by_cases h12 : 12 < len
  · have hl : (12 : Int) < (len : Int) := by omega
    have HB := Lib.hid hb0
    clear CB hb0 h12 rn en
    go_wp2
    go_ret
    exact ⟨rfl, HB.out⟩
  · have hl : ¬ (12 : Int) < (len : Int) := by omega
    have hl12 : (len : Int) ≤ 12 := by omega
    have CN := new_any w0
    have HB := Lib.hid hb0
    have HL := Lib.hid h12
    have HM := Lib.hid en
    clear CB hb0 h12 en
    go_upto_region 6 with (first | (go_at_call 7; refine CN.mono ?_; rintro e w1 ⟨p, bb, g, rfl, h1, hb1⟩))
    have HW := Lib.hid (jstart HB.out h1 hb1)
    clear CN h1 hb1 HB
    go_upto_region 9 with fail
    obtain ⟨pa, hpa⟩ : ∃ pa, w1.heap.size = pa := ⟨_, rfl⟩
    obtain ⟨pb, hpb⟩ : ∃ pb, pa + 1 = pb := ⟨_, rfl⟩
    rw [hpa, hpb] at HW
    simp only [hpa, hpb]
    clear hpa hpb
    go_loopw [8] (fun iv wr => Hid (∃ i : Nat, i ≤ len ∧ iv = .int .i64 (i : Int) ∧ Jo w wr p pa pb (rg i) (sS l i) (sS l i))) (fun iv _ => len - ivN iv)
    case atStart => exact ⟨0, Nat.zero_le _, rfl, HW.out⟩
    case round =>
      obtain ⟨i, hi, rfl, h⟩ := hrel.out
      clear hrel HW
      have hi0 : 0 ≤ (i : Int) := by omega
      have HH := Lib.hid h
      clear h
      by_cases hlt : i < len
      · have hltI : (i : Int) < (len : Int) := by omega
        have hil : i < l.length := by rw [HLN.out]; exact hlt
        obtain ⟨ad, rfl⟩ : ∃ ad, A = some ad := by
          cases A with
          | none => have := (HNL.out rfl).1; subst this; exact absurd hil (Nat.not_lt_zero _)
          | some ad => exact ⟨ad, rfl⟩
        obtain ⟨hsp, hbl, hcell⟩ := HAT.out ad rfl
        obtain ⟨gb, go, gs⟩ := ad
        dsimp only at hsp hbl hcell
        subst hsp
        have hx := hcell i hil
        have hwx := HWF.out l[i] (List.getElem_mem hil)
        have hgd : l.getD i 0 = l[i] := by simp [List.getD_eq_getElem?_getD, hil]
        obtain ⟨c, hc, hc8⟩ : ∃ c : Nat, l[i] = (c : Int) ∧ c < 256 := by
          simp only [Lit.wf, Bool.and_eq_true, decide_eq_true_eq] at hwx
          have hmin : IntKind.u8.min = 0 := rfl
          have hmax : IntKind.u8.max = 255 := rfl
          exact ⟨l[i].toNat, by omega, by omega⟩
        rw [hc] at hx hgd
        have HSS : Hid (∀ k, sS l (i + 1) k = if c % 8 = k then ((i + 1 : Nat) : Int) else sS l i k) := Lib.hid fun k => by
          show (if ((l.getD i 0) % 8).toNat = k then _ else _) = _
          rw [hgd, show ((c : Int) % 8).toNat = c % 8 by omega]
        have HBL := Lib.hid hbl
        have HX := Lib.hid hx
        have ec := Nat.mod_lt c (by decide : 8 > 0)
        have rc : (c : Int) % 8 = ((c % 8 : Nat) : Int) := by simp
        have HI := Lib.hid hlt
        have C1 := jpush HH.out (by rw [rg_len]; omega) (i : Int)
        rw [rg_succ] at C1
        clear hx hcell hwx hgd hc hil hi hlt hbl HH
        generalize c % 8 = k at *
        go_upto_region 12 with (first | (go_at_call 13; refine C1.mono ?_; rintro e w2 ⟨rfl, h2⟩))
        have y0 : w2.cell? ⟨gb, go + i, none⟩ = some (.int .u8 (c : Int)) := (h2.be.cell (p := ⟨gb, go + i, none⟩) HBL.out).trans HX.out
        have H2 := Lib.hid h2
        have HK := Lib.hid ec
        have hk0 : 0 ≤ (k : Int) := by omega
        have hk8 : (k : Int) < 8 := by omega
        clear C1 h2 ec
        by_cases hk4 : k < 4
        · have hk4I : (k : Int) < 4 := by omega
          have C2 := jsave H2.out hk4
          have HK4 := Lib.hid hk4
          clear hk4
          go_upto_region 16 with (first | (go_at_call 8; refine C2.mono ?_; rintro e w3 ⟨rfl, h3⟩))
          obtain ⟨s, s1, -, s2⟩ := h3.ar.ai HK4.out
          obtain ⟨t1, t2⟩ := h3.ar.bi HK4.out
          have hset := h3.set HK4.out (x := ((i + 1 : Nat) : Int)) (by omega)
          have hcc : (w3.setCell ⟨pa, k, none⟩ (.int .i64 ((i + 1 : Nat) : Int))).cell? ⟨pb, k, none⟩ = some (.bool (decide (sS l i k ≠ -1))) ∧ (w3.setCell ⟨pa, k, none⟩ (.int .i64 ((i + 1 : Nat) : Int))).frozen? ⟨pb, k, none⟩ = false := by
            obtain ⟨c2, l1, _⟩ := h3.ar.b
            have e2 : (w3.setCell ⟨pa, k, none⟩ (.int .i64 ((i + 1 : Nat) : Int))).heap[pb]? = w3.heap[pb]? := heap_setCell_other _ ⟨pa, k, none⟩ pb _ h3.ar.ne.symm
            exact ⟨(World.cell?_of_block e2).trans t1, (cell_of (e2.trans l1) k).2⟩
          have si : (i : Int) + 1 = ((i + 1 : Nat) : Int) := by omega
          rw [← si] at hset hcc
          obtain ⟨u1, u2⟩ := hcc
          have HS3 := Lib.hid hset
          clear h3 hset C2 y0 si
          go_wp2
          refine ⟨⟨i + 1, HI.out, rfl, HS3.out.congr2 (fun q _ => ?_) (fun q _ => ?_)⟩, by have := HI.out; simp only [ivN]; omega⟩
          · rw [HSS.out q, rg_len]
            unfold upS
            by_cases e : q = k
            · subst e; rw [if_pos rfl]
            · rw [if_neg e, if_neg (fun h => e h.symm)]
          · rw [HSS.out q]
            unfold upS
            by_cases e : q = k
            · subst e; rw [if_pos rfl, if_pos rfl]; omega
            · rw [if_neg e, if_neg (fun h => e h.symm)]
        · have hk4I : ¬ (k : Int) < 4 := by omega
          have HK4 := Lib.hid hk4
          clear hk4
          go_wp2
          refine ⟨⟨i + 1, HI.out, rfl, H2.out.congr2 (fun q hq => ?_) (fun q hq => ?_)⟩, by have := HI.out; simp only [ivN]; omega⟩
          all_goals
            have := HK4.out
            rw [HSS.out q, if_neg (by omega)]
      · have hil : i = len := by omega
        subst hil
        clear hi hlt
        have HSO : Hid (∀ k, sS l i k = -1 ∨ ∃ t : Nat, sS l i k = (t : Int) ∧ t ≤ i) := Lib.hid (sS_ok l i)
        generalize sS l i = S at *
        obtain ⟨s, s1, s3, s2⟩ := HH.out.ar.ai HM.out
        have t1 := (HH.out.ar.bi HM.out).1
        have hm0 : 0 ≤ (m : Int) := by omega
        have hm4 : (m : Int) < 4 := by have := HM.out; omega
        by_cases hS : S m = -1
        · rw [hS, show decide ((-1 : Int) ≠ -1) = false by decide] at t1
          have CK := jback_no HH.out (n := (m : Int)) (by simp [svB, hS])
          have CL := jlen HH.out
          rw [rg_len] at CL
          clear s1 s3 s2 hS
          go_wp2_with (first | (go_at_call 10; refine CK.mono ?_; rintro e w2 ⟨rfl, hw⟩; obtain rfl := hw.symm; clear hw) | (go_at_call 17; refine CL.mono ?_; rintro e w2 ⟨rfl, hw⟩; obtain rfl := hw.symm; clear hw))
          go_ret
          exact ⟨rfl, HH.out.be⟩
        · obtain ⟨t, hSt, hti⟩ : ∃ t : Nat, S m = (t : Int) ∧ t ≤ i := (HSO.out m).resolve_left hS
          obtain rfl : s = (t : Int) := (s3 hS).trans hSt
          rw [show decide (S m ≠ -1) = true from decide_eq_true hS] at t1
          have CK := jback HH.out (by rw [rg_len]; omega) HM.out hSt (by rw [rg_len]; exact hti)
          obtain ⟨u, hu⟩ : ∃ u, i - t = u := ⟨_, rfl⟩
          have su : (i : Int) - (t : Int) = (u : Int) := by omega
          have xt : (t : Int) ≤ 12 := by omega
          have xu : (u : Int) ≤ 12 := by omega
          rw [rg_len, rg_take hti, hu] at CK
          have HST := Lib.hid hSt
          have HTI := Lib.hid hti
          clear hS hSt hti hu s3
          go_upto_region 19 with (first | (go_at_call 10; refine CK.mono ?_; rintro e w5 ⟨A5, c5, rfl, h5⟩))
          have y1 : w5.cell? ⟨pb, m, none⟩ = some (.bool true) := by
            have := (h5.ar.bi HM.out).1
            rw [HST.out, show decide (((t : Nat) : Int) ≠ -1) = true from decide_eq_true (by omega)] at this
            exact this
          have y2 : w5.cell? ⟨pa, m, none⟩ = some (.int .i64 (t : Int)) := by
            obtain ⟨s, k1, k2, _⟩ := h5.ar.ai HM.out
            rw [k1, k2 (by rw [HST.out]; omega), HST.out]
          have HCL : Hid (∀ n, Calls Try.prog 17 #[.pointer (some ⟨p, 0, none⟩)] (w5.drewN n) fun e w' => e = .returned (.int .i64 (t : Int)) ∧ w' = w5.drewN n) := fun n => by
            have := jlen (h5.on (below_dr (Below.refl _ _) n))
            rw [rg_len] at this
            exact this
          have H5 := Lib.hid h5
          clear CK h5 s1 s2 t1
          go_upto_region 21 with fail
          go_cut [96] (fun q' wx => q' = .bool false ∧ Hid (Jo w wx p pa pb (rg t) (cutS S t) S))
          case first =>
            go_quiet (exact Calls.quiet_of_same (HCL.out _))
            go_wp2
            go_meet
            exact ⟨rfl, H5.out.on (below_dr (Below.refl _ _) _)⟩
          case rest =>
            obtain ⟨rfl, h6⟩ := hcut
            have H6 := h6
            clear h6 H5 HCL y1 y2
            go_upto_region 24 with fail
            go_loopw [13] (fun jv wr2 => Hid (∃ j : Nat, j ≤ 4 ∧ jv = .int .i64 (j : Int) ∧ Jo w wr2 p pa pb (rg t) (cutS S t) S)) (fun jv _ => 4 - ivN jv)
            case atStart => exact ⟨0, Nat.zero_le _, rfl, H6.out⟩
            case round =>
              obtain ⟨j, hj, rfl, h⟩ := hrel.out
              clear hrel H6
              have hj0 : 0 ≤ (j : Int) := by omega
              by_cases hlt : j < 4
              · have hj4 : (j : Int) < 4 := by omega
                have HJ := Lib.hid hlt
                have H := Lib.hid h
                clear h hj hlt
                by_cases hSj : S j = -1
                · have CK := jback_no H.out (n := (j : Int)) (by simp [svB, cutS, hSj])
                  go_upto_region 27 with (first | (go_at_call 10; refine CK.mono ?_; rintro e w7 ⟨rfl, hw⟩; obtain rfl := hw.symm; clear hw; have h7 := H.out))
                  obtain ⟨sm, a1, a2, _⟩ := h7.ar.ai HM.out
                  obtain rfl : sm = (t : Int) := (a2 (by rw [HST.out]; omega)).trans HST.out
                  obtain ⟨sj, b1, b2, _⟩ := h7.ar.ai HJ.out
                  have c1 := (h7.ar.bi HJ.out).1
                  have H7 := Lib.hid h7
                  rw [hSj, show decide ((-1 : Int) ≠ -1) = false by decide] at c1
                  clear hSj
                  clear h7 a2 b2 CK
                  go_cut [153] (fun q' wx => q' = .bool false ∧ Below wr.heap.size wr wx)
                  case first =>
                    by_cases hjm : (j : Int) < (m : Int)
                    · go_quiet (fail)
                      go_wp2
                      go_meet
                      exact ⟨rfl, below_dr (Below.refl _ _) _⟩
                    · have djm : decide ((j : Int) < (m : Int)) = false := decide_eq_false hjm
                      go_quiet (fail)
                      go_wp2
                      go_meet
                      exact ⟨rfl, below_dr (Below.refl _ _) _⟩
                  case rest =>
                    obtain ⟨rfl, hb8⟩ := hcut
                    have H8 := Lib.hid (H7.out.on hb8)
                    clear hb8 H7 H a1 b1 c1
                    go_wp2
                    exact ⟨⟨j + 1, HJ.out, rfl, H8.out⟩, by have := HJ.out; simp only [ivN]; omega⟩
                · obtain ⟨s, hSj, hsi⟩ : ∃ s : Nat, S j = (s : Int) ∧ s ≤ i := (HSO.out j).resolve_left hSj
                  by_cases hst : (t : Int) < (s : Int)
                  · have CK := jback_no H.out (n := (j : Int)) (by simp [svB, cutS, hSj, hst])
                    go_upto_region 27 with (first | (go_at_call 10; refine CK.mono ?_; rintro e w7 ⟨rfl, hw⟩; obtain rfl := hw.symm; clear hw; have h7 := H.out))
                    obtain ⟨sm, a1, a2, _⟩ := h7.ar.ai HM.out
                    obtain rfl : sm = (t : Int) := (a2 (by rw [HST.out]; omega)).trans HST.out
                    obtain ⟨sj, b1, b2, _⟩ := h7.ar.ai HJ.out
                    have c1 := (h7.ar.bi HJ.out).1
                    have H7 := Lib.hid h7
                    rw [show decide (S j ≠ -1) = true from decide_eq_true (by rw [hSj]; omega)] at c1
                    obtain rfl : sj = (s : Int) := (b2 (by rw [hSj]; omega)).trans hSj
                    have d1 : decide ((s : Int) ≤ (t : Int)) = false := decide_eq_false (by omega)
                    have d2 : (t : Int) < (s : Int) := by omega
                    have d3 : decide (s ≤ t) = false := decide_eq_false (by omega)
                    have d4 : t < s := by omega
                    clear hSj
                    clear h7 a2 b2 CK
                    go_cut [153] (fun q' wx => q' = .bool false ∧ Below wr.heap.size wr wx)
                    case first =>
                      by_cases hjm : (j : Int) < (m : Int)
                      · go_quiet (fail)
                        go_wp2
                        go_meet
                        exact ⟨rfl, below_dr (Below.refl _ _) _⟩
                      · have djm : decide ((j : Int) < (m : Int)) = false := decide_eq_false hjm
                        go_quiet (fail)
                        go_wp2
                        go_meet
                        exact ⟨rfl, below_dr (Below.refl _ _) _⟩
                    case rest =>
                      obtain ⟨rfl, hb8⟩ := hcut
                      have H8 := Lib.hid (H7.out.on hb8)
                      clear hb8 H7 H a1 b1 c1 d1 d2 d3 d4 hst
                      go_wp2
                      exact ⟨⟨j + 1, HJ.out, rfl, H8.out⟩, by have := HJ.out; simp only [ivN]; omega⟩
                  · have CK := jback H.out (by rw [rg_len]; omega) HJ.out (t := s) (by simp [cutS, hSj, hst]) (by rw [rg_len]; omega)
                    rw [rg_len, rg_take (by omega)] at CK
                    go_upto_region 27 with (first | (go_at_call 10; refine CK.mono ?_; rintro e w7 ⟨A7, c7, rfl, h7⟩))
                    obtain ⟨sm, a1, a2, _⟩ := h7.ar.ai HM.out
                    obtain rfl : sm = (t : Int) := (a2 (by rw [HST.out]; omega)).trans HST.out
                    obtain ⟨sj, b1, b2, _⟩ := h7.ar.ai HJ.out
                    have c1 := (h7.ar.bi HJ.out).1
                    have H7 := Lib.hid h7
                    rw [show decide (S j ≠ -1) = true from decide_eq_true (by rw [hSj]; omega)] at c1
                    obtain rfl : sj = (s : Int) := (b2 (by rw [hSj]; omega)).trans hSj
                    have d1 : (s : Int) ≤ (t : Int) := by omega
                    have d2 : decide ((t : Int) < (s : Int)) = false := decide_eq_false (by omega)
                    have d3 : s ≤ t := by omega
                    have d4 : decide (t < s) = false := decide_eq_false (by omega)
                    have HSJ := Lib.hid hSj
                    clear hSj
                    clear h7 a2 b2 CK
                    go_cut [153] (fun q' wx => q' = .bool false ∧ Below w7.heap.size w7 wx)
                    case first =>
                      by_cases hjm : (j : Int) < (m : Int)
                      · go_quiet (fail)
                        go_wp2
                        go_meet
                        exact ⟨rfl, below_dr (Below.refl _ _) _⟩
                      · have djm : decide ((j : Int) < (m : Int)) = false := decide_eq_false hjm
                        go_quiet (fail)
                        go_wp2
                        go_meet
                        exact ⟨rfl, below_dr (Below.refl _ _) _⟩
                    case rest =>
                      obtain ⟨rfl, hb8⟩ := hcut
                      have H8 := Lib.hid (H7.out.on hb8)
                      clear hb8 H7 H a1 b1 c1 d1 d2 d3 d4
                      by_cases hjm : j = m
                      · have e1 : ((j : Int) == (m : Int)) = true := by simp [hjm]
                        have e2 : ((j : Int) != (m : Int)) = false := by simp [hjm]
                        have hs : s = t := by
                          have h1 := HSJ.out
                          have h2 := HST.out
                          rw [hjm, h2] at h1
                          omega
                        subst hs
                        clear hjm hst
                        go_wp2
                        exact ⟨⟨j + 1, HJ.out, rfl, H8.out.congr rfl fun q _ => by unfold cutS; split <;> simp_all⟩, by have := HJ.out; simp only [ivN]; omega⟩
                      · have e1 : ((j : Int) == (m : Int)) = false := by simp; omega
                        have e2 : ((j : Int) != (m : Int)) = true := by simp; omega
                        clear hjm hst
                        go_wp2
                        go_ret
                        exact ⟨rfl, H8.out.be⟩
              · have hj4 : j = 4 := by omega
                subst hj4
                have H := Lib.hid h
                clear h hj hlt
                go_wp2
                go_ret
                exact ⟨rfl, H.out.be⟩
end Go.Proofs.Ytacidmnhbhbmhaa
