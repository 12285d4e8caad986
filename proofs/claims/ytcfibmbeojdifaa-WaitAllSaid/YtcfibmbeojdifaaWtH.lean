/- The reference's graph in memory: Clear, Gone. -/
import Derived.Test.YtcfibmbeojdifaaWtF
namespace Go.Proofs.Ytcfibmbeojdifaa
open Go.RowKit Go.Maps Go.WideMaps

theorem infoE : (Try.prog.info? 51).map (fun i => (i.zero, i.size, i.bytes)) = some (some (.agg #[.int .i64 0, .int .i64 0]), 2, 16) := by kernel_rfl
def SlE (w : World) (B : Nat) (v : Value) (es : List (Int × Int)) : Prop := w.ownsRow B 51 2 v es.length (es.flatMap eV)
/-- The reference's graph, from block B on. -/
structure RG (w : World) (B p : Nat) (es : List (Int × Int)) : Prop where
  bw : B ≤ w.heap.size
  pb : B ≤ p
  ex : ∃ v, w.heap[p]? = some (.cells #[v] 29 (0, 0)) ∧ SlE w B v es
theorem RG.lt {w : World} {B p : Nat} {es : List (Int × Int)} (h : RG w B p es) : p < w.heap.size := by obtain ⟨v, h1, _⟩ := h.ex; exact lt_of_heap h1
theorem RG.on_ {w w' : World} {B p : Nat} {es : List (Int × Int)} (h : RG w B p es) (hb : Below w.heap.size w w') : RG w' B p es := by
  obtain ⟨v, h1, h2⟩ := h.ex
  exact ⟨Nat.le_trans h.bw hb.size, h.pb, v, (hb.block p h.lt).trans h1, own_up h2 hb⟩
theorem own_ty {w : World} {B k n : Nat} {e : TypeId} {v : Value} {xs : List Value} (h : w.ownsRow B e k v n xs) {g : Nat} (hg : v.ownBlock = some g) : ∃ cs, w.heap[g]? = some (.cells cs e (0, 0)) := by
  rcases h.2 with ⟨rfl, _⟩ | ⟨q, cap, cur, rfl, _, hq, _⟩
  · cases hg
  · cases hg; exact ⟨_, hq⟩
theorem SlE.ne {w : World} {B p : Nat} {v : Value} {es : List (Int × Int)} (h : SlE w B v es) {cs : Array Value} (hp : w.heap[p]? = some (.cells cs 29 (0, 0))) : v.ownBlock ≠ some p := fun e => by
  obtain ⟨cs', h'⟩ := own_ty h e
  rw [hp] at h'
  cases h'
/-- The cells of a row of edges. -/
theorem SlE.at_ {w : World} {B : Nat} {v : Value} {es : List (Int × Int)} (h : SlE w B v es) : ∃ pt cp, v = .slice pt es.length cp ∧ es.length ≤ cp ∧ ∀ i (hi : i < es.length), ∃ g, pt = some ⟨g, 0, none⟩ ∧ B ≤ g ∧ g < w.heap.size ∧ w.cell? ⟨g, i * 2, none⟩ = some (.int .i64 es[i].1) ∧ w.cell? ⟨g, i * 2 + 1, none⟩ = some (.int .i64 es[i].2) := by
  obtain ⟨pt, cp, rfl⟩ := own_sl h
  refine ⟨pt, cp, rfl, (own_cap h).1, fun i hi => ?_⟩
  rcases h.2 with ⟨e, h0⟩ | ⟨g, cap, cur, hv, hB, hg, h1, h2, h3, h4⟩
  · omega
  · cases hv
    refine ⟨g, rfl, hB, lt_of_heap hg, ?_⟩
    have hx : ∀ j, j < 2 → cur[i * 2 + j]? = (eV es[i])[j]? := fun j hj => by
      have hlen := edges_len es
      have e1 : (cur.toList.take (es.length * 2))[i * 2 + j]? = (es.flatMap eV)[i * 2 + j]? := by rw [h4]
      rw [List.getElem?_take, if_pos (by omega), Array.getElem?_toList] at e1
      rw [e1]
      have e2 : es = es.take i ++ es[i] :: es.drop (i + 1) := by simp
      have e3 : (es.flatMap eV)[i * 2 + j]? = ((es.take i ++ es[i] :: es.drop (i + 1)).flatMap eV)[i * 2 + j]? := by rw [← e2]
      rw [e3, List.flatMap_append, List.flatMap_cons]
      have h5 : ((es.take i).flatMap eV).length = i * 2 := by rw [edges_len, List.length_take, Nat.min_eq_left (Nat.le_of_lt hi)]
      rw [List.getElem?_append_right (by omega), h5, List.getElem?_append_left (by simp [eV]; omega)]
      congr 1
      omega
    exact ⟨(cell_of hg _).1.trans (hx 0 (by decide)), (cell_of hg _).1.trans (hx 1 (by decide))⟩
theorem SlE.more {w : World} {B : Nat} {v : Value} {es : List (Int × Int)} {a b : Int} (h : w.ownsRow B 51 2 v (es.length + 1) (es.flatMap eV ++ [.int .i64 a, .int .i64 b])) : SlE w B v (es ++ [(a, b)]) := by
  unfold SlE
  rw [List.length_append, List.flatMap_append]
  exact h
theorem news_two (w : World) (a b : Int) : ∀ (j : Nat) (u : Value), [Value.int .i64 a, .int .i64 b][j]? = some u → (w.alloc (.cells #[.int .i64 a, .int .i64 b] 51)).cell? ((⟨w.heap.size, 0, none⟩ : Addr).add j) = some u := by
  intro j u hu
  rw [add_at, (cell_of (heap_alloc_new w _) _).1, Nat.zero_add]
  match j, hu with
  | 0, hu => exact hu
  | 1, hu => exact hu
theorem filter_take {f : Int × Int → Bool} {es : List (Int × Int)} {i : Nat} (hi : i < es.length) : (es.take (i + 1)).filter f = (es.take i).filter f ++ (if f es[i] then [es[i]] else []) := by
  rw [← List.take_append_getElem hi, List.filter_append]
  by_cases h : f es[i] = true
  · simp [h]
  · simp [h]
theorem Fr.setCell {B : Nat} {S : Nat → Prop} {a w : World} (h : Fr B S a w) {q : Addr} (hq : S q.block ∨ B ≤ q.block) (v : Value) (hB : B ≤ w.heap.size) : Fr B S a (w.setCell q v) :=
  h.grown (row := some q.block) ⟨rfl, rfl, rfl, by simp, fun k _ hk => heap_setCell_other _ q k _ fun e => hk (by rw [e])⟩ (fun k hk => by cases hk; exact hq) hB
theorem own_ne {w : World} {B k n q : Nat} {e : TypeId} {v u : Value} {xs : List Value} (h : w.ownsRow B e k v n xs) (hq : v.ownBlock ≠ some q) : (w.setCell ⟨q, 0, none⟩ u).ownsRow B e k v n xs :=
  h.kept (row := some q) ⟨rfl, rfl, rfl, by simp, fun j _ hj => heap_setCell_other _ ⟨q, 0, none⟩ j _ fun e => hj (by rw [e])⟩ (Or.inr hq)
theorem Fr.trans2 {S : Nat → Prop} {a w w' : World} (h : Fr a.heap.size S a w) (k : Fr w.heap.size S w w') : Fr a.heap.size S a w' :=
  ⟨k.os.trans h.os, k.tape.trans h.tape, k.output.trans h.output, Nat.le_trans h.size k.size, fun j hj hn => (k.block j (Nat.lt_of_lt_of_le hj h.size) hn).trans (h.block j hj hn)⟩

set_option maxRecDepth 100000 in
set_option maxHeartbeats 2000000 in
theorem rclear_any (w : World) {B p : Nat} {es0 : List (Int × Int)} (h : RG w B p es0) (hn : es0.length < 100000) (who : Int) :
    Calls Try.prog 10 #[.pointer (some ⟨p, 0, none⟩), .int .i64 who] w fun e w' => e = .returned (.tuple #[]) ∧ RG w' B p (es0.filter fun q => decide (q.1 ≠ who)) ∧ Fr w.heap.size (fun k => k = p) w w' := by
  obtain ⟨ii, hii, hz0, hz1, hz2⟩ := info_parts infoE
  have es_ : True := trivial
  obtain ⟨es, hes⟩ : ∃ es, es = es0 := ⟨_, rfl⟩
  rw [← hes] at h hn ⊢
  clear hes es_
  obtain ⟨v, hp, hs⟩ := h.ex
  obtain ⟨pt, cp, rfl, hcap, hat⟩ := hs.at_
  have c0 : w.cell? ⟨p, 0, none⟩ = some (.slice pt es.length cp) := (cell_of hp 0).1
  have cf := (cell_of hp 0).2
  obtain ⟨n, hN⟩ : ∃ n, es.length = n := ⟨_, rfl⟩
  have HB := Lib.hid h.bw
  have HPB := Lib.hid h.pb
  have HP := Lib.hid hp
  have HAT := Lib.hid hat
  have HN := Lib.hid hN
  have HPL := Lib.hid h.lt
  rw [hN] at c0 hn hcap
  have hnI : (n : Int) < 100000 := by omega
  clear h hs hat hp hN hcap
  go_enter Try.func10, Try.ntmps10
  go_upto_region 2 with fail
  go_loopw [4, 5] (fun lv iv wr => Hid (∃ i : Nat, i ≤ n ∧ iv = .int .i64 (i : Int) ∧ SlE wr w.heap.size lv ((es.take i).filter fun q => decide (q.1 ≠ who)) ∧ Below w.heap.size w wr)) (fun _ iv _ => n - ivN iv)
  case atStart => exact ⟨0, Nat.zero_le _, rfl, World.ownsRow_nil _ _ _ _, Below.refl _ _⟩
  case round =>
    obtain ⟨i, hi, rfl, hL, hb⟩ := hrel.out
    clear hrel
    have hc0 := (hb.cell (p := ⟨p, 0, none⟩) HPL.out).trans c0
    have hcf := (World.frozen?_of_block (a := ⟨p, 0, none⟩) (hb.block p HPL.out)).trans cf
    have hi0 : (0 : Int) ≤ (i : Int) := by omega
    have hi1 : (i : Int) < 100000 := by omega
    obtain ⟨pt2, cp2, rfl, _, _⟩ := hL.at_
    have hlen := List.length_filter_le (fun q : Int × Int => decide (q.1 ≠ who)) (es.take i)
    rw [List.length_take] at hlen
    by_cases hlt : i < n
    · have hie : i < es.length := by rw [HN.out]; exact hlt
      obtain ⟨g, rfl, hgB, hg, hx, hy⟩ := HAT.out i hie
      have hcx := (hb.cell (p := ⟨g, i * 2, none⟩) hg).trans hx
      have hcy := (hb.cell (p := ⟨g, i * 2 + 1, none⟩) hg).trans hy
      have hft := filter_take (f := fun q => decide (q.1 ≠ who)) hie
      have hpr : es[i] = (es[i].1, es[i].2) := rfl
      rw [hpr] at hft
      generalize es[i].1 = x at *
      generalize es[i].2 = y at *
      have hltI : (i : Int) < (n : Int) := by omega
      have HL := Lib.hid hL
      have HBL := Lib.hid hb
      have HI := Lib.hid hlt
      have HFT := Lib.hid hft
      have HLN := Lib.hid (show ((es.take i).filter fun q => decide (q.1 ≠ who)).length < 100000 by omega)
      clear hL hb hi hlt hft hlen hx hy hg hgB hie hpr
      generalize (es.take i).filter (fun q => decide (q.1 ≠ who)) = M at *
      by_cases hw : x = who
      · have hHF := Lib.hid (show (es.take (i + 1)).filter (fun q => decide (q.1 ≠ who)) = M by rw [HFT.out]; simp [hw])
        clear HFT
        go_wp2
        exact ⟨⟨i + 1, HI.out, rfl, by rw [hHF.out]; exact HL.out, HBL.out⟩, by have := HI.out; simp only [ivN]; omega⟩
      · have hHF := Lib.hid (show (es.take (i + 1)).filter (fun q => decide (q.1 ≠ who)) = M ++ [(x, y)] by rw [HFT.out]; simp [hw])
        have hwb : (x == who) = false := by simpa using hw
        have hwn : (x != who) = true := by simpa using hw
        clear hw
        clear HFT
        go_wp2_with (first
          | (at_builtin; refine wpList_append_own _ rfl _ _ 27 rfl w.heap.size 51 ii (.agg #[.int .i64 0, .int .i64 0]) 2 16 Try.underlying27 hii hz0 hz1 hz2 rfl (by decide) _ _ _ rfl (HL.out.alloc _) ⟨wr.heap.size, 0, none⟩ 1 1 [.int .i64 x, .int .i64 y] rfl ?rclear_any2 ?rclear_any3 ?rclear_any4 ?rclear_any5 ?rclear_any6 ?rclear_any7 ?_))
        case rclear_any2 => rfl
        case rclear_any3 => exact news_two wr x y
        case rclear_any4 => intro u hu; simp at hu; rcases hu with rfl | rfl <;> rfl
        case rclear_any5 => have := HLN.out; unfold maxLen; omega
        case rclear_any6 => have := HLN.out; omega
        case rclear_any7 => have := HBL.out.size; simp only [Array.size_push, World.alloc]; omega
        intro v' w6 hown6 hgrow _
        have HL6 := Lib.hid (SlE.more hown6)
        have hb5 := HBL.out.alloc HBL.out.size (.cells #[.int .i64 x, .int .i64 y] 51)
        have HB6 := Lib.hid (below_grown hb5 (HL.out.alloc _) hgrow hb5.size)
        clear hown6 hgrow hb5
        go_wp2
        exact ⟨⟨i + 1, HI.out, rfl, by rw [hHF.out]; exact HL6.out, HB6.out⟩, by have := HI.out; simp only [ivN]; omega⟩
    · obtain rfl : i = n := by omega
      have ee : es.take i = es := List.take_of_length_le (Nat.le_of_eq HN.out)
      rw [ee] at hL hlen ⊢
      have HL := Lib.hid hL
      have HBL := Lib.hid hb
      clear hL hb hi hlt hlen ee
      generalize hM : es.filter (fun q => decide (q.1 ≠ who)) = M at *
      have HMM := Lib.hid hM
      clear hM
      go_wp2
      go_end0
      have hpw := (HBL.out.block p HPL.out).trans HP.out
      have hpl := HPL.out
      have hsz := HBL.out.size
      have hsame := heap_setCell_same wr p 0 _ _ (.slice pt2 M.length cp2) hpw
      have hfin : RG (wr.setCell ⟨p, 0, none⟩ (.slice pt2 M.length cp2)) B p M := ⟨by simp; exact Nat.le_trans HB.out hsz, HPB.out, .slice pt2 M.length cp2, hsame, own_base (own_ne HL.out (by intro e; have := (HL.out.lt p e).1; omega)) HB.out⟩
      exact ⟨rfl, by rw [HMM.out]; exact hfin, (Fr.ofBelow (fun k => k = p) HBL.out).setCell (q := ⟨p, 0, none⟩) (Or.inl rfl) _ hsz⟩

set_option maxRecDepth 100000 in
set_option maxHeartbeats 2000000 in
theorem rgone_any (w : World) {B p : Nat} {es0 : List (Int × Int)} (h : RG w B p es0) (hn : es0.length < 100000) (who : Int) :
    Calls Try.prog 12 #[.pointer (some ⟨p, 0, none⟩), .int .i64 who] w fun e w' => e = .returned (.tuple #[]) ∧ RG w' B p (goneE es0 who) ∧ Fr w.heap.size (fun k => k = p) w w' := by
  obtain ⟨ii, hii, hz0, hz1, hz2⟩ := info_parts infoE
  have CC := rclear_any w h hn who
  go_enter Try.func12, Try.ntmps12
  obtain ⟨w0, hw0⟩ : ∃ w0, w0 = w := ⟨_, rfl⟩
  go_upto_region 1 with (first | (go_at_call 10; refine CC.mono ?_; rintro e w1 ⟨rfl, h1, hf1⟩))
  have hn1 := Nat.lt_of_le_of_lt (List.length_filter_le (fun q : Int × Int => decide (q.1 ≠ who)) es0) hn
  have HF0 := Lib.hid hf1
  generalize hes : es0.filter (fun q => decide (q.1 ≠ who)) = es at *
  have HES := Lib.hid hes
  clear h hn CC hes hf1 hw0 w0
  obtain ⟨v, hp, hs⟩ := h1.ex
  obtain ⟨pt, cp, rfl, hcap, hat⟩ := hs.at_
  have c0 : w1.cell? ⟨p, 0, none⟩ = some (.slice pt es.length cp) := (cell_of hp 0).1
  have cf := (cell_of hp 0).2
  obtain ⟨n, hN⟩ : ∃ n, es.length = n := ⟨_, rfl⟩
  have HB := Lib.hid h1.bw
  have HPB := Lib.hid h1.pb
  have HP := Lib.hid hp
  have HAT := Lib.hid hat
  have HN := Lib.hid hN
  have HPL := Lib.hid h1.lt
  rw [hN] at c0 hn1 hcap
  have hnI : (n : Int) < 100000 := by omega
  clear h1 hs hat hp hN hcap
  go_upto_region 3 with fail
  go_loopw [4, 5] (fun lv iv wr => Hid (∃ i : Nat, i ≤ n ∧ iv = .int .i64 (i : Int) ∧ SlE wr w1.heap.size lv ((es.take i).filter fun q => decide (q.2 ≠ who)) ∧ Below w1.heap.size w1 wr)) (fun _ iv _ => n - ivN iv)
  case atStart => exact ⟨0, Nat.zero_le _, rfl, World.ownsRow_nil _ _ _ _, Below.refl _ _⟩
  case round =>
    obtain ⟨i, hi, rfl, hL, hb⟩ := hrel.out
    clear hrel
    have hc0 := (hb.cell (p := ⟨p, 0, none⟩) HPL.out).trans c0
    have hcf := (World.frozen?_of_block (a := ⟨p, 0, none⟩) (hb.block p HPL.out)).trans cf
    have hi0 : (0 : Int) ≤ (i : Int) := by omega
    have hi1 : (i : Int) < 100000 := by omega
    obtain ⟨pt2, cp2, rfl, _, _⟩ := hL.at_
    have hlen := List.length_filter_le (fun q : Int × Int => decide (q.2 ≠ who)) (es.take i)
    rw [List.length_take] at hlen
    by_cases hlt : i < n
    · have hie : i < es.length := by rw [HN.out]; exact hlt
      obtain ⟨g, rfl, hgB, hg, hx, hy⟩ := HAT.out i hie
      have hcx := (hb.cell (p := ⟨g, i * 2, none⟩) hg).trans hx
      have hcy := (hb.cell (p := ⟨g, i * 2 + 1, none⟩) hg).trans hy
      have hft := filter_take (f := fun q => decide (q.2 ≠ who)) hie
      have hpr : es[i] = (es[i].1, es[i].2) := rfl
      rw [hpr] at hft
      generalize es[i].1 = x at *
      generalize es[i].2 = y at *
      have hltI : (i : Int) < (n : Int) := by omega
      have HL := Lib.hid hL
      have HBL := Lib.hid hb
      have HI := Lib.hid hlt
      have HFT := Lib.hid hft
      have HLN := Lib.hid (show ((es.take i).filter fun q => decide (q.2 ≠ who)).length < 100000 by omega)
      clear hL hb hi hlt hft hlen hx hy hg hgB hie hpr
      generalize (es.take i).filter (fun q => decide (q.2 ≠ who)) = M at *
      by_cases hw : y = who
      · have hHF := Lib.hid (show (es.take (i + 1)).filter (fun q => decide (q.2 ≠ who)) = M by rw [HFT.out]; simp [hw])
        clear HFT
        go_wp2
        exact ⟨⟨i + 1, HI.out, rfl, by rw [hHF.out]; exact HL.out, HBL.out⟩, by have := HI.out; simp only [ivN]; omega⟩
      · have hHF := Lib.hid (show (es.take (i + 1)).filter (fun q => decide (q.2 ≠ who)) = M ++ [(x, y)] by rw [HFT.out]; simp [hw])
        have hwb : (y == who) = false := by simpa using hw
        have hwn : (y != who) = true := by simpa using hw
        clear hw
        clear HFT
        go_wp2_with (first
          | (at_builtin; refine wpList_append_own _ rfl _ _ 27 rfl w1.heap.size 51 ii (.agg #[.int .i64 0, .int .i64 0]) 2 16 Try.underlying27 hii hz0 hz1 hz2 rfl (by decide) _ _ _ rfl (HL.out.alloc _) ⟨wr.heap.size, 0, none⟩ 1 1 [.int .i64 x, .int .i64 y] rfl ?rgone_any2 ?rgone_any3 ?rgone_any4 ?rgone_any5 ?rgone_any6 ?rgone_any7 ?_))
        case rgone_any2 => rfl
        case rgone_any3 => exact news_two wr x y
        case rgone_any4 => intro u hu; simp at hu; rcases hu with rfl | rfl <;> rfl
        case rgone_any5 => have := HLN.out; unfold maxLen; omega
        case rgone_any6 => have := HLN.out; omega
        case rgone_any7 => have := HBL.out.size; simp only [Array.size_push, World.alloc]; omega
        intro v' w6 hown6 hgrow _
        have HL6 := Lib.hid (SlE.more hown6)
        have hb5 := HBL.out.alloc HBL.out.size (.cells #[.int .i64 x, .int .i64 y] 51)
        have HB6 := Lib.hid (below_grown hb5 (HL.out.alloc _) hgrow hb5.size)
        clear hown6 hgrow hb5
        go_wp2
        exact ⟨⟨i + 1, HI.out, rfl, by rw [hHF.out]; exact HL6.out, HB6.out⟩, by have := HI.out; simp only [ivN]; omega⟩
    · obtain rfl : i = n := by omega
      have ee : es.take i = es := List.take_of_length_le (Nat.le_of_eq HN.out)
      rw [ee] at hL hlen ⊢
      have HL := Lib.hid hL
      have HBL := Lib.hid hb
      clear hL hb hi hlt hlen ee
      generalize hM : es.filter (fun q => decide (q.2 ≠ who)) = M at *
      have HMM := Lib.hid hM
      clear hM
      go_wp2
      go_end0
      have hpw := (HBL.out.block p HPL.out).trans HP.out
      have hpl := HPL.out
      have hsz := HBL.out.size
      have hsame := heap_setCell_same wr p 0 _ _ (.slice pt2 M.length cp2) hpw
      have hfin : RG (wr.setCell ⟨p, 0, none⟩ (.slice pt2 M.length cp2)) B p M := ⟨by simp; exact Nat.le_trans HB.out hsz, HPB.out, .slice pt2 M.length cp2, hsame, own_base (own_ne HL.out (by intro e; have := (HL.out.lt p e).1; omega)) HB.out⟩
      exact ⟨rfl, by unfold goneE; rw [HES.out, HMM.out]; exact hfin, HF0.out.trans2 ((Fr.ofBelow (fun k => k = p) HBL.out).setCell (q := ⟨p, 0, none⟩) (Or.inl rfl) _ hsz)⟩
end Go.Proofs.Ytcfibmbeojdifaa
