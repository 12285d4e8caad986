/- Some: entries by numbers. -/
import Derived.Test.YtmijdjlpfjfjoaaRdL7
import Derived.Deep.DeepCutAuto
namespace Go.Proofs.Ytmijdjlpfjfjoaa.Rx
open Go.RowKit

def kdL : List Int := [1, 1, 2, 7, 8, 3]
def kd (n : Int) : Int := kdL.getD (n / 26 % 6).toNat 0
def newS (n : Int) : List Int := if n % 9 = 0 then [] else rowL (bstr [97 + n % 26]) ⟨#[115]⟩ ⟨#[]⟩
def someE (n : Int) : En := ⟨kd n, n / 7 % 4, n / 29 % 4, n / 11 % 4, n / 41 % 4, newS n, [(n / 7 % 4, n / 29 % 4, n / 11 % 4, n / 41 % 4)]⟩
theorem some_may (n : Int) : mayB (bstr [97 + n % 26]) ⟨#[115]⟩ ⟨#[]⟩ = true := by
  have h : bytesOk [97 + n % 26] := by
    intro y hy
    rw [List.mem_singleton] at hy
    omega
  unfold mayB
  rw [bstr_size h, decide_eq_true_eq]
  exact ⟨by simp, by simp, by decide, by decide⟩
theorem newS_len (n : Int) : (newS n).length ≤ 26 := by
  unfold newS
  split
  · exact Nat.zero_le _
  · rw [rowL_len (some_may n)]; exact Nat.le_refl _
abbrev EX := En × Ex
def enV (o : EX) : List Value := (enC o.1 o.2).toList
theorem enV_len (o : EX) : (enV o).length = 16 := rfl
theorem flat_enV (xs : List EX) : (xs.map enV).flatten.length = xs.length * 16 := by
  induction xs with
  | nil => rfl
  | cons a t ih => rw [List.map_cons, List.flatten_cons, List.length_append, ih, List.length_cons, Nat.succ_mul, Nat.add_comm]; rfl
/-- An entry none of whose blocks is this one. -/
def Off (b : Option Nat) (o : EX) : Prop := (∀ a, o.2.NA = some a → b ≠ some a.block) ∧ (∀ a, o.2.MA = some a → b ≠ some a.block)
def eC (n : Int) (A : Option Addr) (m q : Nat) (MA : Option Addr) (mm MK : Nat) : Array Value := #[.int .i64 (kd n), .int .i64 (1 + n % 5), .int .i64 (n % 3), .int .i64 0, .int .i64 0, .int .i64 0, .int .i64 (n / 7 % 4), .int .i64 (n / 29 % 4), .int .i64 (n / 11 % 4), .int .i64 (n / 41 % 4), .slice none 0 0, .slice A m q, .slice MA mm MK, .slice none 0 0, .slice none 0 0, .slice none 0 0]
def xC (n : Int) (A : Option Addr) (q : Nat) (MA : Option Addr) (MK : Nat) : Ex := ⟨1 + n % 5, n % 3, 0, 0, 0, .slice none 0 0, A, q, MA, MK, .slice none 0 0, .slice none 0 0, .slice none 0 0⟩
theorem eC_enC (n : Int) (A : Option Addr) (q : Nat) (MA : Option Addr) (MK : Nat) : eC n A (newS n).length q MA 1 MK = enC (someE n) (xC n A q MA MK) := rfl
theorem infoEn : (Try.prog.info? 31).map (fun i => (i.zero, i.size, i.bytes)) = some (some (.agg #[.int .i64 0, .int .i64 0, .int .i64 0, .int .i64 0, .int .i64 0, .int .i64 0, .int .i64 0, .int .i64 0, .int .i64 0, .int .i64 0, .slice none 0 0, .slice none 0 0, .slice none 0 0, .slice none 0 0, .slice none 0 0, .slice none 0 0]), 16, 224) := by kernel_rfl
theorem EnIn.grown {w w' : World} {e : En} {x : Ex} (h : EnIn w e x) {b : Option Nat} (hg : w.grownBy w' b) (ho : Off b (e, x)) : EnIn w' e x := by
  refine ⟨?_, ?_, h.len, h.nlen⟩
  · obtain ⟨p, cap, e1, h1, h2, h3, h4⟩ := h.new
    refine ⟨p, cap, e1, h1, h2, h3, fun a ha => ?_⟩
    obtain ⟨q1, q2, q3⟩ := h4 a ha
    have hNA : x.NA = some a := by injection e1 with e1 _ _; rw [e1, ha]
    refine ⟨q1, Nat.lt_of_lt_of_le q2 hg.size, fun j hj => ?_⟩
    rw [← q3 j hj]
    exact World.cell?_of_block (hg.block a.block q2 (fun q => ho.1 a hNA q.symm))
  · obtain ⟨p, cap, e1, h1, h2, h3⟩ := h.mv
    refine ⟨p, cap, e1, h1, h2, fun a ha hne => ?_⟩
    obtain ⟨q1, q2, q3⟩ := h3 a ha hne
    have hMA : x.MA = some a := by injection e1 with e1 _ _; rw [e1, ha]
    refine ⟨q1, Nat.lt_of_lt_of_le q2 hg.size, fun i j hi hj => ?_⟩
    rw [← q3 i j hi hj]
    exact World.cell?_of_block (hg.block a.block q2 (fun q => ho.2 a hMA q.symm))
/-- A slice of bytes outlasts a store into a block that has none. -/
theorem slK_cells {w : World} {g : Nat} {n : Int} {A : Option Addr} {m q : Nat} {MA : Option Addr} {mm MK : Nat} (hp : w.heap[g]? = some (.cells (eC n A m q MA mm MK) 31 (0, 0))) {v : Value} {l : List Int} (h : SlK .u8 w v l) (i : Nat) (u : Value) : SlK .u8 (w.setCell ⟨g, i, none⟩ u) v l := by
  refine SlK.tn h (Tn.set _ _ _) (fun a r c e hne hb => ?_)
  obtain ⟨p, cap, e2, h1, h2, h3, h4⟩ := h
  rw [e] at e2
  injection e2 with e3 e4 e5
  obtain ⟨q1, q2, q3⟩ := h4 a e3.symm
  have h0 := q3 0 (List.length_pos_iff.2 hne)
  obtain ⟨ab, ao, asp⟩ := a
  cases q1
  have hb' : ab = g := hb
  subst hb'
  have hc := (cell_of hp (ao + 0)).1
  rw [show w.cell? ⟨ab, ao + 0, none⟩ = _ from h0] at hc
  unfold eC at hc
  match hq : ao + 0 with
  | 0 => rw [hq] at hc; injection hc with hc; cases hc
  | 1 => rw [hq] at hc; injection hc with hc; cases hc
  | 2 => rw [hq] at hc; injection hc with hc; cases hc
  | 3 => rw [hq] at hc; injection hc with hc; cases hc
  | 4 => rw [hq] at hc; injection hc with hc; cases hc
  | 5 => rw [hq] at hc; injection hc with hc; cases hc
  | 6 => rw [hq] at hc; injection hc with hc; cases hc
  | 7 => rw [hq] at hc; injection hc with hc; cases hc
  | 8 => rw [hq] at hc; injection hc with hc; cases hc
  | 9 => rw [hq] at hc; injection hc with hc; cases hc
  | 10 => rw [hq] at hc; cases hc
  | 11 => rw [hq] at hc; cases hc
  | 12 => rw [hq] at hc; cases hc
  | 13 => rw [hq] at hc; cases hc
  | 14 => rw [hq] at hc; cases hc
  | 15 => rw [hq] at hc; cases hc
  | k + 16 => rw [hq] at hc; cases hc
theorem own_upG {w w' : World} {B k n : Nat} {e : TypeId} {v : Value} {xs : List Value} (h : w.ownsRow B e k v n xs) (hb : Below w.heap.size w w') : w'.ownsRow B e k v n xs :=
  h.kept (row := none) ⟨hb.os, hb.tape, hb.output, hb.size, fun j hj _ => hb.block j hj⟩ (by
    rcases h.2 with ⟨rfl, _⟩ | ⟨q, cap, cur, rfl, _⟩
    · exact Or.inl rfl
    · exact Or.inr (by simp [Value.ownBlock]))
/-- An entry's blocks lie below a bound. -/
def Bnd (N : Nat) (o : EX) : Prop := (∀ a, o.2.NA = some a → a.block < N) ∧ (∀ a, o.2.MA = some a → a.block < N)
theorem Bnd.off {N b : Nat} {o : EX} (h : Bnd N o) (hb : N ≤ b) : Off (some b) o := ⟨fun a ha e => by cases e; have := h.1 a ha; omega, fun a ha e => by cases e; have := h.2 a ha; omega⟩
theorem Bnd.up {N M : Nat} {o : EX} (h : Bnd N o) (hb : N ≤ M) : Bnd M o := ⟨fun a ha => Nat.lt_of_lt_of_le (h.1 a ha) hb, fun a ha => Nat.lt_of_lt_of_le (h.2 a ha) hb⟩
/-- Each of an entry's values takes one cell. -/
def One (o : EX) : Prop := (enC o.1 o.2).all (·.oneCell') = true
theorem one_xC (n : Int) (A : Option Addr) (q : Nat) (MA : Option Addr) (MK : Nat) : One (someE n, xC n A q MA MK) := by simp [One, enC, xC, Value.oneCell']
/-- What Some answers. -/
def SmIs (w : World) (l : List Int) (r : Ending) (w' : World) : Prop := ∃ (v : Value) (es : List EX), r = .returned v ∧ es.map Prod.fst = l.map someE ∧ Els w' v 16 (es.map enV) ∧ (∀ o ∈ es, EnIn w' o.1 o.2 ∧ One o) ∧ Below w.heap.size w w'
/-- The state at the head of a round. -/
def SmR (w1 wr : World) (v : Value) (l : List Int) (k : Nat) : Prop := ∃ es : List EX, es.map Prod.fst = (l.take k).map someE ∧ es.length = k ∧ wr.ownsRow w1.heap.size 31 16 v k (es.map enV).flatten ∧ (∀ o ∈ es, EnIn wr o.1 o.2 ∧ Off v.ownBlock o ∧ Bnd wr.heap.size o ∧ One o) ∧ Below w1.heap.size w1 wr

set_option maxRecDepth 100000 in
set_option maxHeartbeats 4000000 in
theorem some_any (w : World) (v : Value) (l : List Int) (h : SlK .u16 w v l) (hl : l.length ≤ 100) : Calls Try.prog 14 #[v] w (SmIs w l) := by
  obtain ⟨A, cap, rfl, -⟩ := id h
  have HH := Lib.hid h
  have H0 : Hid (SmR w w (.slice none 0 0) l 0) := ⟨[], rfl, rfl, World.ownsRow_nil _ _ _ _, (fun o ho => by cases ho), Below.refl _ _⟩
  obtain ⟨ii, hii, hy0, hy1, hy2⟩ := info_parts infoEn
  clear h
  go_enter Try.func14, Try.ntmps14
  go_wp2
  go_loopw [3, 4] (fun v i wr => Hid (∃ k : Nat, k ≤ l.length ∧ i = .int .i64 (k : Int) ∧ SmR w wr v l k)) (fun _ i _ => l.length - (RowKit.intOf i).toNat)
  case atStart => exact ⟨0, Nat.zero_le _, rfl, H0.out⟩
  case round =>
    obtain ⟨k, hk, rfl, es, hes, hel, ho, hin, hb⟩ := hrel.out
    clear hrel H0
    by_cases hlt : k < l.length
    · have hp := HH.out.below hb (Nat.le_refl _)
      obtain ⟨p, cap', e, h1, h2, h3, h4⟩ := id hp
      injection e with e1 e2 e3
      subst e1 e3
      have hx := h2 l[k] (List.getElem_mem hlt)
      cases A with
      | none => have := (h3 rfl).1; rw [this] at hlt; cases hlt
      | some a =>
      obtain ⟨q1, q2, q3⟩ := h4 a rfl
      obtain ⟨b, off, sp⟩ := a
      cases q1
      have x0 : wr.cell? ⟨b, off + k, none⟩ = some (.int .u16 l[k]) := q3 k hlt
      obtain ⟨n, hxn⟩ : ∃ n, n = l[k] := ⟨_, rfl⟩
      rw [← hxn] at x0 hx
      have hn : 0 ≤ n ∧ n ≤ 65535 := by
        simp only [Lit.wf, Bool.and_eq_true, decide_eq_true_eq] at hx
        have hmin : IntKind.u16.min = 0 := rfl
        have hmax : IntKind.u16.max = 65535 := rfl
        omega
      have HT : Hid ((l.take (k + 1)).map someE = (l.take k).map someE ++ [someE n]) := by
        show (l.take (k + 1)).map someE = _
        rw [List.take_succ_eq_append_getElem hlt, List.map_append, hxn]; rfl
      have H2 := Lib.hid (And.intro hes (And.intro hel (And.intro ho (And.intro hin hb))))
      have HLT := Lib.hid hlt
      clear hp hx e2 h1 h2 h3 h4 q3 hxn hes hel ho hin hb
      have t1 : IntKind.i64.wrap n = n := IntWalk.i64_in _ (by omega)
      have t2 : n.tmod 26 = n % 26 := Int.tmod_eq_emod_of_nonneg hn.1
      have t3 : IntKind.u8.wrap (97 + n % 26) = 97 + n % 26 := IntWalk.u8_in _ (by omega)
      go_upto_region 6 with (fail)
      have hy : bytesOk [97 + n % 26] := by
        intro y hy
        rw [List.mem_singleton] at hy
        omega
      have hb1 : Below wr.heap.size wr (wr.alloc (.cells #[.int .u8 (97 + n % 26)] 5)) := (Below.refl _ _).alloc (Nat.le_refl _) _
      have cv : (convert 22 9 (.slice (some ⟨wr.heap.size, 0, none⟩) 1 1)).run Try.prog (wr.alloc (.cells #[.int .u8 (97 + n % 26)] 5)) = .ok (.string (bstr [97 + n % 26])) (wr.alloc (.cells #[.int .u8 (97 + n % 26)] 5)) := conv_slK (((blk_new wr [97 + n % 26]).pt (n := 1) (c := 1) rfl (Nat.le_refl _)).slK hy)
      have HRow := Lib.hid (rrow_ok (wr.alloc (.cells #[.int .u8 (97 + n % 26)] 5)) (bstr [97 + n % 26]) ⟨#[115]⟩ ⟨#[]⟩ (some_may n))
      have HB1 := Lib.hid hb1
      have HRl := Lib.hid (rowL_ok (some_may n))
      clear hb1 hy
      have HNw : Hid (n % 9 ≠ 0 → newS n = rowL (bstr [97 + n % 26]) ⟨#[115]⟩ ⟨#[]⟩) := fun h => by unfold newS; rw [if_neg h]
      have HNz : Hid (n % 9 = 0 → newS n = []) := fun h => by unfold newS; rw [if_pos h]
      have HRn := Lib.hid (rowL_len (some_may n))
      generalize bstr [97 + n % 26] = ky at *
      go_upto_region 7 with (go_at_call 15; refine HRow.out.mono ?_; rintro r w2 ⟨v2, rfl, ho2, hb2⟩; obtain ⟨A2, q2, rfl⟩ := own_sl ho2; have HRr := Lib.hid (own_slK ho2 HRl.out); have HB2 := Lib.hid (HB1.out.trans (hb2.mono HB1.out.size)); have HA2 : Hid (∀ a, A2 = some a → wr.heap.size ≤ a.block) := (fun a e => by subst e; exact Nat.le_trans HB1.out.size (own_blk ho2 _ rfl)); clear ho2 hb2 cv HRow)
      clear t1 t2 t3
      have t26 : n.tdiv 26 = n / 26 := Int.tdiv_eq_ediv_of_nonneg hn.1
      have t7 : n.tdiv 7 = n / 7 := Int.tdiv_eq_ediv_of_nonneg hn.1
      have t29 : n.tdiv 29 = n / 29 := Int.tdiv_eq_ediv_of_nonneg hn.1
      have t11 : n.tdiv 11 = n / 11 := Int.tdiv_eq_ediv_of_nonneg hn.1
      have t41 : n.tdiv 41 = n / 41 := Int.tdiv_eq_ediv_of_nonneg hn.1
      have m5 : n.tmod 5 = n % 5 := Int.tmod_eq_emod_of_nonneg hn.1
      have m3 : n.tmod 3 = n % 3 := Int.tmod_eq_emod_of_nonneg hn.1
      have m7 : (n / 7).tmod 4 = n / 7 % 4 := Int.tmod_eq_emod_of_nonneg (by omega)
      have m29 : (n / 29).tmod 4 = n / 29 % 4 := Int.tmod_eq_emod_of_nonneg (by omega)
      have m11 : (n / 11).tmod 4 = n / 11 % 4 := Int.tmod_eq_emod_of_nonneg (by omega)
      have m41 : (n / 41).tmod 4 = n / 41 % 4 := Int.tmod_eq_emod_of_nonneg (by omega)
      obtain ⟨m, hm⟩ : ∃ m : Nat, (m : Int) = n / 26 % 6 := ⟨(n / 26 % 6).toNat, by omega⟩
      have m26 : (n / 26).tmod 6 = (m : Int) := by rw [hm]; exact Int.tmod_eq_emod_of_nonneg (by omega)
      have hm6 : m < 6 := by omega
      have ck : (#[Value.int .i64 1, .int .i64 1, .int .i64 2, .int .i64 7, .int .i64 8, .int .i64 3] : Array Value)[m]? = some (.int .i64 (kd n)) := by
        unfold kd
        rw [← hm, Int.toNat_natCast]
        match m, hm6 with
        | 0, _ => rfl
        | 1, _ => rfl
        | 2, _ => rfl
        | 3, _ => rfl
        | 4, _ => rfl
        | 5, _ => rfl
      have hc : (w2.alloc (.cells #[.int .i64 1, .int .i64 1, .int .i64 2, .int .i64 7, .int .i64 8, .int .i64 3] 3)).cell? ⟨w2.heap.size, m, none⟩ = some (.int .i64 (kd n)) := (cell_of (heap_alloc_new w2 _) m).1.trans ck
      have ck2 : ∀ h : m < (#[Value.int .i64 1, .int .i64 1, .int .i64 2, .int .i64 7, .int .i64 8, .int .i64 3] : Array Value).size, (#[Value.int .i64 1, .int .i64 1, .int .i64 2, .int .i64 7, .int .i64 8, .int .i64 3] : Array Value)[m]'h = .int .i64 (kd n) := fun h => Option.some.inj ((Array.getElem?_eq_getElem h).symm.trans ck)
      clear hm ck
      go_upto_region 8 with (fail)
      have hal1 := (Below.refl w2.heap.size w2).alloc (Nat.le_refl _) (.cells #[.int .i64 1, .int .i64 1, .int .i64 2, .int .i64 7, .int .i64 8, .int .i64 3] 3)
      show Code.wp _ _ _ _ ((w2.alloc (.cells #[.int .i64 1, .int .i64 1, .int .i64 2, .int .i64 7, .int .i64 8, .int .i64 3] 3)).alloc (.cells (eC n A2 26 q2 none 0 0) 31))
      have hs1 : (w2.alloc (.cells #[.int .i64 1, .int .i64 1, .int .i64 2, .int .i64 7, .int .i64 8, .int .i64 3] 3)).heap.size = w2.heap.size + 1 := by simp
      generalize w2.alloc (.cells #[.int .i64 1, .int .i64 1, .int .i64 2, .int .i64 7, .int .i64 8, .int .i64 3] 3) = w3 at *
      have hal2 := hal1.alloc (by omega) (.cells (eC n A2 26 q2 none 0 0) 31)
      have hk4 := heap_alloc_new w3 (.cells (eC n A2 26 q2 none 0 0) 31)
      rw [hs1] at hk4
      have HK4 := Lib.hid (show (w3.alloc (.cells (eC n A2 26 q2 none 0 0) 31)).heap[w2.heap.size + 1]? = some (.cells (eC n A2 26 q2 none 0 0) 31 (0, 0)) from hk4)
      have HR4 := Lib.hid (HRr.out.below hal2 (Nat.le_refl _))
      have HB4 := Lib.hid (HB2.out.trans (hal2.mono HB2.out.size))
      have HG := Lib.hid (Nat.le_trans HB2.out.size (Nat.le_succ _))
      have HG2 : Hid (wr.heap.size ≤ w2.heap.size + 1) := HG.out
      clear hc ck2 t26 t7 t29 t11 t41 m5 m3 m7 m29 m11 m41 m26 hm6 hal1 hs1 hal2 hk4 HB2 HRr HB1 HG
      generalize w3.alloc (.cells (eC n A2 26 q2 none 0 0) 31) = w4 at *
      generalize w2.heap.size + 1 = g at *
      have m9 : n.tmod 9 = n % 9 := Int.tmod_eq_emod_of_nonneg hn.1
      have c11 : w4.cell? ⟨g, 11, none⟩ = some (.slice A2 26 q2) := (cell_of HK4.out 11).1
      have f11 : w4.frozen? ⟨g, 11, none⟩ = false := (cell_of HK4.out 11).2
      go_upto_if 60 with (fail)
      go_cut [] (fun wx => Hid (∃ (A' : Option Addr) (q' : Nat), wx.heap[g]? = some (.cells (eC n A' (newS n).length q' none 0 0) 31 (0, 0)) ∧ SlK .u8 wx (.slice A' (newS n).length q') (newS n) ∧ (∀ a, A' = some a → wr.heap.size ≤ a.block ∧ a.block < wx.heap.size) ∧ Below wr.heap.size wr wx))
      case first =>
        by_cases h9 : n % 9 = 0
        · have HN := Lib.hid (HNz.out h9)
          go_wp2_with fail
          go_meet
          refine ⟨none, 0, ?_, by rw [HN.out]; exact slK_nil _, (fun a e => by cases e), HB4.out.setCell (p := ⟨g, 11, none⟩) HG2.out _⟩
          rw [heap_setCell_same w4 g 11 _ _ _ HK4.out, HN.out]; rfl
        · have HN := Lib.hid (HNw.out h9)
          go_wp2_with fail
          go_meet
          refine ⟨A2, q2, by rw [HN.out, HRn.out]; exact HK4.out, by rw [HN.out, HRn.out]; exact HR4.out, fun a e => ?_, HB4.out⟩
          obtain ⟨p, cap, e1, _, _, _, h6⟩ := HR4.out
          injection e1 with e1 _ _
          exact ⟨HA2.out a e, (h6 a (by rw [← e1, e])).2.1⟩
      case rest =>
        obtain ⟨A', q', hk, hs, ha, hb⟩ := hcut.out
        have c6 : wc.cell? ⟨g, 6, none⟩ = some (.int .i64 (n / 7 % 4)) := (cell_of hk 6).1
        have c7 : wc.cell? ⟨g, 7, none⟩ = some (.int .i64 (n / 29 % 4)) := (cell_of hk 7).1
        have c8 : wc.cell? ⟨g, 8, none⟩ = some (.int .i64 (n / 11 % 4)) := (cell_of hk 8).1
        have c9 : wc.cell? ⟨g, 9, none⟩ = some (.int .i64 (n / 41 % 4)) := (cell_of hk 9).1
        have c12 : wc.cell? ⟨g, 12, none⟩ = some (.slice none 0 0) := (cell_of hk 12).1
        have f12 : wc.frozen? ⟨g, 12, none⟩ = false := (cell_of hk 12).2
        have HC := Lib.hid (And.intro hk (And.intro hs (And.intro ha hb)))
        have hgl : g < wc.heap.size := (Array.getElem?_eq_some_iff.1 hk).1
        clear hk hs ha hb hcut c11 f11 m9 HK4 HR4 HB4 HA2 HNw HNz HRn HRl
        go_upto_region 11 with (fail)
        have hz5 : (wc.setCell ⟨g, 12, none⟩ (.slice (some ⟨wc.heap.size, 0, none⟩) 1 1)).heap.size = wc.heap.size := by simp
        have hk5 : (wc.setCell ⟨g, 12, none⟩ (.slice (some ⟨wc.heap.size, 0, none⟩) 1 1)).heap[g]? = some (.cells (enC (someE n) (xC n A' q' (some ⟨wc.heap.size, 0, none⟩) 1)) 31 (0, 0)) := by
          rw [heap_setCell_same wc g 12 _ _ _ HC.out.1, ← eC_enC]; rfl
        have hs5 : SlK .u8 (wc.setCell ⟨g, 12, none⟩ (.slice (some ⟨wc.heap.size, 0, none⟩) 1 1)) (.slice A' (newS n).length q') (newS n) := slK_cells HC.out.1 HC.out.2.1 _ _
        have hb5 : Below wr.heap.size wr (wc.setCell ⟨g, 12, none⟩ (.slice (some ⟨wc.heap.size, 0, none⟩) 1 1)) := HC.out.2.2.2.setCell (p := ⟨g, 12, none⟩) HG2.out _
        generalize (wc.setCell ⟨g, 12, none⟩ (.slice (some ⟨wc.heap.size, 0, none⟩) 1 1)) = w5 at *
        have hal := (Below.refl w5.heap.size w5).alloc (Nat.le_refl _) (.cells #[.int .i64 (n / 7 % 4), .int .i64 (n / 29 % 4), .int .i64 (n / 11 % 4), .int .i64 (n / 41 % 4)] 54)
        have hkm := heap_alloc_new w5 (.cells #[.int .i64 (n / 7 % 4), .int .i64 (n / 29 % 4), .int .i64 (n / 11 % 4), .int .i64 (n / 41 % 4)] 54)
        rw [hz5] at hkm
        have HX6 := Lib.hid ((hal.block g (by omega)).trans hk5)
        have HE6 : Hid (EnIn (w5.alloc (.cells #[.int .i64 (n / 7 % 4), .int .i64 (n / 29 % 4), .int .i64 (n / 11 % 4), .int .i64 (n / 41 % 4)] 54)) (someE n) (xC n A' q' (some ⟨wc.heap.size, 0, none⟩) 1)) := by
          refine ⟨hs5.below hal (Nat.le_refl _), ⟨some ⟨wc.heap.size, 0, none⟩, 1, rfl, Nat.le_refl _, (fun e => by cases e), fun a e _ => ?_⟩, by show 1 ≤ 100000; omega, by have := newS_len n; show (newS n).length ≤ 100000; omega⟩
          cases e
          refine ⟨rfl, (Array.getElem?_eq_some_iff.1 hkm).1, fun i j hi hj => ?_⟩
          obtain rfl : i = 0 := by
            have : i < 1 := hi
            omega
          show (w5.alloc (.cells #[.int .i64 (n / 7 % 4), .int .i64 (n / 29 % 4), .int .i64 (n / 11 % 4), .int .i64 (n / 41 % 4)] 54)).cell? ⟨wc.heap.size, 0 + 0 * 4 + j, none⟩ = _
          rw [Nat.zero_mul, Nat.zero_add, (cell_of hkm j).1]
          match j, hj with
          | 0, _ => rfl
          | 1, _ => rfl
          | 2, _ => rfl
          | 3, _ => rfl
        have HB6 := Lib.hid (hb5.trans (hal.mono hb5.size))
        have HA6 : Hid ((∀ a, A' = some a → wr.heap.size ≤ a.block ∧ a.block < wc.heap.size) ∧ wr.heap.size ≤ wc.heap.size ∧ (w5.alloc (.cells #[.int .i64 (n / 7 % 4), .int .i64 (n / 29 % 4), .int .i64 (n / 11 % 4), .int .i64 (n / 41 % 4)] 54)).heap.size = wc.heap.size + 1) := ⟨HC.out.2.2.1, HC.out.2.2.2.size, by simp [hz5]⟩
        have HI := Lib.hid (infoE2 (someE n) (xC n A' q' (some ⟨wc.heap.size, 0, none⟩) 1))
        clear c6 c7 c8 c9 c12 f12 HC hal hkm hz5 hk5 hs5 hb5 hgl
        generalize w5.alloc (.cells #[.int .i64 (n / 7 % 4), .int .i64 (n / 29 % 4), .int .i64 (n / 11 % 4), .int .i64 (n / 41 % 4)] 54) = w6 at *
        generalize wc.heap.size = gm at *
        obtain ⟨ln, hln⟩ : ∃ ln, ln = (newS n).length := ⟨_, rfl⟩
        have HX7 : Hid (w6.heap[g]? = some (.cells #[.int .i64 (kd n), .int .i64 (1 + n % 5), .int .i64 (n % 3), .int .i64 0, .int .i64 0, .int .i64 0, .int .i64 (n / 7 % 4), .int .i64 (n / 29 % 4), .int .i64 (n / 11 % 4), .int .i64 (n / 41 % 4), .slice none 0 0, .slice A' ln q', .slice (some ⟨gm, 0, none⟩) 1 1, .slice none 0 0, .slice none 0 0, .slice none 0 0] 31 (0, 0))) := by rw [hln]; exact HX6.out
        have HI7 : Hid ((Try.prog.info? 31).map (·.size) = some (#[.int .i64 (kd n), .int .i64 (1 + n % 5), .int .i64 (n % 3), .int .i64 0, .int .i64 0, .int .i64 0, .int .i64 (n / 7 % 4), .int .i64 (n / 29 % 4), .int .i64 (n / 11 % 4), .int .i64 (n / 41 % 4), .slice none 0 0, .slice A' ln q', .slice (some ⟨gm, 0, none⟩) 1 1, .slice none 0 0, .slice none 0 0, .slice none 0 0] : Array Value).size) := HI.out
        have HLn := Lib.hid hln
        have HOw : Hid (∀ o, (w6.alloc o).ownsRow w.heap.size 31 16 u3 k (es.map enV).flatten) := fun o => own_upG H2.out.2.2.1 (HB6.out.trans ((Below.refl _ _).alloc (Nat.le_refl _) o |>.mono HB6.out.size))
        have HSz : Hid (∀ o, w.heap.size ≤ (w6.alloc o).heap.size) := fun o => by have h1 := H2.out.2.2.2.2.size; have h2 := HB6.out.size; simp; omega
        clear HX6 HI hln
        go_upto_region 11 with (fail)
        go_wp2_with (first
          | (with_reducible refine wpList_load_row rfl 31 (.tmp 8) rfl g rfl 31 _ (0, 0) _ HX7.out Try.underlying31 rfl HI7.out ?_)
          | (at_builtin; refine wpList_append_own_at _ rfl _ _ 44 rfl w.heap.size 31 ii _ 16 224 Try.underlying44 hii hy0 hy1 hy2 rfl (by decide) u3 k _ rfl (HOw.out _) ⟨w6.heap.size, 0, none⟩ 1 1 [.int .i64 (kd n), .int .i64 (1 + n % 5), .int .i64 (n % 3), .int .i64 0, .int .i64 0, .int .i64 0, .int .i64 (n / 7 % 4), .int .i64 (n / 29 % 4), .int .i64 (n / 11 % 4), .int .i64 (n / 41 % 4), .slice none 0 0, .slice A' ln q', .slice (some ⟨gm, 0, none⟩) 1 1, .slice none 0 0, .slice none 0 0, .slice none 0 0] rfl rfl ?c1 ?c2 (by unfold maxLen; omega) (by omega) (HSz.out _) ?_))
        case c1 =>
          intro i u hu
          rw [add_off]
          rw [show (0 + i) = i from Nat.zero_add i, (cell_of (heap_alloc_new w6 _) i).1, ← hu]
          simp
        case c2 =>
          intro u hu
          simp only [List.mem_cons, List.not_mem_nil, or_false] at hu
          rcases hu with rfl | rfl | rfl | rfl | rfl | rfl | rfl | rfl | rfl | rfl | rfl | rfl | rfl | rfl | rfl | rfl <;> rfl
        intro v' w7 ho7 hg7 _ hv7
        have H7 : Hid (SmR w w7 v' l (k + 1)) := by
          obtain ⟨hes, hel, ho, hin, hb⟩ := H2.out
          obtain ⟨ha1, ha2, ha3⟩ := HA6.out
          have hal := fun o => (Below.refl w6.heap.size w6).alloc (Nat.le_refl _) o
          have hsz : ∀ o, (w6.alloc o).heap.size = gm + 2 := fun o => by simp [ha3]
          have hu3 : ∀ q, u3.ownBlock = some q → q < wr.heap.size := fun q e => (ho.lt q e).2
          have hbN : Bnd (gm + 2) (someE n, xC n A' q' (some ⟨gm, 0, none⟩) 1) := ⟨fun a e => by have := (ha1 a e).2; omega, fun a e => by cases e; show gm < gm + 2; omega⟩
          have hoN : Off u3.ownBlock (someE n, xC n A' q' (some ⟨gm, 0, none⟩) 1) := ⟨fun a e f => by have := (ha1 a e).1; have := hu3 _ f; omega, fun a e f => by cases e; have : gm < wr.heap.size := hu3 _ f; omega⟩
          have hz7 : gm + 2 ≤ w7.heap.size := by have := hg7.size; rw [hsz] at this; exact this
          have hv : ∀ o : EX, Off u3.ownBlock o → Bnd (gm + 2) o → Off v'.ownBlock o := fun o h1 h2 => by
            rcases hv7 with e | e
            · rw [e]; exact h1
            · rw [e]; exact h2.off (by have := hsz (.cells #[] 0); simp at this ⊢; omega)
          refine ⟨es ++ [(someE n, xC n A' q' (some ⟨gm, 0, none⟩) 1)], ?_, by simp [hel], ?_, fun o h => ?_, (hb.trans ((HB6.out.trans ((hal _).mono HB6.out.size)).mono hb.size)).grown hg7 (by rw [hsz]; have := hb.size; omega) (fun q e => (ho.lt q e).1)⟩
          · rw [List.map_append, hes, HT.out]; rfl
          · rw [List.map_append, List.flatten_append]
            have : ([(someE n, xC n A' q' (some ⟨gm, 0, none⟩) 1)].map enV).flatten = enV (someE n, xC n A' q' (some ⟨gm, 0, none⟩) 1) := by simp
            rw [this]
            rw [HLn.out] at ho7
            exact ho7
          · rcases List.mem_append.1 h with h | h
            · obtain ⟨h1, h2, h3, h4⟩ := hin o h
              have h3' := h3.up (show wr.heap.size ≤ gm + 2 by omega)
              exact ⟨(h1.below (HB6.out.trans ((hal _).mono HB6.out.size)) (Nat.le_refl _)).grown hg7 h2, hv o h2 h3', h3'.up hz7, h4⟩
            · obtain rfl := List.mem_singleton.1 h
              exact ⟨(HE6.out.below (hal _) (Nat.le_refl _)).grown hg7 hoN, hv _ hoN hbN, hbN.up hz7, one_xC _ _ _ _ _⟩
        clear ho7 hg7 hv7
        go_wp2
        go_roundw
        case rel => exact ⟨k + 1, HLT.out, by go_num, H7.out⟩
        case measure => have := HLT.out; simp [RowKit.intOf]; omega
    · obtain rfl : k = l.length := by omega
      have HR : Hid (es.map Prod.fst = l.map someE ∧ Els wr u3 16 (es.map enV) ∧ (∀ o ∈ es, EnIn wr o.1 o.2 ∧ One o) ∧ Below w.heap.size w wr) := ⟨by rw [hes, List.take_length], own_els ho (by rw [List.length_map, hel]) (fun y hy => by obtain ⟨t, _, rfl⟩ := List.mem_map.1 hy; rfl), fun o h => ⟨(hin o h).1, (hin o h).2.2.2⟩, hb⟩
      clear hes hel ho hin hb
      go_wp2
      go_ret
      exact ⟨_, es, rfl, HR.out⟩
end Go.Proofs.Ytmijdjlpfjfjoaa.Rx
