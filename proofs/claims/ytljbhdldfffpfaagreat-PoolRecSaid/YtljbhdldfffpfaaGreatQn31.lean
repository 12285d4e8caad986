/- PoolNone, a part. -/
import Derived.Test.YtljbhdldfffpfaaGreatQn30
namespace Go.Proofs.YtljbhdldfffpfaaGreat.Lf
open Go.Proofs.YtljbhdldfffpfaaGreat
open Go.RowKit

def cutL (l : List Int) (i : Nat) : List Int := (l.drop (26 * i)).take 26
def rdOk (l : List Int) : Prop := ∃ a k s v p c, Rd l a k s v p c 0
def noC : Nat → List Int := fun _ => []
def pgL (l : List Int) : Nat → List Int := fun i => nrm (cutL l i)
inductive Tk (la lb : List Int) : Int → (Nat → List Int) → Int → Prop
  | bad (h : tE la lb ≠ 0) : Tk la lb (tE la lb) noC 0
  | form (h : tE la lb = 0) (h2 : zerosB ((tL la lb).drop 104) = false) : Tk la lb 4 noC 0
  | cell (h : tE la lb = 0) (h2 : zerosB ((tL la lb).drop 104) = true) (i : Nat) (hi : i < 4) (h3 : ¬ rdOk (cutL (tL la lb) i)) : Tk la lb 4 noC 0
  | ok (h : tE la lb = 0) (h2 : zerosB ((tL la lb).drop 104) = true) (h3 : ∀ i, i < 4 → rdOk (cutL (tL la lb) i)) : Tk la lb 0 (pgL (tL la lb)) (tK la lb)
theorem Tk.det {la lb : List Int} {e e' n n' : Int} {c c' : Nat → List Int} (h : Tk la lb e c n) (h' : Tk la lb e' c' n') : e = e' ∧ c = c' ∧ n = n' := by
  cases h with
  | bad h => cases h' with
    | bad _ => exact ⟨rfl, rfl, rfl⟩
    | form h2 => exact absurd h2 h
    | cell h2 => exact absurd h2 h
    | ok h2 => exact absurd h2 h
  | form h h2 => cases h' with
    | bad h3 => exact absurd h h3
    | form _ _ => exact ⟨rfl, rfl, rfl⟩
    | cell _ h3 => rw [h2] at h3; cases h3
    | ok _ h3 => rw [h2] at h3; cases h3
  | cell h h2 i hi h3 => cases h' with
    | bad h4 => exact absurd h h4
    | form _ h4 => rw [h2] at h4; cases h4
    | cell _ _ _ _ _ => exact ⟨rfl, rfl, rfl⟩
    | ok _ _ h4 => exact absurd (h4 i hi) h3
  | ok h h2 h3 => cases h' with
    | bad h4 => exact absurd h h4
    | form _ h4 => rw [h2] at h4; cases h4
    | cell _ _ i hi h4 => exact absurd (h3 i hi) h4
    | ok _ _ _ => exact ⟨rfl, rfl, rfl⟩
def TkPost (w : World) (la lb : List Int) (e : Ending) (w' : World) : Prop := ∃ er c n P N K, Tk la lb er c n ∧ e = .returned (.tuple #[pgV P N K n, .int .i64 er]) ∧ Cs w' P N K c ∧ Below w.heap.size w w'

def P0 : Nat → Option Addr := fun _ => none
def N0 : Nat → Nat := fun _ => 0
theorem cs_no (w : World) : Cs w P0 N0 N0 noC := fun _ _ => ⟨rfl, slK_nil w⟩

theorem tk_no {w W : World} {la lb : List Int} {er : Int} (h : Tk la lb er noC 0) (hb : Below w.heap.size w W) : TkPost w la lb (.returned (.tuple #[pgV P0 N0 N0 0, .int .i64 er])) W :=
  ⟨er, noC, 0, P0, N0, N0, h, rfl, cs_no W, hb⟩

theorem tE_len {la lb : List Int} (h : tE la lb = 0) : (tL la lb).length = 120 := by
  unfold tL
  rw [if_pos h]
  unfold tE at h
  by_cases hl : la.length = 64 ∧ lb.length = 64
  · simp; omega
  · rw [if_neg hl] at h; cases h

theorem cut_len {l : List Int} (h : l.length = 120) {i : Nat} (hi : i < 4) : (cutL l i).length = 26 := by
  unfold cutL
  simp; omega

/-- What lies of the page behind k cells. -/
def cK (l : List Int) (k : Nat) : Nat → List Int := fun j => if j < k then nrm (cutL l j) else []
def StT (w1 wr : World) (l : List Int) (n : Int) (k : Nat) : Prop := ∃ P N K, wr.heap[w1.heap.size]? = some (pgO P N K n) ∧ Co wr (w1.heap.size + 1) P N K (cK l k) ∧ (∀ j, k ≤ j → P j = none ∧ N j = 0 ∧ K j = 0) ∧ Below w1.heap.size w1 wr ∧ w1.heap.size + 1 ≤ wr.heap.size
theorem stT_new (w1 : World) (l : List Int) (n : Int) : StT w1 (w1.alloc (pgO P0 N0 N0 n)) l n 0 :=
  ⟨P0, N0, N0, heap_alloc_new w1 _, fun j _ => ⟨rfl, World.ownsRow_nil _ _ _ _, fun x hx => by cases hx⟩, fun j _ => ⟨rfl, rfl, rfl⟩, (Below.refl _ _).alloc (Nat.le_refl _) _, by simp⟩
theorem StT.on {w1 wr w2 : World} {l : List Int} {n : Int} {k : Nat} (h : StT w1 wr l n k) (hb : Below wr.heap.size wr w2) : StT w1 w2 l n k := by
  obtain ⟨P, N, K, h1, h2, h3, h4, h5⟩ := h
  exact ⟨P, N, K, (hb.block _ (by omega)).trans h1, fun j hj => ⟨(h2 j hj).1, own_below (h2 j hj).2.1 hb, (h2 j hj).2.2⟩, h3, h4.trans (hb.mono h4.size), Nat.le_trans h5 hb.size⟩
theorem cK_lt (l : List Int) {k j : Nat} (h : j ≠ k) : cK l (k + 1) j = cK l k j := by
  unfold cK
  by_cases h1 : j < k
  · rw [if_pos h1, if_pos (by omega)]
  · rw [if_neg h1, if_neg (by omega)]
theorem cK_at (l : List Int) (k : Nat) : cK l (k + 1) k = nrm (cutL l k) := if_pos (by omega)
theorem cK_new (l : List Int) (k : Nat) : cK l k k = [] := if_neg (by omega)
theorem StT.skip {w1 wr : World} {l : List Int} {n : Int} {k : Nat} (h : StT w1 wr l n k) (he : empB (cutL l k) = true) : StT w1 wr l n (k + 1) := by
  obtain ⟨P, N, K, h1, h2, h3, h4, h5⟩ := h
  have e : ∀ j, cK l (k + 1) j = cK l k j := fun j => by
    by_cases hj : j = k
    · subst hj; rw [cK_at, cK_new, nrm, if_pos he]
    · exact cK_lt l hj
  exact ⟨P, N, K, h1, fun j hj => by rw [e j]; exact h2 j hj, fun j hj => h3 j (by omega), h4, h5⟩
theorem StT.next {w1 wr w5 : World} {l : List Int} {n : Int} {k : Nat} (h : StT w1 wr l n k) (hk : k < 4) (he : empB (cutL l k) = false) (hb : Below wr.heap.size wr w5) {p : Option Addr} {q : Nat} (ho : w5.ownsRow wr.heap.size 5 1 (.slice p (cutL l k).length q) (cutL l k).length (byteV (cutL l k))) (hok : bytesOk (cutL l k)) :
    StT w1 (w5.setCell ⟨w1.heap.size, k, none⟩ (.slice p (cutL l k).length q)) l n (k + 1) := by
  obtain ⟨P, N, K, h1, h2, h3, h4, h5⟩ := h
  have h1' := (hb.block _ (by omega)).trans h1
  refine ⟨_, _, _, pg_set h1' hk p _ q, fun j hj => ?_, fun j hj => ?_, (h4.trans (hb.mono h4.size)).setCell (p := ⟨w1.heap.size, k, none⟩) (Nat.le_refl _) _, ?_⟩
  · by_cases e : j = k
    · subst e
      simp only [upd, if_true]
      rw [cK_at, nrm, if_neg (by rw [he]; decide)]
      exact ⟨rfl, own_set (own_mono ho h5) (by omega), hok⟩
    · simp only [upd, if_neg e]
      rw [cK_lt l e]
      obtain ⟨a1, a2, a3⟩ := h2 j hj
      exact ⟨a1, own_set (own_below a2 hb) (by omega), a3⟩
  · simp only [upd, if_neg (show j ≠ k by omega)]
    exact h3 j (by omega)
  · have := hb.size; simp; omega
theorem StT.all {w1 wr : World} {l : List Int} {n : Int} (h : StT w1 wr l n 4) : ∃ P N K, wr.heap[w1.heap.size]? = some (pgO P N K n) ∧ Co wr (w1.heap.size + 1) P N K (pgL l) ∧ Below w1.heap.size w1 wr := by
  obtain ⟨P, N, K, h1, h2, h3, h4, h5⟩ := h
  refine ⟨P, N, K, h1, fun j hj => ?_, h4⟩
  have := h2 j hj
  rw [cK, if_pos hj] at this
  exact this

end Go.Proofs.YtljbhdldfffpfaaGreat.Lf
namespace Go.Proofs.YtljbhdldfffpfaaGreat.Lf
open Go.Proofs.YtljbhdldfffpfaaGreat
open Go.RowKit

theorem tk_end {W : World} {tmps : Array Value} {g : Nat} {P : Nat → Option Addr} {N K : Nat → Nat} {n er : Int} (h4 : tmps.getD 4 undef = .pointer (some ⟨g, 0, none⟩)) (h5 : tmps.getD 5 undef = .int .i64 er) (k : W.heap[g]? = some (pgO P N K n)) : (results Tryz.f94 tmps).run Tryz.prog W = .ok (.tuple #[pgV P N K n, .int .i64 er]) W := by
  rw [Array.getD_eq_getD_getElem?] at h4 h5
  have hc := fun i => (cell_of (cs := pgC P N K n) k i).1
  have a0 := hc 0
  have a1 := hc 1
  have a2 := hc 2
  have a3 := hc 3
  have a4 := hc 4
  simp [results, Tryz.results94, go_sem, h4, h5, a0, a1, a2, a3, a4, pgC, pgV]

theorem Rd.er {l : List Int} {a : Int} {k s v : ByteArray} {p c e : Int} (h : Rd l a k s v p c e) : e = 0 ∨ (e = 4 ∧ ¬ rdOk l) := by
  have hd := h
  have h4 : e = 4 → ¬ rdOk l := fun e4 ⟨a', k', s', v', p', c', h'⟩ => by have := (hd.det h').2.2.2.2.2.2; omega
  cases h with
  | empty _ => exact .inl rfl
  | row _ _ _ _ _ => exact .inl rfl
  | stub _ _ _ _ => exact .inl rfl
  | none _ _ _ _ => exact .inr ⟨rfl, h4 rfl⟩

/-- The result's variable, as it is till the end. -/
def zP : Obj := pgO P0 N0 N0 0

set_option maxRecDepth 100000 in
set_option maxHeartbeats 2000000 in
theorem ltake_any (w : World) (a b : Value) (la lb : List Int) (ha : SlK .u8 w a la) (hb : SlK .u8 w b lb) : Calls Tryz.prog 94 #[a, b] w (TkPost w la lb) := by
  have hb0 : Below w.heap.size w (w.alloc zP) := (Below.refl _ _).alloc (Nat.le_refl _) _
  have hk0 : (w.alloc zP).heap[w.heap.size]? = some zP := heap_alloc_new w _
  have HT := Lib.hid (take_T (w.alloc zP) a b la lb (ha.below hb0 (Nat.le_refl _)) (hb.below hb0 (Nat.le_refl _)))
  obtain ⟨pa, ca, rfl, -⟩ := ha
  obtain ⟨pb, cb, rfl, -⟩ := hb
  have HB0 := Lib.hid hb0
  have HK0 := Lib.hid hk0
  have HZ0 : Hid (w.heap.size < (w.alloc zP).heap.size) := by show _ < _; simp
  clear hb0 hk0
  go_enter Tryz.func94, Tryz.ntmps94
  go_upto_region 1 with (fail)
  show Code.wp _ _ _ _ (w.alloc zP)
  generalize w.alloc zP = w0 at *
  go_wp2_with fail
  refine HT.out.mono ?_
  rintro e w1 ⟨v, rfl, hv, hb1⟩
  have HB1 := Lib.hid (HB0.out.trans (hb1.mono HB0.out.size))
  have HK1 := Lib.hid ((hb1.block _ HZ0.out).trans HK0.out)
  have HZ1 := Lib.hid (Nat.lt_of_lt_of_le HZ0.out hb1.size)
  have HV := Lib.hid hv
  have hz := pg_cell (HK1.out : _ = some (pgO P0 N0 N0 0))
  have HZc := Lib.hid hz
  clear hb1 hv HT HB0 HK0 HZ0 hz
  by_cases he : tE la lb = 0
  · have hlen := tE_len he
    obtain ⟨p, cap, rfl, -⟩ := id HV.out
    have hpt := HV.out.pt (fun e => by rw [e] at hlen; cases hlen)
    obtain ⟨b, off, cap', e, -⟩ := id hpt
    injection e with e1 e2 e3
    subst e1 e3
    clear e2
    rw [hlen] at hpt HV ⊢
    rw [he]
    obtain ⟨l, hl⟩ : ∃ l, tL la lb = l := ⟨_, rfl⟩
    have HLl := Lib.hid hl
    have HEe := Lib.hid he
    rw [hl] at hpt hlen
    have hcap : 120 ≤ cap := by obtain ⟨_, _, _, e, h1, _⟩ := hpt; injection e; omega
    have hok : bytesOk l := by rw [← hl]; exact HV.out.ok
    have hz0 := lzeros_any w1 (.slice (some ⟨b, off + 104, none⟩) 16 (cap - 104)) (l.drop 104) (hpt.cut (k := 104) (by omega) (fun _ => rfl) (by omega) (by omega)) (by simp; omega)
    have i1 : (104 : Int) ≤ (cap : Int) := by omega
    have i2 : ¬ cap = 104 := by omega
    have i3 : (120 : Int) ≤ (cap : Int) := by omega
    have HPt := Lib.hid hpt
    have HLen := Lib.hid hlen
    have HOk := Lib.hid hok
    clear hl he hpt hlen hok HV
    cases hzz : zerosB (l.drop 104)
    · rw [hzz] at hz0
      have HZ0 := Lib.hid hz0
      have HTk : Hid (TkPost w la lb (.returned (.tuple #[pgV P0 N0 N0 0, .int .i64 4])) (finP w1 w.heap.size P0 N0 N0 0)) := tk_no (.form HEe.out (by rw [HLl.out]; exact hzz)) (finP_below HB1.out (Nat.le_refl _))
      have HE := Lib.hid (finP_heap (P := P0) (N := N0) (K := N0) (n := 0) (HK1.out : _ = some (pgO P0 N0 N0 0)))
      clear hz0 hzz hcap
      generalize tK la lb = kk at *
      go_wp2_with fail
      refine HZ0.out.mono ?_
      rintro e w' ⟨rfl, rfl⟩
      have c0 := HZc.out.1 0 (by decide)
      have c1 := HZc.out.1 1 (by decide)
      have c2 := HZc.out.1 2 (by decide)
      have c3 := HZc.out.1 3 (by decide)
      have c4 := HZc.out.2.1
      have f0 := HZc.out.2.2 0
      have f1 := HZc.out.2.2 1
      have f2 := HZc.out.2.2 2
      have f3 := HZc.out.2.2 3
      have f4 := HZc.out.2.2 4
      clear HZc
      go_wp2
      change bodyPost _ _ _ _ _ (finP w' w.heap.size P0 N0 N0 0)
      exact bodyPost_ret (tk_end rfl rfl HE.out) rfl HTk.out
    · rw [hzz] at hz0
      have HZ0 := Lib.hid hz0
      have HZZ := Lib.hid hzz
      obtain ⟨kk, hkk⟩ : ∃ kk, tK la lb = kk := ⟨_, rfl⟩
      have HKK := Lib.hid hkk
      rw [hkk]
      clear hz0 hzz hkk
      go_wp2_with fail
      refine HZ0.out.mono ?_
      rintro e w' ⟨rfl, hw'⟩
      obtain rfl := hw'.symm
      clear hw'
      have HS0 : Hid (StT w1 (w1.alloc (pgO P0 N0 N0 kk)) l kk 0) := stT_new w1 l kk
      clear HZc
      go_upto_region 7 with (fail)
      show Code.wp _ _ _ _ (w1.alloc (pgO P0 N0 N0 kk))
      generalize w1.alloc (pgO P0 N0 N0 kk) = w2 at *
      go_wp2
      go_loopw [34] (fun i wr => ∃ k : Nat, k ≤ 4 ∧ i = .int .i64 k ∧ Hid (∀ j, j < k → rdOk (cutL l j)) ∧ Hid (StT w1 wr l kk k)) (fun i _ => 4 - (RowKit.intOf i).toNat)
      case atStart => exact ⟨0, by omega, rfl, fun j hj => by omega, HS0⟩
      case round =>
        obtain ⟨k, hk, rfl, HRd, HS⟩ := hrel
        clear HS0
        have HK4 : Hid (∀ W, Below w1.heap.size w1 W → W.heap[w.heap.size]? = some zP) := fun W hW => (hW.block _ HZ1.out).trans HK1.out
        have HBW : Hid (∀ W, Below w1.heap.size w1 W → Below w.heap.size w W) := fun W hW => HB1.out.trans (hW.mono (Nat.le_of_lt HZ1.out))
        have HSB : Hid (Below w1.heap.size w1 wr) := by obtain ⟨_, _, _, _, _, _, h, _⟩ := HS.out; exact h
        clear HK1 HB1
        by_cases hlt : k < 4
        · obtain ⟨m, hm⟩ : ∃ m, 26 * k = m := ⟨_, rfl⟩
          have hw : IntKind.i64.wrap ((k : Int) * 26) = (m : Int) := by rw [IntWalk.i64_in _ (by omega)]; omega
          have hm1 : m ≤ 78 := by omega
          have hp1 : Pt wr (.slice (some ⟨b, off + m, none⟩) 26 (cap - m)) (cutL l k) := by
            unfold cutL
            rw [hm]
            exact ((HPt.out.below HSB.out (Nat.le_refl _)).cut (k := m) (m := 120 - m) (c' := cap - m) (by omega) (fun _ => rfl) (by omega) (by omega)).first (by omega) (by omega)
          have hcl := cut_len HLen.out hlt
          have hok : bytesOk (cutL l k) := ok_take (ok_drop HOk.out _) _
          have hsl := hp1.slK hok
          have HRe := Lib.hid (read_any wr _ _ hsl)
          have HSl := Lib.hid hsl
          have HCl := Lib.hid hcl
          have HOkc := Lib.hid hok
          have j1 : (m : Int) ≤ 120 := by omega
          have j2 : (0 : Int) ≤ (m : Int) := by omega
          have j3 : (m : Int) ≤ (cap : Int) := by omega
          have j4 : ¬ cap = m := by omega
          have j5 : ¬ m = cap := by omega
          have j6 : (26 : Int) ≤ (cap : Int) - (m : Int) := by omega
          have j7 : 26 ≤ cap - m := by omega
          have j8 : m ≤ 120 := by omega
          have j9 : m ≤ cap := by omega
          clear hm hp1 hcl hok hsl i1 i2
          go_wp2_with fail
          refine HRe.out.mono ?_
          rintro e w3 ⟨a, ks, ss, vs, rp, rc, er, hrd, rfl, hb3⟩
          have hb5 : Below wr.heap.size wr ((w3.alloc (rowO ks ss vs)).alloc (ridO rp rc)) := (hb3.alloc hb3.size _).alloc (by have := hb3.size; simp; omega) _
          have HS5 := Lib.hid (HS.out.on hb5)
          have HSl5 := Lib.hid (HSl.out.below hb5 (Nat.le_refl _))
          have HB5 := Lib.hid (HSB.out.trans (hb5.mono HSB.out.size))
          have HEr := Lib.hid hrd.er
          have HRk := Lib.hid hrd
          clear hb3 hb5 hrd HRe HSl HS HSB hw j1 j2 j3 j4 j5 j6 j7 j8 j9 hm1
          go_upto_region 12 with (fail)
          show Code.wp _ _ _ _ ((w3.alloc (rowO ks ss vs)).alloc (ridO rp rc))
          generalize (w3.alloc (rowO ks ss vs)).alloc (ridO rp rc) = w5 at *
          rcases HEr.out with rfl | ⟨rfl, hno⟩
          · have HRd2 : Hid (∀ j, j < k + 1 → rdOk (cutL l j)) := fun j hj => by
              by_cases e : j = k
              · subst e; exact ⟨_, _, _, _, _, _, HRk.out⟩
              · exact HRd.out j (by omega)
            have hem := empty_any w5 _ _ HSl5.out
            cases hq : empB (cutL l k)
            · rw [hq] at hem
              have hcl := clone_any w5 _ _ HSl5.out (by rw [HCl.out]; decide)
              have HEm := Lib.hid hem
              have HClo := Lib.hid hcl
              have HQ := Lib.hid hq
              clear hem hcl hq
              go_wp2_with fail
              refine HEm.out.mono ?_
              rintro e w6 ⟨rfl, rfl⟩
              go_wp2_with fail
              refine HClo.out.mono ?_
              rintro e w7 ⟨v', rfl, ho, hb⟩
              obtain ⟨p', q', rfl⟩ := own_sl ho
              have HX : Hid (StT w1 (w7.setCell ⟨w1.heap.size, k, none⟩ (.slice p' (cutL l k).length q')) l kk (k + 1)) := HS5.out.next hlt HQ.out hb ho HOkc.out
              obtain ⟨P2, N2, K2, h2, -, -, -, hg⟩ := HS5.out
              have hp5 := pg_cell ((hb.block _ (by omega)).trans h2)
              have f1 := hp5.2.2 k
              have d1 := hp5.1 k hlt
              clear ho hb hp5 h2 hg
              go_wp2
              go_roundw
              all_goals first
                | exact ⟨k + 1, by omega, by go_num, HRd2, HX⟩
                | (simp [RowKit.intOf]; omega)
            · rw [hq] at hem
              have HEm := Lib.hid hem
              have HX := Lib.hid (HS5.out.skip hq)
              clear hem hq
              go_wp2_with fail
              refine HEm.out.mono ?_
              rintro e w6 ⟨rfl, rfl⟩
              go_wp2
              go_roundw
              all_goals first
                | exact ⟨k + 1, by omega, by go_num, HRd2, HX⟩
                | (simp [RowKit.intOf]; omega)
          · have HTk : Hid (TkPost w la lb (.returned (.tuple #[pgV P0 N0 N0 0, .int .i64 4])) (finP w5 w.heap.size P0 N0 N0 0)) := tk_no (.cell HEe.out (by rw [HLl.out]; exact HZZ.out) k hlt (by rw [HLl.out]; exact hno)) (finP_below (HBW.out _ HB5.out) (Nat.le_refl _))
            have hk := (HK4.out _ HB5.out : w5.heap[w.heap.size]? = some (pgO P0 N0 N0 0))
            have HE := Lib.hid (finP_heap (P := P0) (N := N0) (K := N0) (n := 0) hk)
            have hz := pg_cell hk
            have c0 := hz.1 0 (by decide)
            have c1 := hz.1 1 (by decide)
            have c2 := hz.1 2 (by decide)
            have c3 := hz.1 3 (by decide)
            have c4 := hz.2.1
            have f0 := hz.2.2 0
            have f1 := hz.2.2 1
            have f2 := hz.2.2 2
            have f3 := hz.2.2 3
            have f4 := hz.2.2 4
            clear hz
            clear hk hno
            go_wp2
            change bodyPost _ _ _ _ _ (finP w5 w.heap.size P0 N0 N0 0)
            exact bodyPost_ret (tk_end rfl rfl HE.out) rfl HTk.out
        · obtain rfl : k = 4 := by omega
          obtain ⟨P, N, K, h2, hco, hb⟩ := HS.out.all
          have hp2 := pg_cell h2
          have d0 := hp2.1 0 (by decide)
          have d1 := hp2.1 1 (by decide)
          have d2 := hp2.1 2 (by decide)
          have d3 := hp2.1 3 (by decide)
          have d4 := hp2.2.1
          have hk := (HK4.out _ hb : wr.heap[w.heap.size]? = some (pgO P0 N0 N0 0))
          have HE := Lib.hid (finP_heap (P := P) (N := N) (K := K) (n := kk) hk)
          have hcs : Cs (finP wr w.heap.size P N K kk) P N K (pgL l) := fun j hj => by
            obtain ⟨a1, a2, a3⟩ := hco j hj
            have hg : w.heap.size < w1.heap.size + 1 := by have := HZ1.out; omega
            exact ⟨a1, own_slK (own_set (own_set (own_set (own_set (own_set a2 hg) hg) hg) hg) hg) a3⟩
          have HTk : Hid (TkPost w la lb (.returned (.tuple #[pgV P N K kk, .int .i64 0])) (finP wr w.heap.size P N K kk)) := by
            have := Tk.ok HEe.out (by rw [HLl.out]; exact HZZ.out) (fun i hi => by rw [HLl.out]; exact HRd.out i hi)
            rw [HLl.out, HKK.out] at this
            exact ⟨0, _, _, P, N, K, this, rfl, hcs, finP_below (HBW.out _ hb) (Nat.le_refl _)⟩
          have hz := pg_cell hk
          have c0 := hz.1 0 (by decide)
          have c1 := hz.1 1 (by decide)
          have c2 := hz.1 2 (by decide)
          have c3 := hz.1 3 (by decide)
          have c4 := hz.2.1
          have f0 := hz.2.2 0
          have f1 := hz.2.2 1
          have f2 := hz.2.2 2
          have f3 := hz.2.2 3
          have f4 := hz.2.2 4
          clear hz
          clear hk hp2 h2 hco hb hcs HS HSB
          go_wp2
          change bodyPost _ _ _ _ _ (finP wr w.heap.size P N K kk)
          exact bodyPost_ret (tk_end rfl rfl HE.out) rfl HTk.out
  · have HTk : Hid (TkPost w la lb (.returned (.tuple #[pgV P0 N0 N0 0, .int .i64 (tE la lb)])) (finP w1 w.heap.size P0 N0 N0 0)) := tk_no (.bad he) (finP_below HB1.out (Nat.le_refl _))
    have HE := Lib.hid (finP_heap (P := P0) (N := N0) (K := N0) (n := 0) (HK1.out : _ = some (pgO P0 N0 N0 0)))
    have c0 := HZc.out.1 0 (by decide)
    have c1 := HZc.out.1 1 (by decide)
    have c2 := HZc.out.1 2 (by decide)
    have c3 := HZc.out.1 3 (by decide)
    have c4 := HZc.out.2.1
    have f0 := HZc.out.2.2 0
    have f1 := HZc.out.2.2 1
    have f2 := HZc.out.2.2 2
    have f3 := HZc.out.2.2 3
    have f4 := HZc.out.2.2 4
    have hne : ((tE la lb) != 0) = true := by simpa using he
    clear HZc HV
    generalize tE la lb = ee at *
    generalize tK la lb = kk at *
    go_wp2
    change bodyPost _ _ _ _ _ (finP w1 w.heap.size P0 N0 N0 0)
    exact bodyPost_ret (tk_end rfl rfl HE.out) rfl HTk.out

end Go.Proofs.YtljbhdldfffpfaaGreat.Lf
