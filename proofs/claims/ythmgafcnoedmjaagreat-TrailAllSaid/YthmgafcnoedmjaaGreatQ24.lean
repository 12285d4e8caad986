/- TrailAll, a part. -/
import Derived.Test.YthmgafcnoedmjaaGreatQ22
import Derived.Test.YthmgafcnoedmjaaGreatQ23
import Derived.Test.YthmgafcnoedmjaaGreatQ21
import Derived.Test.YthmgafcnoedmjaaGreatQ20
import Derived.Laws.AppendOwnNone
import Derived.Maps.AppendAt
import Derived.BigQuiet
import Derived.Deep.DeepCutAuto
namespace Go.Proofs.YthmgafcnoedmjaaGreat
set_option maxRecDepth 100000
open Go.RowKit Go.Maps
theorem clone_any2 (w : World) {sv : Value} {l : List Int} {gb : Nat} (h : SlB w sv l gb) (hz : sv = .slice none 0 0 ∨ ∃ a n c, sv = .slice (some a) n c) : Calls Tryz.prog 43 #[sv] w fun e w' => ∃ p1 c1 g, e = .returned (.slice p1 l.length c1) ∧ SlB w' (.slice p1 l.length c1) l g ∧ w.heap.size ≤ g ∧ Below w.heap.size w w' ∧ (p1 = none → l.length = 0 ∧ c1 = 0) := by
 rcases hz with rfl | ⟨a, n, c, rfl⟩
 ·obtain ⟨p0, len, cap, e, e2, _, _, hn, _⟩ := h
  cases e
  obtain rfl := hn rfl
  exact (clone_nil w).mono fun e w' ⟨he, hw⟩ => ⟨none, 0, w.heap.size, he, nil_SlB _ _, Nat.le_refl _, by rw [hw]; exact Below.refl _ _, fun _ => ⟨rfl, rfl⟩⟩
 ·obtain ⟨p0, len, cap, e, e2, _, hl, _, ha⟩ := h
  cases e
  obtain ⟨gb, ao, asp⟩ := a
  subst e2
  refine (clone_some w gb ao asp c l hl (fun hne => (ha _ rfl hne).2.1) (fun j hj => by
   obtain ⟨q1, _, q3⟩ := ha _ rfl (by intro e; rw [e] at hj; cases hj)
   simp only at q1 q3
   rw [q1]; exact q3 j hj)).mono fun e w' ⟨v, he, hown, hb⟩ => ?_
  obtain ⟨g, hg, hs⟩ := slB_own hown hl
  have hsh := hown.2
  obtain ⟨p1, len, c1, e1, e2, r⟩ := hs
  subst e1
  subst e2
  refine ⟨p1, c1, g, he, ⟨p1, _, c1, rfl, rfl, r⟩, hg, hb, fun hp => ?_⟩
  subst hp
  rcases hsh with ⟨e, _⟩ | ⟨_, _, _, e, _⟩
  ·injection e with _ e1 e2
   exact ⟨e1, e2⟩
  ·cases e
theorem SlB.block_lt {w : World} {v : Value} {l : List Int} {g : Nat} (h : SlB w v l g) (hl : l ≠ []) : g < w.heap.size := by
 obtain ⟨p0, len, cap, e, e2, hle, hcap, hn, ha⟩ := h
 cases p0 with
 | none => exact absurd (hn rfl) hl
 | some a =>
  obtain ⟨h1, h2, h3⟩ := ha a rfl hl
  exact block_lt_of_cell (h3 0 (List.length_pos_iff.2 hl))
theorem arm_pos2 (w : World) {p bn bo g gs : Nat} {d : Dk} (h : DiskAt w p bn bo g d) (n : Int) (hn : 0 ≤ n) (hn2 : n ≤ 9223372036854775807) {sv : Value} {ms : List Int} (hs : SlB w sv ms gs) (hgs : gs ≠ p) (hz : sv = .slice none 0 0 ∨ ∃ a n c, sv = .slice (some a) n c) (hb : bytesOk ms) :
  Calls Tryz.prog 18 #[.pointer (some ⟨p, 0, none⟩), .int .i64 n, sv] w fun e w' => e = .returned (.tuple #[]) ∧ ∃ mv g', DiskAt w' p bn bo g' (d.armed n mv ms) ∧ (mv = .slice none 0 0 ∨ ∃ a n c, mv = .slice (some a) n c) ∧ w.heap.size ≤ g' ∧ Fr w.heap.size (Three p bn bo) w w' := by
 have c4 := h.c4
 have c5 := h.c5
 have c6 := h.c6
 have f4 := h.fz 4
 have f5 := h.fz 5
 have f6 := h.fz 6
 have hp := h.lt.1
 have hU : DiskAt (((w.setCell ⟨p, 4, none⟩ (.bool false)).setCell ⟨p, 5, none⟩ (.int .i64 0)).setCell ⟨p, 6, none⟩ (.slice none 0 0)) p bn bo g d.unarmed := put_armed h false (n := 0) (by omega) (by omega) h.ne.2.2.2 (nil_SlB _ _) (by unfold bytesOk; simp)
 have hF := fr_armed (v1 := .bool false) (v2 := .int .i64 0) (v3 := .slice none 0 0) (Fr.refl w.heap.size (Three p bn bo) w)
 have hS : SlB (((w.setCell ⟨p, 4, none⟩ (.bool false)).setCell ⟨p, 5, none⟩ (.int .i64 0)).setCell ⟨p, 6, none⟩ (.slice none 0 0)) sv ms gs := ((hs.poke hgs).poke hgs).poke hgs
 have HC := Lib.hid (clone_any2 _ hS hz)
 have HU := Lib.hid hU
 have HF := Lib.hid hF
 clear hS hs hU hF
 go_enter Tryz.func18, Tryz.ntmps18
 go_wp2_with (go_at_call 43; refine HC.out.mono ?_; rintro e w1 ⟨p1, k1, g', rfl, hm1, hg1, hb1, hnn⟩; have HNN := Lib.hid hnn; clear hnn; have h1 := HU.out.kept (fun k hk => hb1.block k hk); have d4 := h1.c4; have d5 := h1.c5; have d6 := h1.c6; have e4 := h1.fz 4; have e5 := h1.fz 5; have e6 := h1.fz 6)
 go_end0
 have hw := HF.out.size
 have hz1 : w.heap.size ≤ w1.heap.size := by have := hb1.size; simp at this; omega
 have hg2 : w.heap.size ≤ g' := by simpa using hg1
 refine ⟨rfl, _, g', put_armed h1 true hn hn2 (by omega) hm1 hb, ?_, hg2, fr_armed (HF.out.trans (below_frA (S := Three p bn bo) hb1) hw (fun _ _ h => h))⟩
 cases p1 with
 | none => obtain ⟨q1, q2⟩ := HNN.out rfl; exact Or.inl (by rw [q1, q2])
 | some a => exact Or.inr ⟨a, _, _, rfl⟩
section
variable {B : Nat} {W : World} {p bn bo g r gn gw gt gm : Nat} {vn vw vt : Value} {d : Dk} {f : Rf}
theorem rowF_of {W : World} {B n : Nat} {t : TypeId} {v x : Value} (h : W.ownsRow B t 1 v n (List.replicate n x)) (hn : 0 < n) : ∃ g c, v = .slice (some ⟨g, 0, none⟩) n c ∧ n ≤ c ∧ B ≤ g ∧ g < W.heap.size ∧ RowF W g t n (fun _ => x) := by
 obtain ⟨h1, ⟨rfl, h0⟩ | ⟨g, cap, cur, rfl, hB, hg, hle, _, _, htake⟩⟩ := h
 ·omega
 ·refine ⟨g, cap, rfl, hle, hB, (Array.getElem?_eq_some_iff.1 hg).1, cur, hg, fun i hi => ?_⟩
  have e1 : (cur.toList.take (n * 1))[i]? = some x := by rw [htake]; simp [hi]
  rw [List.getElem?_take, if_pos (by omega)] at e1
  simpa using e1
theorem rf_of_nz {W : World} {r k : Nat} {vn vw vt : Value} (hz : Nz W r vn vw vt vn k vw k vt k (bstr z64)) (hnl : k = 0 → vn = .slice none 0 0 ∧ vw = .slice none 0 0 ∧ vt = .slice none 0 0) (hk2 : k ≤ 2000) :
  ∃ gn gw gt gm, RfAt W r gn gw gt gm vn vw vt (Rf.fresh k (.slice none 0 0)) ∧ (0 < k → (r + 1 ≤ gn ∧ r + 1 ≤ gw ∧ r + 1 ≤ gt)) := by
 have hr := hz.lt
 have hmask : ∀ gm, SlB W (.slice none 0 0) [] gm := nil_SlB W
 have hmok : bytesOk [] := by intro x hx; cases hx
 rcases Nat.eq_zero_or_pos k with hk | hk
 ·obtain ⟨rfl, rfl, rfl⟩ := hnl hk
  have hsl : ∀ g, SlR (.slice none 0 0) g k := fun g => ⟨none, 0, by rw [hk], by omega, fun _ => hk, fun a e => by cases e⟩
  exact ⟨W.heap.size + 1, W.heap.size + 2, W.heap.size + 3, W.heap.size + 4, ⟨hz.cells, hsl _, hsl _, hsl _, fun e => absurd e (by show ¬ 0 < k; omega), fun e => absurd e (by show ¬ 0 < k; omega), fun e => absurd e (by show ¬ 0 < k; omega), hmask _, ⟨by omega, by omega, by omega, by omega, by omega, by omega, by omega, by omega, by omega, by omega⟩, hk2, fun e => (by cases e), hmok, fun _ g => ⟨hsl g, hsl g, hsl g⟩⟩, fun e => by omega⟩
 ·obtain ⟨gn, cn, rfl, n1, n2, n3, n4⟩ := rowF_of hz.on hk
  obtain ⟨gw, cw, rfl, w1, w2, w3, w4⟩ := rowF_of hz.ow hk
  obtain ⟨gt, ct, rfl, t1, t2, t3, t4⟩ := rowF_of hz.ot hk
  have d1 : gn ≠ gw := fun e => hz.ne gn rfl (by rw [e]; rfl)
  have d2 : gn ≠ gt := by
   rcases own_diff (by decide) hz.on hz.ot with e | e
   ·cases e
   ·intro e2; exact e (by rw [e2]; rfl)
  have d3 : gw ≠ gt := by
   rcases own_diff (by decide) hz.ow hz.ot with e | e
   ·cases e
   ·intro e2; exact e (by rw [e2]; rfl)
  exact ⟨gn, gw, gt, W.heap.size + 4, ⟨hz.cells, ⟨_, cn, rfl, n1, fun e => (by cases e), fun a e => by cases e; rfl⟩, ⟨_, cw, rfl, w1, fun e => (by cases e), fun a e => by cases e; rfl⟩, ⟨_, ct, rfl, t1, fun e => (by cases e), fun a e => by cases e; rfl⟩, fun _ => n4, fun _ => w4, fun _ => t4, hmask _, ⟨by omega, by omega, by omega, d1, d2, d3, by omega, by omega, by omega, by omega⟩, hk2, fun e => (by cases e), hmok, fun e => absurd e (by show ¬ k = 0; omega)⟩, fun _ => ⟨n2, w2, t2⟩⟩
end
open Go.RowKit Go.Maps
theorem ok_later {d : Dk} (h : d.Ok) (hz : d.left ≠ 0) : d.later.Ok := ⟨h.lo, h.hi, h.now, h.old, by have := h.llo; show 0 ≤ d.left - 1; omega, by have := h.lhi; show d.left - 1 ≤ _; omega, h.mok⟩
theorem ok_synced {d : Dk} (h : d.Ok) : d.synced.Ok := ⟨h.lo, h.hi, h.now, fun i v e => (by cases e), h.llo, h.lhi, h.mok⟩
theorem ok_crash {d d' : Dk} {ms : List Int} (h : d.Ok) (hc : Crashes d ms d') : d'.Ok := by
 obtain ⟨ls, hls, rfl⟩ := hc
 refine ⟨h.lo, h.hi, fun i v e => ?_, fun i v e => (by cases e), by simp [Dk.crashed], by simp [Dk.crashed], by simp [Dk.crashed, bytesOk]⟩
 rcases crash_two d ms ls (fun x hx => (hls.2 x).1 hx) i ls.length with h1 | ⟨h1, h2⟩
 ·exact h.now i v (h1.symm.trans e)
 ·obtain ⟨u, hu⟩ := Option.isSome_iff_exists.1 h1
  have e2 : crashNow d ms ls ls.length i = some v := e
  rw [h2, hu] at e2
  injection e2 with e2
  exact h.old i v (by rw [hu]; exact congrArg some e2)
theorem loose_wet {d : Dk} {f : Rf} (h : Like d f) (hok : d.Ok) : IsLoose d (wetL f.wet f.k) := by
 obtain ⟨h1, _, _, _, h5⟩ := h
 refine ⟨wetL_sorted _ _, fun x => ?_⟩
 rw [wetL_mem]
 constructor
 ·rintro ⟨j, hj, hw, rfl⟩
  rw [(h5 j hj).2.1]; exact hw
 ·intro hx
  obtain ⟨v, hv⟩ := Option.isSome_iff_exists.1 hx
  obtain ⟨x0, x1, _⟩ := hok.old x v hv
  obtain ⟨j, rfl⟩ := Int.eq_ofNat_of_zero_le x0
  exact ⟨j, by omega, by rw [← (h5 j (by omega)).2.1]; exact hx, rfl⟩
def Tw (w0 w' : World) (r gn gw gt gm : Nat) (vn vw vt : Value) (f : Rf) (d' : Dk) : Prop :=
 ∃ f', Like d' f' ∧ d'.Ok ∧ RfAt w' r gn gw gt gm vn vw vt f' ∧ f'.mask = f.mask ∧ f'.k = f.k ∧ Fr w0.heap.size (Four r gn gw gt) w0 w'
section
variable {w : World} {r gn gw gt gm : Nat} {vn vw vt : Value} {d : Dk} {f : Rf}
theorem rwrite_like (h : RfAt w r gn gw gt gm vn vw vt f) (hL : Like d f) (hok : d.Ok) (i : Nat) (hi : i < f.k) {sv : Value} {l : List Int} {gs : Nat} (hs : SlB w sv l gs) (hbl : bytesOk l) (hl : l.length = 64) (h4 : gs ≠ r) :
  Calls Tryz.prog 21 #[.pointer (some ⟨r, 0, none⟩), .int .i64 i, sv] w fun e w' => ∃ (c : Int) (d' : Dk), e = .returned (.int .i64 c) ∧ Wrote d i l c d' ∧ Tw w w' r gn gw gt gm vn vw vt f d' := by
 obtain ⟨k1, k2, k3, k4, k5⟩ := id hL
 have hit : (i : Int) < d.tiles := by omega
 cases ho : f.off with
 | true =>
  refine (rwrite_off h ho i _).mono ?_
  rintro e w1 ⟨rfl, rfl⟩
  exact ⟨2, d, rfl, Or.inl ⟨by rw [k2, ho], rfl, rfl⟩, f, hL, hok, h, rfl, rfl, fr_id _ _ _⟩
 | false =>
  have hd : d.dead = false := by rw [k2, ho]
  cases hset : d.set with
  | false =>
   have hon : f.on = false := by rw [← k3, hset]
   refine (rwrite_gen (post := fun e2 w2 => ∃ (c : Int) (d' : Dk), e2 = .returned (.int .i64 c) ∧ Wrote d i l c d' ∧ Tw w w2 r gn gw gt gm vn vw vt f d') h ho i hi (rcut_off h hon) h rfl hs hl ?_).mono (fun _ _ hh => hh.1)
   intro w2 h2 f2
   refine (rdone_no w2 r).mono ?_
   rintro e w3 ⟨rfl, rfl⟩
   exact ⟨_, rfl, 0, _, rfl, Or.inr (Or.inl ⟨hd, hset, rfl, rfl⟩), _, like_put hL hi hl hbl, ok_store hok (by omega) hit hl hbl, h2, rfl, rfl, f2⟩
  | true =>
   have hon : f.on = true := by rw [← k3, hset]
   obtain ⟨q1, q2⟩ := k4 hset
   have hlo := hok.llo
   have hp := fr_poke w.heap.size r (Four r gn gw gt) (Or.inl rfl) w 5 (.int .i64 (f.at_ - 1))
   by_cases hleft : d.left = 0
   ·have hcut := rcut_on h hon (by omega)
    rw [show decide (f.at_ = 0) = true by simp; omega] at hcut
    refine (rwrite_gen (post := fun e2 w2 => ∃ (c : Int) (d' : Dk), e2 = .returned (.int .i64 c) ∧ Wrote d i l c d' ∧ Tw w w2 r gn gw gt gm vn vw vt f d') h ho i hi hcut (h.lesser (by omega)) rfl (hs.off h4) hl ?_).mono (fun _ _ hh => hh.1)
    intro w2 h2 f2
    refine (rdone_yes h2).mono ?_
    rintro e w3 ⟨rfl, h3, f3⟩
    have f13 : Fr w.heap.size (Four r gn gw gt) w w3 := hp.trans (f2.trans f3 f2.size (fun x _ hx => hx)) hp.size (fun x _ hx => hx)
    have hok2 := ok_store hok (by omega : (0 : Int) ≤ i) hit hl hbl
    have hL2 := like_put hL hi hl hbl
    have hcr : Crashes (d.store i (blkOf l)) d.mask _ := ⟨_, loose_wet hL2 hok2, rfl⟩
    have hL3 := like_crash hL2 hok2 hcr
    have hok3 := ok_crash hok2 hcr
    refine ⟨_, rfl, 2, _, rfl, Or.inr (Or.inr (Or.inr ⟨hd, hset, hleft, rfl, hcr⟩)), { ((f.put i (bstr l)).crashed f.mask) with at_ := f.at_ - 1 }, ?_, hok3, h3, rfl, rfl, f13⟩
    refine like_at ?_ rfl _
    have e := hL3
    rw [q2] at e ⊢
    exact e
   ·have hcut := rcut_on h hon (by omega)
    rw [show decide (f.at_ = 0) = false by simp; omega] at hcut
    refine (rwrite_gen (post := fun e2 w2 => ∃ (c : Int) (d' : Dk), e2 = .returned (.int .i64 c) ∧ Wrote d i l c d' ∧ Tw w w2 r gn gw gt gm vn vw vt f d') h ho i hi hcut (h.lesser (by omega)) rfl (hs.off h4) hl ?_).mono (fun _ _ hh => hh.1)
    intro w2 h2 f2
    refine (rdone_no w2 r).mono ?_
    rintro e w3 ⟨rfl, rfl⟩
    have f13 : Fr w.heap.size (Four r gn gw gt) w w3 := hp.trans f2 hp.size (fun x _ hx => hx)
    exact ⟨_, rfl, 0, _, rfl, Or.inr (Or.inr (Or.inl ⟨hd, hset, hleft, rfl, rfl⟩)), _, like_less (like_put hL hi hl hbl), ok_later (ok_store hok (by omega) hit hl hbl) hleft, h2, rfl, rfl, f13⟩
theorem rsync_like (h : RfAt w r gn gw gt gm vn vw vt f) (hL : Like d f) (hok : d.Ok) :
  Calls Tryz.prog 62 #[.pointer (some ⟨r, 0, none⟩)] w fun e w' => ∃ (c : Int) (d' : Dk), e = .returned (.int .i64 c) ∧ Synced d c d' ∧ Tw w w' r gn gw gt gm vn vw vt f d' := by
 obtain ⟨k1, k2, k3, k4, k5⟩ := id hL
 cases ho : f.off with
 | true =>
  refine (rsync_off h ho).mono ?_
  rintro e w1 ⟨rfl, rfl⟩
  exact ⟨2, d, rfl, Or.inl ⟨by rw [k2, ho], rfl, rfl⟩, f, hL, hok, h, rfl, rfl, fr_id _ _ _⟩
 | false =>
  have hd : d.dead = false := by rw [k2, ho]
  cases hset : d.set with
  | false =>
   have hon : f.on = false := by rw [← k3, hset]
   refine (rsync_go h ho (rcut_off h hon) h).mono ?_
   rintro e w2 ⟨rfl, h2, f2⟩
   exact ⟨0, _, rfl, Or.inr (Or.inl ⟨hd, hset, rfl, rfl⟩), _, like_sync hL, ok_synced hok, h2, rfl, rfl, f2⟩
  | true =>
   have hon : f.on = true := by rw [← k3, hset]
   obtain ⟨q1, q2⟩ := k4 hset
   have hlo := hok.llo
   have hp := fr_poke w.heap.size r (Four r gn gw gt) (Or.inl rfl) w 5 (.int .i64 (f.at_ - 1))
   by_cases hleft : d.left = 0
   ·have hcut := rcut_on h hon (by omega)
    rw [show decide (f.at_ = 0) = true by simp; omega] at hcut
    refine (rsync_cut h ho hcut (h.lesser (by omega))).mono ?_
    rintro e w2 ⟨rfl, h2, f2⟩
    have f12 : Fr w.heap.size (Four r gn gw gt) w w2 := hp.trans f2 hp.size (fun x _ hx => hx)
    have hcr : Crashes d d.mask _ := ⟨_, loose_wet hL hok, rfl⟩
    have hL3 := like_crash hL hok hcr
    refine ⟨2, _, rfl, Or.inr (Or.inr (Or.inr ⟨hd, hset, hleft, rfl, hcr⟩)), { (f.crashed f.mask) with at_ := f.at_ - 1 }, ?_, ok_crash hok hcr, h2, rfl, rfl, f12⟩
    refine like_at ?_ rfl _
    have e := hL3
    rw [q2] at e ⊢
    exact e
   ·have hcut := rcut_on h hon (by omega)
    rw [show decide (f.at_ = 0) = false by simp; omega] at hcut
    refine (rsync_go h ho hcut (h.lesser (by omega))).mono ?_
    rintro e w2 ⟨rfl, h2, f2⟩
    have f12 : Fr w.heap.size (Four r gn gw gt) w w2 := hp.trans f2 hp.size (fun x _ hx => hx)
    exact ⟨0, _, rfl, Or.inr (Or.inr (Or.inl ⟨hd, hset, hleft, rfl, rfl⟩)), _, like_sync (like_less hL), ok_synced (ok_later hok hleft), h2, rfl, rfl, f12⟩
end
theorem Crashes.det {d a b : Dk} {ms : List Int} (h1 : Crashes d ms a) (h2 : Crashes d ms b) : a = b := by
 obtain ⟨l1, k1, rfl⟩ := h1
 obtain ⟨l2, k2, rfl⟩ := h2
 rw [sorted_ext k1.1 k2.1 fun x => (k1.2 x).trans (k2.2 x).symm]
theorem Wrote.det {d a b : Dk} {i e c : Int} {l : List Int} (h1 : Wrote d i l e a) (h2 : Wrote d i l c b) : e = c ∧ a = b := by
 rcases h1 with ⟨p1, p2, p3⟩ | ⟨p1, p2, p3, p4⟩ | ⟨p1, p2, p3, p4, p5⟩ | ⟨p1, p2, p3, p4, p5⟩ <;>
 rcases h2 with ⟨q1, q2, q3⟩ | ⟨q1, q2, q3, q4⟩ | ⟨q1, q2, q3, q4, q5⟩ | ⟨q1, q2, q3, q4, q5⟩ <;>
 first
  | exact ⟨p4.trans q4.symm, p5.det q5⟩
  | exact ⟨p4.trans q4.symm, p5.trans q5.symm⟩
  | exact ⟨p3.trans q3.symm, p4.trans q4.symm⟩
  | exact ⟨p2.trans q2.symm, p3.trans q3.symm⟩
  | exact absurd (p1.symm.trans q1) (by decide)
  | exact absurd (p2.symm.trans q2) (by decide)
  | exact absurd q3 p3
  | exact absurd p3 q3
theorem Synced.det {d a b : Dk} {e c : Int} (h1 : Synced d e a) (h2 : Synced d c b) : e = c ∧ a = b := by
 rcases h1 with ⟨p1, p2, p3⟩ | ⟨p1, p2, p3, p4⟩ | ⟨p1, p2, p3, p4, p5⟩ | ⟨p1, p2, p3, p4, p5⟩ <;>
 rcases h2 with ⟨q1, q2, q3⟩ | ⟨q1, q2, q3, q4⟩ | ⟨q1, q2, q3, q4, q5⟩ | ⟨q1, q2, q3, q4, q5⟩ <;>
 first
  | exact ⟨p4.trans q4.symm, p5.det q5⟩
  | exact ⟨p4.trans q4.symm, p5.trans q5.symm⟩
  | exact ⟨p3.trans q3.symm, p4.trans q4.symm⟩
  | exact ⟨p2.trans q2.symm, p3.trans q3.symm⟩
  | exact absurd (p1.symm.trans q1) (by decide)
  | exact absurd (p2.symm.trans q2) (by decide)
  | exact absurd q3 p3
  | exact absurd p3 q3
section
variable {S : List Int} {first : Int} {K : Nat} {d : Dk}
theorem Went.det {n : Nat} {q1 : Bool} {a : Dk} (h1 : Went S first d n q1 a) : ∀ {q2 : Bool} {b : Dk}, Went S first d n q2 b → q1 = q2 ∧ a = b := by
 induction h1 with
 | start => intro q2 b h2; cases h2; exact ⟨rfl, rfl⟩
 | same hw hd hh ih =>
  intro q2 b h2
  cases h2 with
  | same hw2 hd2 hh2 => exact ih hw2
  | wrote hw2 hd2 hh2 hne hwr =>
   obtain ⟨_, rfl⟩ := ih hw2
   exact absurd (Dk.has_det hh2 hh) hne
 | wrote hw hd hh hne hwr ih =>
  intro q2 b h2
  cases h2 with
  | same hw2 hd2 hh2 =>
   obtain ⟨_, rfl⟩ := ih hw2
   exact absurd (Dk.has_det hh hh2) hne
  | wrote hw2 hd2 hh2 hne2 hwr2 =>
   obtain ⟨_, rfl⟩ := ih hw2
   exact ⟨rfl, (hwr.det hwr2).2⟩
theorem Went.before {m : Nat} {q : Bool} {dm : Dk} (h : Went S first d m q dm) : ∀ n, n < m → ∃ q1 d1 l, Went S first d n q1 d1 ∧ d1.dead = false ∧ d1.has (first + n) l ∧ (l = tileL S n ∨ ∃ d2, Wrote d1 (first + n) (tileL S n) 0 d2) := by
 induction h with
 | start => intro n hn; omega
 | @same m0 q0 d0 hw hd hh ih =>
  intro n hn
  by_cases e : n = m0
  ·subst e; exact ⟨_, _, _, hw, hd, hh, Or.inl rfl⟩
  ·exact ih n (by omega)
 | @wrote m0 q0 d0 d2 l0 hw hd hh hne hwr ih =>
  intro n hn
  by_cases e : n = m0
  ·subst e; exact ⟨_, _, _, hw, hd, hh, Or.inr ⟨_, hwr⟩⟩
  ·exact ih n (by omega)
def Stuck (S : List Int) (first : Int) (n : Nat) (dn : Dk) (e : Int) (d' : Dk) : Prop :=
 (dn.dead = true ∧ e = 2 ∧ d' = dn) ∨ (dn.dead = false ∧ ∃ l, dn.has (first + n) l ∧ l ≠ tileL S n ∧ Wrote dn (first + n) (tileL S n) 2 d' ∧ e = 2)
theorem Stuck.last {n m : Nat} {q q2 : Bool} {dn dm d' : Dk} {e : Int} (h : Went S first d n q dn) (hs : Stuck S first n dn e d') (h2 : Went S first d m q2 dm) : m ≤ n := by
 by_cases hlt : n < m
 ·obtain ⟨q1, d1, l, k1, k2, k3, k4⟩ := h2.before n hlt
  obtain ⟨_, rfl⟩ := h.det k1
  rcases hs with ⟨h3, _⟩ | ⟨h3, l2, h4, h5, h6, _⟩
  ·rw [h3] at k2; cases k2
  ·obtain rfl := Dk.has_det h4 k3
   rcases k4 with k4 | ⟨d2, k4⟩
   ·exact absurd k4 h5
   ·exact absurd (h6.det k4).1 (by decide)
 ·omega
theorem Stuck.det {n : Nat} {dn a b : Dk} {e c : Int} (h1 : Stuck S first n dn e a) (h2 : Stuck S first n dn c b) : e = c ∧ a = b := by
 rcases h1 with ⟨p1, p2, p3⟩ | ⟨p1, l, p2, p3, p4, p5⟩ <;> rcases h2 with ⟨q1, q2, q3⟩ | ⟨q1, m, q2, q3, q4, q5⟩
 ·exact ⟨p2.trans q2.symm, p3.trans q3.symm⟩
 ·rw [p1] at q1; cases q1
 ·rw [p1] at q1; cases q1
 ·exact ⟨p5.trans q5.symm, (p4.det q4).2⟩
theorem Settled.form {e : Int} {d' : Dk} (h : Settled S first K d e d') : (∃ n q dn, n < K ∧ Went S first d n q dn ∧ Stuck S first n dn e d') ∨ ∃ q dn, Went S first d K q dn ∧ (q = false ∧ e = 0 ∧ d' = dn ∨ q = true ∧ Synced dn e d') := by
 rcases h with ⟨n, q, h1, h2, h3, h4⟩ | ⟨n, q, d1, l, h1, h2, h3, h4, h5, h6, h7⟩ | ⟨h1, h2⟩ | ⟨d1, h1, h2⟩
 ·exact Or.inl ⟨n, q, _, h1, h2, Or.inl ⟨h3, h4, rfl⟩⟩
 ·exact Or.inl ⟨n, q, d1, h1, h2, Or.inr ⟨h3, l, h4, h5, h6, h7⟩⟩
 ·exact Or.inr ⟨_, _, h1, Or.inl ⟨rfl, h2, rfl⟩⟩
 ·exact Or.inr ⟨_, _, h1, Or.inr ⟨rfl, h2⟩⟩
theorem Settled.det {e c : Int} {a b : Dk} (h1 : Settled S first K d e a) (h2 : Settled S first K d c b) : e = c ∧ a = b := by
 rcases h1.form with ⟨n, q, dn, p1, p2, p3⟩ | ⟨q, dn, p2, p3⟩ <;> rcases h2.form with ⟨m, q', dm, r1, r2, r3⟩ | ⟨q', dm, r2, r3⟩
 ·have h3 := p3.last p2 r2
  have h4 := r3.last r2 p2
  obtain rfl : n = m := by omega
  obtain ⟨_, rfl⟩ := p2.det r2
  exact p3.det r3
 ·have := p3.last p2 r2; omega
 ·have := r3.last r2 p2; omega
 ·obtain ⟨rfl, rfl⟩ := p2.det r2
  rcases p3 with ⟨x1, x2, x3⟩ | ⟨x1, x2⟩ <;> rcases r3 with ⟨y1, y2, y3⟩ | ⟨y1, y2⟩
  ·exact ⟨x2.trans y2.symm, x3.trans y3.symm⟩
  ·rw [x1] at y1; cases y1
  ·rw [x1] at y1; cases y1
  ·exact x2.det y2
theorem Wrote.ok {i e : Int} {l : List Int} {d' : Dk} (h : Wrote d i l e d') (hok : d.Ok) (h0 : 0 ≤ i) (h1 : i < d.tiles) (hl : l.length = 64) (hb : bytesOk l) : d'.Ok := by
 rcases h with ⟨_, _, rfl⟩ | ⟨_, _, _, rfl⟩ | ⟨_, _, hz, _, rfl⟩ | ⟨_, _, _, _, hc⟩
 ·exact hok
 ·exact ok_store hok h0 h1 hl hb
 ·exact ok_later (ok_store hok h0 h1 hl hb) hz
 ·exact ok_crash (ok_store hok h0 h1 hl hb) hc
end
set_option maxRecDepth 100000
open Go.RowKit Go.Maps
theorem app_nil0 {P : Program} (w : World) (base : Nat) (t ty e : TypeId) (i : TypeInfo) (size : Nat) (ht : P.underlying t = some (.slice e)) (hi : P.info? e = some i)
  (v : Value) (n : Nat) (xs : List Value) (hown : w.ownsRow base e size v n xs) (c : Nat) : (Builtin.append_ #[t, t] ty #[v, .slice none 0 c]).run P w = .ok v w := by
 rcases hown.2 with ⟨rfl, rfl⟩ | ⟨g, cap, cur, rfl, _, _, hnc, _⟩
 ·simp [Builtin.append_, run_underlying ht, sizeOf, typeInfo, hi, Builtin.lenOf, Builtin.firstCells]
 ·simp [Builtin.append_, run_underlying ht, sizeOf, typeInfo, hi, Builtin.lenOf, Builtin.firstCells, hnc, storeCells]
def Src (w : World) (sv : Value) (m : Nat) (news : List Value) : Prop :=
 (∃ c, sv = .slice none 0 c ∧ m = 0 ∧ news = []) ∨ ∃ ad c, sv = .slice (some ad) m c ∧ ∀ j u, news[j]? = some u → w.cell? (ad.add j) = some u
theorem Src.up {w w' : World} {sv : Value} {m : Nat} {news : List Value} (h : Src w sv m news) (hb : Below w.heap.size w w') : Src w' sv m news := by
 rcases h with h | ⟨ad, c, h1, h2⟩
 ·exact .inl h
 ·exact .inr ⟨ad, c, h1, fun j u hu => (World.cell?_of_block (hb.block _ (World.block_lt_of_cell? w _ (h2 j u hu)))).trans (h2 j u hu)⟩
theorem add_more (g i j : Nat) : (⟨g, i, none⟩ : Addr).add j = ⟨g, i + j, none⟩ := by unfold Addr.add; split <;> simp_all
theorem below_grown {B B0 k n : Nat} {e : TypeId} {v : Value} {xs : List Value} {w0 w w' : World} (h : Below B0 w0 w) (ho : w.ownsRow B e k v n xs) (g : w.grownBy w' v.ownBlock) (hB : B0 ≤ w.heap.size) (hBB : B0 ≤ B) : Below B0 w0 w' :=
 ⟨g.os.trans h.os, g.tape.trans h.tape, g.output.trans h.output, Nat.le_trans h.size g.size, fun k hk => (g.block k (by omega) (fun e => by have := (ho.lt k e.symm).1; omega)).trans (h.block k hk)⟩
structure Rt where
 r : Nat
 first : Int
 tiles : Int
 n : Nat
 S : List Int
 steady : Int
def Off (P : Nat → Prop) (v : Value) : Prop := ∀ a n c, v = .slice (some a) n c → n ≠ 0 → ¬ P a.block
structure RtAt (w : World) (q : Nat) (lv av : Value) (P : Nat → Prop) (t : Rt) : Prop where
 bx : w.heap[q]? = some (.cells #[.pointer (some ⟨t.r, 0, none⟩), .int .i64 t.first, .int .i64 t.tiles, lv, av, .int .i64 t.steady] 61 (0, 0))
 row : ∃ news, Src w lv t.n news ∧ news.length = t.n * 16 ∧ ∀ u ∈ news, u.oneCell' = true
 all : SlK .u8 w av t.S
 f0 : 0 ≤ t.first
 f1 : t.first ≤ 2000
 t0 : 0 ≤ t.tiles
 t1 : t.tiles ≤ 2000
 len : (t.S.length : Int) ≤ 63 * t.tiles
 ol : Off P lv
 oa : Off P av
theorem RtAt.c {w : World} {q : Nat} {lv av : Value} {P : Nat → Prop} {t : Rt} (h : RtAt w q lv av P t) (i : Nat) : w.cell? ⟨q, i, none⟩ = (#[.pointer (some ⟨t.r, 0, none⟩), .int .i64 t.first, .int .i64 t.tiles, lv, av, .int .i64 t.steady] : Array Value)[i]? := (c_o h.bx i).1
theorem RtAt.fz {w : World} {q : Nat} {lv av : Value} {P : Nat → Prop} {t : Rt} (h : RtAt w q lv av P t) (i : Nat) : w.frozen? ⟨q, i, none⟩ = false := (c_o h.bx i).2
theorem SlK.far {w w' : World} {v : Value} {l : List Int} (h : SlK .u8 w v l) (hs : w.heap.size ≤ w'.heap.size) (hb : ∀ a n c, v = .slice (some a) n c → n ≠ 0 → a.block < w.heap.size → w'.heap[a.block]? = w.heap[a.block]?) : SlK .u8 w' v l := by
 obtain ⟨p, cap, rfl, h1, h2, h3, h4⟩ := h
 refine ⟨p, cap, rfl, h1, h2, h3, fun a ha => ?_⟩
 obtain ⟨h5, h6, h7⟩ := h4 a ha
 refine ⟨h5, by omega, fun j hj => ?_⟩
 rw [← h7 j hj]
 exact World.cell?_of_block (hb a _ _ (by rw [ha]) (by omega) h6)
theorem Src.far {w w' : World} {v : Value} {n : Nat} {news : List Value} (h : Src w v n news) (hn : n = 0 → news = []) (hb : ∀ a n c, v = .slice (some a) n c → n ≠ 0 → a.block < w.heap.size → w'.heap[a.block]? = w.heap[a.block]?) : Src w' v n news := by
 rcases h with h | ⟨ad, c, rfl, h2⟩
 ·exact .inl h
 ·refine .inr ⟨ad, c, rfl, fun j u hu => ?_⟩
  have hc := h2 j u hu
  have hlt := World.block_lt_of_cell? w _ hc
  have e : (ad.add j).block = ad.block := by unfold Addr.add; split <;> rfl
  rw [e] at hlt
  exact (World.cell?_of_block (by rw [e]; exact hb ad _ _ rfl (fun e0 => by rw [hn e0] at hu; simp at hu) hlt)).trans hc
theorem RtAt.far {w w' : World} {q : Nat} {lv av : Value} {P S : Nat → Prop} {t : Rt} (h : RtAt w q lv av P t) (hf : Fr w.heap.size S w w') (hS : ∀ b, S b → P b) (hq : ¬ S q) : RtAt w' q lv av P t := by
 obtain ⟨news, h1, h2, h3⟩ := h.row
 exact ⟨(hf.block q (Array.getElem?_eq_some_iff.1 h.bx).1 hq).trans h.bx, ⟨news, h1.far (fun e => List.eq_nil_of_length_eq_zero (by simp [h2, e])) fun a n c e hn hl => hf.block _ hl fun k => h.ol a n c e hn (hS _ k), h2, h3⟩, h.all.far hf.size fun a n c e hn hl => hf.block _ hl fun k => h.oa a n c e hn (hS _ k), h.f0, h.f1, h.t0, h.t1, h.len, h.ol, h.oa⟩
theorem fr_of_below {B : Nat} {S : Nat → Prop} {w w' : World} (h : Below B w w') : Fr B S w w' := ⟨h.os, h.tape, h.output, h.size, fun k hk _ => h.block k hk⟩
theorem RtAt.kept {w w' : World} {q : Nat} {lv av : Value} {P : Nat → Prop} {t : Rt} (h : RtAt w q lv av P t) (hb : Below w.heap.size w w') : RtAt w' q lv av P t :=
 h.far (S := fun _ => False) (fr_of_below hb) (fun _ e => e.elim) (fun e => e)
theorem rleft_any (w : World) {q : Nat} {lv av : Value} {P : Nat → Prop} {t : Rt} (h : RtAt w q lv av P t) : Calls Tryz.prog 28 #[.pointer (some ⟨q, 0, none⟩)] w fun e w' => e = .returned (.int .i64 (t.tiles * 63 - t.S.length)) ∧ Below w.heap.size w w' := by
 obtain ⟨A, c, rfl, hc⟩ := h.all.form
 have x2 : w.drew.cell? ⟨q, 2, none⟩ = some (.int .i64 t.tiles) := h.c 2
 have x4 : w.drew.cell? ⟨q, 4, none⟩ = some (.slice A t.S.length c) := h.c 4
 have y2 : w.cell? ⟨q, 2, none⟩ = some (.int .i64 t.tiles) := h.c 2
 have y4 : w.cell? ⟨q, 4, none⟩ = some (.slice A t.S.length c) := h.c 4
 have t0 := h.t0
 have t1 := h.t1
 have hl := h.len
 generalize t.S.length = n at *
 generalize t.tiles = k at *
 clear h
 go_enter Tryz.func28, Tryz.ntmps28
 go_wp2
 go_region
 all_goals go_wp2
 all_goals go_ret
 all_goals exact ⟨rfl, (Below.refl _ _).drew⟩
theorem bstr_data (l : List Int) : (bstr l).data.toList = l.map (fun n => UInt8.ofNat n.toNat) := by
 unfold bstr
 rw [bstr_list]
 rfl
theorem bstr_sz (l : List Int) : (bstr l).size = l.length := by
 have h := congrArg List.length (bstr_data l)
 have e : (bstr l).data.toList.length = (bstr l).size := Array.length_toList
 rw [e, List.length_map] at h
 exact h
theorem back_slK (W : World) {l : List Int} (hok : bytesOk l) (c : Nat) (hc : l.length ≤ c) : SlK .u8 (Lib.bytesWorld W 5 (bstr l)) (.slice (some ⟨W.heap.size, 0, none⟩) l.length c) l := by
 have h := pre_slK (w := Lib.bytesWorld W 5 (bstr l)) (g := W.heap.size) (n := l.length) (cap := c) (L := l) (by rw [Lib.bytesWorld_size]; omega) hok (fun j hj => by
  rw [Lib.bytesWorld_cell W 5 (bstr l) j (by rw [bstr_sz]; exact hj), bstr_data]
  have hx := hok l[j] (List.getElem_mem hj)
  rw [List.getD_eq_getElem?_getD, List.getElem?_map, List.getElem?_eq_getElem hj]
  simp only [Option.map_some, Option.getD_some]
  rw [UInt8.toNat_ofNat', Nat.mod_eq_of_lt (by omega)]
  congr 2
  omega) (Nat.le_refl _) hc
 rwa [List.take_length] at h
set_option maxRecDepth 100000
open Go.RowKit Go.Maps
section
variable {w0 w w' : World} {r gn gw gt gm : Nat} {vn vw vt : Value} {f : Rf} {d d' : Dk}
theorem slB_slK {W : World} {g n c : Nat} {l : List Int} (h : SlK .u8 W (.slice (some ⟨g, 0, none⟩) n c) l) (hl : l.length ≤ 1000000) : SlB W (.slice (some ⟨g, 0, none⟩) n c) l g := by
 obtain ⟨p, cap, e, h1, h2, h3, h4⟩ := h
 injection e with e1 e2 e3
 subst e1 e3
 obtain ⟨h5, h6, h7⟩ := h4 _ rfl
 refine ⟨_, n, c, rfl, e2, by omega, by omega, (fun e => by cases e), fun a ha _ => ?_⟩
 injection ha with ha
 subst ha
 exact ⟨rfl, rfl, fun j hj => h7 j hj⟩
theorem Tw.up (h : Tw w0 w r gn gw gt gm vn vw vt f d) (hb : Below w.heap.size w w') : Tw w0 w' r gn gw gt gm vn vw vt f d := by
 obtain ⟨f', h1, h2, h3, h4, h5, h6⟩ := h
 exact ⟨f', h1, h2, h3.grow hb.block, h4, h5, h6.trans (fr_of_below hb) h6.size (fun x _ hx => hx)⟩
theorem Tw.next {f1 : Rf} (h : Fr w0.heap.size (Four r gn gw gt) w0 w) (hm : f1.mask = f.mask) (hk : f1.k = f.k) (h2 : Tw w w' r gn gw gt gm vn vw vt f1 d) : Tw w0 w' r gn gw gt gm vn vw vt f d := by
 obtain ⟨f', h1, h2, h3, h4, h5, h6⟩ := h2
 exact ⟨f', h1, h2, h3, h4.trans hm, h5.trans hk, h.trans h6 h.size (fun x _ hx => hx)⟩
end
def LyRel (w : World) (q : Nat) (lv av : Value) (P : Nat → Prop) (t : Rt) (gn gw gt gm : Nat) (vn vw vt : Value) (f : Rf) (d : Dk) (k : Nat) (b : Bool) (wr : World) : Prop :=
 ∃ d', Went t.S t.first d k b d' ∧ d'.dead = false ∧ Tw w wr t.r gn gw gt gm vn vw vt f d' ∧ RtAt wr q lv av P t
def LyPost (w : World) (q : Nat) (lv av : Value) (P : Nat → Prop) (t : Rt) (gn gw gt gm : Nat) (vn vw vt : Value) (f : Rf) (d : Dk) (e : Ending) (w' : World) : Prop :=
 ∃ (c : Int) (d' : Dk), e = .returned (.int .i64 c) ∧ Settled t.S t.first t.tiles.toNat d c d' ∧ Tw w w' t.r gn gw gt gm vn vw vt f d' ∧ RtAt w' q lv av P t
set_option maxHeartbeats 1000000 in
theorem rlay_any (w : World) {q : Nat} {lv av : Value} {P : Nat → Prop} {t : Rt} {gn gw gt gm : Nat} {vn vw vt : Value} {f : Rf} {d : Dk} (h : RtAt w q lv av P t) (hr : RfAt w t.r gn gw gt gm vn vw vt f) (hL : Like d f) (hok : d.Ok) (hd : d.dead = false)
  (hfit : t.first + t.tiles ≤ f.k) (hP : ∀ b, Four t.r gn gw gt b → P b) (hq : ¬ Four t.r gn gw gt q) : Calls Tryz.prog 39 #[.pointer (some ⟨q, 0, none⟩)] w (LyPost w q lv av P t gn gw gt gm vn vw vt f d) := by
 have t0 := h.t0
 have t1 := h.t1
 have t2 := h.f0
 have t3 := h.f1
 have hlen := h.len
 obtain ⟨K, hK⟩ : ∃ K : Nat, t.tiles = (K : Int) := ⟨t.tiles.toNat, by omega⟩
 obtain ⟨F, hF⟩ : ∃ F : Nat, t.first = (F : Int) := ⟨t.first.toNat, by omega⟩
 have hSl : t.S.length ≤ 126000 := by omega
 have H1 : Hid (LyRel w q lv av P t gn gw gt gm vn vw vt f d 0 false w) := Lib.hid ⟨d, Went.start, hd, ⟨f, hL, hok, hr, rfl, rfl, fr_id _ _ _⟩, h⟩
 have HK := Lib.hid hK
 have HF := Lib.hid hF
 have HP := Lib.hid hP
 have HQ := Lib.hid hq
 have hK0 : K ≤ 2000 := by omega
 have hF0 : F ≤ 2000 := by omega
 have HFit : Hid (F + K ≤ f.k) := Lib.hid (by omega)
 have HSl := Lib.hid hSl
 clear h hr hL hok hd hfit hP hq t0 t1 t2 t3 hlen hK hF hSl
 go_enter Tryz.func39, Tryz.ntmps39
 go_wp2
 go_loopw [3, 4] (fun b i wr => ∃ (u : Bool) (n : Nat), n ≤ K ∧ i = .int .i64 n ∧ b = .bool u ∧ Hid (LyRel w q lv av P t gn gw gt gm vn vw vt f d n u wr)) (fun _ i _ => K - ivT i)
 case atStart => exact ⟨false, 0, Nat.zero_le _, rfl, rfl, H1⟩
 case round =>
  obtain ⟨u, n, hn, rfl, rfl, HR⟩ := hrel
  obtain ⟨d', hw, hdd, htw, hat⟩ := HR.out
  clear H1
  have x2 : wr.cell? ⟨q, 2, none⟩ = some (.int .i64 t.tiles) := hat.c 2
  rw [HK.out] at x2
  by_cases hlt : n < K
  ·have hlt2 : (n : Int) < (K : Int) := by omega
   have x4 : wr.cell? ⟨q, 4, none⟩ = some av := hat.c 4
   have HT := Lib.hid (rtile_any wr hat.all HSl.out n (by omega))
   have HW := Lib.hid hw
   have HDD := Lib.hid hdd
   have HTW := Lib.hid htw
   have HAT := Lib.hid hat
   clear hw hdd htw hat HR
   go_upto_region 6 with (go_at_call 61; refine HT.out.mono ?_; rintro e w1 ⟨rfl, hb1⟩; have HB := Lib.hid hb1; clear hb1)
   obtain ⟨f1, hL1, hok1, hr1, hm1, hk1, hf1⟩ := HTW.out.up HB.out
   have hat1 := HAT.out.kept HB.out
   have hk1' : 0 < f1.k := by have := HFit.out; omega
   obtain ⟨X, hXe⟩ : ∃ X : Nat, X = F + n := ⟨_, rfl⟩
   have hX : X < f1.k := by have := HFit.out; omega
   obtain ⟨cn, hvn, hcn⟩ := hr1.sn.some hk1'
   have y0 : w1.cell? ⟨q, 0, none⟩ = some (.pointer (some ⟨t.r, 0, none⟩)) := hat1.c 0
   have y1 : w1.cell? ⟨q, 1, none⟩ = some (.int .i64 t.first) := hat1.c 1
   rw [HF.out] at y1
   have z0 := hr1.c0
   rw [hvn] at z0
   have v0 : w1.cell? ⟨gn, X, none⟩ = some (.string (f1.now X)) := ((hr1.now hk1').cell hX).1
   have hXi : (X : Int) < (f1.k : Int) := by omega
   have q1 : (F : Int) + (n : Int) = (X : Int) := by omega
   have q2 : IntKind.i64.wrap (X : Int) = (X : Int) := IntWalk.i64_in _ (by omega)
   obtain ⟨l, l1, l2, l3, l4⟩ := (hL1.2.2.2.2 X hX).1
   have hhas : d'.has (t.first + n) l := by rw [HF.out, q1]; exact ⟨l3, l1, l2⟩
   rw [l4] at v0
   have HSE : Hid (bstr l = bstr (tileL t.S n) → l = tileL t.S n) := Lib.hid (bstr_inj l2 (tileL_ok HAT.out.all.ok n))
   obtain ⟨s, hs⟩ : ∃ s, s = bstr (tileL t.S n) := ⟨_, rfl⟩
   obtain ⟨s1, hs1⟩ : ∃ s, s = bstr l := ⟨_, rfl⟩
   rw [← hs, ← hs1] at HSE
   rw [← hs1] at v0
   rw [← hs]
   have HS := Lib.hid hs
   have HS1 := Lib.hid hs1
   have HHas := Lib.hid hhas
   have HR1 : Hid (RfAt w1 t.r gn gw gt gm vn vw vt f1 ∧ Like d' f1 ∧ d'.Ok ∧ f1.mask = f.mask ∧ f1.k = f.k ∧ Fr w.heap.size (Four t.r gn gw gt) w w1) := Lib.hid ⟨hr1, hL1, hok1, hm1, hk1, hf1⟩
   have HA1 := Lib.hid hat1
   have HX := Lib.hid hX
   clear hXe hs hs1 l1 l2 l3 l4 hhas hr1 hL1 hok1 hm1 hk1 hf1 hat1 hcn x2 x4 HT hk1' hX hvn
   have HQ1 : Hid ((s1.toList == s.toList) = true → l = tileL t.S n) := Lib.hid fun e => HSE.out (by
    have e2 := eq_of_beq e
    rw [toList_eq, toList_eq] at e2
    exact ByteArray.ext (Array.toList_inj.1 e2))
   have HQ2 : Hid (l = tileL t.S n → s1 = s) := Lib.hid fun e => by rw [HS1.out, HS.out, e]
   clear HSE
   cases hq : (s1.toList == s.toList) with
   | true =>
    have hle : l = tileL t.S n := HQ1.out hq
    have HR2 : Hid (∀ k, LyRel w q lv av P t gn gw gt gm vn vw vt f d (n + 1) u (w1.drewN k)) := Lib.hid fun k =>
     ⟨d', Went.same HW.out HDD.out (by rw [← hle]; exact HHas.out), HDD.out, HTW.out.up (HB.out.trans ((below_drewN _ _ k).mono HB.out.size)), HA1.out.kept (below_drewN _ _ k)⟩
    clear hle HQ1 HQ2
    go_quiet (fail)
    go_wp2
    go_roundw
    all_goals first
     | exact ⟨u, n + 1, hlt, by go_num, rfl, HR2.out _⟩
     | (simp [ivT]; omega)
   | false =>
    have HNE : Hid (l ≠ tileL t.S n) := Lib.hid fun e => by rw [HQ2.out e] at hq; simp at hq
    clear HQ1 HQ2
    go_quiet (fail)
    have HB2 := Lib.hid (below_drewN w1.heap.size w1 nq)
    have HR2 := Lib.hid (HR1.out.1.grow HB2.out.block)
    have HA2 := Lib.hid (HA1.out.kept HB2.out)
    have y0 : (w1.drewN nq).cell? ⟨q, 0, none⟩ = some (.pointer (some ⟨t.r, 0, none⟩)) := y0
    have y1 : (w1.drewN nq).cell? ⟨q, 1, none⟩ = some (.int .i64 F) := y1
    clear v0 z0 hq
    generalize w1.drewN nq = w2 at *
    have y0d : w2.drew.cell? ⟨q, 0, none⟩ = some (.pointer (some ⟨t.r, 0, none⟩)) := y0
    have y1d : w2.drew.cell? ⟨q, 1, none⟩ = some (.int .i64 F) := y1
    have hqs : q < w2.drew.heap.size := World.block_lt_of_cell? _ _ y0d
    have y0b : (Lib.bytesWorld w2.drew 5 s).cell? ⟨q, 0, none⟩ = some (.pointer (some ⟨t.r, 0, none⟩)) := (Lib.bytesWorld_old _ _ _ _ hqs).trans y0d
    have y1b : (Lib.bytesWorld w2.drew 5 s).cell? ⟨q, 1, none⟩ = some (.int .i64 F) := (Lib.bytesWorld_old _ _ _ _ hqs).trans y1d
    have hss : s.size = 64 := by rw [HS.out, bstr_sz, tileL_len]
    have hcv : (convert 9 36 (.string s)).run Tryz.prog w2.drew = .ok (.slice (some ⟨w2.drew.heap.size, 0, none⟩) 64 (grownCap w2.drew 64 0 5)) (Lib.bytesWorld w2.drew 5 s) := by
     have := Lib.run_convert_string_bytes w2.drew 9 36 5 s Tryz.underlying9 Tryz.underlying36 Tryz.underlying5
     rwa [hss] at this
    obtain ⟨W3, hW3⟩ : ∃ W, W = Lib.bytesWorld w2.drew 5 s := ⟨_, rfl⟩
    obtain ⟨G, hG⟩ : ∃ G, G = w2.drew.heap.size := ⟨_, rfl⟩
    obtain ⟨c, hc⟩ : ∃ c, c = grownCap w2.drew 64 0 5 := ⟨_, rfl⟩
    rw [← hW3] at y0b y1b hcv
    rw [← hG, ← hc] at hcv
    have HS3 : Hid (SlK .u8 W3 (.slice (some ⟨G, 0, none⟩) 64 c) (tileL t.S n)) := Lib.hid (by
     have h64 : (tileL t.S n).length = 64 := tileL_len _ _
     have h := back_slK w2.drew (tileL_ok HA2.out.all.ok n) c (by rw [h64, hc]; exact grownCap_ge _ _ _ _)
     rw [h64, ← HS.out, ← hG, ← hW3] at h
     exact h)
    have HB3 : Hid (Below w2.heap.size w2 W3) := Lib.hid (by
     have b1 : Below w2.heap.size w2 w2.drew := (Below.refl _ _).drew
     have b2 : Below w2.heap.size w2.drew (Lib.bytesWorld w2.drew 5 s) := below_bytes (B := w2.heap.size) (w := w2.drew) (Nat.le_refl _) _ _
     rw [hW3]
     exact b1.trans b2)
    have hGr : G ≠ t.r := by
     have := (Array.getElem?_eq_some_iff.1 HR2.out.cells).1
     have e : w2.drew.heap.size = w2.heap.size := rfl
     omega
    have HWr : Hid (Calls Tryz.prog 21 #[.pointer (some ⟨t.r, 0, none⟩), .int .i64 X, .slice (some ⟨G, 0, none⟩) 64 c] W3 fun e w' => ∃ (c : Int) (d2 : Dk), e = .returned (.int .i64 c) ∧ Wrote d' (t.first + n) (tileL t.S n) c d2 ∧ Tw w w' t.r gn gw gt gm vn vw vt f d2 ∧ RtAt w' q lv av P t) := Lib.hid (by
     obtain ⟨-, hL1, hok1, hm1, hk1, hf1⟩ := HR1.out
     have hr3 := HR2.out.grow HB3.out.block
     have ha3 := HA2.out.kept HB3.out
     have hb13 : Below w1.heap.size w1 W3 := HB2.out.trans (HB3.out.mono HB2.out.size)
     have hf3 : Fr w.heap.size (Four t.r gn gw gt) w W3 := hf1.trans (fr_of_below hb13) hf1.size (fun x _ hx => hx)
     obtain ⟨gs, hsb⟩ : ∃ gs, gs = G ∧ SlB W3 (.slice (some ⟨G, 0, none⟩) 64 c) (tileL t.S n) gs := ⟨G, rfl, slB_slK HS3.out (by rw [tileL_len]; omega)⟩
     obtain ⟨rfl, hsb⟩ := hsb
     refine (rwrite_like hr3 hL1 hok1 X HX.out hsb (tileL_ok HA2.out.all.ok n) (tileL_len _ _) hGr).mono ?_
     rintro e w' ⟨c, d2, rfl, k1, k2⟩
     refine ⟨c, d2, rfl, by rw [HF.out, q1]; exact k1, Tw.next hf3 hm1 hk1 k2, ?_⟩
     obtain ⟨f', _, _, _, _, _, hf'⟩ := k2
     exact ha3.far hf' HP.out HQ.out)
    have HWE : Hid (∀ d2, Wrote d' (t.first + n) (tileL t.S n) 0 d2 → Went t.S t.first d (n + 1) true d2) := Lib.hid fun d2 h => Went.wrote HW.out HDD.out HHas.out HNE.out h
    have HWN : Hid (∀ d2, Wrote d' (t.first + n) (tileL t.S n) 2 d2 → Settled t.S t.first t.tiles.toNat d 2 d2) := Lib.hid fun d2 h => Or.inr (Or.inl ⟨n, u, d', l, by have := HK.out; omega, HW.out, HDD.out, HHas.out, HNE.out, h, rfl⟩)
    clear hqs hss hW3 hG hc HS3 hGr HB3 HR2 HA2 HB2 HR1 HA1 HW HDD HTW HAT HB HNE HHas HS HS1 HX hXi
    go_upto_region 8 with (fail)
    go_cut [6] (fun v wx => ∃ (c : Int) (d2 : Dk), v = .int .i64 c ∧ Wrote d' (t.first + n) (tileL t.S n) c d2 ∧ Tw w wx t.r gn gw gt gm vn vw vt f d2 ∧ RtAt wx q lv av P t)
    case first =>
     go_region_with (go_at_call 21; refine HWr.out.mono ?_; rintro e w4 ⟨c2, d2, rfl, hk⟩; have HQ4 := Lib.hid hk; clear hk)
     all_goals go_wp2
     all_goals go_meet
     all_goals exact ⟨c2, d2, rfl, HQ4.out⟩
    case rest =>
     obtain ⟨c2, d2, rfl, hwr, htw, hat⟩ := hcut
     generalize wc = w4 at *
     have HTW4 := Lib.hid htw
     have HAT4 := Lib.hid hat
     clear hat htw y0 y1 y0d y1d y0b y1b hcv HWr
     rcases hwr.err with ⟨rfl, hd2⟩ | ⟨rfl, _⟩
     ·have HR4 : Hid (LyRel w q lv av P t gn gw gt gm vn vw vt f d (n + 1) true w4) := Lib.hid ⟨d2, HWE.out d2 hwr, hd2, HTW4.out, HAT4.out⟩
      clear hwr hd2
      go_wp2
      go_roundw
      all_goals first
       | exact ⟨true, n + 1, hlt, by go_num, rfl, HR4⟩
       | (simp [ivT]; omega)
     ·have HE : Hid (LyPost w q lv av P t gn gw gt gm vn vw vt f d (.returned (.int .i64 2)) w4) := Lib.hid ⟨2, d2, rfl, HWN.out d2 hwr, HTW4.out, HAT4.out⟩
      clear hwr
      go_wp2
      go_ret
      exact HE.out
  ·obtain rfl : n = K := by omega
   have hkt : n = t.tiles.toNat := by have := HK.out; omega
   rw [hkt] at hw
   cases u with
   | false =>
    have HE : Hid (LyPost w q lv av P t gn gw gt gm vn vw vt f d (.returned (.int .i64 0)) wr) := Lib.hid ⟨0, d', rfl, Or.inr (Or.inr (Or.inl ⟨hw, rfl⟩)), htw, hat⟩
    clear hw hdd htw hat HR hkt
    go_wp2
    go_ret
    exact HE.out
   | true =>
    have x0 : wr.cell? ⟨q, 0, none⟩ = some (.pointer (some ⟨t.r, 0, none⟩)) := hat.c 0
    obtain ⟨f1, hL1, hok1, hr1, hm1, hk1, hf1⟩ := id htw
    have HY := Lib.hid (rsync_like hr1 hL1 hok1)
    have HN : Hid (∀ c d2 wx, Synced d' c d2 → Tw wr wx t.r gn gw gt gm vn vw vt f1 d2 → LyPost w q lv av P t gn gw gt gm vn vw vt f d (.returned (.int .i64 c)) wx) := Lib.hid fun c d2 wx k1 k2 => by
     obtain ⟨f', _, _, _, _, _, hf'⟩ := id k2
     exact ⟨c, d2, rfl, Or.inr (Or.inr (Or.inr ⟨_, hw, k1⟩)), Tw.next hf1 hm1 hk1 k2, hat.far hf' HP.out HQ.out⟩
    clear hw hdd htw hat HR hkt hL1 hok1 hr1 hm1 hk1 hf1
    go_wp2_with fail
    refine HY.out.mono ?_
    rintro r w2 ⟨c, d2, rfl, hs2, h2⟩
    have HE := Lib.hid (HN.out c d2 w2 hs2 h2)
    clear hs2 h2 HN HY x0
    go_wp2
    go_ret
    exact HE.out
end Go.Proofs.YthmgafcnoedmjaaGreat
