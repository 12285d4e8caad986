/- The two disks side by side: each operation, done to both, keeps them alike. -/
import Derived.Test.YtliakndgbfbicaaRan
namespace Go.Proofs.Ytliakndgbfbicaa
open Go.RowKit Go.Maps

structure Pr (B : Nat) (W : World) (p bn bo g r gn gw gt gm : Nat) (vn vw vt : Value) (d : Dk) (f : Rf) : Prop where
  dk : DiskAt W p bn bo g d
  rf : RfAt W r gn gw gt gm vn vw vt f
  like : Like d f
  mv : d.mv = .slice none 0 0 ∨ ∃ a n c, d.mv = .slice (some a) n c
  lo : B ≤ p ∧ B ≤ bn ∧ B ≤ bo ∧ B ≤ r ∧ B ≤ gn ∧ B ≤ gw ∧ B ≤ gt
  ap : ∀ x, Three p bn bo x → ¬ Four r gn gw gt x ∧ (f.mask ≠ [] → x ≠ gm)
  ag : d.mask ≠ [] → ¬ Four r gn gw gt g

theorem SlB.fr2 {W W' : World} {v : Value} {l : List Int} {g : Nat} {S : Nat → Prop} (h : SlB W v l g) (hf : Fr W.heap.size S W W') (hg : l ≠ [] → ¬ S g) : SlB W' v l g := by
  by_cases hl : l = []
  · subst hl
    obtain ⟨p0, len, cap, e, e2, hle, hcap, hn, ha⟩ := h
    exact ⟨p0, len, cap, e, e2, hle, hcap, hn, fun _ _ hne => absurd rfl hne⟩
  · exact h.fr hf (hg hl)
theorem RfAt.fr {w w' : World} {r gn gw gt gm : Nat} {vn vw vt : Value} {d : Rf} {S : Nat → Prop} (h : RfAt w r gn gw gt gm vn vw vt d) (hf : Fr w.heap.size S w w') (hS : ∀ x, Four r gn gw gt x → ¬ S x) (hm : d.mask ≠ [] → ¬ S gm) : RfAt w' r gn gw gt gm vn vw vt d :=
  ⟨(hf.block r (Array.getElem?_eq_some_iff.1 h.cells).1 (hS _ (Or.inl rfl))).trans h.cells, h.sn, h.sw, h.st, fun k => (h.now k).of_block (hf.block _ (h.now k).lt (hS _ (Or.inr (Or.inl rfl)))), fun k => (h.was k).of_block (hf.block _ (h.was k).lt (hS _ (Or.inr (Or.inr (Or.inl rfl))))), fun k => (h.wet k).of_block (hf.block _ (h.wet k).lt (hS _ (Or.inr (Or.inr (Or.inr rfl))))), h.mask.fr2 hf hm, h.ne, h.kle, h.ok, h.mok, h.nil0⟩
theorem DiskAt.fr {w w' : World} {p bn bo g : Nat} {d : Dk} {S : Nat → Prop} (h : DiskAt w p bn bo g d) (hf : Fr w.heap.size S w w') (hS : ∀ x, Three p bn bo x → ¬ S x) (hm : d.mask ≠ [] → ¬ S g) : DiskAt w' p bn bo g d :=
  ⟨(hf.block p h.lt.1 (hS _ (Or.inl rfl))).trans h.cells, h.now.of_block (hf.block bn h.lt.2.1 (hS _ (Or.inr (Or.inl rfl)))), h.old.of_block (hf.block bo h.lt.2.2 (hS _ (Or.inr (Or.inr rfl)))), h.mask.fr2 hf hm, h.ne, h.ok⟩
theorem below_of_fr {B : Nat} {S : Nat → Prop} {w w' : World} (h : Fr w.heap.size S w w') (hS : ∀ x, S x → B ≤ x) (hB : B ≤ w.heap.size) : Below B w w' := ⟨h.os, h.tape, h.output, h.size, fun k hk => h.block k (by omega) (fun e => by have := hS k e; omega)⟩
theorem ok_store {d : Dk} (h : d.Ok) {i : Int} (h0 : 0 ≤ i) (h1 : i < d.tiles) {l : List Int} (hl : l.length = 64) (hb : bytesOk l) : (d.store i (blkOf l)).Ok := by
  refine ⟨h.lo, h.hi, range_upd h.now h0 h1 (blkOf_blk hl hb), ?_, h.llo, h.lhi, h.mok⟩
  show ∀ j v, (if (d.old i).isSome = true then d.old else upd d.old i (some ((d.now i).getD zb))) j = some v → _
  split
  · exact h.old
  · exact range_upd h.old h0 h1 (now_blk h i)
theorem like_at {d : Dk} {f : Rf} (h : Like d f) (hs : d.set = false) (x : Int) : Like d { f with at_ := x } := by
  obtain ⟨h1, h2, h3, h4, h5⟩ := h
  refine ⟨h1, h2, h3, fun e => ?_, h5⟩
  rw [hs] at e; cases e

section
variable {B : Nat} {W : World} {p bn bo g r gn gw gt gm : Nat} {vn vw vt : Value} {d : Dk} {f : Rf}
theorem Pr.three (h : Pr B W p bn bo g r gn gw gt gm vn vw vt d f) : ∀ x, Three p bn bo x → B ≤ x := by
  obtain ⟨l1, l2, l3, _⟩ := h.lo
  rintro x (rfl | rfl | rfl) <;> assumption
theorem Pr.four (h : Pr B W p bn bo g r gn gw gt gm vn vw vt d f) : ∀ x, Four r gn gw gt x → B ≤ x := by
  obtain ⟨_, _, _, l4, l5, l6, l7⟩ := h.lo
  rintro x (rfl | rfl | rfl | rfl) <;> assumption
theorem Pr.four3 (h : Pr B W p bn bo g r gn gw gt gm vn vw vt d f) : ∀ x, Four r gn gw gt x → ¬ Three p bn bo x := fun x hx h3 => (h.ap x h3).1 hx
theorem Pr.gm3 (h : Pr B W p bn bo g r gn gw gt gm vn vw vt d f) : f.mask ≠ [] → ¬ Three p bn bo gm := fun hm h3 => (h.ap gm h3).2 hm rfl
/-- The reference's disk behind an operation on the disk. -/
theorem Pr.rf' (h : Pr B W p bn bo g r gn gw gt gm vn vw vt d f) {W' : World} (hf : Fr W.heap.size (Three p bn bo) W W') : RfAt W' r gn gw gt gm vn vw vt f := h.rf.fr hf h.four3 h.gm3
theorem Pr.grow (h : Pr B W p bn bo g r gn gw gt gm vn vw vt d f) {W' : World} (hb : Below W.heap.size W W') : Pr B W' p bn bo g r gn gw gt gm vn vw vt d f :=
  ⟨h.dk.kept hb.block, h.rf.grow hb.block, h.like, h.mv, h.lo, h.ap, h.ag⟩

/-- The two disks, wherever their rows lie. -/
def Inv (B : Nat) (W : World) (p r : Nat) : Prop := ∃ bn bo g gn gw gt gm vn vw vt d f, Pr B W p bn bo g r gn gw gt gm vn vw vt d f
theorem Pr.inv (h : Pr B W p bn bo g r gn gw gt gm vn vw vt d f) : Inv B W p r := ⟨_, _, _, _, _, _, _, _, _, _, _, _, h⟩

/-- The disk has turned, then the reference's. -/
theorem Pr.both (h : Pr B W p bn bo g r gn gw gt gm vn vw vt d f) {w1 w2 : World} {d' : Dk} {f' : Rf} (h1 : DiskAt w1 p bn bo g d') (h2 : RfAt w2 r gn gw gt gm vn vw vt f') (f2 : Fr w1.heap.size (Four r gn gw gt) w1 w2)
    (hl : Like d' f') (hma : d'.mask ≠ [] → d.mask ≠ []) (hmb : f'.mask ≠ [] → f.mask ≠ []) (hmv : d'.mv = .slice none 0 0 ∨ ∃ a n c, d'.mv = .slice (some a) n c) : Pr B w2 p bn bo g r gn gw gt gm vn vw vt d' f' :=
  ⟨h1.fr f2 (fun x hx => (h.ap x hx).1) (fun e => h.ag (hma e)), h2, hl, hmv, h.lo, fun x hx => ⟨(h.ap x hx).1, fun e => (h.ap x hx).2 (hmb e)⟩, fun e => h.ag (hma e)⟩

theorem fr_id (B : Nat) (S : Nat → Prop) (w : World) : Fr B S w w := ⟨rfl, rfl, rfl, Nat.le_refl _, fun _ _ _ => rfl⟩
theorem fr_poke (B r : Nat) (S : Nat → Prop) (hS : S r) (w : World) (i : Nat) (v : Value) : Fr B S w (w.setCell ⟨r, i, none⟩ v) := (fr_id B S w).setCell (Or.inl hS) v

theorem write_pair (h : Pr B W p bn bo g r gn gw gt gm vn vw vt d f) (hB : B ≤ W.heap.size) (i : Int) {p0 : Option Addr} {len cap : Nat} {l : List Int} {gs : Nat} (hs : SlB W (.slice p0 len cap) l gs) (hok : bytesOk l) (h3 : ¬ Three p bn bo gs) (h4 : gs ≠ r) :
    Calls Try.prog 7 #[.pointer (some ⟨p, 0, none⟩), .int .i64 i, .slice p0 len cap] W fun e w1 => ∃ er : Int, e = .returned (.int .i64 er) ∧ Fr W.heap.size (Three p bn bo) W w1 ∧
      ∀ v, Below w1.heap.size w1 v → Calls Try.prog 8 #[.pointer (some ⟨r, 0, none⟩), .int .i64 i, .slice p0 len cap] v fun e2 w2 => e2 = .returned (.int .i64 er) ∧ Below B v w2 ∧ Inv B w2 p r := by
  obtain ⟨k1, k2, k3, k4, k5⟩ := id h.like
  cases ho : f.off with
  | true =>
    refine (write_dead W h.dk (by rw [k2, ho]) i _).mono ?_
    rintro e w1 ⟨rfl, rfl⟩
    refine ⟨2, rfl, fr_id _ _ _, fun v hv => (rwrite_off (h.rf.grow hv.block) ho i _).mono ?_⟩
    rintro e w2 ⟨rfl, rfl⟩
    exact ⟨rfl, Below.refl _ _, (h.grow hv).inv⟩
  | false =>
    have hd : d.dead = false := by rw [k2, ho]
    have hlen : len = l.length := by obtain ⟨_, _, _, e, e2, _⟩ := hs; injection e with e1 e3 e4; omega
    by_cases hi : ¬ (0 ≤ i ∧ i < f.k) ∨ len ≠ 64
    · have hw : Calls Try.prog 7 #[.pointer (some ⟨p, 0, none⟩), .int .i64 i, .slice p0 len cap] W fun e w' => e = .returned (.int .i64 1) ∧ w' = W := by
        rcases hi with hi | hi
        · exact write_far W h.dk hd i (by rw [k1]; exact hi) _
        · exact write_short W h.dk hd i p0 len cap hi
      refine hw.mono ?_
      rintro e w1 ⟨rfl, rfl⟩
      refine ⟨1, rfl, fr_id _ _ _, fun v hv => (rwrite_bad (h.rf.grow hv.block) ho i p0 len cap hi).mono ?_⟩
      rintro e w2 ⟨rfl, rfl⟩
      exact ⟨rfl, Below.refl _ _, (h.grow hv).inv⟩
    · have hi2 : (0 ≤ i ∧ i < f.k) ∧ len = 64 := by
        refine ⟨?_, ?_⟩
        · exact Decidable.byContradiction fun e => hi (Or.inl e)
        · exact Decidable.byContradiction fun e => hi (Or.inr e)
      obtain ⟨⟨i0, i1⟩, hl64⟩ := hi2
      have hl : l.length = 64 := by omega
      obtain ⟨n, rfl⟩ := Int.eq_ofNat_of_zero_le i0
      have hn : n < f.k := by omega
      cases hset : d.set with
      | false =>
        have hon : f.on = false := by rw [← k3, hset]
        refine (write_plain W h.dk hd n i0 (by omega) _ l hs hl hok hset).mono ?_
        rintro e w1 ⟨rfl, h1, f1⟩
        refine ⟨0, rfl, f1, ?_⟩
        intro w1 hv
        have hsv := (hs.fr f1 h3).kept hv.block
        have hr := (h.rf' f1).grow hv.block
        replace h1 := h1.kept hv.block
        have hz := Nat.le_trans f1.size hv.size
        refine (rwrite_gen (post := fun e2 w2 => e2 = .returned (.int .i64 0) ∧ Below B w1 w2 ∧ Inv B w2 p r) hr ho n hn (rcut_off hr hon) hr rfl hsv hl ?_).mono (fun _ _ hh => hh.1)
        intro w2 h2 f2
        refine (rdone_no w2 r).mono ?_
        rintro e w3 ⟨rfl, rfl⟩
        exact ⟨_, rfl, rfl, below_of_fr f2 h.four (Nat.le_trans hB hz), (h.both h1 h2 f2 (like_put h.like hn hl hok) (fun e => e) (fun e => e) h.mv).inv⟩
      | true =>
        have hon : f.on = true := by rw [← k3, hset]
        obtain ⟨q1, q2⟩ := k4 hset
        have hlo := h.dk.ok.llo
        by_cases hleft : d.left = 0
        · refine (write_cut W h.dk hd n i0 (by omega) _ l hs hl hok hset hleft).mono ?_
          rintro e w1 ⟨rfl, d', hcr, h1, f1⟩
          refine ⟨2, rfl, f1, ?_⟩
          intro w1 hv
          have hsv := (hs.fr f1 h3).kept hv.block
          have hr := (h.rf' f1).grow hv.block
          replace h1 := h1.kept hv.block
          have hz := Nat.le_trans f1.size hv.size
          have hcut := rcut_on hr hon (by omega)
          rw [show decide (f.at_ = 0) = true by simp; omega] at hcut
          have hp := fr_poke w1.heap.size r (Four r gn gw gt) (Or.inl rfl) w1 5 (.int .i64 (f.at_ - 1))
          refine (rwrite_gen (post := fun e2 w2 => e2 = .returned (.int .i64 2) ∧ Below B w1 w2 ∧ Inv B w2 p r) hr ho n hn hcut (hr.lesser (by omega)) rfl (hsv.off h4) hl ?_).mono (fun _ _ hh => hh.1)
          intro w2 h2 f2
          refine (rdone_yes h2).mono ?_
          rintro e w3 ⟨rfl, h3', f3⟩
          have f13 : Fr w1.heap.size (Four r gn gw gt) w1 w3 := hp.trans (f2.trans f3 f2.size (fun x _ hx => hx)) hp.size (fun x _ hx => hx)
          refine ⟨_, rfl, rfl, below_of_fr f13 h.four (Nat.le_trans hB hz), ?_⟩
          have hL := like_crash (like_put h.like hn hl hok) (ok_store h.dk.ok i0 (by omega) hl hok) hcr
          obtain ⟨ls, _, rfl⟩ := hcr
          have hL2 : Like ((d.store n (blkOf l)).crashed (crashNow (d.store n (blkOf l)) d.mask ls ls.length)) ((f.put n (bstr l)).crashed f.mask) := by
            have e := hL
            rw [q2] at e ⊢
            exact e
          exact (h.both h1 h3' f13 (like_at hL2 rfl (f.at_ - 1)) (fun e => absurd rfl e) (fun e => e) (Or.inl rfl)).inv
        · refine (write_later W h.dk hd n i0 (by omega) _ l hs hl hok hset hleft).mono ?_
          rintro e w1 ⟨rfl, h1, f1⟩
          refine ⟨0, rfl, f1, ?_⟩
          intro w1 hv
          have hsv := (hs.fr f1 h3).kept hv.block
          have hr := (h.rf' f1).grow hv.block
          replace h1 := h1.kept hv.block
          have hz := Nat.le_trans f1.size hv.size
          have hcut := rcut_on hr hon (by omega)
          rw [show decide (f.at_ = 0) = false by simp; omega] at hcut
          have hp := fr_poke w1.heap.size r (Four r gn gw gt) (Or.inl rfl) w1 5 (.int .i64 (f.at_ - 1))
          refine (rwrite_gen (post := fun e2 w2 => e2 = .returned (.int .i64 0) ∧ Below B w1 w2 ∧ Inv B w2 p r) hr ho n hn hcut (hr.lesser (by omega)) rfl (hsv.off h4) hl ?_).mono (fun _ _ hh => hh.1)
          intro w2 h2 f2
          refine (rdone_no w2 r).mono ?_
          rintro e w3 ⟨rfl, rfl⟩
          have f13 : Fr w1.heap.size (Four r gn gw gt) w1 w3 := hp.trans f2 hp.size (fun x _ hx => hx)
          exact ⟨_, rfl, rfl, below_of_fr f13 h.four (Nat.le_trans hB hz), (h.both h1 h2 f13 (like_less (like_put h.like hn hl hok)) (fun e => e) (fun e => e) h.mv).inv⟩

theorem sync_pair (h : Pr B W p bn bo g r gn gw gt gm vn vw vt d f) (hB : B ≤ W.heap.size) :
    Calls Try.prog 9 #[.pointer (some ⟨p, 0, none⟩)] W fun e w1 => ∃ er : Int, e = .returned (.int .i64 er) ∧ Below B W w1 ∧
      Calls Try.prog 10 #[.pointer (some ⟨r, 0, none⟩)] w1 fun e2 w2 => e2 = .returned (.int .i64 er) ∧ Below B w1 w2 ∧ Inv B w2 p r := by
  obtain ⟨k1, k2, k3, k4, k5⟩ := id h.like
  cases ho : f.off with
  | true =>
    refine (sync_dead W h.dk (by rw [k2, ho])).mono ?_
    rintro e w1 ⟨rfl, rfl⟩
    refine ⟨2, rfl, Below.refl _ _, (rsync_off h.rf ho).mono ?_⟩
    rintro e w2 ⟨rfl, rfl⟩
    exact ⟨rfl, Below.refl _ _, h.inv⟩
  | false =>
    have hd : d.dead = false := by rw [k2, ho]
    cases hset : d.set with
    | false =>
      have hon : f.on = false := by rw [← k3, hset]
      refine (sync_plain W h.dk hd hset).mono ?_
      rintro e w1 ⟨rfl, h1, f1⟩
      have hr := h.rf' f1
      refine ⟨0, rfl, below_of_fr f1 h.three hB, (rsync_go hr ho (rcut_off hr hon) hr).mono ?_⟩
      rintro e w2 ⟨rfl, h2, f2⟩
      exact ⟨rfl, below_of_fr f2 h.four (Nat.le_trans hB f1.size), (h.both h1 h2 f2 (like_sync h.like) (fun e => e) (fun e => e) h.mv).inv⟩
    | true =>
      have hon : f.on = true := by rw [← k3, hset]
      obtain ⟨q1, q2⟩ := k4 hset
      have hlo := h.dk.ok.llo
      by_cases hleft : d.left = 0
      · refine (sync_cut W h.dk hd hset hleft).mono ?_
        rintro e w1 ⟨rfl, d', hcr, h1, f1⟩
        have hr := h.rf' f1
        have hcut := rcut_on hr hon (by omega)
        rw [show decide (f.at_ = 0) = true by simp; omega] at hcut
        have hp := fr_poke w1.heap.size r (Four r gn gw gt) (Or.inl rfl) w1 5 (.int .i64 (f.at_ - 1))
        refine ⟨2, rfl, below_of_fr f1 h.three hB, (rsync_cut hr ho hcut (hr.lesser (by omega))).mono ?_⟩
        rintro e w2 ⟨rfl, h2, f2⟩
        have f12 : Fr w1.heap.size (Four r gn gw gt) w1 w2 := hp.trans f2 hp.size (fun x _ hx => hx)
        refine ⟨rfl, below_of_fr f12 h.four (Nat.le_trans hB f1.size), ?_⟩
        have hL := like_crash h.like h.dk.ok hcr
        obtain ⟨ls, _, rfl⟩ := hcr
        have hL2 : Like (d.crashed (crashNow d d.mask ls ls.length)) (f.crashed f.mask) := by
          have e := hL
          rw [q2] at e ⊢
          exact e
        exact (h.both h1 h2 f12 (like_at hL2 rfl (f.at_ - 1)) (fun e => absurd rfl e) (fun e => e) (Or.inl rfl)).inv
      · refine (sync_later W h.dk hd hset hleft).mono ?_
        rintro e w1 ⟨rfl, h1, f1⟩
        have hr := h.rf' f1
        have hcut := rcut_on hr hon (by omega)
        rw [show decide (f.at_ = 0) = false by simp; omega] at hcut
        have hp := fr_poke w1.heap.size r (Four r gn gw gt) (Or.inl rfl) w1 5 (.int .i64 (f.at_ - 1))
        refine ⟨0, rfl, below_of_fr f1 h.three hB, (rsync_go hr ho hcut (hr.lesser (by omega))).mono ?_⟩
        rintro e w2 ⟨rfl, h2, f2⟩
        have f12 : Fr w1.heap.size (Four r gn gw gt) w1 w2 := hp.trans f2 hp.size (fun x _ hx => hx)
        exact ⟨rfl, below_of_fr f12 h.four (Nat.le_trans hB f1.size), (h.both h1 h2 f12 (like_sync (like_less h.like)) (fun e => e) (fun e => e) h.mv).inv⟩

theorem crash_pair (h : Pr B W p bn bo g r gn gw gt gm vn vw vt d f) (hB : B ≤ W.heap.size) {mv : Value} {ms : List Int} {gx : Nat} (hm : SlB W mv ms gx) (hmb : bytesOk ms) (h3 : ¬ Three p bn bo gx) (h4 : ¬ Four r gn gw gt gx) :
    Calls Try.prog 11 #[.pointer (some ⟨p, 0, none⟩), mv] W fun e w1 => e = .returned (.tuple #[]) ∧ Fr W.heap.size (Three p bn bo) W w1 ∧
      Calls Try.prog 12 #[.pointer (some ⟨r, 0, none⟩), mv] w1 fun e2 w2 => e2 = .returned (.tuple #[]) ∧ Below B w1 w2 ∧ Inv B w2 p r := by
  refine (crash_any W h.dk hm hmb).mono ?_
  rintro e w1 ⟨rfl, ls, hls, h1, f1⟩
  have hr := h.rf' f1
  refine ⟨rfl, f1, (rcrash hr (hm.fr f1 h3) hmb h4).mono ?_⟩
  rintro e w2 ⟨rfl, h2, f2⟩
  exact ⟨rfl, below_of_fr f2 h.four (Nat.le_trans hB f1.size), (h.both h1 h2 f2 (like_crash h.like h.dk.ok ⟨ls, hls, rfl⟩) (fun e => absurd rfl e) (fun e => e) (Or.inl rfl)).inv⟩

theorem Pr.size (h : Pr B W p bn bo g r gn gw gt gm vn vw vt d f) : r < W.heap.size := (Array.getElem?_eq_some_iff.1 h.rf.cells).1

/-- The pair out of its parts; where there are no tiles the rows of the reference lie beyond all that is there. -/
theorem inv_of {B : Nat} {W : World} {p bn bo g r gn gw gt gm : Nat} {vn vw vt : Value} {d : Dk} {f : Rf} (dk : DiskAt W p bn bo g d) (rf : RfAt W r gn gw gt gm vn vw vt f) (like : Like d f) (mv : d.mv = .slice none 0 0 ∨ ∃ a n c, d.mv = .slice (some a) n c)
    (lo : B ≤ p ∧ B ≤ bn ∧ B ≤ bo ∧ B ≤ r) (ar : ∀ x, Three p bn bo x → x ≠ r ∧ (f.mask ≠ [] → x ≠ gm)) (ag : d.mask ≠ [] → g ≠ r)
    (hk : 0 < f.k → (B ≤ gn ∧ B ≤ gw ∧ B ≤ gt) ∧ (∀ x, Three p bn bo x → x ≠ gn ∧ x ≠ gw ∧ x ≠ gt) ∧ (d.mask ≠ [] → g ≠ gn ∧ g ≠ gw ∧ g ≠ gt)) : Inv B W p r := by
  obtain ⟨l1, l2, l3, l4⟩ := lo
  rcases Nat.eq_zero_or_pos f.k with h0 | h0
  · have h1 := rf.ne.2.2.2.2.2.2.1
    have hl := dk.lt
    have hr : r < W.heap.size := (Array.getElem?_eq_some_iff.1 rf.cells).1
    refine ⟨bn, bo, g, W.heap.size + g + gm + 1, W.heap.size + g + gm + 2, W.heap.size + g + gm + 3, gm, vn, vw, vt, d, f, dk, rf.anew h0 rf.mask ⟨by omega, by omega, by omega, by omega, by omega, by omega, h1, by omega, by omega, by omega⟩, like, mv, ⟨l1, l2, l3, l4, by omega, by omega, by omega⟩, ?_, ?_⟩
    · intro y hy
      have h5 := ar y hy
      have hy2 : y < W.heap.size := by rcases hy with rfl | rfl | rfl <;> omega
      refine ⟨?_, h5.2⟩
      rintro (e | e | e | e)
      · exact h5.1 e
      · omega
      · omega
      · omega
    · rintro hm (e | e | e | e)
      · exact ag hm e
      · omega
      · omega
      · omega
  · obtain ⟨⟨b1, b2, b3⟩, hx, hg⟩ := hk h0
    refine ⟨bn, bo, g, gn, gw, gt, gm, vn, vw, vt, d, f, dk, rf, like, mv, ⟨l1, l2, l3, l4, b1, b2, b3⟩, fun x h3 => ⟨?_, (ar x h3).2⟩, fun hm => ?_⟩
    · obtain ⟨q1, q2, q3⟩ := hx x h3
      rintro (e | e | e | e)
      · exact (ar x h3).1 e
      · exact q1 e
      · exact q2 e
      · exact q3 e
    · obtain ⟨q1, q2, q3⟩ := hg hm
      rintro (e | e | e | e)
      · exact ag hm e
      · exact q1 e
      · exact q2 e
      · exact q3 e
end
end Go.Proofs.Ytliakndgbfbicaa
