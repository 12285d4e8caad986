/- TrailAll, a part. -/
import Derived.Test.YthmgafcnoedmjaaGreatQ16
import Derived.Test.YthmgafcnoedmjaaGreatQ8
namespace Go.Proofs.YthmgafcnoedmjaaGreat
open Go.RowKit Go.Maps
def Crashes (d : Dk) (ms : List Int) (d' : Dk) : Prop := ∃ ls, IsLoose d ls ∧ d' = d.crashed (crashNow d ms ls ls.length)
theorem crash_to (w : World) {p bn bo g gm : Nat} {d : Dk} (h : DiskAt w p bn bo g d) {mv : Value} {ms : List Int} (hm : SlB w mv ms gm) (hmb : bytesOk ms) :
  Calls Tryz.prog 16 #[.pointer (some ⟨p, 0, none⟩), mv] w fun e w' => e = .returned (.tuple #[]) ∧ ∃ d', Crashes d ms d' ∧ DiskAt w' p bn bo g d' ∧ Fr w.heap.size (Three p bn bo) w w' :=
 (crash_any w h hm hmb).mono fun _ _ ⟨he, ls, h1, h2, h3⟩ => ⟨he, _, ⟨ls, h1, rfl⟩, h2, h3⟩
theorem write_dead (w : World) {p bn bo g : Nat} {d : Dk} (h : DiskAt w p bn bo g d) (hd : d.dead = true) (i : Int) (sv : Value) : Calls Tryz.prog 20 #[.pointer (some ⟨p, 0, none⟩), .int .i64 i, sv] w fun e w' => e = .returned (.int .i64 2) ∧ w' = w := by
 have hr := ready_any w h
 rw [hd] at hr
 have HR := Lib.hid hr
 clear hr
 go_enter Tryz.func20, Tryz.ntmps20
 go_wp2_with (go_at_call 44; refine HR.out.mono ?_; rintro e w' ⟨rfl, rfl⟩)
 go_ret
 exact ⟨rfl, rfl⟩
theorem write_far (w : World) {p bn bo g : Nat} {d : Dk} (h : DiskAt w p bn bo g d) (hd : d.dead = false) (i : Int) (hi : ¬ (0 ≤ i ∧ i < d.tiles)) (sv : Value) : Calls Tryz.prog 20 #[.pointer (some ⟨p, 0, none⟩), .int .i64 i, sv] w fun e w' => e = .returned (.int .i64 1) ∧ w' = w := by
 have hr := ready_any w h
 rw [hd] at hr
 have HR := Lib.hid hr
 have hh := has_any w h i
 rw [decide_eq_false hi] at hh
 have HH := Lib.hid hh
 clear hr hh hi
 go_enter Tryz.func20, Tryz.ntmps20
 go_wp2_with (first | (go_at_call 44; refine HR.out.mono ?_; rintro e w' ⟨rfl, rfl⟩) | (go_at_call 45; refine HH.out.mono ?_; rintro e w' ⟨rfl, rfl⟩))
 go_ret
 exact ⟨rfl, rfl⟩
def Dk.later (d : Dk) : Dk := { d with left := d.left - 1 }
theorem later_at {w : World} {p bn bo g : Nat} {d : Dk} (h : DiskAt w p bn bo g d) (hl : d.left ≠ 0) : DiskAt (w.setCell ⟨p, 5, none⟩ (.int .i64 (d.left - 1))) p bn bo g d.later := by
 have ok := h.ok
 have := ok.llo
 have := ok.lhi
 exact h.poke (d' := d.later) 5 _ rfl rfl rfl h.mask ⟨ok.lo, ok.hi, ok.now, ok.old, by show 0 ≤ d.left - 1; omega, by show d.left - 1 ≤ _; omega, ok.mok⟩
theorem write_later (w : World) {p bn bo g gb : Nat} {d : Dk} (h : DiskAt w p bn bo g d) (hd : d.dead = false) (i : Int) (h0 : 0 ≤ i) (h1 : i < d.tiles) (sv : Value) (l : List Int) (hs : SlB w sv l gb) (hl : l.length = 64) (hbl : bytesOk l) (hset : d.set = true) (hleft : d.left ≠ 0) :
  Calls Tryz.prog 20 #[.pointer (some ⟨p, 0, none⟩), .int .i64 i, sv] w fun e w' => e = .returned (.int .i64 0) ∧ DiskAt w' p bn bo g (d.store i (blkOf l)).later ∧ Fr w.heap.size (Three p bn bo) w w' := by
 have hr := ready_any w h
 rw [hd] at hr
 have HR := Lib.hid hr
 have hh := has_any w h i
 rw [decide_eq_true ⟨h0, h1⟩] at hh
 have HH := Lib.hid hh
 have HS := Lib.hid (store_any w h i h0 h1 sv l hs hl hbl)
 have HC := Lib.hid (fun W (hW : DiskAt W p bn bo g (d.store i (blkOf l))) => cutNow_later W hW hset hleft)
 have HL := Lib.hid hleft
 obtain ⟨p0, len, cap, rfl, rfl, _⟩ := hs
 rw [hl] at HS ⊢
 clear hr hh hl hleft
 go_enter Tryz.func20, Tryz.ntmps20
 go_wp2_with (first
  | (go_at_call 44; refine HR.out.mono ?_; rintro e w' ⟨rfl, rfl⟩)
  | (go_at_call 45; refine HH.out.mono ?_; rintro e w' ⟨rfl, rfl⟩)
  | (go_at_call 46; refine HS.out.mono ?_; rintro e w2 ⟨rfl, hD, hF⟩)
  | (go_at_call 47; refine (HC.out _ hD).mono ?_; rintro e w' ⟨rfl, rfl⟩))
 go_ret
 exact ⟨rfl, later_at hD HL.out, hF.setCell (Or.inl (Or.inl rfl)) _⟩
theorem write_cut (w : World) {p bn bo g gb : Nat} {d : Dk} (h : DiskAt w p bn bo g d) (hd : d.dead = false) (i : Int) (h0 : 0 ≤ i) (h1 : i < d.tiles) (sv : Value) (l : List Int) (hs : SlB w sv l gb) (hl : l.length = 64) (hbl : bytesOk l) (hset : d.set = true) (hleft : d.left = 0) :
  Calls Tryz.prog 20 #[.pointer (some ⟨p, 0, none⟩), .int .i64 i, sv] w fun e w' => e = .returned (.int .i64 2) ∧ ∃ d', Crashes (d.store i (blkOf l)) d.mask d' ∧ DiskAt w' p bn bo g d' ∧ Fr w.heap.size (Three p bn bo) w w' := by
 have hr := ready_any w h
 rw [hd] at hr
 have HR := Lib.hid hr
 have hh := has_any w h i
 rw [decide_eq_true ⟨h0, h1⟩] at hh
 have HH := Lib.hid hh
 have HS := Lib.hid (store_any w h i h0 h1 sv l hs hl hbl)
 have HC := Lib.hid (fun W (hW : DiskAt W p bn bo g (d.store i (blkOf l))) => cutNow_now W hW hset hleft)
 have HX := Lib.hid (fun W (hW : DiskAt W p bn bo g (d.store i (blkOf l))) => crash_to W hW hW.mask hW.ok.mok)
 obtain ⟨p0, len, cap, rfl, rfl, _⟩ := hs
 rw [hl] at HS ⊢
 clear hr hh hl hleft
 go_enter Tryz.func20, Tryz.ntmps20
 go_wp2_with (first
  | (go_at_call 44; refine HR.out.mono ?_; rintro e w' ⟨rfl, rfl⟩)
  | (go_at_call 45; refine HH.out.mono ?_; rintro e w' ⟨rfl, rfl⟩)
  | (go_at_call 46; refine HS.out.mono ?_; rintro e w2 ⟨rfl, hD, hF⟩; have c6 := hD.c6)
  | (go_at_call 47; refine (HC.out _ hD).mono ?_; rintro e w' ⟨rfl, rfl⟩)
  | (go_at_call 16; refine (HX.out _ hD).mono ?_; rintro e w3 ⟨rfl, d', hd', hD', hF'⟩))
 go_ret
 exact ⟨rfl, d', hd', hD', hF.trans hF' hF.size (fun _ _ h => h)⟩
theorem sync_dead (w : World) {p bn bo g : Nat} {d : Dk} (h : DiskAt w p bn bo g d) (hd : d.dead = true) : Calls Tryz.prog 60 #[.pointer (some ⟨p, 0, none⟩)] w fun e w' => e = .returned (.int .i64 2) ∧ w' = w := by
 have hr := ready_any w h
 rw [hd] at hr
 have HR := Lib.hid hr
 clear hr
 go_enter Tryz.func60, Tryz.ntmps60
 go_wp2_with (go_at_call 44; refine HR.out.mono ?_; rintro e w' ⟨rfl, rfl⟩)
 go_ret
 exact ⟨rfl, rfl⟩
theorem sync_later (w : World) {p bn bo g : Nat} {d : Dk} (h : DiskAt w p bn bo g d) (hd : d.dead = false) (hset : d.set = true) (hleft : d.left ≠ 0) :
  Calls Tryz.prog 60 #[.pointer (some ⟨p, 0, none⟩)] w fun e w' => e = .returned (.int .i64 0) ∧ DiskAt w' p bn bo g d.later.synced ∧ Fr w.heap.size (Three p bn bo) w w' := by
 have hr := ready_any w h
 rw [hd] at hr
 have HR := Lib.hid hr
 have HC := Lib.hid (cutNow_later w h hset hleft)
 have h2 := later_at h hleft
 generalize hw2 : w.setCell ⟨p, 5, none⟩ (.int .i64 (d.left - 1)) = w2 at HC h2
 have hF : Fr w.heap.size (Three p bn bo) w w2 := by rw [← hw2]; exact (Fr.refl _ _ _).setCell (Or.inl (Or.inl rfl)) _
 have c2 := h2.c2
 have ho := h2.old
 clear hr hw2 hleft
 go_enter Tryz.func60, Tryz.ntmps60
 go_wp2_with (first
  | (go_at_call 44; refine HR.out.mono ?_; rintro e w' ⟨rfl, rfl⟩)
  | (go_at_call 47; refine HC.out.mono ?_; rintro e w' ⟨rfl, rfl⟩)
  | (with_reducible refine wpList_clear rfl (.tmp 21) 71 rfl 3 86 bo _ Tryz.underlying71 rfl ho ?_; intro w3 hf2 ht2))
 go_ret
 exact ⟨rfl, h2.putOld ht2 hf2 (fun i v e => by cases e), hF.turned (Or.inl (Or.inr (Or.inr rfl))) ht2⟩
theorem sync_cut (w : World) {p bn bo g : Nat} {d : Dk} (h : DiskAt w p bn bo g d) (hd : d.dead = false) (hset : d.set = true) (hleft : d.left = 0) :
  Calls Tryz.prog 60 #[.pointer (some ⟨p, 0, none⟩)] w fun e w' => e = .returned (.int .i64 2) ∧ ∃ d', Crashes d d.mask d' ∧ DiskAt w' p bn bo g d' ∧ Fr w.heap.size (Three p bn bo) w w' := by
 have hr := ready_any w h
 rw [hd] at hr
 have HR := Lib.hid hr
 have HC := Lib.hid (cutNow_now w h hset hleft)
 have HX := Lib.hid (crash_to w h h.mask h.ok.mok)
 have c6 := h.c6
 clear hr hleft
 go_enter Tryz.func60, Tryz.ntmps60
 go_wp2_with (first
  | (go_at_call 44; refine HR.out.mono ?_; rintro e w' ⟨rfl, rfl⟩)
  | (go_at_call 47; refine HC.out.mono ?_; rintro e w' ⟨rfl, rfl⟩)
  | (go_at_call 16; refine HX.out.mono ?_; rintro e w3 ⟨rfl, d', hd', hD', hF'⟩))
 go_ret
 exact ⟨rfl, d', hd', hD', hF'⟩
open Go.RowKit Go.Maps
def Wrote (d : Dk) (i : Int) (l : List Int) (e : Int) (d' : Dk) : Prop :=
 (d.dead = true ∧ e = 2 ∧ d' = d) ∨ (d.dead = false ∧ d.set = false ∧ e = 0 ∧ d' = d.store i (blkOf l)) ∨
 (d.dead = false ∧ d.set = true ∧ d.left ≠ 0 ∧ e = 0 ∧ d' = (d.store i (blkOf l)).later) ∨
 (d.dead = false ∧ d.set = true ∧ d.left = 0 ∧ e = 2 ∧ Crashes (d.store i (blkOf l)) d.mask d')
def Synced (d : Dk) (e : Int) (d' : Dk) : Prop :=
 (d.dead = true ∧ e = 2 ∧ d' = d) ∨ (d.dead = false ∧ d.set = false ∧ e = 0 ∧ d' = d.synced) ∨
 (d.dead = false ∧ d.set = true ∧ d.left ≠ 0 ∧ e = 0 ∧ d' = d.later.synced) ∨
 (d.dead = false ∧ d.set = true ∧ d.left = 0 ∧ e = 2 ∧ Crashes d d.mask d')
theorem write_rel (w : World) {p bn bo g gb : Nat} {d : Dk} (h : DiskAt w p bn bo g d) (i : Int) (h0 : 0 ≤ i) (h1 : i < d.tiles) (sv : Value) (l : List Int) (hs : SlB w sv l gb) (hl : l.length = 64) (hbl : bytesOk l) :
  Calls Tryz.prog 20 #[.pointer (some ⟨p, 0, none⟩), .int .i64 i, sv] w fun r w' => ∃ e d', r = .returned (.int .i64 e) ∧ Wrote d i l e d' ∧ DiskAt w' p bn bo g d' ∧ Fr w.heap.size (Three p bn bo) w w' := by
 cases hd : d.dead with
 | true =>
  refine (write_dead w h hd i sv).mono ?_
  rintro r w' ⟨rfl, rfl⟩
  exact ⟨2, d, rfl, Or.inl ⟨hd, rfl, rfl⟩, h, Fr.refl _ _ _⟩
 | false =>
  cases hs2 : d.set with
  | false =>
   refine (write_plain w h hd i h0 h1 sv l hs hl hbl hs2).mono ?_
   rintro r w' ⟨rfl, q1, q2⟩
   exact ⟨0, _, rfl, Or.inr (Or.inl ⟨hd, hs2, rfl, rfl⟩), q1, q2⟩
  | true =>
   by_cases hz : d.left = 0
   ·refine (write_cut w h hd i h0 h1 sv l hs hl hbl hs2 hz).mono ?_
    rintro r w' ⟨rfl, d', q0, q1, q2⟩
    exact ⟨2, d', rfl, Or.inr (Or.inr (Or.inr ⟨hd, hs2, hz, rfl, q0⟩)), q1, q2⟩
   ·refine (write_later w h hd i h0 h1 sv l hs hl hbl hs2 hz).mono ?_
    rintro r w' ⟨rfl, q1, q2⟩
    exact ⟨0, _, rfl, Or.inr (Or.inr (Or.inl ⟨hd, hs2, hz, rfl, rfl⟩)), q1, q2⟩
theorem sync_rel (w : World) {p bn bo g : Nat} {d : Dk} (h : DiskAt w p bn bo g d) :
  Calls Tryz.prog 60 #[.pointer (some ⟨p, 0, none⟩)] w fun r w' => ∃ e d', r = .returned (.int .i64 e) ∧ Synced d e d' ∧ DiskAt w' p bn bo g d' ∧ Fr w.heap.size (Three p bn bo) w w' := by
 cases hd : d.dead with
 | true =>
  refine (sync_dead w h hd).mono ?_
  rintro r w' ⟨rfl, rfl⟩
  exact ⟨2, d, rfl, Or.inl ⟨hd, rfl, rfl⟩, h, Fr.refl _ _ _⟩
 | false =>
  cases hs2 : d.set with
  | false =>
   refine (sync_plain w h hd hs2).mono ?_
   rintro r w' ⟨rfl, q1, q2⟩
   exact ⟨0, _, rfl, Or.inr (Or.inl ⟨hd, hs2, rfl, rfl⟩), q1, q2⟩
  | true =>
   by_cases hz : d.left = 0
   ·refine (sync_cut w h hd hs2 hz).mono ?_
    rintro r w' ⟨rfl, d', q0, q1, q2⟩
    exact ⟨2, d', rfl, Or.inr (Or.inr (Or.inr ⟨hd, hs2, hz, rfl, q0⟩)), q1, q2⟩
   ·refine (sync_later w h hd hs2 hz).mono ?_
    rintro r w' ⟨rfl, q1, q2⟩
    exact ⟨0, _, rfl, Or.inr (Or.inr (Or.inl ⟨hd, hs2, hz, rfl, rfl⟩)), q1, q2⟩
theorem Wrote.tiles {d d' : Dk} {i e : Int} {l : List Int} (h : Wrote d i l e d') : d'.tiles = d.tiles := by
 rcases h with ⟨_, _, rfl⟩ | ⟨_, _, _, rfl⟩ | ⟨_, _, _, _, rfl⟩ | ⟨_, _, _, _, _, _, rfl⟩ <;> rfl
theorem Synced.tiles {d d' : Dk} {e : Int} (h : Synced d e d') : d'.tiles = d.tiles := by
 rcases h with ⟨_, _, rfl⟩ | ⟨_, _, _, rfl⟩ | ⟨_, _, _, _, rfl⟩ | ⟨_, _, _, _, _, _, rfl⟩ <;> rfl
theorem Wrote.err {d d' : Dk} {i e : Int} {l : List Int} (h : Wrote d i l e d') : e = 0 ∧ d'.dead = false ∨ e = 2 ∧ d'.dead = true := by
 rcases h with ⟨h, rfl, rfl⟩ | ⟨h, _, rfl, rfl⟩ | ⟨h, _, _, rfl, rfl⟩ | ⟨_, _, _, rfl, _, _, rfl⟩
 ·exact Or.inr ⟨rfl, h⟩
 ·exact Or.inl ⟨rfl, h⟩
 ·exact Or.inl ⟨rfl, h⟩
 ·exact Or.inr ⟨rfl, rfl⟩
theorem Synced.err {d d' : Dk} {e : Int} (h : Synced d e d') : e = 0 ∧ d'.dead = false ∨ e = 2 ∧ d'.dead = true := by
 rcases h with ⟨h, rfl, rfl⟩ | ⟨h, _, rfl, rfl⟩ | ⟨h, _, _, rfl, rfl⟩ | ⟨_, _, _, rfl, _, _, rfl⟩
 ·exact Or.inr ⟨rfl, h⟩
 ·exact Or.inl ⟨rfl, h⟩
 ·exact Or.inl ⟨rfl, h⟩
 ·exact Or.inr ⟨rfl, rfl⟩
end Go.Proofs.YthmgafcnoedmjaaGreat
