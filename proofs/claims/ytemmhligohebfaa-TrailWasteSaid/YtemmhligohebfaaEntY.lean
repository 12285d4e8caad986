/- The reader: an entry. -/
import Derived.Test.YtemmhligohebfaaEntX
namespace Go.Proofs.Ytemmhligohebfaa
open Go.RowKit

/-- What lies from block B on is as it was. -/
structure Kpt (B : Nat) (w w' : World) : Prop where
  size : w.heap.size ≤ w'.heap.size
  block : ∀ b, B ≤ b → b < w.heap.size → w'.heap[b]? = w.heap[b]?
theorem Kpt.trans {B : Nat} {a b c : World} (h : Kpt B a b) (k : Kpt B b c) : Kpt B a c := ⟨Nat.le_trans h.size k.size, fun i hi hl => (k.block i hi (Nat.lt_of_lt_of_le hl h.size)).trans (h.block i hi hl)⟩
theorem Kpt.rd {p B : Nat} {w w' : World} (h : Rd p w w') (hB : p < B) : Kpt B w w' := ⟨h.size, fun b hb hl => h.block b hl (by omega)⟩
theorem Kpt.set {q i B : Nat} (w : World) (v : Value) (hB : q < B) : Kpt B w (w.setCell ⟨q, i, none⟩ v) := ⟨by simp, fun b hb _ => setCell_far _ _ _ _ (by omega)⟩
def SlF (w : World) (B : Nat) (sv : Value) (l : List Int) : Prop := SlK .u8 w sv l ∧ ∀ b, sv.ownBlock = some b → B ≤ b
def ElF (w : World) (B : Nat) (sv : Value) (k : Nat) (xs : List (List Value)) : Prop := Els w sv k xs ∧ ∀ b, sv.ownBlock = some b → B ≤ b
theorem SlF.at {w w' : World} {B : Nat} {sv : Value} {l : List Int} (h : SlF w B sv l) (hk : Kpt B w w') : SlF w' B sv l := by
  obtain ⟨⟨p, cap, rfl, h1, h2, h3, h4⟩, hf⟩ := h
  refine ⟨⟨p, cap, rfl, h1, h2, h3, fun a ha => ?_⟩, hf⟩
  obtain ⟨h5, h6, h7⟩ := h4 a ha
  subst ha
  have e := hk.block a.block (hf a.block rfl) h6
  refine ⟨h5, Nat.lt_of_lt_of_le h6 hk.size, fun j hj => ?_⟩
  rw [← h7 j hj]
  exact World.cell?_of_block e
theorem ElF.at {w w' : World} {B k : Nat} {sv : Value} {xs : List (List Value)} (h : ElF w B sv k xs) (hk : Kpt B w w') : ElF w' B sv k xs := ⟨h.1.at fun _ b hb hl => hk.block b (h.2 b hb) hl, h.2⟩
theorem OpF.kpt {w w' : World} {B : Nat} {sv : Value} {ops : List Opn} (h : OpF w B sv ops) (hk : Kpt B w w') : OpF w' B sv ops := h.at hk.block
theorem OpF.low {w : World} {B B' : Nat} {sv : Value} {ops : List Opn} (h : OpF w B sv ops) (hB : B' ≤ B) : OpF w B' sv ops := by
  obtain ⟨os, e, h1, h3, h2⟩ := h
  exact ⟨os, e, h1, fun b hb => Nat.le_trans hB (h3 b hb), fun o ho => ⟨(h2 o ho).1, fun hne b hb => Nat.le_trans hB ((h2 o ho).2 hne b hb)⟩⟩
theorem own_slF {w : World} {B B' n : Nat} {v : Value} {l : List Int} (h : w.ownsRow B 5 1 v n (byteV l)) (hok : bytesOk l) (hB : B' ≤ B) : SlF w B' v l := ⟨own_slK h hok, fun b hb => Nat.le_trans hB (h.lt b hb).1⟩
theorem celR_ok {l : List Int} (h : bytesOk l) : bytesOk (celR l).1 := ok_take (ok_drop h 1) _
theorem celR_len {l : List Int} {w : World} {B : Nat} {A : Option Addr} {m c : Nat} {k : Nat} (h : w.ownsRow B 5 1 (.slice A m c) k (byteV l)) (hk : k = l.length) : m = l.length := by rw [own_n h, hk]

/-- An entry that lies from block B on. -/
structure EntF (w : World) (B : Nat) (s1 s2 s3 s4 s5 s6 : Value) (e : Ent) : Prop where
  old : SlF w B s1 e.old
  new : SlF w B s2 e.new
  moves : ElF w B s3 4 (e.moves.map mvV)
  lives : ElF w B s4 4 (e.lives.map lvV)
  dirty : ElF w B s5 2 (e.dirty.map dtV)
  opens : OpF w B s6 e.opens
theorem EntF.entS {w : World} {B : Nat} {s1 s2 s3 s4 s5 s6 : Value} {e : Ent} (h : EntF w B s1 s2 s3 s4 s5 s6 e) : EntS w s1 s2 s3 s4 s5 s6 e := ⟨h.old.1, h.new.1, h.moves.1, h.lives.1, h.dirty.1, h.opens.opAt⟩
theorem EntF.at {w w' : World} {B : Nat} {s1 s2 s3 s4 s5 s6 : Value} {e : Ent} (h : EntF w B s1 s2 s3 s4 s5 s6 e) (hk : Kpt B w w') : EntF w' B s1 s2 s3 s4 s5 s6 e := ⟨h.old.at hk, h.new.at hk, h.moves.at hk, h.lives.at hk, h.dirty.at hk, h.opens.kpt hk⟩

/-- What an entry's reading leaves. -/
def RentPost (w0 w : World) (p : Nat) (l : List Int) (e : Ending) (w' : World) : Prop := ∃ s1 s2 s3 s4 s5 s6 sv', e = .returned (.agg (entC (entR l) s1 s2 s3 s4 s5 s6)) ∧ EntF w' (w.heap.size + 1) s1 s2 s3 s4 s5 s6 (entR l) ∧ RS w0 w' p sv' (r6 l).2 ∧ Rd p w w'

set_option maxRecDepth 100000 in
set_option maxHeartbeats 4000000 in
theorem rentry_any {w0 w : World} {p : Nat} {sv : Value} {l : List Int} (h : RS w0 w p sv l) :
    Calls Try.prog 60 #[.pointer (some ⟨p, 0, none⟩)] w (RentPost w0 w p l) := by
  have hlt := h.lt
  have HLT := Lib.hid hlt
  have HH0 := Lib.hid (Hr.init h #[.int .i64 0, .int .i64 0, .int .i64 0, .int .i64 0, .int .i64 0, .int .i64 0, .int .i64 0, .int .i64 0, .int .i64 0, .int .i64 0, .slice none 0 0, .slice none 0 0, .slice none 0 0, .slice none 0 0, .slice none 0 0, .slice none 0 0] 40)
  clear h hlt
  go_enter Try.func60, Try.ntmps60
  go_wp2_with fail
  refine (rnum_any HH0.out.rs 1 (by omega)).mono ?_
  rintro e w1 ⟨rfl, s1, h1, g1⟩
  have H1 := HH0.out.step h1 g1
  have c_0 : w1.cell? ⟨w.heap.size, 0, none⟩ = some (.int .i64 0) := H1.c 0
  have f_0 := H1.f 0
  have HH1 := Lib.hid (H1.put (cs' := #[.int .i64 (numR l 1), .int .i64 0, .int .i64 0, .int .i64 0, .int .i64 0, .int .i64 0, .int .i64 0, .int .i64 0, .int .i64 0, .int .i64 0, .slice none 0 0, .slice none 0 0, .slice none 0 0, .slice none 0 0, .slice none 0 0, .slice none 0 0]) 0 (.int .i64 (numR l 1)) rfl)
  clear h1 g1 H1
  go_wp2_with fail
  refine (rnum_any HH1.out.rs 1 (by omega)).mono ?_
  rintro e w2 ⟨rfl, s1, h1, g1⟩
  rw [dr_dr] at h1
  have H1 := HH1.out.step h1 g1
  have c_1 : w2.cell? ⟨w.heap.size, 1, none⟩ = some (.int .i64 0) := H1.c 1
  have f_1 := H1.f 1
  have HH2 := Lib.hid (H1.put (cs' := #[.int .i64 (numR l 1), .int .i64 (numR (dr l 1) 1), .int .i64 0, .int .i64 0, .int .i64 0, .int .i64 0, .int .i64 0, .int .i64 0, .int .i64 0, .int .i64 0, .slice none 0 0, .slice none 0 0, .slice none 0 0, .slice none 0 0, .slice none 0 0, .slice none 0 0]) 1 (.int .i64 (numR (dr l 1) 1)) rfl)
  clear h1 g1 H1 c_0 f_0
  go_wp2_with fail
  refine (rnum_any HH2.out.rs 2 (by omega)).mono ?_
  rintro e w3 ⟨rfl, s1, h1, g1⟩
  rw [dr_dr] at h1
  have H1 := HH2.out.step h1 g1
  have c_2 : w3.cell? ⟨w.heap.size, 2, none⟩ = some (.int .i64 0) := H1.c 2
  have f_2 := H1.f 2
  have HH3 := Lib.hid (H1.put (cs' := #[.int .i64 (numR l 1), .int .i64 (numR (dr l 1) 1), .int .i64 (numR (dr l 2) 2), .int .i64 0, .int .i64 0, .int .i64 0, .int .i64 0, .int .i64 0, .int .i64 0, .int .i64 0, .slice none 0 0, .slice none 0 0, .slice none 0 0, .slice none 0 0, .slice none 0 0, .slice none 0 0]) 2 (.int .i64 (numR (dr l 2) 2)) rfl)
  clear h1 g1 H1 c_1 f_1
  go_wp2_with fail
  refine (rnum_any HH3.out.rs 1 (by omega)).mono ?_
  rintro e w4 ⟨rfl, s1, h1, g1⟩
  rw [dr_dr] at h1
  have H1 := HH3.out.step h1 g1
  have c_3 : w4.cell? ⟨w.heap.size, 3, none⟩ = some (.int .i64 0) := H1.c 3
  have f_3 := H1.f 3
  have HH4 := Lib.hid (H1.put (cs' := #[.int .i64 (numR l 1), .int .i64 (numR (dr l 1) 1), .int .i64 (numR (dr l 2) 2), .int .i64 (numR (dr l 4) 1), .int .i64 0, .int .i64 0, .int .i64 0, .int .i64 0, .int .i64 0, .int .i64 0, .slice none 0 0, .slice none 0 0, .slice none 0 0, .slice none 0 0, .slice none 0 0, .slice none 0 0]) 3 (.int .i64 (numR (dr l 4) 1)) rfl)
  clear h1 g1 H1 c_2 f_2
  go_wp2_with fail
  refine (rnum_any HH4.out.rs 3 (by omega)).mono ?_
  rintro e w5 ⟨rfl, s1, h1, g1⟩
  rw [dr_dr] at h1
  have H1 := HH4.out.step h1 g1
  have c_4 : w5.cell? ⟨w.heap.size, 4, none⟩ = some (.int .i64 0) := H1.c 4
  have f_4 := H1.f 4
  have HH5 := Lib.hid (H1.put (cs' := #[.int .i64 (numR l 1), .int .i64 (numR (dr l 1) 1), .int .i64 (numR (dr l 2) 2), .int .i64 (numR (dr l 4) 1), .int .i64 (numR (dr l 5) 3), .int .i64 0, .int .i64 0, .int .i64 0, .int .i64 0, .int .i64 0, .slice none 0 0, .slice none 0 0, .slice none 0 0, .slice none 0 0, .slice none 0 0, .slice none 0 0]) 4 (.int .i64 (numR (dr l 5) 3)) rfl)
  clear h1 g1 H1 c_3 f_3
  go_wp2_with fail
  refine (rnum_any HH5.out.rs 3 (by omega)).mono ?_
  rintro e w6 ⟨rfl, s1, h1, g1⟩
  rw [dr_dr] at h1
  have H1 := HH5.out.step h1 g1
  have c_5 : w6.cell? ⟨w.heap.size, 5, none⟩ = some (.int .i64 0) := H1.c 5
  have f_5 := H1.f 5
  have HH6 := Lib.hid (H1.put (cs' := #[.int .i64 (numR l 1), .int .i64 (numR (dr l 1) 1), .int .i64 (numR (dr l 2) 2), .int .i64 (numR (dr l 4) 1), .int .i64 (numR (dr l 5) 3), .int .i64 (numR (dr l 8) 3), .int .i64 0, .int .i64 0, .int .i64 0, .int .i64 0, .slice none 0 0, .slice none 0 0, .slice none 0 0, .slice none 0 0, .slice none 0 0, .slice none 0 0]) 5 (.int .i64 (numR (dr l 8) 3)) rfl)
  clear h1 g1 H1 c_4 f_4
  go_wp2_with fail
  refine (rplace_any HH6.out.rs).mono ?_
  rintro e w7 ⟨he, s1, h1, g1⟩
  rw [show plV (dr l 11) = #[.int .i64 (numR (dr l 11) 1), .int .i64 (numR (dr l 12) 1)] from by unfold plV; rw [dr_dr]] at he
  subst he
  rw [dr_dr] at h1
  have H1 := HH6.out.step h1 g1
  have c_6 : w7.cell? ⟨w.heap.size, 6, none⟩ = some (.int .i64 0) := H1.c 6
  have f_6 := H1.f 6
  have c_7 : w7.cell? ⟨w.heap.size, 7, none⟩ = some (.int .i64 0) := H1.c 7
  have f_7 := H1.f 7
  have HH7 := Lib.hid ((H1.put (cs' := #[.int .i64 (numR l 1), .int .i64 (numR (dr l 1) 1), .int .i64 (numR (dr l 2) 2), .int .i64 (numR (dr l 4) 1), .int .i64 (numR (dr l 5) 3), .int .i64 (numR (dr l 8) 3), .int .i64 (numR (dr l 11) 1), .int .i64 0, .int .i64 0, .int .i64 0, .slice none 0 0, .slice none 0 0, .slice none 0 0, .slice none 0 0, .slice none 0 0, .slice none 0 0]) 6 (.int .i64 (numR (dr l 11) 1)) rfl).put (cs' := #[.int .i64 (numR l 1), .int .i64 (numR (dr l 1) 1), .int .i64 (numR (dr l 2) 2), .int .i64 (numR (dr l 4) 1), .int .i64 (numR (dr l 5) 3), .int .i64 (numR (dr l 8) 3), .int .i64 (numR (dr l 11) 1), .int .i64 (numR (dr l 12) 1), .int .i64 0, .int .i64 0, .slice none 0 0, .slice none 0 0, .slice none 0 0, .slice none 0 0, .slice none 0 0, .slice none 0 0]) 7 (.int .i64 (numR (dr l 12) 1)) rfl)
  clear h1 g1 H1 c_5 f_5
  go_wp2_with fail
  refine (rplace_any HH7.out.rs).mono ?_
  rintro e w8 ⟨he, s1, h1, g1⟩
  rw [show plV (dr l 13) = #[.int .i64 (numR (dr l 13) 1), .int .i64 (numR (dr l 14) 1)] from by unfold plV; rw [dr_dr]] at he
  subst he
  rw [dr_dr] at h1
  have H1 := HH7.out.step h1 g1
  have c_8 : w8.cell? ⟨w.heap.size, 8, none⟩ = some (.int .i64 0) := H1.c 8
  have f_8 := H1.f 8
  have c_9 : w8.cell? ⟨w.heap.size, 9, none⟩ = some (.int .i64 0) := H1.c 9
  have f_9 := H1.f 9
  have HH8 := Lib.hid ((H1.put (cs' := #[.int .i64 (numR l 1), .int .i64 (numR (dr l 1) 1), .int .i64 (numR (dr l 2) 2), .int .i64 (numR (dr l 4) 1), .int .i64 (numR (dr l 5) 3), .int .i64 (numR (dr l 8) 3), .int .i64 (numR (dr l 11) 1), .int .i64 (numR (dr l 12) 1), .int .i64 (numR (dr l 13) 1), .int .i64 0, .slice none 0 0, .slice none 0 0, .slice none 0 0, .slice none 0 0, .slice none 0 0, .slice none 0 0]) 8 (.int .i64 (numR (dr l 13) 1)) rfl).put (cs' := #[.int .i64 (numR l 1), .int .i64 (numR (dr l 1) 1), .int .i64 (numR (dr l 2) 2), .int .i64 (numR (dr l 4) 1), .int .i64 (numR (dr l 5) 3), .int .i64 (numR (dr l 8) 3), .int .i64 (numR (dr l 11) 1), .int .i64 (numR (dr l 12) 1), .int .i64 (numR (dr l 13) 1), .int .i64 (numR (dr l 14) 1), .slice none 0 0, .slice none 0 0, .slice none 0 0, .slice none 0 0, .slice none 0 0, .slice none 0 0]) 9 (.int .i64 (numR (dr l 14) 1)) rfl)
  clear h1 g1 H1 c_6 f_6 c_7 f_7
  go_wp2_with fail
  refine (rcell_any HH8.out.rs).mono ?_
  rintro e w9 ⟨A1, m1, c1, s1, rfl, ho, h1, g1⟩
  obtain rfl : m1 = (r1 l).1.length := celR_len ho rfl
  obtain ⟨n1, hn1⟩ : ∃ n, n = (r1 l).1.length := ⟨_, rfl⟩
  rw [← hn1] at ho ⊢
  replace h1 : RS w0 w9 p s1 (r1 l).2 := h1
  have H1 := HH8.out.step h1 g1
  have c_10 : w9.cell? ⟨w.heap.size, 10, none⟩ = some (.slice none 0 0) := H1.c 10
  have f_10 := H1.f 10
  have HH9 := Lib.hid (H1.put (cs' := #[.int .i64 (numR l 1), .int .i64 (numR (dr l 1) 1), .int .i64 (numR (dr l 2) 2), .int .i64 (numR (dr l 4) 1), .int .i64 (numR (dr l 5) 3), .int .i64 (numR (dr l 8) 3), .int .i64 (numR (dr l 11) 1), .int .i64 (numR (dr l 12) 1), .int .i64 (numR (dr l 13) 1), .int .i64 (numR (dr l 14) 1), .slice A1 n1 c1, .slice none 0 0, .slice none 0 0, .slice none 0 0, .slice none 0 0, .slice none 0 0]) 10 (.slice A1 n1 c1) rfl)
  have kS : Kpt (w.heap.size + 1) w9 (w9.setCell ⟨w.heap.size, 10, none⟩ (.slice A1 n1 c1)) := Kpt.set _ _ (by omega)
  have kR := (Kpt.rd g1 (show p < w.heap.size + 1 by have := HLT.out; omega)).trans kS
  have hqs : w.heap.size + 1 ≤ _ := HH8.out.lt
  have K1 : Hid (SlF (w9.setCell ⟨w.heap.size, 10, none⟩ (.slice A1 n1 c1)) (w.heap.size + 1) (.slice A1 n1 c1) (r1 l).1) := Lib.hid ((own_slF ho (celR_ok HH8.out.rs.sl.ok) hqs).at kS)
  clear ho kS kR hqs
  have HN1 := Lib.hid hn1
  clear hn1
  clear h1 g1 H1 c_8 f_8 c_9 f_9
  go_wp2_with fail
  refine (rcell_any HH9.out.rs).mono ?_
  rintro e w10 ⟨A2, m2, c2, s1, rfl, ho, h1, g1⟩
  obtain rfl : m2 = (r2 l).1.length := celR_len ho rfl
  obtain ⟨n2, hn2⟩ : ∃ n, n = (r2 l).1.length := ⟨_, rfl⟩
  rw [← hn2] at ho ⊢
  replace h1 : RS w0 w10 p s1 (r2 l).2 := h1
  have H1 := HH9.out.step h1 g1
  have c_11 : w10.cell? ⟨w.heap.size, 11, none⟩ = some (.slice none 0 0) := H1.c 11
  have f_11 := H1.f 11
  have HH10 := Lib.hid (H1.put (cs' := #[.int .i64 (numR l 1), .int .i64 (numR (dr l 1) 1), .int .i64 (numR (dr l 2) 2), .int .i64 (numR (dr l 4) 1), .int .i64 (numR (dr l 5) 3), .int .i64 (numR (dr l 8) 3), .int .i64 (numR (dr l 11) 1), .int .i64 (numR (dr l 12) 1), .int .i64 (numR (dr l 13) 1), .int .i64 (numR (dr l 14) 1), .slice A1 n1 c1, .slice A2 n2 c2, .slice none 0 0, .slice none 0 0, .slice none 0 0, .slice none 0 0]) 11 (.slice A2 n2 c2) rfl)
  have kS : Kpt (w.heap.size + 1) w10 (w10.setCell ⟨w.heap.size, 11, none⟩ (.slice A2 n2 c2)) := Kpt.set _ _ (by omega)
  have kR := (Kpt.rd g1 (show p < w.heap.size + 1 by have := HLT.out; omega)).trans kS
  have hqs : w.heap.size + 1 ≤ _ := HH9.out.lt
  have K1 := Lib.hid (K1.out.at kR)
  have K2 : Hid (SlF (w10.setCell ⟨w.heap.size, 11, none⟩ (.slice A2 n2 c2)) (w.heap.size + 1) (.slice A2 n2 c2) (r2 l).1) := Lib.hid ((own_slF ho (celR_ok HH9.out.rs.sl.ok) hqs).at kS)
  clear ho kS kR hqs
  have HN2 := Lib.hid hn2
  clear hn2
  clear h1 g1 H1 c_10 f_10
  go_wp2_with fail
  refine (rmoves_any HH10.out.rs).mono ?_
  rintro e w11 ⟨A3, c3, s1, he, hE, hO, h1, g1⟩
  obtain ⟨n3, hn3⟩ : ∃ n, n = (r3 l).1.length := ⟨_, rfl⟩
  replace he : e = .returned (.slice A3 (r3 l).1.length c3) := he
  rw [← hn3] at he
  subst he
  replace hE : Els w11 (.slice A3 (r3 l).1.length c3) 4 ((r3 l).1.map mvV) := hE
  replace hO : ∀ b, (Value.slice A3 (r3 l).1.length c3).ownBlock = some b → _ ≤ b := hO
  rw [← hn3] at hE hO
  replace h1 : RS w0 w11 p s1 (r3 l).2 := h1
  have H1 := HH10.out.step h1 g1
  have c_12 : w11.cell? ⟨w.heap.size, 12, none⟩ = some (.slice none 0 0) := H1.c 12
  have f_12 := H1.f 12
  have HH11 := Lib.hid (H1.put (cs' := #[.int .i64 (numR l 1), .int .i64 (numR (dr l 1) 1), .int .i64 (numR (dr l 2) 2), .int .i64 (numR (dr l 4) 1), .int .i64 (numR (dr l 5) 3), .int .i64 (numR (dr l 8) 3), .int .i64 (numR (dr l 11) 1), .int .i64 (numR (dr l 12) 1), .int .i64 (numR (dr l 13) 1), .int .i64 (numR (dr l 14) 1), .slice A1 n1 c1, .slice A2 n2 c2, .slice A3 n3 c3, .slice none 0 0, .slice none 0 0, .slice none 0 0]) 12 (.slice A3 n3 c3) rfl)
  have kS : Kpt (w.heap.size + 1) w11 (w11.setCell ⟨w.heap.size, 12, none⟩ (.slice A3 n3 c3)) := Kpt.set _ _ (by omega)
  have kR := (Kpt.rd g1 (show p < w.heap.size + 1 by have := HLT.out; omega)).trans kS
  have hqs : w.heap.size + 1 ≤ _ := HH10.out.lt
  have K1 := Lib.hid (K1.out.at kR)
  have K2 := Lib.hid (K2.out.at kR)
  have K3 : Hid (ElF (w11.setCell ⟨w.heap.size, 12, none⟩ (.slice A3 n3 c3)) (w.heap.size + 1) (.slice A3 n3 c3) 4 ((r3 l).1.map mvV)) := Lib.hid (ElF.at ⟨hE, fun b hb => Nat.le_trans hqs (hO b hb)⟩ kS)
  clear hE hO kS kR hqs
  have HN3 := Lib.hid hn3
  clear hn3
  clear h1 g1 H1 c_11 f_11
  go_wp2_with fail
  refine (rlives_any HH11.out.rs).mono ?_
  rintro e w12 ⟨A4, c4, s1, he, hE, hO, h1, g1⟩
  obtain ⟨n4, hn4⟩ : ∃ n, n = (r4 l).1.length := ⟨_, rfl⟩
  replace he : e = .returned (.slice A4 (r4 l).1.length c4) := he
  rw [← hn4] at he
  subst he
  replace hE : Els w12 (.slice A4 (r4 l).1.length c4) 4 ((r4 l).1.map lvV) := hE
  replace hO : ∀ b, (Value.slice A4 (r4 l).1.length c4).ownBlock = some b → _ ≤ b := hO
  rw [← hn4] at hE hO
  replace h1 : RS w0 w12 p s1 (r4 l).2 := h1
  have H1 := HH11.out.step h1 g1
  have c_13 : w12.cell? ⟨w.heap.size, 13, none⟩ = some (.slice none 0 0) := H1.c 13
  have f_13 := H1.f 13
  have HH12 := Lib.hid (H1.put (cs' := #[.int .i64 (numR l 1), .int .i64 (numR (dr l 1) 1), .int .i64 (numR (dr l 2) 2), .int .i64 (numR (dr l 4) 1), .int .i64 (numR (dr l 5) 3), .int .i64 (numR (dr l 8) 3), .int .i64 (numR (dr l 11) 1), .int .i64 (numR (dr l 12) 1), .int .i64 (numR (dr l 13) 1), .int .i64 (numR (dr l 14) 1), .slice A1 n1 c1, .slice A2 n2 c2, .slice A3 n3 c3, .slice A4 n4 c4, .slice none 0 0, .slice none 0 0]) 13 (.slice A4 n4 c4) rfl)
  have kS : Kpt (w.heap.size + 1) w12 (w12.setCell ⟨w.heap.size, 13, none⟩ (.slice A4 n4 c4)) := Kpt.set _ _ (by omega)
  have kR := (Kpt.rd g1 (show p < w.heap.size + 1 by have := HLT.out; omega)).trans kS
  have hqs : w.heap.size + 1 ≤ _ := HH11.out.lt
  have K1 := Lib.hid (K1.out.at kR)
  have K2 := Lib.hid (K2.out.at kR)
  have K3 := Lib.hid (K3.out.at kR)
  have K4 : Hid (ElF (w12.setCell ⟨w.heap.size, 13, none⟩ (.slice A4 n4 c4)) (w.heap.size + 1) (.slice A4 n4 c4) 4 ((r4 l).1.map lvV)) := Lib.hid (ElF.at ⟨hE, fun b hb => Nat.le_trans hqs (hO b hb)⟩ kS)
  clear hE hO kS kR hqs
  have HN4 := Lib.hid hn4
  clear hn4
  clear h1 g1 H1 c_12 f_12
  go_wp2_with fail
  refine (rdirtys_any HH12.out.rs).mono ?_
  rintro e w13 ⟨A5, c5, s1, he, hE, hO, h1, g1⟩
  obtain ⟨n5, hn5⟩ : ∃ n, n = (r5 l).1.length := ⟨_, rfl⟩
  replace he : e = .returned (.slice A5 (r5 l).1.length c5) := he
  rw [← hn5] at he
  subst he
  replace hE : Els w13 (.slice A5 (r5 l).1.length c5) 2 ((r5 l).1.map dtV) := hE
  replace hO : ∀ b, (Value.slice A5 (r5 l).1.length c5).ownBlock = some b → _ ≤ b := hO
  rw [← hn5] at hE hO
  replace h1 : RS w0 w13 p s1 (r5 l).2 := h1
  have H1 := HH12.out.step h1 g1
  have c_14 : w13.cell? ⟨w.heap.size, 14, none⟩ = some (.slice none 0 0) := H1.c 14
  have f_14 := H1.f 14
  have HH13 := Lib.hid (H1.put (cs' := #[.int .i64 (numR l 1), .int .i64 (numR (dr l 1) 1), .int .i64 (numR (dr l 2) 2), .int .i64 (numR (dr l 4) 1), .int .i64 (numR (dr l 5) 3), .int .i64 (numR (dr l 8) 3), .int .i64 (numR (dr l 11) 1), .int .i64 (numR (dr l 12) 1), .int .i64 (numR (dr l 13) 1), .int .i64 (numR (dr l 14) 1), .slice A1 n1 c1, .slice A2 n2 c2, .slice A3 n3 c3, .slice A4 n4 c4, .slice A5 n5 c5, .slice none 0 0]) 14 (.slice A5 n5 c5) rfl)
  have kS : Kpt (w.heap.size + 1) w13 (w13.setCell ⟨w.heap.size, 14, none⟩ (.slice A5 n5 c5)) := Kpt.set _ _ (by omega)
  have kR := (Kpt.rd g1 (show p < w.heap.size + 1 by have := HLT.out; omega)).trans kS
  have hqs : w.heap.size + 1 ≤ _ := HH12.out.lt
  have K1 := Lib.hid (K1.out.at kR)
  have K2 := Lib.hid (K2.out.at kR)
  have K3 := Lib.hid (K3.out.at kR)
  have K4 := Lib.hid (K4.out.at kR)
  have K5 : Hid (ElF (w13.setCell ⟨w.heap.size, 14, none⟩ (.slice A5 n5 c5)) (w.heap.size + 1) (.slice A5 n5 c5) 2 ((r5 l).1.map dtV)) := Lib.hid (ElF.at ⟨hE, fun b hb => Nat.le_trans hqs (hO b hb)⟩ kS)
  clear hE hO kS kR hqs
  have HN5 := Lib.hid hn5
  clear hn5
  clear h1 g1 H1 c_13 f_13
  go_wp2_with fail
  refine (ropens_any HH13.out.rs).mono ?_
  rintro e w14 ⟨A6, c6, s1, he, hE, h1, g1⟩
  obtain ⟨n6, hn6⟩ : ∃ n, n = (r6 l).1.length := ⟨_, rfl⟩
  replace he : e = .returned (.slice A6 (r6 l).1.length c6) := he
  rw [← hn6] at he
  subst he
  replace hE : OpF w14 _ (.slice A6 (r6 l).1.length c6) (r6 l).1 := hE
  rw [← hn6] at hE
  replace h1 : RS w0 w14 p s1 (r6 l).2 := h1
  have H1 := HH13.out.step h1 g1
  have c_15 : w14.cell? ⟨w.heap.size, 15, none⟩ = some (.slice none 0 0) := H1.c 15
  have f_15 := H1.f 15
  have HH14 := Lib.hid (H1.put (cs' := #[.int .i64 (numR l 1), .int .i64 (numR (dr l 1) 1), .int .i64 (numR (dr l 2) 2), .int .i64 (numR (dr l 4) 1), .int .i64 (numR (dr l 5) 3), .int .i64 (numR (dr l 8) 3), .int .i64 (numR (dr l 11) 1), .int .i64 (numR (dr l 12) 1), .int .i64 (numR (dr l 13) 1), .int .i64 (numR (dr l 14) 1), .slice A1 n1 c1, .slice A2 n2 c2, .slice A3 n3 c3, .slice A4 n4 c4, .slice A5 n5 c5, .slice A6 n6 c6]) 15 (.slice A6 n6 c6) rfl)
  have kS : Kpt (w.heap.size + 1) w14 (w14.setCell ⟨w.heap.size, 15, none⟩ (.slice A6 n6 c6)) := Kpt.set _ _ (by omega)
  have kR := (Kpt.rd g1 (show p < w.heap.size + 1 by have := HLT.out; omega)).trans kS
  have hqs : w.heap.size + 1 ≤ _ := HH13.out.lt
  have K1 := Lib.hid (K1.out.at kR)
  have K2 := Lib.hid (K2.out.at kR)
  have K3 := Lib.hid (K3.out.at kR)
  have K4 := Lib.hid (K4.out.at kR)
  have K5 := Lib.hid (K5.out.at kR)
  have K6 : Hid (OpF (w14.setCell ⟨w.heap.size, 15, none⟩ (.slice A6 n6 c6)) (w.heap.size + 1) (.slice A6 n6 c6) (r6 l).1) := Lib.hid ((hE.low hqs).kpt kS)
  clear hE kS kR hqs
  have HN6 := Lib.hid hn6
  clear hn6
  clear h1 g1 H1 c_14 f_14
  have HB := Lib.hid HH14.out.bx
  have HE := Lib.hid (setRow_self _ _ _ _ _ HH14.out.bx)
  have HF := Lib.hid (show (Try.prog.info? 40).map (·.size) = some (#[.int .i64 (numR l 1), .int .i64 (numR (dr l 1) 1), .int .i64 (numR (dr l 2) 2), .int .i64 (numR (dr l 4) 1), .int .i64 (numR (dr l 5) 3), .int .i64 (numR (dr l 8) 3), .int .i64 (numR (dr l 11) 1), .int .i64 (numR (dr l 12) 1), .int .i64 (numR (dr l 13) 1), .int .i64 (numR (dr l 14) 1), .slice A1 n1 c1, .slice A2 n2 c2, .slice A3 n3 c3, .slice A4 n4 c4, .slice A5 n5 c5, .slice A6 n6 c6] : Array Value).size from infoEnt)
  have HA := Lib.hid (show (#[.int .i64 (numR l 1), .int .i64 (numR (dr l 1) 1), .int .i64 (numR (dr l 2) 2), .int .i64 (numR (dr l 4) 1), .int .i64 (numR (dr l 5) 3), .int .i64 (numR (dr l 8) 3), .int .i64 (numR (dr l 11) 1), .int .i64 (numR (dr l 12) 1), .int .i64 (numR (dr l 13) 1), .int .i64 (numR (dr l 14) 1), .slice A1 n1 c1, .slice A2 n2 c2, .slice A3 n3 c3, .slice A4 n4 c4, .slice A5 n5 c5, .slice A6 n6 c6] : Array Value).all (·.oneCell') = true from by simp [Value.oneCell'])
  go_upto_region 15 with (fail)
  generalize (w14.setCell ⟨w.heap.size, 15, none⟩ (.slice A6 n6 c6)) = wz at *
  clear c_15 f_15
  go_wp2_with (first
    | (with_reducible refine wpList_load_row rfl 40 (.tmp 2) rfl w.heap.size rfl 40 _ (0, 0) _ HB.out Try.underlying40 rfl HF.out ?_)
    | (with_reducible refine wpList_store_row rfl 40 (.tmp 2) (.tmp 45) rfl w.heap.size _ rfl rfl 40 _ HB.out HF.out rfl HA.out ?_))
  rw [HE.out]
  refine bodyPost_ret (v := .agg #[.int .i64 (numR l 1), .int .i64 (numR (dr l 1) 1), .int .i64 (numR (dr l 2) 2), .int .i64 (numR (dr l 4) 1), .int .i64 (numR (dr l 5) 3), .int .i64 (numR (dr l 8) 3), .int .i64 (numR (dr l 11) 1), .int .i64 (numR (dr l 12) 1), .int .i64 (numR (dr l 13) 1), .int .i64 (numR (dr l 14) 1), .slice A1 n1 c1, .slice A2 n2 c2, .slice A3 n3 c3, .slice A4 n4 c4, .slice A5 n5 c5, .slice A6 n6 c6]) ?_ rfl ?_
  · exact results_cell_row Try.results60 _ _ _ _ _ _ _ rfl HB.out Try.underlying40 rfl HF.out
  · exact ⟨_, _, _, _, _, _, _, rfl, ⟨K1.out, K2.out, K3.out, K4.out, K5.out, K6.out⟩, HH14.out.rs, HH14.out.rd⟩

end Go.Proofs.Ytemmhligohebfaa
