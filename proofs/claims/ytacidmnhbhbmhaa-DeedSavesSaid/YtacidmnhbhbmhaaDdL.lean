/- deed: begun answers true. -/
import Derived.Test.YtacidmnhbhbmhaaDdT
namespace Go.Proofs.Ytacidmnhbhbmhaa
open Go.RowKit

/-- A stack of one's own, since w0. -/
structure Mine (w0 w : World) (p : Nat) (L : List Int) (S : Nat → Int) : Prop where
  ex : ∃ b g v, DdAt w w0.heap.size p b g v L S
  be : Below w0.heap.size w0 w
theorem Mine.on {w0 w w' : World} {p : Nat} {L : List Int} {S : Nat → Int} (h : Mine w0 w p L S) (hb : Below w.heap.size w w') : Mine w0 w' p L S := by
  obtain ⟨b, g, v, h1⟩ := h.ex
  exact ⟨⟨b, g, v, h1.on hb⟩, h.be.trans (hb.mono h.be.size)⟩
theorem Mine.step {w0 w w' : World} {p b g : Nat} {v v' : Value} {L L' : List Int} {S S' : Nat → Int} (h : Mine w0 w p L S) (h0 : DdAt w w0.heap.size p b g v L S) (h1 : DdAt w' w0.heap.size p b g v' L' S') (hf : Fr w.heap.size (Dd b g v) w w') : Mine w0 w' p L' S' :=
  ⟨⟨b, g, v', h1⟩, h.be.trans (hf.below (B' := w0.heap.size) h.be.size fun _ hk => (h0.dlt hk).2)⟩

theorem mnew (w0 w : World) (hb : Below w0.heap.size w0 w) : Calls Try.prog 7 #[] w fun e w' => ∃ p, e = .returned (.pointer (some ⟨p, 0, none⟩)) ∧ Mine w0 w' p [] none4 := by
  refine (new_any w).mono fun e w' ⟨p, b, g, he, h1, h2⟩ => ⟨p, he, ⟨b, g, .slice none 0 0, ?_⟩, hb.trans (h2.mono hb.size)⟩
  exact ⟨h1.hp, h1.hb, h1.hs, own_base h1.hl hb.size, h1.ne, Nat.le_trans hb.size h1.lo.1, Nat.le_trans hb.size h1.lo.2.1, Nat.le_trans hb.size h1.lo.2.2⟩
theorem mpush {w0 w : World} {p : Nat} {L : List Int} {S : Nat → Int} (h : Mine w0 w p L S) (hL : L.length < 100000) (x : Int) :
    Calls Try.prog 13 #[.pointer (some ⟨p, 0, none⟩), .int .i64 x] w fun e w' => e = .returned (.tuple #[]) ∧ Mine w0 w' p (L ++ [x]) S := by
  obtain ⟨b, g, v, h1⟩ := h.ex
  exact (push_any w h1 h.be.size hL x).mono fun e w' ⟨v', he, h2, _, h3⟩ => ⟨he, h.step h1 h2 h3⟩
theorem msave {w0 w : World} {p : Nat} {L : List Int} {S : Nat → Int} (h : Mine w0 w p L S) {n : Nat} (hn : n < 4) :
    Calls Try.prog 8 #[.pointer (some ⟨p, 0, none⟩), .int .i64 (n : Int)] w fun e w' => e = .returned (.bool true) ∧ Mine w0 w' p L (upS S n (L.length : Int)) := by
  obtain ⟨b, g, v, h1⟩ := h.ex
  exact (save_any w h1 hn).mono fun e w' ⟨he, h2, h3⟩ => ⟨he, h.step h1 h2 h3⟩
theorem mback {w0 w : World} {p : Nat} {L : List Int} {S : Nat → Int} (h : Mine w0 w p L S) (hL : L.length < 100000) {n t : Nat} (hn : n < 4) (hS : S n = (t : Int)) (ht : t ≤ L.length) :
    Calls Try.prog 10 #[.pointer (some ⟨p, 0, none⟩), .int .i64 (n : Int)] w fun e w' => ∃ lv, e = .returned (.tuple #[lv, .bool true]) ∧ w'.ownsRow w.heap.size 3 1 lv (L.length - t) (intV (L.drop t).reverse) ∧ Mine w0 w' p (L.take t) (cutS S t) := by
  obtain ⟨b, g, v, h1⟩ := h.ex
  exact (back_yes w h1 hL hn hS ht).mono fun e w' ⟨v', lv, he, ho, h2, _, h3⟩ => ⟨lv, he, ho, h.step h1 h2 h3⟩
theorem mback_no {w0 w : World} {p : Nat} {L : List Int} {S : Nat → Int} (h : Mine w0 w p L S) {n : Int} (hS : svB S n = false) :
    Calls Try.prog 10 #[.pointer (some ⟨p, 0, none⟩), .int .i64 n] w fun e w' => e = .returned (.tuple #[.slice none 0 0, .bool false]) ∧ w' = w := by
  obtain ⟨b, g, v, h1⟩ := h.ex
  exact back_no w h1 hS
theorem mlen {w0 w : World} {p : Nat} {L : List Int} {S : Nat → Int} (h : Mine w0 w p L S) : Calls Try.prog 17 #[.pointer (some ⟨p, 0, none⟩)] w fun e w' => e = .returned (.int .i64 (L.length : Int)) ∧ w' = w := by
  obtain ⟨b, g, v, h1⟩ := h.ex
  exact len_any w h1
theorem mall {w0 w : World} {p : Nat} {L : List Int} {S : Nat → Int} (h : Mine w0 w p L S) (hL : L.length < 100000) :
    Calls Try.prog 15 #[.pointer (some ⟨p, 0, none⟩)] w fun e w' => ∃ v', e = .returned v' ∧ w'.ownsRow w.heap.size 3 1 v' L.length (intV L.reverse) ∧ Mine w0 w' p L S := by
  obtain ⟨b, g, v, h1⟩ := h.ex
  exact (all_any w h1 hL).mono fun e w' ⟨v', he, ho, hb⟩ => ⟨v', he, ho, h.on hb⟩

def S1 : Nat → Int := upS none4 0 1
set_option maxRecDepth 100000 in
set_option maxHeartbeats 1000000 in
theorem begun_any (w : World) : Calls Try.prog 6 #[] w fun e w' => e = .returned (.bool true) ∧ Below w.heap.size w w' := by
  have CN := mnew w w (Below.refl _ _)
  go_enter Try.func6, Try.ntmps6
  go_upto_region 4 with (first | (go_at_call 7; refine CN.mono ?_; rintro e w1 ⟨p, rfl, h1⟩))
  have C1 := mpush h1 (by decide) 1
  clear CN h1
  go_upto_region 5 with (first | (go_at_call 13; refine C1.mono ?_; rintro e w2 ⟨rfl, h2⟩))
  have C2 := msave h2 (n := 0) (by decide)
  clear C1 h2
  go_upto_region 6 with (first | (go_at_call 8; refine C2.mono ?_; rintro e w3 ⟨rfl, h3⟩))
  have C3 := mpush h3 (by decide) 2
  clear C2 h3
  go_upto_region 7 with (first | (go_at_call 13; refine C3.mono ?_; rintro e w4 ⟨rfl, h4⟩))
  have C4 := mback h4 (by decide) (n := 0) (t := 1) (by decide) (by decide) (by decide)
  clear C3 h4
  go_upto_region 8 with (first | (go_at_call 10; refine C4.mono ?_; rintro e w5 ⟨lv, rfl, ho, h5⟩))
  have h5' : Mine w w5 p [1] S1 := ⟨by obtain ⟨b, g, v, h6⟩ := h5.ex; exact ⟨b, g, v, h6.congr fun i hi => by
    rcases (by omega : i = 0 ∨ i = 1 ∨ i = 2 ∨ i = 3) with rfl | rfl | rfl | rfl <;> rfl⟩, h5.be⟩
  clear C4 h5
  obtain ⟨A, c, rfl⟩ := own_sl ho
  obtain ⟨q, x, rfl, hq1, hq2, hx, hc⟩ := own_at ho 0 (by decide)
  obtain rfl : x = .int .i64 2 := by simpa [intV] using hx.symm
  have CL := mlen h5'
  have CA := mall h5' (by decide)
  clear ho hx hq1 hq2 h5'
  dsimp only [List.length_append, List.length_cons, List.length_nil, Nat.zero_add] at *
  go_wp2_with (first | (go_at_call 17; refine CL.mono ?_; rintro e w6 ⟨rfl, hw⟩; obtain rfl := hw.symm; clear hw) | (go_at_call 15; refine CA.mono ?_; rintro e w7 ⟨v7, rfl, ho7, h7⟩; obtain ⟨A7, c7, rfl⟩ := own_sl ho7))
  go_ret
  exact ⟨rfl, h7.be⟩
end Go.Proofs.Ytacidmnhbhbmhaa
