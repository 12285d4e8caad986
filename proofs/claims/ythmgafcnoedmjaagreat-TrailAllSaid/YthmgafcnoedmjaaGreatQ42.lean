/- TrailAll, a part. -/
import Derived.Test.YthmgafcnoedmjaaGreatQ33
namespace Go.Proofs.YthmgafcnoedmjaaGreat
set_option maxRecDepth 100000
open Go.RowKit
def SdRel (w : World) (l : List Int) (s i : Value) (wr : World) : Prop := ∃ k : Nat, k ≤ l.length ∧ i = .int .i64 k ∧ s = .int .i64 (numR l k) ∧ w = wr
set_option maxHeartbeats 1000000 in
theorem said_R {w : World} {v : Value} {l : List Int} (h : SlK .u8 w v l) (hl : l.length ≤ 3) : Calls Tryz.prog 93 #[v] w fun e w' => e = .returned (.int .i64 (numR l l.length)) ∧ w = w' := by
 have HOK := Lib.hid h.ok
 have HH := Lib.hid h
 obtain ⟨A, cap, rfl, q⟩ := h.form
 clear h
 go_enter Tryz.func93, Tryz.ntmps93
 go_wp2
 go_loopw [3, 4] (fun s i wr => SdRel w l s i wr) (fun _ i _ => l.length - (RowKit.intOf i).toNat)
 case atStart => exact ⟨0, Nat.zero_le _, rfl, by rw [numR_0], rfl⟩
 case round =>
  obtain ⟨k, hk, rfl, rfl, rfl⟩ := hrel
  by_cases hlt : k < l.length
  ·obtain ⟨b1, b2⟩ := numR_bd HOK.out k
   have b3 : numR l k < 65536 := by
    refine Int.lt_of_lt_of_le b2 ?_
    obtain rfl | rfl | rfl : k = 0 ∨ k = 1 ∨ k = 2 := by omega
    ·decide
    ·decide
    ·decide
   obtain ⟨x1, x2⟩ := getD_ok HOK.out k
   have e1 : numR l (k + 1) = numR l k * 256 + l.getD k 0 := numR_S hlt
   obtain ⟨b, off, hA, hc⟩ : ∃ b off, A = some ⟨b, off, none⟩ ∧ w.cell? ⟨b, off + k, none⟩ = some (.int .u8 (l.getD k 0)) := by
    obtain ⟨p, c, e, h1, h2, h3, h4⟩ := HH.out
    cases e
    cases A with
    | none => rw [(h3 rfl).1] at hlt; cases hlt
    | some a =>
     obtain ⟨h5, h6, h7⟩ := h4 a rfl
     obtain ⟨b, off, sp⟩ := a
     cases h5
     refine ⟨b, off, rfl, ?_⟩
     have := h7 k hlt
     rw [this, List.getD_eq_getElem?_getD, List.getElem?_eq_getElem hlt]
     rfl
   subst hA
   obtain ⟨N, hN⟩ : ∃ N, N = numR l k := ⟨_, rfl⟩
   obtain ⟨x, hx⟩ : ∃ x, x = l.getD k 0 := ⟨_, rfl⟩
   rw [← hN] at b1 b3 e1 ⊢
   rw [← hx] at x1 x2 e1 hc
   have HE := Lib.hid e1
   clear hN hx e1 b2
   have z1 : (0 : Int) ≤ (k : Int) := by omega
   have z2 : (k : Int) < (l.length : Int) := by omega
   go_wp2
   go_roundw
   case rel => exact ⟨k + 1, hlt, rfl, by rw [HE.out], rfl⟩
   case measure => simp [RowKit.intOf]; omega
  ·obtain rfl : k = l.length := by omega
   go_wp2
   go_ret
   exact ⟨rfl, rfl⟩
end Go.Proofs.YthmgafcnoedmjaaGreat
namespace Go.Proofs.YthmgafcnoedmjaaGreat
open Go.RowKit
structure RZ (w0 w : World) (p : Nat) (sv : Value) (l : List Int) (bad : Bool) : Prop where
 bx : w.heap[p]? = some (.cells #[sv, .bool bad] 135 (0, 0))
 sl : SlK .u8 w0 sv l
 bel : Below p w0 w
 le : w0.heap.size ≤ p
section
variable {w0 w w' : World} {p : Nat} {sv sv' : Value} {l l' : List Int} {bad : Bool}
theorem RZ.lt (h : RZ w0 w p sv l bad) : p < w.heap.size := (Array.getElem?_eq_some_iff.1 h.bx).1
theorem RZ.on (h : RZ w0 w p sv l bad) (hb : Below w.heap.size w w') : RZ w0 w' p sv l bad :=
 ⟨(hb.block p h.lt).trans h.bx, h.sl, h.bel.trans (hb.mono (Nat.le_of_lt h.lt)), h.le⟩
theorem RZ.now (h : RZ w0 w p sv l bad) : SlK .u8 w sv l := h.sl.below h.bel h.le
theorem RZ.set (h : RZ w0 w p sv l bad) (hs : SlK .u8 w0 sv' l') : RZ w0 (w.setCell ⟨p, 0, none⟩ sv') p sv' l' bad ∧ Rd p w (w.setCell ⟨p, 0, none⟩ sv') := by
 refine ⟨⟨?_, hs, ?_, h.le⟩, ⟨rfl, rfl, rfl, by simp, fun k _ hk => setCell_far _ _ _ _ hk⟩⟩
 ·rw [heap_setCell_same w p 0 _ _ _ h.bx]
  rfl
 ·exact h.bel.trans ⟨rfl, rfl, rfl, by simp, fun k hk => setCell_far _ _ _ _ (by omega)⟩
theorem RZ.mark (h : RZ w0 w p sv l bad) (b : Bool) : RZ w0 (w.setCell ⟨p, 1, none⟩ (.bool b)) p sv l b ∧ Rd p w (w.setCell ⟨p, 1, none⟩ (.bool b)) := by
 refine ⟨⟨?_, h.sl, ?_, h.le⟩, ⟨rfl, rfl, rfl, by simp, fun k _ hk => setCell_far _ _ _ _ hk⟩⟩
 ·rw [heap_setCell_same w p 1 _ _ _ h.bx]
  rfl
 ·exact h.bel.trans ⟨rfl, rfl, rfl, by simp, fun k hk => setCell_far _ _ _ _ (by omega)⟩
end
def TkP (w0 w : World) (p : Nat) (L l' : List Int) (b' : Bool) (e : Ending) (w' : World) : Prop := ∃ A m c sv', e = .returned (.slice A m c) ∧ w'.ownsRow w.heap.size 5 1 (.slice A m c) L.length (byteV L) ∧ RZ w0 w' p sv' l' b' ∧ Rd p w w'
theorem zeros_made (w : World) (n : Nat) (hn : n ≤ 1000) : (w.alloc (.cells (byteV (List.replicate n 0)).toArray 5)).ownsRow w.heap.size 5 1 (.slice (some ⟨w.heap.size, 0, none⟩) n n) (List.replicate n (0 : Int)).length (byteV (List.replicate n 0)) := by
 rw [List.length_replicate]
 refine ⟨by simp [byteV], .inr ⟨w.heap.size, n, (byteV (List.replicate n 0)).toArray, rfl, Nat.le_refl _, heap_alloc_new w _, Nat.le_refl _, by unfold maxLen; omega, by simp [byteV], ?_⟩⟩
 rw [List.take_of_length_le (by simp [byteV])]
set_option maxHeartbeats 1000000 in
theorem ztake_bad {w0 w : World} {p : Nat} {sv : Value} {l : List Int} {bad : Bool} (h : RZ w0 w p sv l bad) (n : Nat) (hn : n ≤ 100) (hb : bad = true ∨ l.length < n) :
  Calls Tryz.prog 94 #[.pointer (some ⟨p, 0, none⟩), .int .i64 n] w (TkP w0 w p (List.replicate n 0) l true) := by
 have c0 : w.cell? ⟨p, 0, none⟩ = some sv := (c_o h.bx 0).1
 have c1 : w.cell? ⟨p, 1, none⟩ = some (.bool bad) := (c_o h.bx 1).1
 have f1 := (c_o h.bx 1).2
 have hlt := h.lt
 have HM := Lib.hid (h.mark true)
 have hmk := fun W => make_bytes W n n (Nat.le_refl _) (by omega)
 obtain ⟨A, c, rfl, q⟩ := h.sl.form
 clear h
 have fin : TkP w0 w p (List.replicate n 0) l true (.returned (.slice (some ⟨w.heap.size, 0, none⟩) n n)) ((w.setCell ⟨p, 1, none⟩ (.bool true)).alloc (.cells (byteV (List.replicate n 0)).toArray 5)) := by
  have e : (w.setCell ⟨p, 1, none⟩ (.bool true)).heap.size = w.heap.size := by simp
  have ho := zeros_made (w.setCell ⟨p, 1, none⟩ (.bool true)) n (by omega)
  rw [e] at ho
  have hba : Below (w.setCell ⟨p, 1, none⟩ (.bool true)).heap.size (w.setCell ⟨p, 1, none⟩ (.bool true)) ((w.setCell ⟨p, 1, none⟩ (.bool true)).alloc (.cells (byteV (List.replicate n 0)).toArray 5)) := (Below.refl _ _).alloc (Nat.le_refl _) _
  exact ⟨_, _, _, _, rfl, ho, HM.out.1.on hba, HM.out.2.trans (Rd.of_below hba)⟩
 have FIN := Lib.hid fin
 clear fin
 cases bad with
 | true =>
  clear hb
  go_enter Tryz.func94, Tryz.ntmps94
  go_wp2
  go_ret
  exact FIN.out
 | false =>
  have hb2 : (l.length : Int) < (n : Int) := by
   rcases hb with h | h
   ·cases h
   ·omega
  clear hb
  go_enter Tryz.func94, Tryz.ntmps94
  go_wp2
  go_ret
  exact FIN.out
set_option maxHeartbeats 1000000 in
theorem ztake_ok {w0 w : World} {p : Nat} {sv : Value} {l : List Int} (h : RZ w0 w p sv l false) (n : Nat) (hn : n ≤ 100) (hl : n ≤ l.length) (hn0 : 0 < n) :
  Calls Tryz.prog 94 #[.pointer (some ⟨p, 0, none⟩), .int .i64 n] w (TkP w0 w p (l.take n) (l.drop n) false) := by
 have c0 : w.cell? ⟨p, 0, none⟩ = some sv := (c_o h.bx 0).1
 have c1 : w.cell? ⟨p, 1, none⟩ = some (.bool false) := (c_o h.bx 1).1
 have f0 := (c_o h.bx 0).2
 have hlt := h.lt
 obtain ⟨A, c, rfl, q⟩ := h.sl.form
 obtain ⟨b, off, rfl⟩ : ∃ b off, A = some ⟨b, off, none⟩ := by
  obtain ⟨_, _, e, _, _, h3, h4⟩ := h.sl
  cases e
  cases A with
  | none => rw [(h3 rfl).1] at hl; simp at hl; omega
  | some a =>
   obtain ⟨b, off, sp⟩ := a
   obtain ⟨h5, _⟩ := h4 _ rfl
   cases h5
   exact ⟨b, off, rfl⟩
 have HX := Lib.hid (h.sl.rest hl)
 have HH := Lib.hid h
 have hnl : ¬ (l.length : Int) < (n : Int) := by omega
 have happ : ∀ sv', SlK .u8 w0 sv' (l.drop n) → ∃ A2 m2 c2 w2, (∀ ty, (Builtin.append_ #[36, 36] ty #[.slice (some ⟨w.heap.size, 0, none⟩) 0 0, .slice (some ⟨b, off, none⟩) n c]).run Tryz.prog ((w.setCell ⟨p, 0, none⟩ sv').alloc (.cells #[] 5)) = .ok (.slice A2 m2 c2) w2) ∧ TkP w0 w p (l.take n) (l.drop n) false (.returned (.slice A2 m2 c2)) w2 := by
  intro sv' hs'
  obtain ⟨k1, k2⟩ := HH.out.set hs'
  have hba : Below (w.setCell ⟨p, 0, none⟩ sv').heap.size (w.setCell ⟨p, 0, none⟩ sv') ((w.setCell ⟨p, 0, none⟩ sv').alloc (.cells #[] 5)) := (Below.refl _ _).alloc (Nat.le_refl _) _
  have k3 := k1.on hba
  have e : (w.setCell ⟨p, 0, none⟩ sv').heap.size = w.heap.size := by simp
  have ho : ((w.setCell ⟨p, 0, none⟩ sv').alloc (.cells #[] 5)).ownsRow w.heap.size 5 1 (.slice (some ⟨w.heap.size, 0, none⟩) 0 0) 0 (byteV []) := by
   have := World.ownsRow_made (e := 5) (size := 1) (w.setCell ⟨p, 0, none⟩ sv') #[] 0 (Nat.le_of_eq e.symm) (by unfold maxLen; omega) rfl
   rw [e] at this
   exact this
  have hsl : SlK .u8 ((w.setCell ⟨p, 0, none⟩ sv').alloc (.cells #[] 5)) (.slice (some ⟨b, off, none⟩) n c) (l.take n) := (HH.out.sl.pre hl).below k3.bel k3.le
  have hll : (l.take n).length = n := by rw [List.length_take]; omega
  obtain ⟨v', w', hr, ho2, hg, hv⟩ := run_append_sl ho hsl.sw (by omega) (by have := hba.size; omega)
  obtain ⟨A2, m2, c2, rfl⟩ := own_shape ho2
  have hg3 : Below w.heap.size ((w.setCell ⟨p, 0, none⟩ sv').alloc (.cells #[] 5)) w' := ⟨hg.os, hg.tape, hg.output, hg.size, fun k hk => hg.block k (by have := hba.size; omega) (by intro e2; simp [Value.ownBlock] at e2; omega)⟩
  refine ⟨A2, m2, c2, w', hr, _, _, _, _, rfl, ?_, ⟨(hg3.block p hlt).trans k3.bx, k3.sl, k3.bel.trans (hg3.mono (Nat.le_of_lt hlt)), k3.le⟩, k2.trans ⟨hg3.os.trans hba.os, hg3.tape.trans hba.tape, hg3.output.trans hba.output, Nat.le_trans hba.size hg3.size, fun k hk _ => ?_⟩⟩
  ·simpa using ho2
  ·rw [e] at hk
   exact (hg3.block k hk).trans (hba.block k (by omega))
 have HAP := Lib.hid happ
 clear h happ
 by_cases hc : c = n
 ·subst hc
  obtain ⟨A2, m2, c2, w2, hr, hp⟩ := HAP.out _ (HX.out.2.2 (by omega))
  have HR := Lib.hid hr
  have HP := Lib.hid hp
  clear hr hp
  go_enter Tryz.func94, Tryz.ntmps94
  go_wp2_with (at_builtin; refine Lib.wpList_append_run _ rfl _ _ _ _ rfl _ _ rfl rfl _ _ (HR.out _) ?_)
  go_ret
  exact HP.out
 ·obtain ⟨A2, m2, c2, w2, hr, hp⟩ := HAP.out _ HX.out.2.1
  have HR := Lib.hid hr
  have HP := Lib.hid hp
  clear hr hp
  go_enter Tryz.func94, Tryz.ntmps94
  go_wp2_with (at_builtin; refine Lib.wpList_append_run _ rfl _ _ _ _ rfl _ _ rfl rfl _ _ (HR.out _) ?_)
  go_ret
  exact HP.out
end Go.Proofs.YthmgafcnoedmjaaGreat
namespace Go.Proofs.YthmgafcnoedmjaaGreat
open Go.RowKit
abbrev ZS := List Int × Bool
def zok (s : ZS) (k : Nat) : Bool := !s.2 && decide (k ≤ s.1.length)
def zv (s : ZS) (k : Nat) : Int := if zok s k = true then numR s.1 k else 0
def zr (s : ZS) (k : Nat) : ZS := if zok s k = true then (s.1.drop k, false) else (s.1, true)
def ZRP (w0 w : World) (p : Nat) (r : Value) (s : ZS) (e : Ending) (w' : World) : Prop := e = .returned r ∧ ∃ sv', RZ w0 w' p sv' s.1 s.2 ∧ Rd p w w'
theorem numR_zero (n : Nat) : ∀ k, numR (List.replicate n 0) k = 0
 | 0 => numR_0 _
 | k + 1 => by
  simp only [numR_s, numR_zero n k, List.getD_eq_getElem?_getD, List.getElem?_replicate]
  split <;> (try split) <;> rfl
set_option maxHeartbeats 1000000 in
theorem znr_any {w0 w : World} {p : Nat} {sv : Value} (s : ZS) (h : RZ w0 w p sv s.1 s.2) (k : Nat) (hk : k = 1 ∨ k = 2 ∨ k = 3) :
  Calls Tryz.prog 77 #[.pointer (some ⟨p, 0, none⟩), .int .i64 k] w (ZRP w0 w p (.int .i64 (zv s k)) (zr s k)) := by
 obtain ⟨l, bad⟩ := s
 simp only at h
 have HT : Hid (Calls Tryz.prog 94 #[.pointer (some ⟨p, 0, none⟩), .int .i64 k] w (fun e w' => ∃ L : List Int, L.length = k ∧ bytesOk L ∧ zv (l, bad) k = numR L k ∧ TkP w0 w p L (zr (l, bad) k).1 (zr (l, bad) k).2 e w')) := by
  cases ho : zok (l, bad) k with
  | true =>
   simp only [zok, Bool.and_eq_true, decide_eq_true_eq, Bool.not_eq_true'] at ho
   obtain ⟨hb, hl⟩ := ho
   subst hb
   have e1 : zv (l, false) k = numR l k := by unfold zv zok; simp [hl]
   have e2 : zr (l, false) k = (l.drop k, false) := by unfold zr zok; simp [hl]
   refine (ztake_ok h k (by omega) hl (by omega)).mono fun e w' hp => ⟨l.take k, by rw [List.length_take]; omega, ok_take h.sl.ok _, by rw [e1, numR_take _ _ _ (Nat.le_refl _)], by rw [e2]; exact hp⟩
  | false =>
   have e1 : zv (l, bad) k = 0 := by unfold zv; rw [ho]; rfl
   have e2 : zr (l, bad) k = (l, true) := by unfold zr; rw [ho]; rfl
   have hb : bad = true ∨ l.length < k := by
    simp only [zok, Bool.and_eq_false_iff, Bool.not_eq_false', decide_eq_false_iff_not] at ho
    rcases ho with h | h
    ·exact .inl h
    ·exact .inr (by omega)
   refine (ztake_bad h k (by omega) hb).mono fun e w' hp => ⟨List.replicate k 0, by simp, fun x hx => by rw [List.mem_replicate] at hx; omega, by rw [e1, numR_zero], by rw [e2]; exact hp⟩
 clear h
 go_enter Tryz.func77, Tryz.ntmps77
 go_wp2_with fail
 refine HT.out.mono ?_
 rintro e w1 ⟨L, hL, hok, hv, A, m, c, s1, rfl, ho, h1, g1⟩
 have HS := Lib.hid (said_R (own_slK ho hok) (by omega))
 rw [hL, ← hv] at HS
 have H1 := Lib.hid h1
 have G1 := Lib.hid g1
 clear ho h1 g1 hv hok HT
 go_wp2_with fail
 refine HS.out.mono ?_
 rintro e w2 ⟨rfl, rfl⟩
 go_wp2
 go_ret
 exact ⟨rfl, s1, H1.out, G1.out⟩
end Go.Proofs.YthmgafcnoedmjaaGreat
namespace Go.Proofs.YthmgafcnoedmjaaGreat
open Go.RowKit
def zr2 (s : ZS) : ZS := zr (zr s 1) 1
def zrV (s : ZS) : Array Value := #[.int .i64 (zv s 1), .int .i64 (zv (zr s 1) 1)]
def zm (s : ZS) : Int := if decide (40 < zv s 1) || (zr s 1).2 then 0 else zv s 1
def zmS (s : ZS) : ZS := if decide (40 < zv s 1) || (zr s 1).2 then ((zr s 1).1, true) else zr s 1
set_option maxHeartbeats 1000000 in
theorem zrid2_any {w0 w : World} {p : Nat} {sv : Value} (s : ZS) (h : RZ w0 w p sv s.1 s.2) :
  Calls Tryz.prog 78 #[.pointer (some ⟨p, 0, none⟩)] w (ZRP w0 w p (.agg (zrV s)) (zr2 s)) := by
 have hb0 : Below w.heap.size w (w.alloc (.cells #[.int .i64 0, .int .i64 0] 38)) := (Below.refl _ _).alloc (Nat.le_refl _) _
 have HB0 := Lib.hid hb0
 have H0 := Lib.hid (h.on hb0)
 have HBX := Lib.hid (heap_alloc_new w (.cells #[.int .i64 0, .int .i64 0] 38))
 have hp := h.lt
 have HW0 : Hid (w.heap.size < (w.alloc (.cells #[.int .i64 0, .int .i64 0] 38)).heap.size) := by show _ < _; simp
 have HLE := Lib.hid h.le
 clear h hb0
 go_enter Tryz.func78, Tryz.ntmps78
 go_wp2_with fail
 refine (znr_any s H0.out 1 (.inl rfl)).mono ?_
 rintro e w1 ⟨rfl, s1, h1, g1⟩
 have H1 := Lib.hid h1
 have G1 := Lib.hid g1
 clear h1 g1
 go_wp2_with fail
 refine (znr_any (zr s 1) H1.out 1 (.inl rfl)).mono ?_
 rintro e w2 ⟨rfl, s2, h2, g2⟩
 have hbx2 := (g2.block w.heap.size (Nat.lt_of_lt_of_le HW0.out G1.out.size) (by omega)).trans ((G1.out.block w.heap.size HW0.out (by omega)).trans HBX.out)
 have hrd : Rd p w w2 := (Rd.of_below HB0.out).trans (G1.out.trans g2)
 have k0 := (c_o hbx2 0).1
 have k1 := (c_o hbx2 1).1
 have f0 := (c_o hbx2 0).2
 have f1 := (c_o hbx2 1).2
 have hset : ∀ (W : World) (i : Nat) (v : Value), RZ w0 W p s2 (zr2 s).1 (zr2 s).2 → Rd p w W → RZ w0 (W.setCell ⟨w.heap.size, i, none⟩ v) p s2 (zr2 s).1 (zr2 s).2 ∧ Rd p w (W.setCell ⟨w.heap.size, i, none⟩ v) := fun W i v a b =>
  ⟨⟨(setCell_far _ _ _ _ (by omega)).trans a.bx, a.sl, a.bel.trans ⟨rfl, rfl, rfl, by simp, fun k hk => setCell_far _ _ _ _ (by omega)⟩, a.le⟩, ⟨b.os, b.tape, b.output, by simpa using b.size, fun k hk hne => (setCell_far _ _ _ _ (by omega)).trans (b.block k hk hne)⟩⟩
 have e1 := hset w2 0 (.int .i64 (zv s 1)) h2 hrd
 have e2 := hset _ 1 (.int .i64 (zv (zr s 1) 1)) e1.1 e1.2
 have HE := Lib.hid e2
 have HX : Hid (((w2.setCell ⟨w.heap.size, 0, none⟩ (.int .i64 (zv s 1))).setCell ⟨w.heap.size, 1, none⟩ (.int .i64 (zv (zr s 1) 1))).heap[w.heap.size]? = some (.cells #[.int .i64 (zv s 1), .int .i64 (zv (zr s 1) 1)] 38 (0, 0))) :=
  heap_setCell_same _ _ 1 _ _ _ (heap_setCell_same _ _ 0 _ _ _ hbx2)
 have HF := Lib.hid (show (Tryz.prog.info? 38).map (·.size) = some (#[.int .i64 (zv s 1), .int .i64 (zv (zr s 1) 1)] : Array Value).size from infoRid)
 clear h2 g2 hrd hset e1 e2 hbx2
 go_wp2
 refine bodyPost_ret (v := .agg (zrV s)) ?_ rfl ?_
 ·exact results_cell_row Tryz.results78 _ _ _ _ _ _ _ rfl HX.out Tryz.underlying38 rfl HF.out
 ·exact ⟨rfl, s2, HE.out.1, HE.out.2⟩
set_option maxHeartbeats 1000000 in
theorem zmany_any {w0 w : World} {p : Nat} {sv : Value} (s : ZS) (h : RZ w0 w p sv s.1 s.2) :
  Calls Tryz.prog 81 #[.pointer (some ⟨p, 0, none⟩)] w (ZRP w0 w p (.int .i64 (zm s)) (zmS s)) := by
 have HH := Lib.hid h
 clear h
 go_enter Tryz.func81, Tryz.ntmps81
 go_wp2_with fail
 refine (znr_any s HH.out 1 (.inl rfl)).mono ?_
 rintro e w1 ⟨rfl, s1, h1, g1⟩
 have c1 : w1.cell? ⟨p, 1, none⟩ = some (.bool (zr s 1).2) := (c_o h1.bx 1).1
 have f1 := (c_o h1.bx 1).2
 have HM := Lib.hid (h1.mark true)
 have H1 := Lib.hid h1
 have G1 := Lib.hid g1
 clear h1 g1
 by_cases h40 : 40 < zv s 1
 ·have ea : zm s = 0 ∧ zmS s = ((zr s 1).1, true) := by unfold zm zmS; simp [h40]
  have HEA := Lib.hid ea
  clear ea
  go_wp2
  go_ret
  rw [HEA.out.1, HEA.out.2]
  exact ⟨rfl, s1, HM.out.1, G1.out.trans HM.out.2⟩
 ·cases hb : (zr s 1).2 with
  | true =>
   have ea : zm s = 0 ∧ zmS s = ((zr s 1).1, true) := by unfold zm zmS; simp [hb]
   have HEA := Lib.hid ea
   rw [hb] at c1
   clear ea hb
   go_wp2
   go_ret
   rw [HEA.out.1, HEA.out.2]
   exact ⟨rfl, s1, HM.out.1, G1.out.trans HM.out.2⟩
  | false =>
   have ea : zm s = zv s 1 ∧ zmS s = zr s 1 := by unfold zm zmS; simp [hb, h40]
   have HEA := Lib.hid ea
   rw [hb] at c1
   clear ea hb
   go_wp2
   go_ret
   rw [HEA.out.1, HEA.out.2]
   exact ⟨rfl, s1, H1.out, G1.out⟩
end Go.Proofs.YthmgafcnoedmjaaGreat
namespace Go.Proofs.YthmgafcnoedmjaaGreat
open Go.RowKit
def zcL (s : ZS) : List Int := if zv s 1 = 26 ∧ (zr s 1).2 = false then (if zok (zr s 1) 26 = true then (zr s 1).1.take 26 else List.replicate 26 0) else []
def zcS (s : ZS) : ZS := if zv s 1 = 0 then zr s 1 else if zv s 1 = 26 ∧ (zr s 1).2 = false then zr (zr s 1) 26 else ((zr s 1).1, true)
def ZCP (w0 w : World) (p : Nat) (L : List Int) (s : ZS) (e : Ending) (w' : World) : Prop := ∃ A m c sv', e = .returned (.slice A m c) ∧ w'.ownsRow w.heap.size 5 1 (.slice A m c) L.length (byteV L) ∧ RZ w0 w' p sv' s.1 s.2 ∧ Rd p w w'
set_option maxHeartbeats 1000000 in
theorem zcell2_any {w0 w : World} {p : Nat} {sv : Value} (s : ZS) (h : RZ w0 w p sv s.1 s.2) :
  Calls Tryz.prog 79 #[.pointer (some ⟨p, 0, none⟩)] w (ZCP w0 w p (zcL s) (zcS s)) := by
 have HH := Lib.hid h
 clear h
 go_enter Tryz.func79, Tryz.ntmps79
 go_wp2_with fail
 refine (znr_any s HH.out 1 (.inl rfl)).mono ?_
 rintro e w1 ⟨rfl, s1, h1, g1⟩
 have c1 : w1.cell? ⟨p, 1, none⟩ = some (.bool (zr s 1).2) := (c_o h1.bx 1).1
 have f1 := (c_o h1.bx 1).2
 have HM := Lib.hid (h1.mark true)
 have cm : (w1.setCell ⟨p, 1, none⟩ (.bool true)).cell? ⟨p, 1, none⟩ = some (.bool true) := (c_o HM.out.1.bx 1).1
 have H1 := Lib.hid h1
 have G1 := Lib.hid g1
 clear h1 g1
 by_cases h0 : zv s 1 = 0
 ·have ea : zcL s = [] ∧ zcS s = zr s 1 := by unfold zcL zcS; simp [h0]
  have HEA := Lib.hid ea
  clear ea cm
  go_wp2
  go_ret
  rw [HEA.out.1, HEA.out.2]
  exact ⟨none, 0, 0, s1, rfl, World.ownsRow_nil _ _ _ _, H1.out, G1.out⟩
 ·by_cases h26 : zv s 1 = 26
  ·have q0 : (zv s 1 == 0) = false := beq_eq_false_iff_ne.2 h0
   have q1 : (zv s 1 != 0) = true := by rw [bne, q0]; rfl
   have q2 : (zv s 1 != 26) = false := by rw [h26]; rfl
   cases hb : (zr s 1).2 with
   | true =>
    have ea : zcL s = [] ∧ zcS s = ((zr s 1).1, true) := by unfold zcL zcS; simp [h0, hb]
    have HEA := Lib.hid ea
    have HB := Lib.hid hb
    rw [hb] at c1
    clear ea hb h0 h26 cm
    go_wp2
    go_ret
    rw [HEA.out.1, HEA.out.2]
    have := H1.out
    rw [HB.out] at this
    exact ⟨none, 0, 0, s1, rfl, World.ownsRow_nil _ _ _ _, this, G1.out⟩
   | false =>
    have ea : zcL s = (if zok (zr s 1) 26 = true then (zr s 1).1.take 26 else List.replicate 26 0) ∧ zcS s = zr (zr s 1) 26 := by unfold zcL zcS; simp [h26, hb]
    have h1' := H1.out
    rw [hb] at h1'
    have HT : Hid (Calls Tryz.prog 94 #[.pointer (some ⟨p, 0, none⟩), .int .i64 26] w1 (TkP w0 w1 p (zcL s) (zcS s).1 (zcS s).2)) := by
     show Calls _ _ _ _ _
     rw [ea.1, ea.2]
     cases ho : zok (zr s 1) 26 with
     | true =>
      have e2 : zr (zr s 1) 26 = ((zr s 1).1.drop 26, false) := by
       show (if zok (zr s 1) 26 = true then _ else _) = _
       rw [ho]; rfl
      rw [e2]
      simp only [zok, Bool.and_eq_true, decide_eq_true_eq] at ho
      exact ztake_ok h1' 26 (by omega) ho.2 (by omega)
     | false =>
      have e2 : zr (zr s 1) 26 = ((zr s 1).1, true) := by
       show (if zok (zr s 1) 26 = true then _ else _) = _
       rw [ho]; rfl
      rw [e2]
      refine ztake_bad h1' 26 (by omega) ?_
      simp only [zok, hb, Bool.not_false, Bool.true_and, decide_eq_false_iff_not] at ho
      exact .inr (by omega)
    rw [hb] at c1
    rw [h26] at *
    clear ea hb h0 cm h1'
    go_wp2_with fail
    refine HT.out.mono ?_
    rintro e w2 ⟨A, m, c, s2, rfl, ho, h2, g2⟩
    have HO := Lib.hid ho
    have H2 := Lib.hid h2
    have G2 := Lib.hid g2
    clear ho h2 g2
    go_wp2
    go_ret
    exact ⟨A, m, c, s2, rfl, HO.out.mono G1.out.size, H2.out, G1.out.trans G2.out⟩
  ·have ea : zcL s = [] ∧ zcS s = ((zr s 1).1, true) := by unfold zcL zcS; simp [h0, h26]
   have q0 : (zv s 1 == 0) = false := beq_eq_false_iff_ne.2 h0
   have q1 : (zv s 1 != 0) = true := by rw [bne, q0]; rfl
   have q2 : (zv s 1 != 26) = true := by rw [bne, beq_eq_false_iff_ne.2 h26]; rfl
   have HEA := Lib.hid ea
   clear ea h0 h26
   go_wp2
   go_ret
   rw [HEA.out.1, HEA.out.2]
   exact ⟨none, 0, 0, s1, rfl, World.ownsRow_nil _ _ _ _, HM.out.1, G1.out.trans HM.out.2⟩
end Go.Proofs.YthmgafcnoedmjaaGreat
namespace Go.Proofs.YthmgafcnoedmjaaGreat
open Go.RowKit
def zl {α : Type} (f : ZS → α × ZS) : Nat → ZS → List α × ZS
 | 0, s => ([], s)
 | n + 1, s => if s.2 = true then ([], s) else ((f s).1 :: (zl f n (f s).2).1, (zl f n (f s).2).2)
def zmvF (s : ZS) : Mv × ZS := ((zv s 1, zv (zr s 1) 1, zv (zr2 s) 1, zv (zr (zr2 s) 1) 1), zr2 (zr2 s))
def zmv (s : ZS) : List Mv × ZS := zl zmvF (zm s).toNat (zmS s)
theorem RZ.grow {w0 w w' : World} {p : Nat} {sv : Value} {l : List Int} {bad : Bool} {row : Option Nat} (h : RZ w0 w p sv l bad) (hg : w.grownBy w' row) (hr : ∀ k, row = some k → p < k) : RZ w0 w' p sv l bad := by
 have hb : ∀ B, B ≤ p + 1 → Below B w w' := fun B hB => ⟨hg.os, hg.tape, hg.output, hg.size, fun k hk => hg.block k (by have := h.lt; omega) (fun e => by have := hr k e.symm; omega)⟩
 exact ⟨((hb (p + 1) (Nat.le_refl _)).block p (by omega)).trans h.bx, h.sl, h.bel.trans (hb p (by omega)), h.le⟩
def ZLP {α : Type} (w0 w : World) (p k : Nat) (V : α → List Value) (r : List α × ZS) (e : Ending) (w' : World) : Prop := ∃ A c sv', e = .returned (.slice A r.1.length c) ∧ Els w' (.slice A r.1.length c) k (r.1.map V) ∧ (∀ b, (Value.slice A r.1.length c).ownBlock = some b → w.heap.size ≤ b) ∧ RZ w0 w' p sv' r.2.1 r.2.2 ∧ Rd p w w'
def ZVRel {α : Type} (w0 w : World) (p k : Nat) (t : TypeId) (V : α → List Value) (f : ZS → α × ZS) (total : List α × ZS) (v i : Value) (wr : World) : Prop :=
 ∃ (n : Nat) (D : List α) (st : ZS) (A : Option Addr) (m c : Nat) (sv : Value), n ≤ 40 ∧ i = .int .i64 n ∧ v = .slice A m c ∧ D.length + n ≤ 40 ∧ wr.ownsRow w.heap.size t k (.slice A m c) D.length (D.flatMap V) ∧ D ++ (zl f n st).1 = total.1 ∧ (zl f n st).2 = total.2 ∧ RZ w0 wr p sv st.1 st.2 ∧ Rd p w wr
theorem zv_pos {s : ZS} (h : bytesOk s.1) (k : Nat) : 0 ≤ zv s k := by
 unfold zv
 split
 ·exact (numR_bd h k).1
 ·omega
set_option maxHeartbeats 1000000 in
theorem zmv_any {w0 w : World} {p : Nat} {sv : Value} (s : ZS) (h : RZ w0 w p sv s.1 s.2) :
  Calls Tryz.prog 80 #[.pointer (some ⟨p, 0, none⟩)] w (ZLP w0 w p 4 mvV (zmv s)) := by
 obtain ⟨i, hi, hz0, hz1, hz2⟩ := info_parts informoves_any
 have hlt := h.lt
 have hok := h.sl.ok
 have hz40 : 0 ≤ zm s ∧ zm s ≤ 40 := by
  have := zv_pos hok 1
  unfold zm
  split
  ·omega
  ·rename_i h
   simp only [Bool.or_eq_true, decide_eq_true_eq, not_or] at h
   omega
 obtain ⟨N, hN⟩ : ∃ N : Nat, zm s = N := ⟨(zm s).toNat, by omega⟩
 have hN40 : N ≤ 40 := by omega
 have hT : zmv s = zl zmvF N (zmS s) := by unfold zmv; rw [hN]; rfl
 have HH := Lib.hid h
 have HT := Lib.hid hT
 clear h hok hz40 hT
 go_enter Tryz.func80, Tryz.ntmps80
 go_wp2_with fail
 refine (zmany_any s HH.out).mono ?_
 rintro e w1 ⟨he, s1, h1, g1⟩
 rw [hN] at he
 subst he
 have H1 : Hid (ZVRel w0 w p 4 147 mvV zmvF (zmv s) (.slice none 0 0) (.int .i64 N) w1) := ⟨N, [], zmS s, none, 0, 0, s1, hN40, rfl, rfl, by simpa using hN40, World.ownsRow_nil _ _ _ _, by rw [HT.out]; rfl, by rw [HT.out], h1, g1⟩
 clear h1 g1 hN
 go_wp2
 go_loopw [3, 4] (fun v i wr => ZVRel w0 w p 4 147 mvV zmvF (zmv s) v i wr) (fun _ i _ => (RowKit.intOf i).toNat)
 case atStart => exact H1.out
 case round =>
  obtain ⟨n, D, st, A, m, c, s2, hn, rfl, rfl, hDn, ho, ht1, ht2, h2, g2⟩ := hrel
  have c1 : wr.cell? ⟨p, 1, none⟩ = some (.bool st.2) := (c_o h2.bx 1).1
  have HO := Lib.hid ho
  have HT1 := Lib.hid ht1
  have HT2 := Lib.hid ht2
  have H2 := Lib.hid h2
  have G2 := Lib.hid g2
  clear ho ht1 ht2 h2 g2
  have fin : (zl zmvF n st) = ([], st) → ZLP w0 w p 4 mvV (zmv s) (.returned (.slice A m c)) wr := fun e => by
   have e1 : (zmv s).1 = D := by rw [← HT1.out, e]; simp
   have e2 : (zmv s).2 = st := by rw [← HT2.out, e]
   have hm := own_n HO.out
   subst hm
   have hE := own_els (f := mvV) (fun _ => rfl) HO.out rfl
   exact ⟨A, c, s2, by rw [e1], by rw [e1]; exact hE.1, by rw [e1]; exact hE.2, by rw [e2]; exact H2.out, G2.out⟩
  have FIN := Lib.hid fin
  clear fin
  cases n with
  | zero =>
   go_wp2
   go_ret
   exact FIN.out rfl
  | succ n =>
   have hpos : (0 : Int) < ((n + 1 : Nat) : Int) := by omega
   cases hb : st.2 with
   | true =>
    have HF := Lib.hid (FIN.out (by unfold zl; rw [if_pos hb]))
    rw [hb] at c1
    clear hb
    go_wp2
    go_ret
    exact HF.out
   | false =>
    have HZ : Hid (zl zmvF (n + 1) st = ((zmvF st).1 :: (zl zmvF n (zmvF st).2).1, (zl zmvF n (zmvF st).2).2)) := by
     show zl zmvF (n + 1) st = _
     rw [zl, if_neg (by rw [hb]; decide)]
    rw [hb] at c1
    clear hb FIN
    go_wp2_with fail
    refine (zrid2_any st H2.out).mono ?_
    rintro e w3 ⟨he, s3, h3, g3⟩
    replace he : e = .returned (.agg #[.int .i64 (zv st 1), .int .i64 (zv (zr st 1) 1)]) := he
    subst he
    have H3 := Lib.hid h3
    have G3 := Lib.hid g3
    clear h3 g3 c1
    go_wp2_with fail
    refine (zrid2_any (zr2 st) H3.out).mono ?_
    rintro e w4 ⟨he, s4, h4, g4⟩
    replace he : e = .returned (.agg #[.int .i64 (zv (zr2 st) 1), .int .i64 (zv (zr (zr2 st) 1) 1)]) := he
    subst he
    obtain ⟨a0, ha0⟩ : ∃ x, x = zv st 1 := ⟨_, rfl⟩
    obtain ⟨a1, ha1⟩ : ∃ x, x = zv (zr st 1) 1 := ⟨_, rfl⟩
    obtain ⟨a2, ha2⟩ : ∃ x, x = zv (zr2 st) 1 := ⟨_, rfl⟩
    obtain ⟨a3, ha3⟩ : ∃ x, x = zv (zr (zr2 st) 1) 1 := ⟨_, rfl⟩
    rw [← ha0, ← ha1, ← ha2, ← ha3]
    have HMV : Hid ((zmvF st).1 = (a0, a1, a2, a3)) := by
     show (zmvF st).1 = _
     rw [ha0, ha1, ha2, ha3]
     rfl
    have hg34 : Rd p wr w4 := G3.out.trans g4
    have hsz : w.heap.size ≤ w4.heap.size := Nat.le_trans G2.out.size hg34.size
    have ho4 : w4.ownsRow w.heap.size 147 4 (.slice A m c) D.length (D.flatMap mvV) := own_at HO.out fun k hk => hg34.block k (HO.out.lt k hk).2 (by have := (HO.out.lt k hk).1; omega)
    have hoa : ∀ o, (w4.alloc o).ownsRow w.heap.size 147 4 (.slice A m c) D.length (D.flatMap mvV) := fun o => ho4.alloc o
    have HOA := Lib.hid hoa
    have HA4 : Hid (∀ o, Below w4.heap.size w4 (w4.alloc o)) := fun o => (Below.refl _ _).alloc (Nat.le_refl _) _
    have H4 := Lib.hid h4
    have G4 := Lib.hid (G2.out.trans hg34)
    have HZS := Lib.hid hsz
    clear ho4 hoa h4 g4 hg34 hsz ha0 ha1 ha2 ha3
    go_wp2_with (at_builtin; refine wpList_append_lies _ rfl _ _ 39 rfl w.heap.size 147 i (.agg #[.int .i64 0, .int .i64 0, .int .i64 0, .int .i64 0]) 4 32 Tryz.underlying39 hi hz0 hz1 hz2 rfl (by decide) (.slice A m c) D.length _ rfl (HOA.out _) ⟨w4.heap.size, 0, none⟩ 1 1 [.int .i64 a0, .int .i64 a1, .int .i64 a2, .int .i64 a3] rfl rfl ?c1 ?c2 ?c3 ?c4 ?c5 ?c6 _ rfl ?_)
    case c1 => exact World.news_of_block (heap_alloc_new w4 _)
    case c2 => intro u hu; simp at hu; rcases hu with rfl | rfl | rfl | rfl <;> rfl
    case c3 => omega
    case c4 => unfold maxLen; omega
    case c5 => omega
    case c6 => simp; exact Nat.le_succ_of_le HZS.out
    intro g5 c5 w5 ho5 hg5 hv5 hl5
    have h5 := (H4.out.on (HA4.out _)).grow hg5 (fun k hk => by have := (HO.out.lt k hk).1; omega)
    have hr5 : ZVRel w0 w p 4 147 mvV zmvF (zmv s) (.slice (some ⟨g5, 0, none⟩) (D.length + 1) c5) (.int .i64 n) w5 := by
     have e1 := HT1.out
     have e2 := HT2.out
     rw [HZ.out] at e1 e2
     refine ⟨n, D ++ [(a0, a1, a2, a3)], (zmvF st).2, _, _, _, s4, by omega, rfl, rfl, by rw [List.length_append]; simp; omega, ?_, ?_, e2, h5, ((G4.out).trans (Rd.of_below (HA4.out _))).grow hg5 (fun k hk => (HO.out.lt k hk).1)⟩
     ·rw [List.flatMap_append, List.length_append]
      exact ho5
     ·rw [HMV.out] at e1
      rw [List.append_assoc]
      exact e1
    have HR5 := Lib.hid hr5
    clear ho5 hg5 hv5 hl5 h5 hr5
    go_wp2
    go_roundw
    all_goals first
     | exact HR5.out
     | (simp [RowKit.intOf]; omega)
     | (simp [RowKit.intOf])
end Go.Proofs.YthmgafcnoedmjaaGreat
