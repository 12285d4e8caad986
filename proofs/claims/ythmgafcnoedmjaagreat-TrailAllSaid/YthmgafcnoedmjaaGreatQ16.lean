/- TrailAll, a part. -/
import Derived.Test.YthmgafcnoedmjaaGreatQ11
import Derived.Test.YthmgafcnoedmjaaGreatQ13
import Derived.Test.YthmgafcnoedmjaaGreatQ15
import Derived.Test.YthmgafcnoedmjaaGreatQ8
import Derived.Test.YthmgafcnoedmjaaGreatShelf
namespace Go.Proofs.YthmgafcnoedmjaaGreat
set_option maxRecDepth 100000
open Go.RowKit
theorem slk_at {w w' : World} {v : Value} {l : List Int} (h : SlK .u8 w v l) (hs : w.heap.size ≤ w'.heap.size) (hb : ∀ b, v.ownBlock = some b → b < w.heap.size → w'.heap[b]? = w.heap[b]?) : SlK .u8 w' v l := by
 obtain ⟨p, cap, rfl, h1, h2, h3, h4⟩ := h
 refine ⟨p, cap, rfl, h1, h2, h3, fun a ha => ?_⟩
 obtain ⟨h5, h6, h7⟩ := h4 a ha
 subst ha
 have e := hb a.block rfl h6
 refine ⟨h5, Nat.lt_of_lt_of_le h6 hs, fun j hj => ?_⟩
 rw [← h7 j hj]
 exact World.cell?_of_block e
theorem slk_lt {w : World} {v : Value} {l : List Int} (h : SlK .u8 w v l) {b : Nat} (hb : v.ownBlock = some b) : b < w.heap.size := by
 obtain ⟨p, cap, rfl, h1, h2, h3, h4⟩ := h
 cases p with
 | none => cases hb
 | some a =>
  cases hb
  exact (h4 a rfl).2.1
def SlG (w : World) (G : Nat → Prop) (sv : Value) (l : List Int) : Prop := SlK .u8 w sv l ∧ ∀ b, sv.ownBlock = some b → G b
def ElG (w : World) (G : Nat → Prop) (sv : Value) (k : Nat) (xs : List (List Value)) : Prop := Els w sv k xs ∧ (xs ≠ [] → ∀ b, sv.ownBlock = some b → G b)
def OpG (w : World) (G : Nat → Prop) (sv : Value) (ops : List Opn) : Prop := ∃ os : List (Opn × Value), ops = os.map Prod.fst ∧ ElG w G sv 3 (os.map opV) ∧ ∀ o ∈ os, ElG w G o.2 4 (o.1.2.2.map mvV)
structure EntG (w : World) (G : Nat → Prop) (s1 s2 s3 s4 s5 s6 : Value) (e : Ent) : Prop where
 old : SlG w G s1 e.old
 new : SlG w G s2 e.new
 moves : ElG w G s3 4 (e.moves.map mvV)
 lives : ElG w G s4 4 (e.lives.map lvV)
 dirty : ElG w G s5 2 (e.dirty.map dtV)
 opens : OpG w G s6 e.opens
section
variable {w w' : World} {G G' : Nat → Prop} {sv : Value} {k B : Nat} {l : List Int} {xs : List (List Value)}
theorem SlG.at (h : SlG w G sv l) (hs : w.heap.size ≤ w'.heap.size) (hb : ∀ b, G b → w'.heap[b]? = w.heap[b]?) : SlG w' G sv l := ⟨slk_at h.1 hs fun b e _ => hb b (h.2 b e), h.2⟩
theorem ElG.at (h : ElG w G sv k xs) (hb : ∀ b, G b → w'.heap[b]? = w.heap[b]?) : ElG w' G sv k xs := ⟨h.1.at fun hne b e _ => hb b (h.2 hne b e), h.2⟩
theorem OpG.at {ops : List Opn} (h : OpG w G sv ops) (hb : ∀ b, G b → w'.heap[b]? = w.heap[b]?) : OpG w' G sv ops := by
 obtain ⟨os, e, h1, h2⟩ := h
 exact ⟨os, e, h1.at hb, fun o ho => (h2 o ho).at hb⟩
theorem SlG.mono (h : SlG w G sv l) (hG : ∀ b, G b → G' b) : SlG w G' sv l := ⟨h.1, fun b e => hG b (h.2 b e)⟩
theorem ElG.mono (h : ElG w G sv k xs) (hG : ∀ b, G b → G' b) : ElG w G' sv k xs := ⟨h.1, fun hne b e => hG b (h.2 hne b e)⟩
theorem OpG.mono {ops : List Opn} (h : OpG w G sv ops) (hG : ∀ b, G b → G' b) : OpG w G' sv ops := by
 obtain ⟨os, e, h1, h2⟩ := h
 exact ⟨os, e, h1.mono hG, fun o ho => (h2 o ho).mono hG⟩
theorem EntG.at {s1 s2 s3 s4 s5 s6 : Value} {e : Ent} (h : EntG w G s1 s2 s3 s4 s5 s6 e) (hs : w.heap.size ≤ w'.heap.size) (hb : ∀ b, G b → w'.heap[b]? = w.heap[b]?) : EntG w' G s1 s2 s3 s4 s5 s6 e :=
 ⟨h.old.at hs hb, h.new.at hs hb, h.moves.at hb, h.lives.at hb, h.dirty.at hb, h.opens.at hb⟩
theorem EntG.mono {s1 s2 s3 s4 s5 s6 : Value} {e : Ent} (h : EntG w G s1 s2 s3 s4 s5 s6 e) (hG : ∀ b, G b → G' b) : EntG w G' s1 s2 s3 s4 s5 s6 e :=
 ⟨h.old.mono hG, h.new.mono hG, h.moves.mono hG, h.lives.mono hG, h.dirty.mono hG, h.opens.mono hG⟩
theorem EntG.entS {s1 s2 s3 s4 s5 s6 : Value} {e : Ent} (h : EntG w G s1 s2 s3 s4 s5 s6 e) : EntS w s1 s2 s3 s4 s5 s6 e := by
 refine ⟨h.old.1.sw, h.new.1.sw, h.moves.1, h.lives.1, h.dirty.1, ?_⟩
 obtain ⟨os, e, h1, h2⟩ := h.opens
 exact ⟨os, e, h1.1, fun o ho => (h2 o ho).1⟩
theorem SlF.g (h : SlF w B sv l) : SlG w (fun b => B ≤ b ∧ b < w.heap.size) sv l := ⟨h.1, fun b e => ⟨h.2 b e, slk_lt h.1 e⟩⟩
theorem ElF.g (h : ElF w B sv k xs) : ElG w (fun b => B ≤ b ∧ b < w.heap.size) sv k xs := ⟨h.1, fun hne b e => ⟨h.2 b e, h.1.blk hne e⟩⟩
theorem OpF.g {ops : List Opn} (h : OpF w B sv ops) : OpG w (fun b => B ≤ b ∧ b < w.heap.size) sv ops := by
 obtain ⟨os, e, h1, h3, h2⟩ := h
 refine ⟨os, e, ⟨h1, fun hne b eb => ⟨h3 b eb, h1.blk hne eb⟩⟩, fun o ho => ⟨(h2 o ho).1, fun hne b eb => ⟨(h2 o ho).2 (fun e => hne (by rw [e]; rfl)) b eb, (h2 o ho).1.blk hne eb⟩⟩⟩
theorem EntF.g {s1 s2 s3 s4 s5 s6 : Value} {e : Ent} (h : EntF w B s1 s2 s3 s4 s5 s6 e) : EntG w (fun b => B ≤ b ∧ b < w.heap.size) s1 s2 s3 s4 s5 s6 e :=
 ⟨h.old.g, h.new.g, h.moves.g, h.lives.g, h.dirty.g, h.opens.g⟩
end
end Go.Proofs.YthmgafcnoedmjaaGreat
namespace Go.Proofs.YthmgafcnoedmjaaGreat
open Go.RowKit
def EnG (w : World) (G : Nat → Prop) (o : Ent × S6) : Prop := EntG w G o.2.1 o.2.2.1 o.2.2.2.1 o.2.2.2.2.1 o.2.2.2.2.2.1 o.2.2.2.2.2.2 o.1
def SeRel (w : World) (l : List Int) (n : Nat) (v : Value) (wr : World) : Prop := ∃ es : List (Ent × S6), wr.ownsRow w.heap.size 44 16 v es.length (es.flatMap enV) ∧ es.map Prod.fst ++ (scan (l.drop n)).map tkE = (scan l).map tkE ∧ n + frsN (scan (l.drop n)) = frsN (scan l) ∧ es.length ≤ n ∧ (∀ o ∈ es, EnG wr (fun b => w.heap.size ≤ b ∧ b < wr.heap.size ∧ v.ownBlock ≠ some b) o) ∧ Below w.heap.size w wr
def SePost (w : World) (l : List Int) (r : Ending) (w' : World) : Prop := ∃ (A : Option Addr) (c : Nat) (es : List (Ent × S6)), r = .returned (.tuple #[.slice A (scan l).length c, .int .i64 (frsN (scan l))]) ∧ es.map Prod.fst = (scan l).map tkE ∧ Els w' (.slice A (scan l).length c) 16 (es.map enV) ∧ (∀ b, (Value.slice A (scan l).length c).ownBlock = some b → w.heap.size ≤ b) ∧ (∀ o ∈ es, EnG w' (fun b => w.heap.size ≤ b ∧ b < w'.heap.size) o) ∧ Below w.heap.size w w'
set_option maxHeartbeats 1000000 in
theorem scanE_any (w : World) {sv : Value} {l : List Int} (h : SlK .u8 w sv l) (hl : l.length ≤ 126000) : Calls Tryz.prog 31 #[sv] w (SePost w l) := by
 obtain ⟨A0, c0, rfl, hlc⟩ := h.form
 have HS := Lib.hid h
 have H1 : Hid (SeRel w l 0 (.slice none 0 0) w) := Lib.hid ⟨[], World.ownsRow_nil _ _ _ _, by simp, by simp, Nat.le_refl _, (fun o ho => by cases ho), Below.refl _ _⟩
 obtain ⟨ii, hi, hz0, hz1, hz2⟩ := info_parts infoEntA
 have HII := Lib.hid (And.intro hi (And.intro hz0 (And.intro hz1 hz2)))
 clear h hi hz0 hz1 hz2
 go_enter Tryz.func31, Tryz.ntmps31
 go_wp2
 go_loopw [2, 3] (fun v i wr => ∃ n : Nat, n ≤ l.length ∧ i = .int .i64 n ∧ Hid (SeRel w l n v wr)) (fun _ i _ => l.length - ivT2 i)
 case atStart => exact ⟨0, Nat.zero_le _, rfl, H1⟩
 case round =>
  obtain ⟨n, hn, rfl, HR⟩ := hrel
  obtain ⟨es, ho, hs1, hs2, hkn, hin, hb⟩ := HR.out
  obtain ⟨A, m, c, rfl⟩ := own_shape ho
  have hm := own_n ho
  rw [← hm] at hkn
  have HMM := Lib.hid hm
  have HIN := Lib.hid hin
  clear hin
  have hsw := HS.out.below hb (Nat.le_refl _)
  have hi1 : (n : Int) ≤ (l.length : Int) := by omega
  have hi2 : (n : Int) ≤ (c0 : Int) := by omega
  have hi3 : n ≤ c0 := by omega
  obtain ⟨sv2, hsv2⟩ : ∃ v, v = (if n = c0 then Value.slice A0 0 0 else Value.slice (A0.map fun x => x.add n) (l.length - n) (c0 - n)) := ⟨_, rfl⟩
  have HO := Lib.hid ho
  have HS1 := Lib.hid hs1
  have HS2 := Lib.hid hs2
  have HB := Lib.hid hb
  have HSW := Lib.hid hsw
  clear ho hs1 hs2 hb hsw HR H1 hsv2 hm
  go_upto_region 1 with (fail)
  go_cut [4, 5, 6] (fun u v q wx => ∃ (g4 : Nat) (cs : Array Value), u = .pointer (some ⟨g4, 0, none⟩) ∧ v = .int .i64 (ufN (l.drop n)) ∧ q = .bool (ufB (l.drop n)) ∧ wx.heap[g4]? = some (.cells cs 44 (0, 0)) ∧ cs.size = 16 ∧ cs.all (·.oneCell') = true ∧ Below wr.heap.size wr wx ∧ ∃ s : S6, cs.toList = enV (ufE (l.drop n), s) ∧ EnG wx (fun b => wr.heap.size ≤ b ∧ b < wx.heap.size) (ufE (l.drop n), s))
  case first =>
   by_cases hc : n = c0
   ·have HSV := Lib.hid ((HSW.out.suf hn).2 (by omega))
    subst hc
    go_wp2_with fail
    refine (unframe_any wr HSV.out (by rw [List.length_drop]; omega)).mono ?_
    rintro r9 w2 ⟨B1, m1, d1, B2, m2, d2, B3, m3, d3, B4, m4, d4, B5, m5, d5, B6, m6, d6, hr, hef, hb2⟩
    subst hr
    have HB2 := Lib.hid hb2
    have HEF := Lib.hid hef.g
    clear hb2 hef
    have HBoq := Lib.hid (heap_alloc_new w2 (.cells #[.int .i64 0, .int .i64 0, .int .i64 0, .int .i64 0, .int .i64 0, .int .i64 0, .int .i64 0, .int .i64 0, .int .i64 0, .int .i64 0, .slice none 0 0, .slice none 0 0, .slice none 0 0, .slice none 0 0, .slice none 0 0, .slice none 0 0] 44))
    have HZIq := Lib.hid (infoEntC (ufE (l.drop n)) (.slice B1 m1 d1) (.slice B2 m2 d2) (.slice B3 m3 d3) (.slice B4 m4 d4) (.slice B5 m5 d5) (.slice B6 m6 d6))
    have HZAq := Lib.hid (entC_all (ufE (l.drop n)) B1 B2 B3 B4 B5 B6 m1 d1 m2 d2 m3 d3 m4 d4 m5 d5 m6 d6)
    have HZNq := Lib.hid (show (#[.int .i64 0, .int .i64 0, .int .i64 0, .int .i64 0, .int .i64 0, .int .i64 0, .int .i64 0, .int .i64 0, .int .i64 0, .int .i64 0, .slice none 0 0, .slice none 0 0, .slice none 0 0, .slice none 0 0, .slice none 0 0, .slice none 0 0] : Array Value).size = (entC (ufE (l.drop n)) (.slice B1 m1 d1) (.slice B2 m2 d2) (.slice B3 m3 d3) (.slice B4 m4 d4) (.slice B5 m5 d5) (.slice B6 m6 d6)).size from rfl)
    have HSAq := Lib.hid (setRow_alloc w2 #[.int .i64 0, .int .i64 0, .int .i64 0, .int .i64 0, .int .i64 0, .int .i64 0, .int .i64 0, .int .i64 0, .int .i64 0, .int .i64 0, .slice none 0 0, .slice none 0 0, .slice none 0 0, .slice none 0 0, .slice none 0 0, .slice none 0 0] (entC (ufE (l.drop n)) (.slice B1 m1 d1) (.slice B2 m2 d2) (.slice B3 m3 d3) (.slice B4 m4 d4) (.slice B5 m5 d5) (.slice B6 m6 d6)) 44)
    go_wp2_with (with_reducible refine wpList_store_row rfl 44 (.tmp 4) (.tmp 12) rfl w2.heap.size _ rfl rfl 44 _ HBoq.out HZIq.out HZNq.out HZAq.out ?_)
    rw [HSAq.out]
    obtain ⟨w3, HWq, hxq, hbxq⟩ : ∃ W, Hid (w2.alloc (.cells (entC (ufE (l.drop n)) (.slice B1 m1 d1) (.slice B2 m2 d2) (.slice B3 m3 d3) (.slice B4 m4 d4) (.slice B5 m5 d5) (.slice B6 m6 d6)) 44) = W) ∧ W.heap[w2.heap.size]? = some (.cells (entC (ufE (l.drop n)) (.slice B1 m1 d1) (.slice B2 m2 d2) (.slice B3 m3 d3) (.slice B4 m4 d4) (.slice B5 m5 d5) (.slice B6 m6 d6)) 44 (0, 0)) ∧ Below w2.heap.size w2 W := ⟨_, Lib.hid rfl, heap_alloc_new w2 _, (Below.refl _ _).alloc (Nat.le_refl _) _⟩
    rw [HWq.out]
    clear HBoq HZAq HZNq HSAq HWq
    have HB3 := Lib.hid (HB2.out.trans (hbxq.mono HB2.out.size))
    have HX3 := Lib.hid hxq
    have hg3 := (HEF.out.at hbxq.size fun b hb => hbxq.block b hb.2).mono (G' := fun b => wr.heap.size ≤ b ∧ b < w3.heap.size) fun b hb => ⟨by omega, Nat.lt_of_lt_of_le hb.2 hbxq.size⟩
    have HG3 := Lib.hid hg3
    clear hbxq hxq hg3
    go_meet
    exact ⟨_, _, rfl, rfl, rfl, HX3.out, rfl, entC_all (ufE (l.drop n)) B1 B2 B3 B4 B5 B6 m1 d1 m2 d2 m3 d3 m4 d4 m5 d5 m6 d6, HB3.out, ((.slice B1 m1 d1), (.slice B2 m2 d2), (.slice B3 m3 d3), (.slice B4 m4 d4), (.slice B5 m5 d5), (.slice B6 m6 d6)), rfl, HG3.out⟩
   ·have HSV := Lib.hid (HSW.out.suf hn).1
    go_wp2_with fail
    refine (unframe_any wr HSV.out (by rw [List.length_drop]; omega)).mono ?_
    rintro r9 w2 ⟨B1, m1, d1, B2, m2, d2, B3, m3, d3, B4, m4, d4, B5, m5, d5, B6, m6, d6, hr, hef, hb2⟩
    subst hr
    have HB2 := Lib.hid hb2
    have HEF := Lib.hid hef.g
    clear hb2 hef
    have HBoq := Lib.hid (heap_alloc_new w2 (.cells #[.int .i64 0, .int .i64 0, .int .i64 0, .int .i64 0, .int .i64 0, .int .i64 0, .int .i64 0, .int .i64 0, .int .i64 0, .int .i64 0, .slice none 0 0, .slice none 0 0, .slice none 0 0, .slice none 0 0, .slice none 0 0, .slice none 0 0] 44))
    have HZIq := Lib.hid (infoEntC (ufE (l.drop n)) (.slice B1 m1 d1) (.slice B2 m2 d2) (.slice B3 m3 d3) (.slice B4 m4 d4) (.slice B5 m5 d5) (.slice B6 m6 d6))
    have HZAq := Lib.hid (entC_all (ufE (l.drop n)) B1 B2 B3 B4 B5 B6 m1 d1 m2 d2 m3 d3 m4 d4 m5 d5 m6 d6)
    have HZNq := Lib.hid (show (#[.int .i64 0, .int .i64 0, .int .i64 0, .int .i64 0, .int .i64 0, .int .i64 0, .int .i64 0, .int .i64 0, .int .i64 0, .int .i64 0, .slice none 0 0, .slice none 0 0, .slice none 0 0, .slice none 0 0, .slice none 0 0, .slice none 0 0] : Array Value).size = (entC (ufE (l.drop n)) (.slice B1 m1 d1) (.slice B2 m2 d2) (.slice B3 m3 d3) (.slice B4 m4 d4) (.slice B5 m5 d5) (.slice B6 m6 d6)).size from rfl)
    have HSAq := Lib.hid (setRow_alloc w2 #[.int .i64 0, .int .i64 0, .int .i64 0, .int .i64 0, .int .i64 0, .int .i64 0, .int .i64 0, .int .i64 0, .int .i64 0, .int .i64 0, .slice none 0 0, .slice none 0 0, .slice none 0 0, .slice none 0 0, .slice none 0 0, .slice none 0 0] (entC (ufE (l.drop n)) (.slice B1 m1 d1) (.slice B2 m2 d2) (.slice B3 m3 d3) (.slice B4 m4 d4) (.slice B5 m5 d5) (.slice B6 m6 d6)) 44)
    go_wp2_with (with_reducible refine wpList_store_row rfl 44 (.tmp 4) (.tmp 12) rfl w2.heap.size _ rfl rfl 44 _ HBoq.out HZIq.out HZNq.out HZAq.out ?_)
    rw [HSAq.out]
    obtain ⟨w3, HWq, hxq, hbxq⟩ : ∃ W, Hid (w2.alloc (.cells (entC (ufE (l.drop n)) (.slice B1 m1 d1) (.slice B2 m2 d2) (.slice B3 m3 d3) (.slice B4 m4 d4) (.slice B5 m5 d5) (.slice B6 m6 d6)) 44) = W) ∧ W.heap[w2.heap.size]? = some (.cells (entC (ufE (l.drop n)) (.slice B1 m1 d1) (.slice B2 m2 d2) (.slice B3 m3 d3) (.slice B4 m4 d4) (.slice B5 m5 d5) (.slice B6 m6 d6)) 44 (0, 0)) ∧ Below w2.heap.size w2 W := ⟨_, Lib.hid rfl, heap_alloc_new w2 _, (Below.refl _ _).alloc (Nat.le_refl _) _⟩
    rw [HWq.out]
    clear HBoq HZAq HZNq HSAq HWq
    have HB3 := Lib.hid (HB2.out.trans (hbxq.mono HB2.out.size))
    have HX3 := Lib.hid hxq
    have hg3 := (HEF.out.at hbxq.size fun b hb => hbxq.block b hb.2).mono (G' := fun b => wr.heap.size ≤ b ∧ b < w3.heap.size) fun b hb => ⟨by omega, Nat.lt_of_lt_of_le hb.2 hbxq.size⟩
    have HG3 := Lib.hid hg3
    clear hbxq hxq hg3
    go_meet
    exact ⟨_, _, rfl, rfl, rfl, HX3.out, rfl, entC_all (ufE (l.drop n)) B1 B2 B3 B4 B5 B6 m1 d1 m2 d2 m3 d3 m4 d4 m5 d5 m6 d6, HB3.out, ((.slice B1 m1 d1), (.slice B2 m2 d2), (.slice B3 m3 d3), (.slice B4 m4 d4), (.slice B5 m5 d5), (.slice B6 m6 d6)), rfl, HG3.out⟩
  case rest =>
   obtain ⟨g4, cs, rfl, rfl, rfl, hx4, hcs, hall, hb4, s6, hse, hsg⟩ := hcut
   generalize wc = w4 at *
   obtain ⟨a0, a1, a2, a3, a4, a5, a6, a7, a8, a9, a10, a11, a12, a13, a14, a15, rfl⟩ := arr16 hcs
   have hbw : Below w.heap.size w w4 := HB.out.trans (hb4.mono HB.out.size)
   have HSE := Lib.hid hse
   have HSG := Lib.hid hsg
   clear hse hsg
   have ho4 : w4.ownsRow w.heap.size 44 16 (.slice A m c) es.length (es.flatMap enV) := own_at HO.out fun k hk => hb4.block k (HO.out.lt k hk).2
   cases hu : unf (l.drop n) with
   | none =>
    obtain ⟨f1, f2, f3⟩ := uf_none hu
    rw [f2, f3]
    have e1 := HS1.out
    have e2 := HS2.out
    rw [scan_none hu] at e1 e2
    have hlen : m = (scan l).length := by
     have := congrArg List.length e1
     simp only [List.length_append, List.length_map, List.map_nil, List.length_nil] at this
     have := HMM.out
     omega
    have hE := own_els (f := enV) enV_len ho4 rfl
    have hf : SePost w l (.returned (.tuple #[.slice A m c, .int .i64 n])) w4 := by
     refine ⟨A, c, es, by rw [← e2, ← hlen]; rfl, by simpa using e1, by rw [← hlen]; exact hE.1, by rw [← hlen]; exact hE.2, fun o ho => ?_, hbw⟩
     exact ((HIN.out o ho).at hb4.size fun b hb => hb4.block b hb.2.1).mono fun b hb => ⟨hb.1, Nat.lt_of_lt_of_le hb.2.1 hb4.size⟩
    clear hE hlen
    have HFI := Lib.hid hf
    clear hf e1 e2 f1 f2 f3 hu hx4 hall hbw ho4 hb4
    go_wp2
    go_ret2
    exact HFI.out
   | some b =>
    obtain ⟨f1, f2, f3⟩ := uf_some hu
    have hbl := unf_len hu
    rw [List.length_drop] at hbl
    rw [f2, f3]
    obtain ⟨L, hL⟩ : ∃ L : Nat, L = b.length + 4 := ⟨_, rfl⟩
    rw [show (b.length : Int) + 4 = (L : Int) by omega]
    have t1 : IntKind.i64.wrap ((n : Int) + (L : Int)) = (n : Int) + (L : Int) := IntWalk.i64_in _ (by omega)
    have HZI : Hid ((Tryz.prog.info? 44).map (·.size) = some (#[a0, a1, a2, a3, a4, a5, a6, a7, a8, a9, a10, a11, a12, a13, a14, a15] : Array Value).size) := Lib.hid infoEnt
    have HX4 := Lib.hid hx4
    have HOA : Hid (∀ o, (w4.alloc o).ownsRow w.heap.size 44 16 (.slice A m c) es.length (es.flatMap enV)) := Lib.hid fun o => ho4.alloc o
    have HAL : Hid (∀ o, Below w4.heap.size w4 (w4.alloc o)) := Lib.hid fun o => (Below.refl _ _).alloc (Nat.le_refl _) _
    have HBW := Lib.hid hbw
    have HB4 := Lib.hid hb4
    have HBL := Lib.hid hbl
    have HLL := Lib.hid hL
    have HALL := Lib.hid hall
    have HCS := Lib.hid hcs
    have HU := Lib.hid hu
    obtain ⟨hi, hz0, hz1, hz2⟩ := HII.out
    clear f1 f2 f3 hu hx4 hall hbw ho4 hb4 hbl hL
    go_wp2_with (first
     | (with_reducible refine wpList_load_row rfl 44 (.tmp 4) rfl g4 rfl 44 _ (0, 0) _ HX4.out Tryz.underlying44 rfl HZI.out ?_)
     | (at_builtin; refine wpList_append_lies _ rfl _ _ 29 rfl w.heap.size 44 ii (.agg #[.int .i64 0, .int .i64 0, .int .i64 0, .int .i64 0, .int .i64 0, .int .i64 0, .int .i64 0, .int .i64 0, .int .i64 0, .int .i64 0, .slice none 0 0, .slice none 0 0, .slice none 0 0, .slice none 0 0, .slice none 0 0, .slice none 0 0]) 16 224 Tryz.underlying29 hi hz0 hz1 hz2 rfl (by decide) (.slice A m c) es.length _ rfl (HOA.out _) ⟨w4.heap.size, 0, none⟩ 1 1 [a0, a1, a2, a3, a4, a5, a6, a7, a8, a9, a10, a11, a12, a13, a14, a15] rfl ?c0 ?c1 ?c2 ?c3 ?c4 ?c5 ?c6 _ rfl ?_))
    all_goals first
     | rfl
     | exact World.news_of_block (heap_alloc_new w4 _)
     | (intro u hu; exact List.all_eq_true.1 (show ([a0, a1, a2, a3, a4, a5, a6, a7, a8, a9, a10, a11, a12, a13, a14, a15] : List Value).all (·.oneCell') = true from by simpa using HALL.out) u hu)
     | (have h := HALL.out; simp at h; simpa [and_assoc] using h)
     | (have := HMM.out; unfold maxLen; omega)
     | (have := HMM.out; omega)
     | exact Nat.le_succ_of_le HBW.out.size
     | (simp; exact Nat.le_succ_of_le HBW.out.size)
     | skip
    intro g5 c5' w5 ho5 hg5 hv5 hl5
    have hR : SeRel w l (n + L) (.slice (some ⟨g5, 0, none⟩) (es.length + 1) c5') w5 := by
     have e1 := HS1.out
     have e2 := HS2.out
     have hmm := HMM.out
     rw [scan_some HU.out] at e1 e2
     rw [List.map_cons, List.drop_drop, ← HLL.out] at e1
     rw [frsN_cons, List.drop_drop, ← HLL.out] at e2
     have hbA : Below w4.heap.size w4 (w4.alloc (.cells #[a0, a1, a2, a3, a4, a5, a6, a7, a8, a9, a10, a11, a12, a13, a14, a15] 44)) := HAL.out _
     have hsame : ∀ b, b < w4.heap.size → (Value.slice A m c).ownBlock ≠ some b → w5.heap[b]? = w4.heap[b]? := fun b h1 h2 => (hg5.block b (Nat.lt_of_lt_of_le h1 hbA.size) (fun e => h2 e.symm)).trans (hbA.block b h1)
     have hgb : ∀ b, b < w4.heap.size → (Value.slice A m c).ownBlock ≠ some b → (Value.slice (some ⟨g5, 0, none⟩) (es.length + 1) c5').ownBlock ≠ some b := fun b h1 h2 e => by
      have e2 : g5 = b := by simpa [Value.ownBlock] using e
      rcases hv5 with h | h
      ·exact h2 (by rw [h, e2])
      ·have : w4.heap.size ≤ g5 := by rw [h]; first | exact hbA.size | omega
       omega
     have hw5 : w4.heap.size ≤ w5.heap.size := Nat.le_trans hbA.size hg5.size
     refine ⟨es ++ [(ufE (l.drop n), s6)], ?_, ?_, by omega, by rw [List.length_append]; simp only [List.length_singleton]; have := HLL.out; omega, fun o ho => ?_, ?_⟩
     ·rw [List.length_append, List.flatMap_append]
      simp only [List.flatMap_cons, List.flatMap_nil, List.append_nil, List.length_singleton]
      rw [← HSE.out]
      exact ho5
     ·rw [List.map_append, List.append_assoc, ← e1, (uf_some HU.out).1]
      rfl
     ·rcases List.mem_append.1 ho with ho | ho
      ·refine ((((HIN.out o ho).at HB4.out.size fun b hb => HB4.out.block b hb.2.1).at hw5 fun b hb => hsame b (Nat.lt_of_lt_of_le hb.2.1 HB4.out.size) hb.2.2)).mono fun b hb => ⟨hb.1, ?_, hgb b (Nat.lt_of_lt_of_le hb.2.1 HB4.out.size) hb.2.2⟩
       exact Nat.lt_of_lt_of_le (Nat.lt_of_lt_of_le hb.2.1 HB4.out.size) hw5
      ·obtain rfl : o = (ufE (l.drop n), s6) := by simpa using ho
       have z : ∀ b, wr.heap.size ≤ b → (Value.slice A m c).ownBlock ≠ some b := fun b hb e => by have := (HO.out.lt b e).2; omega
       refine ((HSG.out.at hw5 fun b hb => hsame b hb.2 (z b hb.1))).mono fun b hb => ⟨Nat.le_trans HB.out.size hb.1, Nat.lt_of_lt_of_le hb.2 hw5, hgb b hb.2 (z b hb.1)⟩
     ·exact HBW.out.trans ⟨hg5.os.trans hbA.os, hg5.tape.trans hbA.tape, hg5.output.trans hbA.output, hw5, fun k hk => hsame k (Nat.lt_of_lt_of_le hk HBW.out.size) (fun e => by have := (HO.out.lt k e).1; omega)⟩
    have HR5 := Lib.hid hR
    have hnL : n + L ≤ l.length := by have := HBL.out; have := HLL.out; omega
    clear ho5 hg5 hv5 hl5 hR hi hz0 hz1 hz2
    go_wp2
    go_roundw
    all_goals first
     | exact ⟨n + L, hnL, by go_num, HR5⟩
     | (have := HLL.out; simp [ivT2]; omega)
end Go.Proofs.YthmgafcnoedmjaaGreat
namespace Go.Proofs.YthmgafcnoedmjaaGreat
open Go.RowKit
theorem rsums_any (w : World) {sv : Value} {l : List Int} (h : SlK .u8 w sv l) (hl : l.length ≤ 1000000) : Calls Tryz.prog 54 #[sv] w fun e w' => e = .returned (.tuple #[.int .i64 (sumP l).1, .int .i64 (sumP l).2]) ∧ w' = w := by
 obtain ⟨A, c, rfl, q⟩ := h.form
 have HH := Lib.hid h
 clear h
 go_enter Tryz.func54, Tryz.ntmps54
 go_wp2
 go_loop [4, 5, 6] (fun x y i => ∃ k : Nat, k ≤ l.length ∧ i = .int .i64 k ∧ x = .int .i64 (sumP (l.take k)).1 ∧ y = .int .i64 (sumP (l.take k)).2) (fun _ _ i => l.length - (RowKit.intOf i).toNat)
 case atStart => exact ⟨0, Nat.zero_le _, rfl, rfl, rfl⟩
 case round =>
  obtain ⟨k, hk, rfl, rfl, rfl⟩ := hrel
  by_cases hlt : k < l.length
  ·have hpt := HH.out.pt (fun e => by rw [e] at hlt; cases hlt)
   obtain ⟨b, o, c', e, _, _, h3⟩ := id hpt
   injection e with e1 e2 e3
   subst e1 e3
   have c1 := h3 k hlt
   have hx := HH.out.ok l[k] (List.getElem_mem hlt)
   have HT := Lib.hid (sumP_take hlt)
   obtain ⟨z, hz⟩ : ∃ z, z = l[k] := ⟨_, rfl⟩
   rw [← hz] at c1 hx HT
   obtain ⟨⟨b1, b2⟩, b3, b4⟩ := sumP_bd (l.take k)
   obtain ⟨P, hP⟩ : ∃ P, P = (sumP (l.take k)).1 := ⟨_, rfl⟩
   obtain ⟨Q, hQ⟩ : ∃ Q, Q = (sumP (l.take k)).2 := ⟨_, rfl⟩
   rw [← hP] at b1 b2 HT ⊢
   rw [← hQ] at b3 b4 HT ⊢
   have hlt2 : (k : Int) < (l.length : Int) := by omega
   have t1 : IntKind.i64.wrap z = z := IntWalk.i64_in _ (by omega)
   have t2 : IntKind.i64.wrap (P + z) = P + z := IntWalk.i64_in _ (by omega)
   have m1 := Int.emod_nonneg (P + z) (show (255 : Int) ≠ 0 by decide)
   have m2 := Int.emod_lt_of_pos (P + z) (show (0 : Int) < 255 by decide)
   have t3 : (P + z).tmod 255 = (P + z) % 255 := Int.tmod_eq_emod_of_nonneg (by omega)
   obtain ⟨R, hR⟩ : ∃ R, R = (P + z) % 255 := ⟨_, rfl⟩
   rw [← hR] at t3 m1 m2 HT
   have t4 : IntKind.i64.wrap R = R := IntWalk.i64_in _ (by omega)
   have t5 : IntKind.i64.wrap (Q + R) = Q + R := IntWalk.i64_in _ (by omega)
   have t6 : (Q + R).tmod 255 = (Q + R) % 255 := Int.tmod_eq_emod_of_nonneg (by omega)
   have m3 := Int.emod_nonneg (Q + R) (show (255 : Int) ≠ 0 by decide)
   have m4 := Int.emod_lt_of_pos (Q + R) (show (0 : Int) < 255 by decide)
   obtain ⟨S, hS⟩ : ∃ S, S = (Q + R) % 255 := ⟨_, rfl⟩
   rw [← hS] at t6 m3 m4 HT
   have t7 : IntKind.i64.wrap S = S := IntWalk.i64_in _ (by omega)
   have hk2 : (k : Int) ≤ 1000000 := by omega
   clear hP hQ hR hS hz hpt h3
   go_wp2
   go_round
   all_goals first
    | (refine ⟨k + 1, by omega, by go_num, ?_, ?_⟩ <;> (rw [HT.out]; done))
    | (simp [RowKit.intOf]; omega)
    | skip
  ·obtain rfl : k = l.length := by omega
   rw [List.take_length]
   have hlt2 : ¬ (l.length : Int) < (l.length : Int) := by omega
   obtain ⟨P, hP⟩ : ∃ P, P = (sumP l).1 := ⟨_, rfl⟩
   obtain ⟨Q, hQ⟩ : ∃ Q, Q = (sumP l).2 := ⟨_, rfl⟩
   have HPQ := Lib.hid (And.intro hP hQ)
   rw [← hP, ← hQ]
   clear hP hQ
   go_wp2
   go_ret2
   exact ⟨by rw [← HPQ.out.1, ← HPQ.out.2]; rfl, rfl⟩
end Go.Proofs.YthmgafcnoedmjaaGreat
namespace Go.Proofs.YthmgafcnoedmjaaGreat
open Go.RowKit Go.Maps Go.Sort Go.Shelf
theorem sortsA (m : Nat) : AnyZI.SortsIn Tryz.prog Tryz.sortedA_ren Fence.wide m :=
 ⟨fun blk off cap ss W hH hblk hsz => callsIn_wide.2 (Tryz.slices_Sort_int blk off cap ss W hH hblk hsz),
  fun p cap W => callsIn_wide.2 (Tryz.slices_Sort_int_none p cap W)⟩
set_option maxHeartbeats 1000000 in
theorem loose_raw (w : World) (p bo : Nat) (c2 : w.cell? ⟨p, 2, none⟩ = some (.map (some bo))) (D0 : DataW Value) (nn : Nat) (hown : w.ownsMap Tryz.prog 3 tokR bo nn D0) (hmax : size D0 ≤ maxLen) (hbytes : size D0 * 8 ≤ 140737488355328) :
  Calls Tryz.prog 41 #[.pointer (some ⟨p, 0, none⟩)] w fun e w' => ∃ (v : Value) (ss : List Int), e = .returned v ∧ ss.Perm (intKeys D0) ∧
   w'.ownsRow w.heap.size 3 1 v ss.length ((ss.mergeSort (fun x y => decide (x ≤ y))).map encZ) ∧ (v = .slice none 0 0 ↔ ss = []) ∧ Below w.heap.size w w' := by
 refine (callsIn_wide (n := 6)).1 ?_
 have hbl := hown.lt
 have hseq : SeqGives Fence.wide 2 Tryz.prog 90 #[.pointer (some ⟨w.heap.size, 0, none⟩)] encZ (fun ss => ss.Perm (intKeys D0)) (size D0) (w.alloc (.cells #[.map (some bo)] 71)) :=
  AnyZI.keys_gives (ρ := Tryz.keysA_ren) { Tryz.keysA with } Fence.wide _ trivial rfl (by omega) w.heap.size bo nn D0 _ (by simp) (by simp) (by
   obtain ⟨es, clock, hb, Ft, hs, hD⟩ := hown
   exact ⟨es, clock, (Below.heap_alloc _ _ bo hbl).trans hb, Ft, hs, hD⟩)
 have cK : ∀ mb W, CallsIn Fence.wide 5 Tryz.prog 69 #[.map mb] W fun e w' => e = .returned (.func (.func 90) #[] #[.pointer (some ⟨W.heap.size, 0, none⟩)]) ∧ w' = W.alloc (.cells #[.map mb] 71) := fun mb W => AnyZI.keys_in Tryz.keysA Fence.wide 5 trivial rfl mb W
 have cS := AnyZI.sorted_in Tryz.sortedA Fence.wide 5 trivial trivial trivial trivial rfl (by omega) (sortsA _) (enters_of Tryz.func89 (by kernel_rfl) rfl) 90 #[.pointer (some ⟨w.heap.size, 0, none⟩)] trivial (enters_of Tryz.func90 (by kernel_rfl) rfl) _ _ hmax hbytes _ hseq
 change CallsIn _ _ Tryz.prog 68 _ _ _ at cS
 have hfK : Fence.wide.fn 69 := trivial
 have hfS : Fence.wide.fn 68 := trivial
 refine callsIn_of_wp Tryz.func41 rfl trivial ?_ rfl
 simp only [Tryz.ntmps41, List.size_toArray, List.length_cons, List.length_nil, Nat.reduceAdd, Nat.reduceSub, Array.replicate_succ, Array.replicate_zero, List.push_toArray, List.append_toArray, List.nil_append, List.cons_append]
 gi_wp2_with (first
  | (gi_at_call 69; refine (cK _ _).mono ?_; rintro e w' ⟨rfl, rfl⟩)
  | (gi_at_call 68; refine cS.mono ?_; rintro e w' ⟨v, ss, rfl, hS, hrow, hnil, hb⟩))
 go_ret
 exact ⟨v, ss, rfl, hS, ownsRow_base_a hrow (by simp), hnil, ((Below.refl _ w).alloc (Nat.le_refl _) _).trans (hb.mono (by simp))⟩
def IsLoose (d : Dk) (ls : List Int) : Prop := ls.Pairwise (· < ·) ∧ ∀ x, x ∈ ls ↔ (d.old x).isSome = true
def IntSl (w : World) (v : Value) (ls : List Int) (B : Nat) : Prop := (v = .slice none 0 0 ∧ ls = []) ∨ ∃ gl cap, v = .slice (some ⟨gl, 0, none⟩) ls.length cap ∧ B ≤ gl ∧ ∀ j (h : j < ls.length), w.cell? ⟨gl, j, none⟩ = some (.int .i64 ls[j])
theorem loose_any (w : World) {p bn bo g : Nat} {d : Dk} (h : DiskAt w p bn bo g d) :
  Calls Tryz.prog 41 #[.pointer (some ⟨p, 0, none⟩)] w fun e w' => ∃ (v : Value) (ls : List Int), e = .returned v ∧ IsLoose d ls ∧ ls.length ≤ 2000 ∧ IntSl w' v ls w.heap.size ∧ Below w.heap.size w w' := by
 obtain ⟨D, hD, hm⟩ := h.old
 have hs := size_bound hD law3 Tryz.underlying71 Tryz.underlying3 (zeroB w) (N := 2000) (fun i hi => by
  rw [← hm i] at hi
  obtain ⟨u, hu⟩ := Option.isSome_iff_exists.1 hi
  have := h.ok.old i u hu
  have := h.ok.hi
  omega)
 have hkf := keys_facts hD law3 Tryz.underlying3
 refine (loose_raw w p bo h.c2 D _ hD (by unfold maxLen; omega) (by omega)).mono fun e w' ⟨v, ss, he, hp, hrow, _, hb⟩ => ?_
 have hpl : (ss.mergeSort (fun x y => decide (x ≤ y))).Perm (intKeys D) := (List.mergeSort_perm _ _).trans hp
 have hll : (ss.mergeSort (fun x y => decide (x ≤ y))).length = ss.length := (List.mergeSort_perm _ _).length_eq
 have hpw : (ss.mergeSort (fun x y => decide (x ≤ y))).Pairwise (fun x y => decide (x ≤ y) = true) := List.pairwise_mergeSort (fun a b c h1 h2 => by simp at *; omega) (fun a b => by simp; omega) ss
 have hnd : (ss.mergeSort (fun x y => decide (x ≤ y))).Nodup := hpl.nodup_iff.2 hkf.1
 generalize ss.mergeSort (fun x y => decide (x ≤ y)) = ls at hpl hll hpw hnd hrow
 refine ⟨v, ls, he, ⟨?_, fun x => ?_⟩, ?_, ?_, hb⟩
 ·refine (hpw.and hnd).imp fun {a b} hab => ?_
  have h1 := hab.1
  have h2 := hab.2
  simp at h1
  omega
 ·rw [hpl.mem_iff, hkf.2.1 x]
  constructor
  ·intro hx
   have hxm : x ∈ intKeys D := (hkf.2.1 x).2 hx
   rw [hm x, ← (look_atF hD law3 Tryz.underlying71 Tryz.underlying3 (zeroB w) (intKeys_wf hD Tryz.underlying3 x hxm)).2.2]
   exact hx
  ·intro hx
   obtain ⟨u, hu⟩ := Option.isSome_iff_exists.1 hx
   have h1 := h.ok.old x u hu
   have h2 := h.ok.hi
   rw [hm x] at hx
   rw [(look_atF hD law3 Tryz.underlying71 Tryz.underlying3 (zeroB w) (WalkArith.wf_i64 (by omega))).2.2]
   exact hx
 ·rw [hpl.length_eq, hkf.2.2]; exact hs
 ·obtain ⟨_, hr⟩ := hrow
  rw [← hll] at hr
  rcases hr with ⟨rfl, h0⟩ | ⟨gl, cap, cur, rfl, hB, hg, _, _, _, htake⟩
  ·exact Or.inl ⟨rfl, List.eq_nil_of_length_eq_zero h0⟩
  ·refine Or.inr ⟨gl, cap, rfl, hB, fun j hj => ?_⟩
   rw [(c_o hg j).1]
   have e1 : (cur.toList.take (ls.length * 1))[j]? = some (.int .i64 ls[j]) := by rw [htake]; simp [encZ, hj]
   rw [List.getElem?_take, if_pos (by omega)] at e1
   simpa using e1
end Go.Proofs.YthmgafcnoedmjaaGreat
namespace Go.Proofs.YthmgafcnoedmjaaGreat
set_option maxRecDepth 100000
open Go.RowKit Go.Maps
def bitOf (ms : List Int) (i : Nat) : Bool := match ms[i / 8]? with | some x => (bits BinOp.and IntKind.u8 (x / 2 ^ (i % 8)) 1 == 1) | none => false
theorem bit_in (w : World) (gb ao len cap : Nat) (x : Int) (i : Nat) (hi : i ≤ 1000000) (hlen : len ≤ 1000000) (hlt : i / 8 < len) (hx : 0 ≤ x ∧ x < 256) (hc : w.cell? ⟨gb, ao + i / 8, none⟩ = some (.int .u8 x)) : Calls Tryz.prog 42 #[.slice (some ⟨gb, ao, none⟩) len cap, .int .i64 i] w fun e w' => e = .returned (.bool (bits BinOp.and IntKind.u8 (x / 2 ^ (i % 8)) 1 == 1)) ∧ w' = w := by
 obtain ⟨x0, x1⟩ := hx
 go_enter Tryz.func42, Tryz.ntmps42
 go_wp2
 go_ret
 exact ⟨rfl, rfl⟩
theorem bit_out (w : World) (p0 : Option Addr) (len cap : Nat) (i : Nat) (hi : i ≤ 1000000) (hlen : len ≤ 1000000) (hlt : len ≤ i / 8) : Calls Tryz.prog 42 #[.slice p0 len cap, .int .i64 i] w fun e w' => e = .returned (.bool false) ∧ w' = w := by
 have hge : ¬ (i : Int) / 8 < (len : Int) := by omega
 go_enter Tryz.func42, Tryz.ntmps42
 go_wp2
 go_ret
 exact ⟨rfl, rfl⟩
theorem bit_any (w : World) {mv : Value} {ms : List Int} {g : Nat} (h : SlB w mv ms g) (hb : bytesOk ms) (i : Nat) (hi : i ≤ 1000000) : Calls Tryz.prog 42 #[mv, .int .i64 i] w fun e w' => e = .returned (.bool (bitOf ms i)) ∧ w' = w := by
 obtain ⟨p0, len, cap, rfl, rfl, hle, hcap, hn, ha⟩ := h
 unfold bitOf
 rcases Nat.lt_or_ge (i / 8) ms.length with hlt | hge
 ·rw [List.getElem?_eq_getElem hlt]
  obtain ⟨a, rfl⟩ : ∃ a, p0 = some a := by
   cases p0
   ·rw [hn rfl] at hlt; simp at hlt
   ·exact ⟨_, rfl⟩
  obtain ⟨rfl, hs, hc⟩ := ha _ rfl (by intro e; rw [e] at hlt; cases hlt)
  obtain ⟨gb, ao, _⟩ := a
  cases hs
  exact bit_in w gb ao _ cap _ i hi (by omega) hlt (hb _ (List.getElem_mem hlt)) (hc _ hlt)
 ·rw [List.getElem?_eq_none hge]
  exact bit_out w p0 _ cap i hi (by omega) hge
def crashNow (d : Dk) (ms ls : List Int) : Nat → (Int → Option Value)
 | 0 => d.now
 | j + 1 => match ls[j]? with
  | some k => if bitOf ms j = true then crashNow d ms ls j else upd (crashNow d ms ls j) k (some ((d.old k).getD zb))
  | none => crashNow d ms ls j
def Dk.crashed (d : Dk) (m : Int → Option Value) : Dk := { tiles := d.tiles, now := m, old := fun _ => none, dead := true, set := false, left := 0, mv := .slice none 0 0, mask := [] }
theorem old_blk {d : Dk} (h : d.Ok) (i : Int) : IsBlk ((d.old i).getD zb) := by
 cases hn : d.old i with
 | none => exact zb_blk
 | some v => exact (h.old i v hn).2.2
theorem IntSl.turned {w w' : World} {b : Nat} (ht : w.mapTurned w' b) {v : Value} {ls : List Int} {B : Nat} (h : IntSl w v ls B) : IntSl w' v ls B := by
 rcases h with h | ⟨gl, cap, e, hB, hc⟩
 ·exact Or.inl h
 ·exact Or.inr ⟨gl, cap, e, hB, fun j hj => cell_turned ht (hc j hj)⟩
theorem SlB.kept {w w' : World} {v : Value} {l : List Int} {g : Nat} (h : SlB w v l g) (hb : ∀ k, k < w.heap.size → w'.heap[k]? = w.heap[k]?) : SlB w' v l g := by
 obtain ⟨p0, len, cap, e, e2, hle, hcap, hn, ha⟩ := h
 refine ⟨p0, len, cap, e, e2, hle, hcap, hn, fun a hpa hne => ?_⟩
 obtain ⟨h1, h2, h3⟩ := ha a hpa hne
 refine ⟨h1, h2, fun j hj => ?_⟩
 have h4 := h3 j hj
 rw [← h4]
 exact World.cell?_of_block (hb g (block_lt_of_cell h4))
def CrI (w : World) (p bn bo g gm : Nat) (d : Dk) (mv : Value) (ms : List Int) (v : Value) (ls : List Int) (k : Nat) (wr : World) : Prop :=
 DiskAt wr p bn bo g { d with now := crashNow d ms ls k } ∧ Fr w.heap.size (Three p bn bo) w wr ∧ IntSl wr v ls w.heap.size ∧ SlB wr mv ms gm
theorem CrI.drew {w : World} {p bn bo g gm : Nat} {d : Dk} {mv : Value} {ms : List Int} {v : Value} {ls : List Int} {k : Nat} {wr : World} (h : CrI w p bn bo g gm d mv ms v ls k wr) : CrI w p bn bo g gm d mv ms v ls k wr.drew :=
 ⟨h.1.kept fun _ _ => rfl, h.2.1.drew, h.2.2.1, h.2.2.2.kept fun _ _ => rfl⟩
theorem CrI.keep {w : World} {p bn bo g gm : Nat} {d : Dk} {mv : Value} {ms : List Int} {v : Value} {ls : List Int} {k : Nat} {wr : World} (h : CrI w p bn bo g gm d mv ms v ls k wr) (hk : k < ls.length) (hb : bitOf ms k = true) : CrI w p bn bo g gm d mv ms v ls (k + 1) wr := by
 have e : crashNow d ms ls (k + 1) = crashNow d ms ls k := by
  simp [crashNow, List.getElem?_eq_getElem hk, hb]
 unfold CrI
 rw [e]
 exact h
theorem CrI.back {w : World} {p bn bo g gm : Nat} {d : Dk} {mv : Value} {ms : List Int} {v : Value} {ls : List Int} {k : Nat} {wr : World} (h : CrI w p bn bo g gm d mv ms v ls k wr) (hd : d.Ok) (hl : IsLoose d ls) (hk : k < ls.length) (hb : bitOf ms k = false) :
  (Instr.lookup 71 (.map (some bo)) (.int .i64 ls[k]) false).run Tryz.prog wr = .ok ((d.old ls[k]).getD zb) wr ∧
  ∃ w4, (Instr.mapUpdate 71 (.map (some bn)) (.int .i64 ls[k]) ((d.old ls[k]).getD zb)).run Tryz.prog wr = .ok () w4 ∧ CrI w p bn bo g gm d mv ms v ls (k + 1) w4 ∧ wr.mapTurned w4 bn := by
 obtain ⟨h1, h2, h3, h4⟩ := h
 obtain ⟨u, hu⟩ := Option.isSome_iff_exists.1 ((hl.2 ls[k]).1 (List.getElem_mem hk))
 obtain ⟨l0, l1, hv⟩ := hd.old _ u hu
 have hhi := hd.hi
 have wi : (Lit.int .i64 ls[k]).wf = true := WalkArith.wf_i64 (by omega)
 refine ⟨h1.old.look law3 Tryz.underlying71 Tryz.underlying3 (zeroB _) wi, ?_⟩
 obtain ⟨w4, r1, r2, r3⟩ := store_end h1 l0 l1 (old_blk hd ls[k])
 have e : crashNow d ms ls (k + 1) = upd (crashNow d ms ls k) ls[k] (some ((d.old ls[k]).getD zb)) := by
  simp [crashNow, List.getElem?_eq_getElem hk, hb]
 refine ⟨w4, r1, ⟨?_, h2.turned (Or.inl (Or.inr (Or.inl rfl))) r3, h3.turned r3, h4.turned r3⟩, r3⟩
 rw [e]
 exact r2
theorem crash_end {w : World} {p bn bo g : Nat} {d : Dk} (h : DiskAt w p bn bo g d) (ho : d.old = fun _ => none) :
  DiskAt ((((w.setCell ⟨p, 3, none⟩ (.bool true)).setCell ⟨p, 4, none⟩ (.bool false)).setCell ⟨p, 5, none⟩ (.int .i64 0)).setCell ⟨p, 6, none⟩ (.slice none 0 0)) p bn bo g (d.crashed d.now) := by
 have ok := h.ok
 have h1 := h.poke (d' := { d with dead := true }) 3 (.bool true) rfl rfl rfl h.mask ⟨ok.lo, ok.hi, ok.now, ok.old, ok.llo, ok.lhi, ok.mok⟩
 have h2 := h1.poke (d' := { d with dead := true, set := false }) 4 (.bool false) rfl rfl rfl h1.mask ⟨ok.lo, ok.hi, ok.now, ok.old, ok.llo, ok.lhi, ok.mok⟩
 have h3 := h2.poke (d' := { d with dead := true, set := false, left := 0 }) 5 (.int .i64 0) rfl rfl rfl h2.mask ⟨ok.lo, ok.hi, ok.now, ok.old, by simp, by simp, ok.mok⟩
 exact h3.poke (d' := d.crashed d.now) 6 (.slice none 0 0) rfl rfl ho.symm (nil_SlB _ _) ⟨ok.lo, ok.hi, ok.now, (fun i v e => by cases e), by simp [Dk.crashed], by simp [Dk.crashed], by simp [Dk.crashed, bytesOk]⟩
theorem crash_fr {a w : World} {p bn bo : Nat} {B : Nat} {v1 v2 v3 v4 : Value} (h : Fr B (Three p bn bo) a w) : Fr B (Three p bn bo) a ((((w.setCell ⟨p, 3, none⟩ v1).setCell ⟨p, 4, none⟩ v2).setCell ⟨p, 5, none⟩ v3).setCell ⟨p, 6, none⟩ v4) :=
 (((h.setCell (p := ⟨p, 3, none⟩) (Or.inl (Or.inl rfl)) _).setCell (p := ⟨p, 4, none⟩) (Or.inl (Or.inl rfl)) _).setCell (p := ⟨p, 5, none⟩) (Or.inl (Or.inl rfl)) _).setCell (p := ⟨p, 6, none⟩) (Or.inl (Or.inl rfl)) _
theorem IntSl.shape {w : World} {v : Value} {ls : List Int} {B : Nat} (h : IntSl w v ls B) : ∃ p0 cap, v = .slice p0 ls.length cap ∧ (p0 = none → ls = []) ∧ ∀ a, p0 = some a → a.off = 0 ∧ a.spot = none := by
 rcases h with ⟨rfl, rfl⟩ | ⟨gl, cap, e, _, _⟩
 ·exact ⟨none, 0, rfl, (fun _ => rfl), (fun a e => by cases e)⟩
 ·exact ⟨_, cap, e, (fun e => by cases e), (fun a e => by cases e; exact ⟨rfl, rfl⟩)⟩
theorem IntSl.at {w : World} {gl cap : Nat} {ls : List Int} {B : Nat} (h : IntSl w (.slice (some ⟨gl, 0, none⟩) ls.length cap) ls B) {j : Nat} (hj : j < ls.length) : w.cell? ⟨gl, j, none⟩ = some (.int .i64 ls[j]) := by
 rcases h with ⟨e, _⟩ | ⟨gl', cap', e, _, hc⟩
 ·cases e
 ·cases e; exact hc j hj
set_option maxHeartbeats 1000000 in
theorem crash_any (w : World) {p bn bo g gm : Nat} {d : Dk} (h : DiskAt w p bn bo g d) {mv : Value} {ms : List Int} (hm : SlB w mv ms gm) (hmb : bytesOk ms) :
  Calls Tryz.prog 16 #[.pointer (some ⟨p, 0, none⟩), mv] w fun e w' => e = .returned (.tuple #[]) ∧ ∃ ls, IsLoose d ls ∧ DiskAt w' p bn bo g (d.crashed (crashNow d ms ls ls.length)) ∧ Fr w.heap.size (Three p bn bo) w w' := by
 have HL := Lib.hid (loose_any w h)
 go_enter Tryz.func16, Tryz.ntmps16
 go_wp2_with (go_at_call 41; refine HL.out.mono ?_; rintro e w1 ⟨v, ls, rfl, hls, hle, hsl, hbw⟩; obtain ⟨p0, cap, rfl, hp0, hp1⟩ := hsl.shape)
 have hI : CrI w p bn bo g gm d mv ms (.slice p0 ls.length cap) ls 0 w1 := ⟨h.kept (fun k hk => hbw.block k hk), ⟨hbw.os, hbw.tape, hbw.output, hbw.size, fun k hk _ => hbw.block k hk⟩, hsl, hm.kept (fun k hk => hbw.block k hk)⟩
 clear hsl hbw
 go_loopw [11] (fun i wr => ∃ k : Nat, k ≤ ls.length ∧ i = .int .i64 k ∧ CrI w p bn bo g gm d mv ms (.slice p0 ls.length cap) ls k wr) (fun i _ => ls.length - (intOf i).toNat)
 case atStart => exact ⟨0, Nat.zero_le _, rfl, hI⟩
 case round =>
  obtain ⟨k, hk, rfl, hI⟩ := hrel
  by_cases hlt : k < ls.length
  ·cases p0 with
   | none => exact absurd hlt (by rw [hp0 rfl]; simp)
   | some a0 =>
    obtain ⟨gl, o0, s0⟩ := a0
    obtain ⟨rfl, rfl⟩ := hp1 _ rfl
    have hc := hI.2.2.1.at hlt
    have hbit := Lib.hid (fun W (hW : SlB W mv ms gm) => bit_any W hW hmb k (by omega))
    have hd := h.ok
    have c1 := hI.1.c1
    have c2 := hI.1.c2
    have HI := Lib.hid hI
    clear hI hp0 hp1
    cases hb : bitOf ms k with
    | true =>
     have HB := Lib.hid hb
     rw [hb] at hbit
     clear hb
     go_wp2_with (go_at_call 42; refine (hbit.out _ HI.out.2.2.2).mono ?_; rintro e w' ⟨rfl, rfl⟩)
     go_roundw
     case rel => exact ⟨k + 1, by omega, by go_num, HI.out.keep hlt HB.out⟩
     case measure => simp [intOf]; omega
    | false =>
     obtain ⟨q1, w4, q2, q3, q4⟩ := HI.out.drew.back hd hls hlt hb
     have Q3 := Lib.hid q3
     rw [hb] at hbit
     clear hb q3
     generalize hlk : ls[k] = x at hc q1 q2
     generalize (d.old x).getD zb = ov at q1 q2
     clear hlk
     go_wp2_with (go_at_call 42; refine (hbit.out _ HI.out.2.2.2).mono ?_; rintro e w' ⟨rfl, rfl⟩)
     refine wp_region_still_tail 11 (by kernel_rfl) (by kernel_rfl) ?_
     simp only [List.take_succ_cons, List.take_zero, List.drop_succ_cons, List.drop_zero]
     change wpStill _ _ (World.drew _) _ _ _
     iterate 11 still_step
     refine wpStill_nil ?_
     change wpList _ _ _ _ _ (World.drew _)
     go_wp2
     go_roundw
     case rel => exact ⟨k + 1, by omega, by go_num, Q3.out⟩
     case measure => simp [intOf]; omega
  ·obtain rfl : k = ls.length := by omega
   have c2 := hI.1.c2
   have ho := hI.1.old
   have HI := Lib.hid hI
   clear hI
   go_wp2_with (with_reducible refine wpList_clear rfl (.tmp 35) 71 rfl 3 86 bo _ Tryz.underlying71 rfl ho ?_)
   intro w2 hf2 ht2
   have hD := HI.out.1.putOld ht2 hf2 (fun i v e => by cases e)
   have c3 := hD.c3
   have c4 := hD.c4
   have c5 := hD.c5
   have c6 := hD.c6
   have f3 := hD.fz 3
   have f4 := hD.fz 4
   have f5 := hD.fz 5
   have f6 := hD.fz 6
   go_wp2
   go_end0
   exact ⟨rfl, ls, hls, crash_end hD rfl, crash_fr (HI.out.2.1.turned (Or.inl (Or.inr (Or.inr rfl))) ht2)⟩
end Go.Proofs.YthmgafcnoedmjaaGreat
