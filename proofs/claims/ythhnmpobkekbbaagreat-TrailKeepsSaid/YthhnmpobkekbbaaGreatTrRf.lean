/- An entry in memory whose blocks are told by a predicate; The log's frames: Scan, with what the entries are; The reference's sums. -/
import Derived.Test.YthhnmpobkekbbaaGreatTrSc
import Derived.Test.YthhnmpobkekbbaaGreatHeldL
import Derived.Test.YthhnmpobkekbbaaGreatEntK
namespace Go.Proofs.YthhnmpobkekbbaaGreat
open Go.RowKit

theorem slk_at {w w' : World} {v : Value} {l : List Int} (h : SlK .u8 w v l) (hs : w.heap.size ≤ w'.heap.size) (hb : ∀ b, v.ownBlock = some b → b < w.heap.size → w'.heap[b]? = w.heap[b]?) : SlK .u8 w' v l := by
  obtain ⟨p, cap, rfl, h1, h2, h3, h4⟩ := h
  refine ⟨p, cap, rfl, h1, h2, h3, fun a ha => ?_⟩
  obtain ⟨h5, h6, h7⟩ := h4 a ha
  subst ha
  have e := hb a.block rfl h6
  refine ⟨h5, Nat.lt_of_lt_of_le h6 hs, fun j hj => ?_⟩
  rw [← h7 j hj]
  exact World.cell?_of_block e
theorem slk_lt {w : World} {v : Value} {l : List Int} (h : SlK .u8 w v l) {b : Nat} (hb : v.ownBlock = some b) : b < w.heap.size := by
  obtain ⟨p, cap, rfl, h1, h2, h3, h4⟩ := h
  cases p with
  | none => cases hb
  | some a =>
    cases hb
    exact (h4 a rfl).2.1

def SlG (w : World) (G : Nat → Prop) (sv : Value) (l : List Int) : Prop := SlK .u8 w sv l ∧ ∀ b, sv.ownBlock = some b → G b
def ElG (w : World) (G : Nat → Prop) (sv : Value) (k : Nat) (xs : List (List Value)) : Prop := Els w sv k xs ∧ (xs ≠ [] → ∀ b, sv.ownBlock = some b → G b)
def OpG (w : World) (G : Nat → Prop) (sv : Value) (ops : List Opn) : Prop := ∃ os : List (Opn × Value), ops = os.map Prod.fst ∧ ElG w G sv 3 (os.map opV) ∧ ∀ o ∈ os, ElG w G o.2 4 (o.1.2.2.map mvV)
structure EntG (w : World) (G : Nat → Prop) (s1 s2 s3 s4 s5 s6 : Value) (e : Ent) : Prop where
  old : SlG w G s1 e.old
  new : SlG w G s2 e.new
  moves : ElG w G s3 4 (e.moves.map mvV)
  lives : ElG w G s4 4 (e.lives.map lvV)
  dirty : ElG w G s5 2 (e.dirty.map dtV)
  opens : OpG w G s6 e.opens
section
variable {w w' : World} {G G' : Nat → Prop} {sv : Value} {k B : Nat} {l : List Int} {xs : List (List Value)}
theorem SlG.at (h : SlG w G sv l) (hs : w.heap.size ≤ w'.heap.size) (hb : ∀ b, G b → w'.heap[b]? = w.heap[b]?) : SlG w' G sv l := ⟨slk_at h.1 hs fun b e _ => hb b (h.2 b e), h.2⟩
theorem ElG.at (h : ElG w G sv k xs) (hb : ∀ b, G b → w'.heap[b]? = w.heap[b]?) : ElG w' G sv k xs := ⟨h.1.at fun hne b e _ => hb b (h.2 hne b e), h.2⟩
theorem OpG.at {ops : List Opn} (h : OpG w G sv ops) (hb : ∀ b, G b → w'.heap[b]? = w.heap[b]?) : OpG w' G sv ops := by
  obtain ⟨os, e, h1, h2⟩ := h
  exact ⟨os, e, h1.at hb, fun o ho => (h2 o ho).at hb⟩
theorem SlG.mono (h : SlG w G sv l) (hG : ∀ b, G b → G' b) : SlG w G' sv l := ⟨h.1, fun b e => hG b (h.2 b e)⟩
theorem ElG.mono (h : ElG w G sv k xs) (hG : ∀ b, G b → G' b) : ElG w G' sv k xs := ⟨h.1, fun hne b e => hG b (h.2 hne b e)⟩
theorem OpG.mono {ops : List Opn} (h : OpG w G sv ops) (hG : ∀ b, G b → G' b) : OpG w G' sv ops := by
  obtain ⟨os, e, h1, h2⟩ := h
  exact ⟨os, e, h1.mono hG, fun o ho => (h2 o ho).mono hG⟩
theorem EntG.at {s1 s2 s3 s4 s5 s6 : Value} {e : Ent} (h : EntG w G s1 s2 s3 s4 s5 s6 e) (hs : w.heap.size ≤ w'.heap.size) (hb : ∀ b, G b → w'.heap[b]? = w.heap[b]?) : EntG w' G s1 s2 s3 s4 s5 s6 e :=
  ⟨h.old.at hs hb, h.new.at hs hb, h.moves.at hb, h.lives.at hb, h.dirty.at hb, h.opens.at hb⟩
theorem EntG.mono {s1 s2 s3 s4 s5 s6 : Value} {e : Ent} (h : EntG w G s1 s2 s3 s4 s5 s6 e) (hG : ∀ b, G b → G' b) : EntG w G' s1 s2 s3 s4 s5 s6 e :=
  ⟨h.old.mono hG, h.new.mono hG, h.moves.mono hG, h.lives.mono hG, h.dirty.mono hG, h.opens.mono hG⟩
theorem EntG.entS {s1 s2 s3 s4 s5 s6 : Value} {e : Ent} (h : EntG w G s1 s2 s3 s4 s5 s6 e) : EntS w s1 s2 s3 s4 s5 s6 e := by
  refine ⟨h.old.1.sw, h.new.1.sw, h.moves.1, h.lives.1, h.dirty.1, ?_⟩
  obtain ⟨os, e, h1, h2⟩ := h.opens
  exact ⟨os, e, h1.1, fun o ho => (h2 o ho).1⟩
theorem SlF.g (h : SlF w B sv l) : SlG w (fun b => B ≤ b ∧ b < w.heap.size) sv l := ⟨h.1, fun b e => ⟨h.2 b e, slk_lt h.1 e⟩⟩
theorem ElF.g (h : ElF w B sv k xs) : ElG w (fun b => B ≤ b ∧ b < w.heap.size) sv k xs := ⟨h.1, fun hne b e => ⟨h.2 b e, h.1.blk hne e⟩⟩
theorem OpF.g {ops : List Opn} (h : OpF w B sv ops) : OpG w (fun b => B ≤ b ∧ b < w.heap.size) sv ops := by
  obtain ⟨os, e, h1, h3, h2⟩ := h
  refine ⟨os, e, ⟨h1, fun hne b eb => ⟨h3 b eb, h1.blk hne eb⟩⟩, fun o ho => ⟨(h2 o ho).1, fun hne b eb => ⟨(h2 o ho).2 (fun e => hne (by rw [e]; rfl)) b eb, (h2 o ho).1.blk hne eb⟩⟩⟩
theorem EntF.g {s1 s2 s3 s4 s5 s6 : Value} {e : Ent} (h : EntF w B s1 s2 s3 s4 s5 s6 e) : EntG w (fun b => B ≤ b ∧ b < w.heap.size) s1 s2 s3 s4 s5 s6 e :=
  ⟨h.old.g, h.new.g, h.moves.g, h.lives.g, h.dirty.g, h.opens.g⟩
end
end Go.Proofs.YthhnmpobkekbbaaGreat
namespace Go.Proofs.YthhnmpobkekbbaaGreat
open Go.RowKit

def EnG (w : World) (G : Nat → Prop) (o : Ent × S6) : Prop := EntG w G o.2.1 o.2.2.1 o.2.2.2.1 o.2.2.2.2.1 o.2.2.2.2.2.1 o.2.2.2.2.2.2 o.1
def SeRel (w : World) (l : List Int) (n : Nat) (v : Value) (wr : World) : Prop := ∃ es : List (Ent × S6), wr.ownsRow w.heap.size 44 16 v es.length (es.flatMap enV) ∧ es.map Prod.fst ++ (scan (l.drop n)).map tkE = (scan l).map tkE ∧ n + frsN (scan (l.drop n)) = frsN (scan l) ∧ es.length ≤ n ∧ (∀ o ∈ es, EnG wr (fun b => w.heap.size ≤ b ∧ b < wr.heap.size ∧ v.ownBlock ≠ some b) o) ∧ Below w.heap.size w wr
/-- What Scan leaves. -/
def SePost (w : World) (l : List Int) (r : Ending) (w' : World) : Prop := ∃ (A : Option Addr) (c : Nat) (es : List (Ent × S6)), r = .returned (.tuple #[.slice A (scan l).length c, .int .i64 (frsN (scan l))]) ∧ es.map Prod.fst = (scan l).map tkE ∧ Els w' (.slice A (scan l).length c) 16 (es.map enV) ∧ (∀ b, (Value.slice A (scan l).length c).ownBlock = some b → w.heap.size ≤ b) ∧ (∀ o ∈ es, EnG w' (fun b => w.heap.size ≤ b ∧ b < w'.heap.size) o) ∧ Below w.heap.size w w'

set_option maxRecDepth 100000 in
set_option maxHeartbeats 1000000 in
theorem scanE_any (w : World) {sv : Value} {l : List Int} (h : SlK .u8 w sv l) (hl : l.length ≤ 126000) : Calls Tryz.prog 31 #[sv] w (SePost w l) := by
  obtain ⟨A0, c0, rfl, hlc⟩ := h.form
  have HS := Lib.hid h
  have H1 : Hid (SeRel w l 0 (.slice none 0 0) w) := Lib.hid ⟨[], World.ownsRow_nil _ _ _ _, by simp, by simp, Nat.le_refl _, (fun o ho => by cases ho), Below.refl _ _⟩
  obtain ⟨ii, hi, hz0, hz1, hz2⟩ := info_parts infoEntA
  have HII := Lib.hid (And.intro hi (And.intro hz0 (And.intro hz1 hz2)))
  clear h hi hz0 hz1 hz2
  go_enter Tryz.func31, Tryz.ntmps31
  go_wp2
  go_loopw [2, 3] (fun v i wr => ∃ n : Nat, n ≤ l.length ∧ i = .int .i64 n ∧ Hid (SeRel w l n v wr)) (fun _ i _ => l.length - ivT2 i)
  case atStart => exact ⟨0, Nat.zero_le _, rfl, H1⟩
  case round =>
    obtain ⟨n, hn, rfl, HR⟩ := hrel
    obtain ⟨es, ho, hs1, hs2, hkn, hin, hb⟩ := HR.out
    obtain ⟨A, m, c, rfl⟩ := own_shape ho
    have hm := own_n ho
    rw [← hm] at hkn
    have HMM := Lib.hid hm
    have HIN := Lib.hid hin
    clear hin
    have hsw := HS.out.below hb (Nat.le_refl _)
    have hi1 : (n : Int) ≤ (l.length : Int) := by omega
    have hi2 : (n : Int) ≤ (c0 : Int) := by omega
    have hi3 : n ≤ c0 := by omega
    obtain ⟨sv2, hsv2⟩ : ∃ v, v = (if n = c0 then Value.slice A0 0 0 else Value.slice (A0.map fun x => x.add n) (l.length - n) (c0 - n)) := ⟨_, rfl⟩
    have HO := Lib.hid ho
    have HS1 := Lib.hid hs1
    have HS2 := Lib.hid hs2
    have HB := Lib.hid hb
    have HSW := Lib.hid hsw
    clear ho hs1 hs2 hb hsw HR H1 hsv2 hm
    go_upto_region 1 with (fail)
    go_cut [4, 5, 6] (fun u v q wx => ∃ (g4 : Nat) (cs : Array Value), u = .pointer (some ⟨g4, 0, none⟩) ∧ v = .int .i64 (ufN (l.drop n)) ∧ q = .bool (ufB (l.drop n)) ∧ wx.heap[g4]? = some (.cells cs 44 (0, 0)) ∧ cs.size = 16 ∧ cs.all (·.oneCell') = true ∧ Below wr.heap.size wr wx ∧ ∃ s : S6, cs.toList = enV (ufE (l.drop n), s) ∧ EnG wx (fun b => wr.heap.size ≤ b ∧ b < wx.heap.size) (ufE (l.drop n), s))
    case first =>
      by_cases hc : n = c0
      · have HSV := Lib.hid ((HSW.out.suf hn).2 (by omega))
        subst hc
        go_wp2_with fail
        refine (unframe_any wr HSV.out (by rw [List.length_drop]; omega)).mono ?_
        rintro r9 w2 ⟨B1, m1, d1, B2, m2, d2, B3, m3, d3, B4, m4, d4, B5, m5, d5, B6, m6, d6, hr, hef, hb2⟩
        subst hr
        have HB2 := Lib.hid hb2
        have HEF := Lib.hid hef.g
        clear hb2 hef
        have HBoq := Lib.hid (heap_alloc_new w2 (.cells #[.int .i64 0, .int .i64 0, .int .i64 0, .int .i64 0, .int .i64 0, .int .i64 0, .int .i64 0, .int .i64 0, .int .i64 0, .int .i64 0, .slice none 0 0, .slice none 0 0, .slice none 0 0, .slice none 0 0, .slice none 0 0, .slice none 0 0] 44))
        have HZIq := Lib.hid (infoEntC (ufE (l.drop n)) (.slice B1 m1 d1) (.slice B2 m2 d2) (.slice B3 m3 d3) (.slice B4 m4 d4) (.slice B5 m5 d5) (.slice B6 m6 d6))
        have HZAq := Lib.hid (entC_all (ufE (l.drop n)) B1 B2 B3 B4 B5 B6 m1 d1 m2 d2 m3 d3 m4 d4 m5 d5 m6 d6)
        have HZNq := Lib.hid (show (#[.int .i64 0, .int .i64 0, .int .i64 0, .int .i64 0, .int .i64 0, .int .i64 0, .int .i64 0, .int .i64 0, .int .i64 0, .int .i64 0, .slice none 0 0, .slice none 0 0, .slice none 0 0, .slice none 0 0, .slice none 0 0, .slice none 0 0] : Array Value).size = (entC (ufE (l.drop n)) (.slice B1 m1 d1) (.slice B2 m2 d2) (.slice B3 m3 d3) (.slice B4 m4 d4) (.slice B5 m5 d5) (.slice B6 m6 d6)).size from rfl)
        have HSAq := Lib.hid (setRow_alloc w2 #[.int .i64 0, .int .i64 0, .int .i64 0, .int .i64 0, .int .i64 0, .int .i64 0, .int .i64 0, .int .i64 0, .int .i64 0, .int .i64 0, .slice none 0 0, .slice none 0 0, .slice none 0 0, .slice none 0 0, .slice none 0 0, .slice none 0 0] (entC (ufE (l.drop n)) (.slice B1 m1 d1) (.slice B2 m2 d2) (.slice B3 m3 d3) (.slice B4 m4 d4) (.slice B5 m5 d5) (.slice B6 m6 d6)) 44)
        go_wp2_with (with_reducible refine wpList_store_row rfl 44 (.tmp 4) (.tmp 12) rfl w2.heap.size _ rfl rfl 44 _ HBoq.out HZIq.out HZNq.out HZAq.out ?_)
        rw [HSAq.out]
        obtain ⟨w3, HWq, hxq, hbxq⟩ : ∃ W, Hid (w2.alloc (.cells (entC (ufE (l.drop n)) (.slice B1 m1 d1) (.slice B2 m2 d2) (.slice B3 m3 d3) (.slice B4 m4 d4) (.slice B5 m5 d5) (.slice B6 m6 d6)) 44) = W) ∧ W.heap[w2.heap.size]? = some (.cells (entC (ufE (l.drop n)) (.slice B1 m1 d1) (.slice B2 m2 d2) (.slice B3 m3 d3) (.slice B4 m4 d4) (.slice B5 m5 d5) (.slice B6 m6 d6)) 44 (0, 0)) ∧ Below w2.heap.size w2 W := ⟨_, Lib.hid rfl, heap_alloc_new w2 _, (Below.refl _ _).alloc (Nat.le_refl _) _⟩
        rw [HWq.out]
        clear HBoq HZAq HZNq HSAq HWq
        have HB3 := Lib.hid (HB2.out.trans (hbxq.mono HB2.out.size))
        have HX3 := Lib.hid hxq
        have hg3 := (HEF.out.at hbxq.size fun b hb => hbxq.block b hb.2).mono (G' := fun b => wr.heap.size ≤ b ∧ b < w3.heap.size) fun b hb => ⟨by omega, Nat.lt_of_lt_of_le hb.2 hbxq.size⟩
        have HG3 := Lib.hid hg3
        clear hbxq hxq hg3
        go_meet
        exact ⟨_, _, rfl, rfl, rfl, HX3.out, rfl, entC_all (ufE (l.drop n)) B1 B2 B3 B4 B5 B6 m1 d1 m2 d2 m3 d3 m4 d4 m5 d5 m6 d6, HB3.out, ((.slice B1 m1 d1), (.slice B2 m2 d2), (.slice B3 m3 d3), (.slice B4 m4 d4), (.slice B5 m5 d5), (.slice B6 m6 d6)), rfl, HG3.out⟩
      · have HSV := Lib.hid (HSW.out.suf hn).1
        go_wp2_with fail
        refine (unframe_any wr HSV.out (by rw [List.length_drop]; omega)).mono ?_
        rintro r9 w2 ⟨B1, m1, d1, B2, m2, d2, B3, m3, d3, B4, m4, d4, B5, m5, d5, B6, m6, d6, hr, hef, hb2⟩
        subst hr
        have HB2 := Lib.hid hb2
        have HEF := Lib.hid hef.g
        clear hb2 hef
        have HBoq := Lib.hid (heap_alloc_new w2 (.cells #[.int .i64 0, .int .i64 0, .int .i64 0, .int .i64 0, .int .i64 0, .int .i64 0, .int .i64 0, .int .i64 0, .int .i64 0, .int .i64 0, .slice none 0 0, .slice none 0 0, .slice none 0 0, .slice none 0 0, .slice none 0 0, .slice none 0 0] 44))
        have HZIq := Lib.hid (infoEntC (ufE (l.drop n)) (.slice B1 m1 d1) (.slice B2 m2 d2) (.slice B3 m3 d3) (.slice B4 m4 d4) (.slice B5 m5 d5) (.slice B6 m6 d6))
        have HZAq := Lib.hid (entC_all (ufE (l.drop n)) B1 B2 B3 B4 B5 B6 m1 d1 m2 d2 m3 d3 m4 d4 m5 d5 m6 d6)
        have HZNq := Lib.hid (show (#[.int .i64 0, .int .i64 0, .int .i64 0, .int .i64 0, .int .i64 0, .int .i64 0, .int .i64 0, .int .i64 0, .int .i64 0, .int .i64 0, .slice none 0 0, .slice none 0 0, .slice none 0 0, .slice none 0 0, .slice none 0 0, .slice none 0 0] : Array Value).size = (entC (ufE (l.drop n)) (.slice B1 m1 d1) (.slice B2 m2 d2) (.slice B3 m3 d3) (.slice B4 m4 d4) (.slice B5 m5 d5) (.slice B6 m6 d6)).size from rfl)
        have HSAq := Lib.hid (setRow_alloc w2 #[.int .i64 0, .int .i64 0, .int .i64 0, .int .i64 0, .int .i64 0, .int .i64 0, .int .i64 0, .int .i64 0, .int .i64 0, .int .i64 0, .slice none 0 0, .slice none 0 0, .slice none 0 0, .slice none 0 0, .slice none 0 0, .slice none 0 0] (entC (ufE (l.drop n)) (.slice B1 m1 d1) (.slice B2 m2 d2) (.slice B3 m3 d3) (.slice B4 m4 d4) (.slice B5 m5 d5) (.slice B6 m6 d6)) 44)
        go_wp2_with (with_reducible refine wpList_store_row rfl 44 (.tmp 4) (.tmp 12) rfl w2.heap.size _ rfl rfl 44 _ HBoq.out HZIq.out HZNq.out HZAq.out ?_)
        rw [HSAq.out]
        obtain ⟨w3, HWq, hxq, hbxq⟩ : ∃ W, Hid (w2.alloc (.cells (entC (ufE (l.drop n)) (.slice B1 m1 d1) (.slice B2 m2 d2) (.slice B3 m3 d3) (.slice B4 m4 d4) (.slice B5 m5 d5) (.slice B6 m6 d6)) 44) = W) ∧ W.heap[w2.heap.size]? = some (.cells (entC (ufE (l.drop n)) (.slice B1 m1 d1) (.slice B2 m2 d2) (.slice B3 m3 d3) (.slice B4 m4 d4) (.slice B5 m5 d5) (.slice B6 m6 d6)) 44 (0, 0)) ∧ Below w2.heap.size w2 W := ⟨_, Lib.hid rfl, heap_alloc_new w2 _, (Below.refl _ _).alloc (Nat.le_refl _) _⟩
        rw [HWq.out]
        clear HBoq HZAq HZNq HSAq HWq
        have HB3 := Lib.hid (HB2.out.trans (hbxq.mono HB2.out.size))
        have HX3 := Lib.hid hxq
        have hg3 := (HEF.out.at hbxq.size fun b hb => hbxq.block b hb.2).mono (G' := fun b => wr.heap.size ≤ b ∧ b < w3.heap.size) fun b hb => ⟨by omega, Nat.lt_of_lt_of_le hb.2 hbxq.size⟩
        have HG3 := Lib.hid hg3
        clear hbxq hxq hg3
        go_meet
        exact ⟨_, _, rfl, rfl, rfl, HX3.out, rfl, entC_all (ufE (l.drop n)) B1 B2 B3 B4 B5 B6 m1 d1 m2 d2 m3 d3 m4 d4 m5 d5 m6 d6, HB3.out, ((.slice B1 m1 d1), (.slice B2 m2 d2), (.slice B3 m3 d3), (.slice B4 m4 d4), (.slice B5 m5 d5), (.slice B6 m6 d6)), rfl, HG3.out⟩
    case rest =>
      obtain ⟨g4, cs, rfl, rfl, rfl, hx4, hcs, hall, hb4, s6, hse, hsg⟩ := hcut
      generalize wc = w4 at *
      obtain ⟨a0, a1, a2, a3, a4, a5, a6, a7, a8, a9, a10, a11, a12, a13, a14, a15, rfl⟩ := arr16 hcs
      have hbw : Below w.heap.size w w4 := HB.out.trans (hb4.mono HB.out.size)
      have HSE := Lib.hid hse
      have HSG := Lib.hid hsg
      clear hse hsg
      have ho4 : w4.ownsRow w.heap.size 44 16 (.slice A m c) es.length (es.flatMap enV) := own_at HO.out fun k hk => hb4.block k (HO.out.lt k hk).2
      cases hu : unf (l.drop n) with
      | none =>
        obtain ⟨f1, f2, f3⟩ := uf_none hu
        rw [f2, f3]
        have e1 := HS1.out
        have e2 := HS2.out
        rw [scan_none hu] at e1 e2
        have hlen : m = (scan l).length := by
          have := congrArg List.length e1
          simp only [List.length_append, List.length_map, List.map_nil, List.length_nil] at this
          have := HMM.out
          omega
        have hE := own_els (f := enV) enV_len ho4 rfl
        have hf : SePost w l (.returned (.tuple #[.slice A m c, .int .i64 n])) w4 := by
          refine ⟨A, c, es, by rw [← e2, ← hlen]; rfl, by simpa using e1, by rw [← hlen]; exact hE.1, by rw [← hlen]; exact hE.2, fun o ho => ?_, hbw⟩
          exact ((HIN.out o ho).at hb4.size fun b hb => hb4.block b hb.2.1).mono fun b hb => ⟨hb.1, Nat.lt_of_lt_of_le hb.2.1 hb4.size⟩
        clear hE hlen
        have HFI := Lib.hid hf
        clear hf e1 e2 f1 f2 f3 hu hx4 hall hbw ho4 hb4
        go_wp2
        go_ret2
        exact HFI.out
      | some b =>
        obtain ⟨f1, f2, f3⟩ := uf_some hu
        have hbl := unf_len hu
        rw [List.length_drop] at hbl
        rw [f2, f3]
        obtain ⟨L, hL⟩ : ∃ L : Nat, L = b.length + 4 := ⟨_, rfl⟩
        rw [show (b.length : Int) + 4 = (L : Int) by omega]
        have t1 : IntKind.i64.wrap ((n : Int) + (L : Int)) = (n : Int) + (L : Int) := IntWalk.i64_in _ (by omega)
        have HZI : Hid ((Tryz.prog.info? 44).map (·.size) = some (#[a0, a1, a2, a3, a4, a5, a6, a7, a8, a9, a10, a11, a12, a13, a14, a15] : Array Value).size) := Lib.hid infoEnt
        have HX4 := Lib.hid hx4
        have HOA : Hid (∀ o, (w4.alloc o).ownsRow w.heap.size 44 16 (.slice A m c) es.length (es.flatMap enV)) := Lib.hid fun o => ho4.alloc o
        have HAL : Hid (∀ o, Below w4.heap.size w4 (w4.alloc o)) := Lib.hid fun o => (Below.refl _ _).alloc (Nat.le_refl _) _
        have HBW := Lib.hid hbw
        have HB4 := Lib.hid hb4
        have HBL := Lib.hid hbl
        have HLL := Lib.hid hL
        have HALL := Lib.hid hall
        have HCS := Lib.hid hcs
        have HU := Lib.hid hu
        obtain ⟨hi, hz0, hz1, hz2⟩ := HII.out
        clear f1 f2 f3 hu hx4 hall hbw ho4 hb4 hbl hL
        go_wp2_with (first
          | (with_reducible refine wpList_load_row rfl 44 (.tmp 4) rfl g4 rfl 44 _ (0, 0) _ HX4.out Tryz.underlying44 rfl HZI.out ?_)
          | (at_builtin; refine wpList_append_lies _ rfl _ _ 29 rfl w.heap.size 44 ii (.agg #[.int .i64 0, .int .i64 0, .int .i64 0, .int .i64 0, .int .i64 0, .int .i64 0, .int .i64 0, .int .i64 0, .int .i64 0, .int .i64 0, .slice none 0 0, .slice none 0 0, .slice none 0 0, .slice none 0 0, .slice none 0 0, .slice none 0 0]) 16 224 Tryz.underlying29 hi hz0 hz1 hz2 rfl (by decide) (.slice A m c) es.length _ rfl (HOA.out _) ⟨w4.heap.size, 0, none⟩ 1 1 [a0, a1, a2, a3, a4, a5, a6, a7, a8, a9, a10, a11, a12, a13, a14, a15] rfl ?c0 ?c1 ?c2 ?c3 ?c4 ?c5 ?c6 _ rfl ?_))
        all_goals first
          | rfl
          | exact World.news_of_block (heap_alloc_new w4 _)
          | (intro u hu; exact List.all_eq_true.1 (show ([a0, a1, a2, a3, a4, a5, a6, a7, a8, a9, a10, a11, a12, a13, a14, a15] : List Value).all (·.oneCell') = true from by simpa using HALL.out) u hu)
          | (have h := HALL.out; simp at h; simpa [and_assoc] using h)
          | (have := HMM.out; unfold maxLen; omega)
          | (have := HMM.out; omega)
          | exact Nat.le_succ_of_le HBW.out.size
          | (simp; exact Nat.le_succ_of_le HBW.out.size)
          | skip
        intro g5 c5' w5 ho5 hg5 hv5 hl5
        have hR : SeRel w l (n + L) (.slice (some ⟨g5, 0, none⟩) (es.length + 1) c5') w5 := by
          have e1 := HS1.out
          have e2 := HS2.out
          have hmm := HMM.out
          rw [scan_some HU.out] at e1 e2
          rw [List.map_cons, List.drop_drop, ← HLL.out] at e1
          rw [frsN_cons, List.drop_drop, ← HLL.out] at e2
          have hbA : Below w4.heap.size w4 (w4.alloc (.cells #[a0, a1, a2, a3, a4, a5, a6, a7, a8, a9, a10, a11, a12, a13, a14, a15] 44)) := HAL.out _
          have hsame : ∀ b, b < w4.heap.size → (Value.slice A m c).ownBlock ≠ some b → w5.heap[b]? = w4.heap[b]? := fun b h1 h2 => (hg5.block b (Nat.lt_of_lt_of_le h1 hbA.size) (fun e => h2 e.symm)).trans (hbA.block b h1)
          have hgb : ∀ b, b < w4.heap.size → (Value.slice A m c).ownBlock ≠ some b → (Value.slice (some ⟨g5, 0, none⟩) (es.length + 1) c5').ownBlock ≠ some b := fun b h1 h2 e => by
            have e2 : g5 = b := by simpa [Value.ownBlock] using e
            rcases hv5 with h | h
            · exact h2 (by rw [h, e2])
            · have : w4.heap.size ≤ g5 := by rw [h]; first | exact hbA.size | omega
              omega
          have hw5 : w4.heap.size ≤ w5.heap.size := Nat.le_trans hbA.size hg5.size
          refine ⟨es ++ [(ufE (l.drop n), s6)], ?_, ?_, by omega, by rw [List.length_append]; simp only [List.length_singleton]; have := HLL.out; omega, fun o ho => ?_, ?_⟩
          · rw [List.length_append, List.flatMap_append]
            simp only [List.flatMap_cons, List.flatMap_nil, List.append_nil, List.length_singleton]
            rw [← HSE.out]
            exact ho5
          · rw [List.map_append, List.append_assoc, ← e1, (uf_some HU.out).1]
            rfl
          · rcases List.mem_append.1 ho with ho | ho
            · refine ((((HIN.out o ho).at HB4.out.size fun b hb => HB4.out.block b hb.2.1).at hw5 fun b hb => hsame b (Nat.lt_of_lt_of_le hb.2.1 HB4.out.size) hb.2.2)).mono fun b hb => ⟨hb.1, ?_, hgb b (Nat.lt_of_lt_of_le hb.2.1 HB4.out.size) hb.2.2⟩
              exact Nat.lt_of_lt_of_le (Nat.lt_of_lt_of_le hb.2.1 HB4.out.size) hw5
            · obtain rfl : o = (ufE (l.drop n), s6) := by simpa using ho
              have z : ∀ b, wr.heap.size ≤ b → (Value.slice A m c).ownBlock ≠ some b := fun b hb e => by have := (HO.out.lt b e).2; omega
              refine ((HSG.out.at hw5 fun b hb => hsame b hb.2 (z b hb.1))).mono fun b hb => ⟨Nat.le_trans HB.out.size hb.1, Nat.lt_of_lt_of_le hb.2 hw5, hgb b hb.2 (z b hb.1)⟩
          · exact HBW.out.trans ⟨hg5.os.trans hbA.os, hg5.tape.trans hbA.tape, hg5.output.trans hbA.output, hw5, fun k hk => hsame k (Nat.lt_of_lt_of_le hk HBW.out.size) (fun e => by have := (HO.out.lt k e).1; omega)⟩
        have HR5 := Lib.hid hR
        have hnL : n + L ≤ l.length := by have := HBL.out; have := HLL.out; omega
        clear ho5 hg5 hv5 hl5 hR hi hz0 hz1 hz2
        go_wp2
        go_roundw
        all_goals first
          | exact ⟨n + L, hnL, by go_num, HR5⟩
          | (have := HLL.out; simp [ivT2]; omega)
end Go.Proofs.YthhnmpobkekbbaaGreat
namespace Go.Proofs.YthhnmpobkekbbaaGreat
open Go.RowKit

theorem rsums_any (w : World) {sv : Value} {l : List Int} (h : SlK .u8 w sv l) (hl : l.length ≤ 1000000) : Calls Tryz.prog 54 #[sv] w fun e w' => e = .returned (.tuple #[.int .i64 (sumP l).1, .int .i64 (sumP l).2]) ∧ w' = w := by
  obtain ⟨A, c, rfl, q⟩ := h.form
  have HH := Lib.hid h
  clear h
  go_enter Tryz.func54, Tryz.ntmps54
  go_wp2
  go_loop [4, 5, 6] (fun x y i => ∃ k : Nat, k ≤ l.length ∧ i = .int .i64 k ∧ x = .int .i64 (sumP (l.take k)).1 ∧ y = .int .i64 (sumP (l.take k)).2) (fun _ _ i => l.length - (RowKit.intOf i).toNat)
  case atStart => exact ⟨0, Nat.zero_le _, rfl, rfl, rfl⟩
  case round =>
    obtain ⟨k, hk, rfl, rfl, rfl⟩ := hrel
    by_cases hlt : k < l.length
    · have hpt := HH.out.pt (fun e => by rw [e] at hlt; cases hlt)
      obtain ⟨b, o, c', e, _, _, h3⟩ := id hpt
      injection e with e1 e2 e3
      subst e1 e3
      have c1 := h3 k hlt
      have hx := HH.out.ok l[k] (List.getElem_mem hlt)
      have HT := Lib.hid (sumP_take hlt)
      obtain ⟨z, hz⟩ : ∃ z, z = l[k] := ⟨_, rfl⟩
      rw [← hz] at c1 hx HT
      obtain ⟨⟨b1, b2⟩, b3, b4⟩ := sumP_bd (l.take k)
      obtain ⟨P, hP⟩ : ∃ P, P = (sumP (l.take k)).1 := ⟨_, rfl⟩
      obtain ⟨Q, hQ⟩ : ∃ Q, Q = (sumP (l.take k)).2 := ⟨_, rfl⟩
      rw [← hP] at b1 b2 HT ⊢
      rw [← hQ] at b3 b4 HT ⊢
      have hlt2 : (k : Int) < (l.length : Int) := by omega
      have t1 : IntKind.i64.wrap z = z := IntWalk.i64_in _ (by omega)
      have t2 : IntKind.i64.wrap (P + z) = P + z := IntWalk.i64_in _ (by omega)
      have m1 := Int.emod_nonneg (P + z) (show (255 : Int) ≠ 0 by decide)
      have m2 := Int.emod_lt_of_pos (P + z) (show (0 : Int) < 255 by decide)
      have t3 : (P + z).tmod 255 = (P + z) % 255 := Int.tmod_eq_emod_of_nonneg (by omega)
      obtain ⟨R, hR⟩ : ∃ R, R = (P + z) % 255 := ⟨_, rfl⟩
      rw [← hR] at t3 m1 m2 HT
      have t4 : IntKind.i64.wrap R = R := IntWalk.i64_in _ (by omega)
      have t5 : IntKind.i64.wrap (Q + R) = Q + R := IntWalk.i64_in _ (by omega)
      have t6 : (Q + R).tmod 255 = (Q + R) % 255 := Int.tmod_eq_emod_of_nonneg (by omega)
      have m3 := Int.emod_nonneg (Q + R) (show (255 : Int) ≠ 0 by decide)
      have m4 := Int.emod_lt_of_pos (Q + R) (show (0 : Int) < 255 by decide)
      obtain ⟨S, hS⟩ : ∃ S, S = (Q + R) % 255 := ⟨_, rfl⟩
      rw [← hS] at t6 m3 m4 HT
      have t7 : IntKind.i64.wrap S = S := IntWalk.i64_in _ (by omega)
      have hk2 : (k : Int) ≤ 1000000 := by omega
      clear hP hQ hR hS hz hpt h3
      go_wp2
      go_round
      all_goals first
        | (refine ⟨k + 1, by omega, by go_num, ?_, ?_⟩ <;> (rw [HT.out]; done))
        | (simp [RowKit.intOf]; omega)
        | skip
    · obtain rfl : k = l.length := by omega
      rw [List.take_length]
      have hlt2 : ¬ (l.length : Int) < (l.length : Int) := by omega
      obtain ⟨P, hP⟩ : ∃ P, P = (sumP l).1 := ⟨_, rfl⟩
      obtain ⟨Q, hQ⟩ : ∃ Q, Q = (sumP l).2 := ⟨_, rfl⟩
      have HPQ := Lib.hid (And.intro hP hQ)
      rw [← hP, ← hQ]
      clear hP hQ
      go_wp2
      go_ret2
      exact ⟨by rw [← HPQ.out.1, ← HPQ.out.2]; rfl, rfl⟩
end Go.Proofs.YthhnmpobkekbbaaGreat
