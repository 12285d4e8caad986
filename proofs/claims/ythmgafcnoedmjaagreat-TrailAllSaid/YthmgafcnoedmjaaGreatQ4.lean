/- TrailAll, a part. -/
import Derived.Test.YthmgafcnoedmjaaGreatQ3
import Derived.Laws.Rows
import Derived.Deep.Onto
namespace Go.Proofs.YthmgafcnoedmjaaGreat
set_option maxRecDepth 100000
open Go.RowKit
def opV (o : Opn × Value) : List Value := [.int .i64 o.1.1, o.2, .int .i64 o.1.2.1]
def opL1 (o : Opn × Value) : List Int := opL o.1
def opB1 (o : Opn × Value) : Bool := opB o.1
def opI1 (o : Opn) : Prop := I64 o.1 ∧ I64 o.2.1 ∧ ∀ m ∈ o.2.2, mvI m
def opI (o : Opn × Value) : Prop := opI1 o.1
theorem lstL_len {α : Type} (f : α → List Int) {n : Nat} (hf : ∀ x, (f x).length ≤ n) (xs : List α) : (lstL f xs).length ≤ n * 40 + 1 := by
 unfold lstL
 split
 ·rename_i h
  have := flat_pre f hf xs xs.length h
  rw [List.take_length] at this
  rw [List.length_append, numL_len]
  omega
 ·simp
theorem opL_len (o : Opn) : (opL o).length ≤ 164 := by
 unfold opL
 have := lstL_len mvL (n := 4) (fun x => by rw [mvL_len]; exact Nat.le_refl _) o.2.2
 rw [List.length_append, List.length_append, numL_len, numL_len]
 omega
set_option maxHeartbeats 400000 in
theorem open_any {w0 w : World} {p : Nat} {v sv : Value} {l : List Int} {bad : Bool} (h : WS w p v l bad) (hb : Below p w0 w) (hB : w0.heap.size ≤ p) (o : Opn) (ho : opI1 o) (hs : Els w0 sv 4 (o.2.2.map mvV)) (hl : l.length ≤ 79000) :
  Calls Tryz.prog 109 #[.pointer (some ⟨p, 0, none⟩), .agg #[.int .i64 o.1, sv, .int .i64 o.2.1]] w (WPost p w v (l ++ opL o) (bad || !opB o)) := by
 obtain ⟨a, b, ms⟩ := o
 obtain ⟨ia, ib, im⟩ := ho
 simp only at ia ib im hs ⊢
 have HS := Lib.hid hs
 obtain ⟨A, cap, rfl, q1, q2, q3⟩ := hs
 rw [List.length_map] at q1 HS ⊢
 have HH0 := Lib.hid h
 have HB := Lib.hid hb
 have HI := Lib.hid im
 have H0 : Hd w p v w.heap.size (.cells #[.int .i64 a, .slice A ms.length cap, .int .i64 b] 119) (w.alloc (.cells #[.int .i64 a, .slice A ms.length cap, .int .i64 b] 119)) v l bad := Hd.init h _
 have HH := Lib.hid H0
 clear h H0 hb im q2 q3
 go_enter Tryz.func109, Tryz.ntmps109
 go_wp2_with fail
 refine (number_2 HH.out.ws a ia.1 ia.2 (by omega)).mono ?_
 rintro e w1 ⟨rfl, v1, h1, g1⟩
 have H1 := HH.out.step h1 g1
 have k2 := H1.c 2
 have HH1 := Lib.hid H1
 clear H1 h1 g1
 go_wp2_with fail
 refine (number_1 HH1.out.ws b ib.1 ib.2 (by simp [numL_len]; omega)).mono ?_
 rintro e w2 ⟨rfl, v2, h2, g2⟩
 have H2 := HH1.out.step h2 g2
 have k1 := H2.c 1
 have HH2 := Lib.hid H2
 clear H2 h2 g2 k2
 go_wp2_with fail
 refine (wmoves_any HH2.out.ws (HB.out.trans (HH2.out.wr.below HH0.out)) hB HS.out HI.out (by simp [numL_len]; omega)).mono ?_
 rintro e w3 ⟨rfl, v3, h3, g3⟩
 have HH3 := Lib.hid (HH2.out.step h3 g3)
 clear k1 h3 g3
 go_wp2
 go_end0
 exact HH3.out.post (by simp [opL]) (by rw [or_not2, or_not2]; simp [opB, Bool.and_assoc])
set_option maxHeartbeats 1000000 in
theorem wopen_any {w0 w : World} {p : Nat} {v sv : Value} {l : List Int} {bad : Bool} {ms : List (Opn × Value)} (h : WS w p v l bad) (hb : Below p w0 w) (hB : w0.heap.size ≤ p) (hs : Els w0 sv 3 (ms.map opV) ∧ ∀ o ∈ ms, Els w0 o.2 4 (o.1.2.2.map mvV)) (hi : ∀ m ∈ ms, opI m) (hl : l.length ≤ 70000) :
  Calls Tryz.prog 108 #[.pointer (some ⟨p, 0, none⟩), sv, .func (.func 109) #[] #[]] w (WPost p w v (l ++ lstL opL1 ms) (bad || !lstB opB1 ms)) := by
 have HS := Lib.hid hs
 have HH := Lib.hid h
 have HB := Lib.hid hb
 have HI := Lib.hid hi
 obtain ⟨A, cap, rfl, q1, q2, q3⟩ := hs.1
 rw [List.length_map] at q1 HS ⊢
 clear h hb q2 q3 hi
 by_cases h40 : ms.length ≤ 40
 ·have hd : decide ((ms.length : Int) ≤ 40) = true := decide_eq_true (by omega)
  have HF := Lib.hid (lst_few opL1 opB1 h40)
  go_enter Tryz.func108, Tryz.ntmps108
  go_wp2_with fail
  refine (need_any HH.out _).mono ?_
  rintro e w1 ⟨rfl, h1, g1⟩
  have h1' : WS w1 p v l bad := by simpa using h1
  have H1 := Lib.hid h1'
  have G1 := Lib.hid g1
  clear h1 h1' g1
  go_wp2_with fail
  refine (number_1 H1.out _ (by omega) (by omega) (by omega)).mono ?_
  rintro e w2 ⟨rfl, v2, h2, g2⟩
  have h2' : LRel w p v bad l ms opL1 opB1 (.int .i64 0) w2 := ⟨0, v2, Nat.zero_le _, rfl, by
   rw [fit_iff.2 (show 0 ≤ (ms.length : Int) ∧ (ms.length : Int) < 256 ^ 1 by omega)] at h2
   simpa using h2, G1.out.trans g2⟩
  have H2 := Lib.hid h2'
  clear h2 h2' g2 G1 H1
  go_wp2
  go_loopw [20] (fun i wr => LRel w p v bad l ms opL1 opB1 i wr) (fun i _ => ms.length - (RowKit.intOf i).toNat)
  case atStart => exact H2.out
  case round =>
   obtain ⟨k, v3, hk, rfl, H3, G3⟩ := hrel
   have HW := Lib.hid H3
   have HG := Lib.hid G3
   clear H3 G3
   by_cases hlt : k < ms.length
   ·have HB3 := Lib.hid (HB.out.trans (HG.out.below HH.out))
    obtain ⟨b, off, rfl, hbl, hc⟩ := (HS.out.1.below HB3.out hB).one (i := k) (by simpa using hlt)
    have hpl : (l ++ (numL ms.length 1 ++ (ms.take k).flatMap opL1)).length ≤ 79000 := by
     have := flat_pre opL1 (n := 164) (fun x => opL_len _) ms k h40
     rw [List.length_append, List.length_append, numL_len]
     omega
    have k0 : wr.cell? ⟨b, off + k * 3, none⟩ = some (.int .i64 ms[k].1.1) := by simpa [opV] using hc 0 (by omega)
    have k1 : wr.cell? ⟨b, off + k * 3 + 1, none⟩ = some (ms[k].2) := by simpa [opV] using hc 1 (by omega)
    have k2 : wr.cell? ⟨b, off + k * 3 + 2, none⟩ = some (.int .i64 ms[k].1.2.1) := by simpa [opV] using hc 2 (by omega)
    have hmm := HS.out.2 ms[k] (List.getElem_mem _)
    obtain ⟨A2, cap2, e2, z1, z2, z3⟩ := hmm
    rw [List.length_map] at e2
    rw [e2] at k1
    have HM : Hid (Els w0 (.slice A2 ms[k].1.2.2.length cap2) 4 (ms[k].1.2.2.map mvV)) := by
     have h := HS.out.2 ms[k] (List.getElem_mem _)
     rw [e2] at h
     exact h
    have HBa : Hid (∀ o, Below p w0 (wr.alloc o)) := fun o => HB3.out.trans ((Below.refl p wr).alloc (Nat.le_of_lt HW.out.lt) o)
    clear e2 z1 z2 z3
    clear hc
    go_wp2_with fail
    refine (open_any (HW.out.alloc _) (HBa.out _) hB ms[k].1 (HI.out _ (List.getElem_mem _)) HM.out (by omega)).mono ?_
    rintro e w4 ⟨rfl, v4, h4, g4⟩
    have h5 : LRel w p v bad l ms opL1 opB1 (.int .i64 (k + 1)) w4 := ⟨k + 1, v4, hlt, rfl, by
     rw [flat_snoc _ _ _ hlt, all_snoc _ _ _ hlt, ← or_not2, ← List.append_assoc (numL _ _), ← List.append_assoc l]
     exact h4, (HG.out.trans (Wr.alloc p wr v3 _)).trans g4⟩
    have H5 := Lib.hid h5
    clear h4 g4 h5 k0 k1 k2
    go_wp2
    go_roundw
    all_goals first
     | exact H5.out
     | (simp [RowKit.intOf]; omega)
   ·obtain rfl : k = ms.length := by omega
    go_wp2
    go_end0
    rw [HF.out.1, HF.out.2]
    have := HW.out
    rw [List.take_length] at this
    exact ⟨rfl, v3, this, HG.out⟩
 ·have hd : decide ((ms.length : Int) ≤ 40) = false := decide_eq_false (by omega)
  have HF := Lib.hid (lst_many opL1 opB1 h40)
  clear h40
  go_enter Tryz.func108, Tryz.ntmps108
  go_wp2_with fail
  refine (need_any HH.out _).mono ?_
  rintro e w1 ⟨rfl, h1, g1⟩
  have H1 := Lib.hid h1
  have G1 := Lib.hid g1
  clear h1 g1
  go_wp2
  go_end0
  rw [HF.out.1, HF.out.2, List.append_nil]
  exact ⟨rfl, v, H1.out, G1.out⟩
end Go.Proofs.YthmgafcnoedmjaaGreat
namespace Go.Proofs.YthmgafcnoedmjaaGreat
open Go.RowKit
def OpAt (w : World) (sv : Value) (ops : List Opn) : Prop := ∃ os : List (Opn × Value), ops = os.map Prod.fst ∧ Els w sv 3 (os.map opV) ∧ ∀ o ∈ os, Els w o.2 4 (o.1.2.2.map mvV)
theorem OpAt.below {B : Nat} {w w' : World} {v : Value} {ops : List Opn} (h : OpAt w v ops) (hb : Below B w w') (hB : w.heap.size ≤ B) : OpAt w' v ops := by
 obtain ⟨os, e, h1, h2⟩ := h
 exact ⟨os, e, h1.below hb hB, fun o ho => (h2 o ho).below hb hB⟩
structure EntI (e : Ent) : Prop where
 kind : I64 e.kind
 txn : I64 e.txn
 unit : I64 e.unit
 half : I64 e.half
 prev : I64 e.prev
 next : I64 e.next
 ap : I64 e.ap
 ac : I64 e.ac
 tp : I64 e.tp
 tc : I64 e.tc
 moves : ∀ m ∈ e.moves, mvI m
 lives : ∀ m ∈ e.lives, lvI m
 dirty : ∀ m ∈ e.dirty, dtI m
 opens : ∀ m ∈ e.opens, opI1 m
structure EntS (w : World) (s1 s2 s3 s4 s5 s6 : Value) (e : Ent) : Prop where
 old : SlW w s1 e.old
 new : SlW w s2 e.new
 moves : Els w s3 4 (e.moves.map mvV)
 lives : Els w s4 4 (e.lives.map lvV)
 dirty : Els w s5 2 (e.dirty.map dtV)
 opens : OpAt w s6 e.opens
theorem EntS.below {B : Nat} {w w' : World} {s1 s2 s3 s4 s5 s6 : Value} {e : Ent} (h : EntS w s1 s2 s3 s4 s5 s6 e) (hb : Below B w w') (hB : w.heap.size ≤ B) : EntS w' s1 s2 s3 s4 s5 s6 e :=
 ⟨h.old.below hb hB, h.new.below hb hB, h.moves.below hb hB, h.lives.below hb hB, h.dirty.below hb hB, h.opens.below hb hB⟩
def entC (e : Ent) (s1 s2 s3 s4 s5 s6 : Value) : Array Value := #[.int .i64 e.kind, .int .i64 e.txn, .int .i64 e.unit, .int .i64 e.half, .int .i64 e.prev, .int .i64 e.next, .int .i64 e.ap, .int .i64 e.ac, .int .i64 e.tp, .int .i64 e.tc, s1, s2, s3, s4, s5, s6]
theorem wopens_any {w0 w : World} {p : Nat} {v sv : Value} {l : List Int} {bad : Bool} {ms : List Opn} (h : WS w p v l bad) (hb : Below p w0 w) (hB : w0.heap.size ≤ p) (hs : OpAt w0 sv ms) (hi : ∀ m ∈ ms, opI1 m) (hl : l.length ≤ 70000) :
  Calls Tryz.prog 108 #[.pointer (some ⟨p, 0, none⟩), sv, .func (.func 109) #[] #[]] w (WPost p w v (l ++ lstL opL ms) (bad || !lstB opB ms)) := by
 obtain ⟨os, rfl, h1, h2⟩ := hs
 have e1 : lstL opL (os.map Prod.fst) = lstL opL1 os := by
  unfold lstL
  rw [List.length_map, List.flatMap_map]
  rfl
 have e2 : lstB opB (os.map Prod.fst) = lstB opB1 os := by
  unfold lstB
  rw [List.length_map, List.all_map]
  rfl
 rw [e1, e2]
 exact wopen_any h hb hB ⟨h1, h2⟩ (fun o ho => hi o.1 (List.mem_map_of_mem ho)) hl
theorem Els.form {w : World} {v : Value} {k : Nat} {xs : List (List Value)} (h : Els w v k xs) : ∃ A c, v = .slice A xs.length c ∧ xs.length ≤ c := by
 obtain ⟨A, c, e, h1, _⟩ := h
 exact ⟨A, c, e, h1⟩
theorem SlK.form {q : IntKind} {w : World} {v : Value} {l : List Int} (h : SlK q w v l) : ∃ A c, v = .slice A l.length c ∧ l.length ≤ c := by
 obtain ⟨A, c, e, h1, _⟩ := h
 exact ⟨A, c, e, h1⟩
theorem celL_len {c : List Int} : (celL c).length ≤ 27 := by
 unfold celL
 split
 ·rename_i h
  simp only [celOk, Bool.or_eq_true, decide_eq_true_eq] at h
  rw [List.length_append, numL_len]
  omega
 ·simp
theorem Hd.cast {w0 w : World} {p q : Nat} {v0 v : Value} {o : Obj} {l : List Int} {bad b' : Bool} (H : Hd w0 p v0 q o w v l bad) (h : bad = b') : Hd w0 p v0 q o w v l b' := by
 subst h; exact H
theorem or_not1 (a b : Bool) : (!a || !b) = !(a && b) := by cases a <;> cases b <;> rfl
def entO (e : Ent) (s1 s2 s3 s4 s5 s6 : Value) : Obj := .cells (entC e s1 s2 s3 s4 s5 s6) 44 (0, 0)
set_option maxHeartbeats 4000000 in
theorem wentry_any {w0 w : World} {p : Nat} {v : Value} (h : WS w p v [] false) (hb : Below p w0 w) (hB : w0.heap.size ≤ p) (e : Ent) {s1 s2 s3 s4 s5 s6 : Value} (hs : EntS w0 s1 s2 s3 s4 s5 s6 e) (hi : EntI e) :
  Calls Tryz.prog 91 #[.pointer (some ⟨p, 0, none⟩), .agg (entC e s1 s2 s3 s4 s5 s6)] w (WPost p w v (entL e) (!entB e)) := by
 obtain ⟨A1, c1, rfl, q1⟩ := hs.old.form
 obtain ⟨A2, c2, rfl, q2⟩ := hs.new.form
 obtain ⟨A3, c3, rfl, q3⟩ := hs.moves.form
 obtain ⟨A4, c4, rfl, q4⟩ := hs.lives.form
 obtain ⟨A5, c5, rfl, q5⟩ := hs.dirty.form
 obtain ⟨os, ho, h6, _⟩ := hs.opens
 obtain ⟨A6, c6, rfl, q6⟩ := h6.form
 have hos : (os.map opV).length = e.opens.length := by rw [ho, List.length_map, List.length_map]
 rw [hos] at hs ⊢
 rw [List.length_map] at hs ⊢
 rw [List.length_map] at hs ⊢
 rw [List.length_map] at hs ⊢
 have z1 := @celL_len e.old
 have z2 := @celL_len e.new
 have z3 := lstL_len mvL (n := 4) (fun x => by rw [mvL_len]; exact Nat.le_refl _) e.moves
 have z4 := lstL_len lvL (n := 8) (fun x => by rw [lvL_len]; exact Nat.le_refl _) e.lives
 have z5 := lstL_len dtL (n := 4) (fun x => by rw [dtL_len]; exact Nat.le_refl _) e.dirty
 have HS := Lib.hid hs
 have HI := Lib.hid hi
 have HH0 := Lib.hid h
 have HB := Lib.hid hb
 have H0 : Hd w p v w.heap.size (entO e (.slice A1 e.old.length c1) (.slice A2 e.new.length c2) (.slice A3 e.moves.length c3) (.slice A4 e.lives.length c4) (.slice A5 e.dirty.length c5) (.slice A6 e.opens.length c6)) (w.alloc (entO e (.slice A1 e.old.length c1) (.slice A2 e.new.length c2) (.slice A3 e.moves.length c3) (.slice A4 e.lives.length c4) (.slice A5 e.dirty.length c5) (.slice A6 e.opens.length c6))) v [] false := Hd.init h _
 have HHZ := Lib.hid H0
 have HK : Hid ((kindB e.kind = true ∧ 1 ≤ e.kind ∧ e.kind ≤ 10) ∨ (kindB e.kind = false ∧ e.kind < 1) ∨ (kindB e.kind = false ∧ 1 ≤ e.kind ∧ 10 < e.kind)) := by
  show _ ∨ _
  unfold kindB
  simp only [decide_eq_true_eq, decide_eq_false_iff_not]
  omega
 clear h H0 hb hs hi q1 q2 q3 q4 q5 q6 ho h6 hos
 rcases HK.out with ⟨hk, j1, j2⟩ | ⟨hk, j1⟩ | ⟨hk, j1, j2⟩
 all_goals
  have HKB := Lib.hid hk
  clear HK hk
  show Calls _ _ #[_, .agg #[.int .i64 e.kind, .int .i64 e.txn, .int .i64 e.unit, .int .i64 e.half, .int .i64 e.prev, .int .i64 e.next, .int .i64 e.ap, .int .i64 e.ac, .int .i64 e.tp, .int .i64 e.tc, _, _, _, _, _, _]] _ _
  go_enter Tryz.func91, Tryz.ntmps91
  go_wp2_with fail
  refine (need_any HHZ.out.ws _).mono ?_
  rintro e' w1 ⟨rfl, h1, g1⟩
  have HH1 := (HHZ.out.step h1 g1).cast (b' := !kindB e.kind) (by rw [HKB.out]; first | rfl | (simp; omega))
  have k0 : w1.cell? ⟨w.heap.size, 0, none⟩ = some (.int .i64 e.kind) := HH1.c 0
  have HX1 := Lib.hid HH1
  clear HH1 h1 g1
  go_wp2_with fail
  refine (number_1 HX1.out.ws e.kind HI.out.kind.1 HI.out.kind.2 (by simp)).mono ?_
  rintro e' w2 ⟨rfl, v2, h1, g1⟩
  have HH2 := HX1.out.step h1 g1
  clear HX1 k0
  have k1 : w2.cell? ⟨w.heap.size, 1, none⟩ = some (.int .i64 e.txn) := HH2.c 1
  have HX2 := Lib.hid HH2
  clear HH2 h1 g1
  go_wp2_with fail
  refine (number_1 HX2.out.ws e.txn HI.out.txn.1 HI.out.txn.2 (by simp only [List.length_append, List.length_nil, numL_len]; omega)).mono ?_
  rintro e' w3 ⟨rfl, v3, h1, g1⟩
  have HH3 := HX2.out.step h1 g1
  clear HX2 k1
  have k2 : w3.cell? ⟨w.heap.size, 2, none⟩ = some (.int .i64 e.unit) := HH3.c 2
  have HX3 := Lib.hid HH3
  clear HH3 h1 g1
  go_wp2_with fail
  refine (number_2 HX3.out.ws e.unit HI.out.unit.1 HI.out.unit.2 (by simp only [List.length_append, List.length_nil, numL_len]; omega)).mono ?_
  rintro e' w4 ⟨rfl, v4, h1, g1⟩
  have HH4 := HX3.out.step h1 g1
  clear HX3 k2
  have k3 : w4.cell? ⟨w.heap.size, 3, none⟩ = some (.int .i64 e.half) := HH4.c 3
  have HX4 := Lib.hid HH4
  clear HH4 h1 g1
  go_wp2_with fail
  refine (number_1 HX4.out.ws e.half HI.out.half.1 HI.out.half.2 (by simp only [List.length_append, List.length_nil, numL_len]; omega)).mono ?_
  rintro e' w5 ⟨rfl, v5, h1, g1⟩
  have HH5 := HX4.out.step h1 g1
  clear HX4 k3
  have k4 : w5.cell? ⟨w.heap.size, 4, none⟩ = some (.int .i64 e.prev) := HH5.c 4
  have HX5 := Lib.hid HH5
  clear HH5 h1 g1
  go_wp2_with fail
  refine (number_3 HX5.out.ws e.prev HI.out.prev.1 HI.out.prev.2 (by simp only [List.length_append, List.length_nil, numL_len]; omega)).mono ?_
  rintro e' w6 ⟨rfl, v6, h1, g1⟩
  have HH6 := HX5.out.step h1 g1
  clear HX5 k4
  have k5 : w6.cell? ⟨w.heap.size, 5, none⟩ = some (.int .i64 e.next) := HH6.c 5
  have HX6 := Lib.hid HH6
  clear HH6 h1 g1
  go_wp2_with fail
  refine (number_3 HX6.out.ws e.next HI.out.next.1 HI.out.next.2 (by simp only [List.length_append, List.length_nil, numL_len]; omega)).mono ?_
  rintro e' w7 ⟨rfl, v7, h1, g1⟩
  have HH7 := HX6.out.step h1 g1
  clear HX6 k5
  have k6 : w7.cell? ⟨w.heap.size, 6, none⟩ = some (.int .i64 e.ap) := HH7.c 6
  have k7 : w7.cell? ⟨w.heap.size, 7, none⟩ = some (.int .i64 e.ac) := HH7.c 7
  have HX7 := Lib.hid HH7
  clear HH7 h1 g1
  go_wp2_with fail
  refine (place_any HX7.out.ws e.ap e.ac HI.out.ap HI.out.ac (by simp only [List.length_append, List.length_nil, numL_len]; omega)).mono ?_
  rintro e' w8 ⟨rfl, v8, h1, g1⟩
  have HH8 := HX7.out.step h1 g1
  clear HX7 k6 k7
  have k8 : w8.cell? ⟨w.heap.size, 8, none⟩ = some (.int .i64 e.tp) := HH8.c 8
  have k9 : w8.cell? ⟨w.heap.size, 9, none⟩ = some (.int .i64 e.tc) := HH8.c 9
  have HX8 := Lib.hid HH8
  clear HH8 h1 g1
  go_wp2_with fail
  refine (place_any HX8.out.ws e.tp e.tc HI.out.tp HI.out.tc (by simp only [List.length_append, List.length_nil, numL_len, plL_len]; omega)).mono ?_
  rintro e' w9 ⟨rfl, v9, h1, g1⟩
  have HH9 := HX8.out.step h1 g1
  clear HX8 k8 k9
  have k10 : w9.cell? ⟨w.heap.size, 10, none⟩ = some (.slice A1 e.old.length c1) := HH9.c 10
  have HX9 := Lib.hid HH9
  clear HH9 h1 g1
  go_wp2_with fail
  refine (cell_any HX9.out.ws (HB.out.trans (HX9.out.wr.below HH0.out)) hB HS.out.old (by simp only [List.length_append, List.length_nil, numL_len, plL_len]; omega)).mono ?_
  rintro e' w10 ⟨rfl, v10, h1, g1⟩
  have HH10 := HX9.out.step h1 g1
  clear HX9 k10
  have k11 : w10.cell? ⟨w.heap.size, 11, none⟩ = some (.slice A2 e.new.length c2) := HH10.c 11
  have HX10 := Lib.hid HH10
  clear HH10 h1 g1
  go_wp2_with fail
  refine (cell_any HX10.out.ws (HB.out.trans (HX10.out.wr.below HH0.out)) hB HS.out.new (by simp only [List.length_append, List.length_nil, numL_len, plL_len]; omega)).mono ?_
  rintro e' w11 ⟨rfl, v11, h1, g1⟩
  have HH11 := HX10.out.step h1 g1
  clear HX10 k11
  have k12 : w11.cell? ⟨w.heap.size, 12, none⟩ = some (.slice A3 e.moves.length c3) := HH11.c 12
  have HX11 := Lib.hid HH11
  clear HH11 h1 g1
  go_wp2_with fail
  refine (wmoves_any HX11.out.ws (HB.out.trans (HX11.out.wr.below HH0.out)) hB HS.out.moves HI.out.moves (by simp only [List.length_append, List.length_nil, numL_len, plL_len]; omega)).mono ?_
  rintro e' w12 ⟨rfl, v12, h1, g1⟩
  have HH12 := HX11.out.step h1 g1
  clear HX11 k12
  have k13 : w12.cell? ⟨w.heap.size, 13, none⟩ = some (.slice A4 e.lives.length c4) := HH12.c 13
  have HX12 := Lib.hid HH12
  clear HH12 h1 g1
  go_wp2_with fail
  refine (wlives_any HX12.out.ws (HB.out.trans (HX12.out.wr.below HH0.out)) hB HS.out.lives HI.out.lives (by simp only [List.length_append, List.length_nil, numL_len, plL_len]; omega)).mono ?_
  rintro e' w13 ⟨rfl, v13, h1, g1⟩
  have HH13 := HX12.out.step h1 g1
  clear HX12 k13
  have k14 : w13.cell? ⟨w.heap.size, 14, none⟩ = some (.slice A5 e.dirty.length c5) := HH13.c 14
  have HX13 := Lib.hid HH13
  clear HH13 h1 g1
  go_wp2_with fail
  refine (wdirty_any HX13.out.ws (HB.out.trans (HX13.out.wr.below HH0.out)) hB HS.out.dirty HI.out.dirty (by simp only [List.length_append, List.length_nil, numL_len, plL_len]; omega)).mono ?_
  rintro e' w14 ⟨rfl, v14, h1, g1⟩
  have HH14 := HX13.out.step h1 g1
  clear HX13 k14
  have k15 : w14.cell? ⟨w.heap.size, 15, none⟩ = some (.slice A6 e.opens.length c6) := HH14.c 15
  have HX14 := Lib.hid HH14
  clear HH14 h1 g1
  go_wp2_with fail
  refine (wopens_any HX14.out.ws (HB.out.trans (HX14.out.wr.below HH0.out)) hB HS.out.opens HI.out.opens (by simp only [List.length_append, List.length_nil, numL_len, plL_len]; omega)).mono ?_
  rintro e' w15 ⟨rfl, v15, h1, g1⟩
  have HH15 := HX14.out.step h1 g1
  clear HX14 k15
  have HX15 := Lib.hid HH15
  clear HH15 h1 g1
  go_wp2
  go_end0
  exact HX15.out.post (by simp only [List.nil_append]; rfl) (by simp only [or_not1]; rfl)
end Go.Proofs.YthmgafcnoedmjaaGreat
namespace Go.Proofs.YthmgafcnoedmjaaGreat
open Go.RowKit
def putL (e : Ent) : List Int := if entB e = true then entL e else []
theorem putL_yes {e : Ent} (h : entB e = true) : putL e = entL e := if_pos h
theorem putL_no {e : Ent} (h : entB e = false) : putL e = [] := by unfold putL; rw [h]; rfl
theorem EntS.form {w : World} {s1 s2 s3 s4 s5 s6 : Value} {e : Ent} (hs : EntS w s1 s2 s3 s4 s5 s6 e) : ∃ A1 c1 A2 c2 A3 c3 A4 c4 A5 c5 A6 c6, s1 = .slice A1 e.old.length c1 ∧ s2 = .slice A2 e.new.length c2 ∧ s3 = .slice A3 e.moves.length c3 ∧ s4 = .slice A4 e.lives.length c4 ∧ s5 = .slice A5 e.dirty.length c5 ∧ s6 = .slice A6 e.opens.length c6 := by
 obtain ⟨A1, c1, rfl, q1⟩ := hs.old.form
 obtain ⟨A2, c2, rfl, q2⟩ := hs.new.form
 obtain ⟨A3, c3, rfl, q3⟩ := hs.moves.form
 obtain ⟨A4, c4, rfl, q4⟩ := hs.lives.form
 obtain ⟨A5, c5, rfl, q5⟩ := hs.dirty.form
 obtain ⟨os, ho, h6, _⟩ := hs.opens
 obtain ⟨A6, c6, rfl, q6⟩ := h6.form
 have hos : (os.map opV).length = e.opens.length := by rw [ho, List.length_map, List.length_map]
 simp only [List.length_map] at hos ⊢
 exact ⟨A1, c1, A2, c2, A3, c3, A4, c4, A5, c5, A6, c6, rfl, rfl, rfl, rfl, rfl, by rw [hos]⟩
theorem infoEnt : (Tryz.prog.info? 44).map (·.size) = some 16 := by kernel_rfl
theorem infoEntC (e : Ent) (s1 s2 s3 s4 s5 s6 : Value) : (Tryz.prog.info? 44).map (·.size) = some (entC e s1 s2 s3 s4 s5 s6).size := infoEnt
def EncPost (w : World) (e : Ent) (r : Ending) (w' : World) : Prop := ∃ A m c, r = .returned (.tuple #[.slice A m c, .bool (entB e)]) ∧ w'.ownsRow w.heap.size 5 1 (.slice A m c) (putL e).length (byteV (putL e)) ∧ Below w.heap.size w w'
set_option maxHeartbeats 1000000 in
theorem encode_any (w : World) (e : Ent) {s1 s2 s3 s4 s5 s6 : Value} (hs : EntS w s1 s2 s3 s4 s5 s6 e) (hi : EntI e) :
  Calls Tryz.prog 74 #[.agg (entC e s1 s2 s3 s4 s5 s6)] w (EncPost w e) := by
 obtain ⟨A1, c1, A2, c2, A3, c3, A4, c4, A5, c5, A6, c6, rfl, rfl, rfl, rfl, rfl, rfl⟩ := hs.form
 obtain ⟨W, hW⟩ : ∃ W, W = w.alloc (entO e (.slice A1 e.old.length c1) (.slice A2 e.new.length c2) (.slice A3 e.moves.length c3) (.slice A4 e.lives.length c4) (.slice A5 e.dirty.length c5) (.slice A6 e.opens.length c6)) := ⟨_, rfl⟩
 have hb0 : Below w.heap.size w W := by rw [hW]; exact (Below.refl _ _).alloc (Nat.le_refl _) _
 have hsz : W.heap.size = w.heap.size + 1 := by rw [hW]; simp
 have hbx : W.heap[w.heap.size]? = some (entO e (.slice A1 e.old.length c1) (.slice A2 e.new.length c2) (.slice A3 e.moves.length c3) (.slice A4 e.lives.length c4) (.slice A5 e.dirty.length c5) (.slice A6 e.opens.length c6)) := by rw [hW]; exact heap_alloc_new w _
 have hs2 := hs.below hb0 (Nat.le_refl _)
 have hws : WS (W.alloc (.cells #[.slice none 0 0, .bool false] 150)) W.heap.size (.slice none 0 0) [] false := ⟨heap_alloc_new W _, World.ownsRow_nil _ _ _ _⟩
 have hb1 : Below W.heap.size W (W.alloc (.cells #[.slice none 0 0, .bool false] 150)) := (Below.refl _ _).alloc (Nat.le_refl _) _
 have HS := Lib.hid hs2
 have HI := Lib.hid hi
 have HWS := Lib.hid hws
 have HB0 := Lib.hid hb0
 have HB1 := Lib.hid hb1
 have HSZ := Lib.hid hsz
 have HBX := Lib.hid ((hb1.block w.heap.size (by omega)).trans hbx)
 clear hs hs2 hi hws hb0 hb1 hbx hsz
 show Calls _ _ #[.agg #[.int .i64 e.kind, .int .i64 e.txn, .int .i64 e.unit, .int .i64 e.half, .int .i64 e.prev, .int .i64 e.next, .int .i64 e.ap, .int .i64 e.ac, .int .i64 e.tp, .int .i64 e.tc, _, _, _, _, _, _]] _ _
 go_enter Tryz.func74, Tryz.ntmps74
 go_upto_region 1 with (fail)
 show Code.wp _ _ _ _ (w.alloc (entO e (.slice A1 e.old.length c1) (.slice A2 e.new.length c2) (.slice A3 e.moves.length c3) (.slice A4 e.lives.length c4) (.slice A5 e.dirty.length c5) (.slice A6 e.opens.length c6)))
 rw [← hW]
 clear hW
 go_upto_region 2 with (fail)
 generalize W.alloc (.cells #[.slice none 0 0, .bool false] 150) = W2 at *
 have HBX2 : Hid (W2.heap[w.heap.size]? = some (.cells (entC e (.slice A1 e.old.length c1) (.slice A2 e.new.length c2) (.slice A3 e.moves.length c3) (.slice A4 e.lives.length c4) (.slice A5 e.dirty.length c5) (.slice A6 e.opens.length c6)) 44 (0, 0))) := HBX
 clear HBX
 go_wp2_with (with_reducible refine wpList_load_row rfl 44 (.tmp 1) rfl w.heap.size rfl 44 _ (0, 0) _ HBX2.out Tryz.underlying44 rfl (infoEntC ..) ?_)
 refine (wentry_any HWS.out HB1.out (Nat.le_refl _) e HS.out HI.out).mono ?_
 rintro r w3 ⟨rfl, v3, h3, g3⟩
 have hbel : Below w.heap.size w w3 := HB0.out.trans ((HB1.out.trans (g3.below HWS.out)).mono (by rw [HSZ.out]; omega))
 obtain ⟨A, m, c, rfl⟩ := own_shape h3.2
 have c0 := h3.c0
 have d1 := h3.c1
 have HO := Lib.hid h3.2
 have HBL := Lib.hid hbel
 clear h3 g3 hbel
 cases hB : entB e
 ·rw [hB] at d1
  have HBF := Lib.hid hB
  clear hB
  go_wp2
  go_ret2
  exact ⟨none, 0, 0, by rw [HBF.out]; rfl, by rw [putL_no HBF.out]; exact World.ownsRow_nil _ _ _ _, HBL.out⟩
 ·rw [hB] at d1
  have HBF := Lib.hid hB
  clear hB
  go_wp2
  go_ret2
  exact ⟨A, m, c, by rw [HBF.out]; rfl, by rw [putL_yes HBF.out]; exact HO.out.mono (by rw [HSZ.out]; omega), HBL.out⟩
set_option maxHeartbeats 1000000 in
theorem put_any (w : World) (e : Ent) {s1 s2 s3 s4 s5 s6 : Value} (hs : EntS w s1 s2 s3 s4 s5 s6 e) (hi : EntI e) :
  Calls Tryz.prog 51 #[.agg (entC e s1 s2 s3 s4 s5 s6)] w fun r w' => ∃ A m c, r = .returned (.slice A m c) ∧ w'.ownsRow w.heap.size 5 1 (.slice A m c) (putL e).length (byteV (putL e)) ∧ Below w.heap.size w w' := by
 obtain ⟨A1, c1, A2, c2, A3, c3, A4, c4, A5, c5, A6, c6, rfl, rfl, rfl, rfl, rfl, rfl⟩ := hs.form
 obtain ⟨W, hW⟩ : ∃ W, W = w.alloc (entO e (.slice A1 e.old.length c1) (.slice A2 e.new.length c2) (.slice A3 e.moves.length c3) (.slice A4 e.lives.length c4) (.slice A5 e.dirty.length c5) (.slice A6 e.opens.length c6)) := ⟨_, rfl⟩
 have hb0 : Below w.heap.size w W := by rw [hW]; exact (Below.refl _ _).alloc (Nat.le_refl _) _
 have hsz : w.heap.size ≤ W.heap.size := hb0.size
 have HBX : Hid (W.heap[w.heap.size]? = some (.cells (entC e (.slice A1 e.old.length c1) (.slice A2 e.new.length c2) (.slice A3 e.moves.length c3) (.slice A4 e.lives.length c4) (.slice A5 e.dirty.length c5) (.slice A6 e.opens.length c6)) 44 (0, 0))) := by
  rw [hW]; exact heap_alloc_new w _
 have HS := Lib.hid (hs.below hb0 (Nat.le_refl _))
 have HI := Lib.hid hi
 have HB0 := Lib.hid hb0
 have HSZ := Lib.hid hsz
 clear hs hi hb0 hsz
 show Calls _ _ #[.agg #[.int .i64 e.kind, .int .i64 e.txn, .int .i64 e.unit, .int .i64 e.half, .int .i64 e.prev, .int .i64 e.next, .int .i64 e.ap, .int .i64 e.ac, .int .i64 e.tp, .int .i64 e.tc, _, _, _, _, _, _]] _ _
 go_enter Tryz.func51, Tryz.ntmps51
 go_upto_region 1 with (fail)
 show Code.wp _ _ _ _ (w.alloc (entO e (.slice A1 e.old.length c1) (.slice A2 e.new.length c2) (.slice A3 e.moves.length c3) (.slice A4 e.lives.length c4) (.slice A5 e.dirty.length c5) (.slice A6 e.opens.length c6)))
 rw [← hW]
 clear hW
 go_wp2_with (with_reducible refine wpList_load_row rfl 44 (.tmp 1) rfl w.heap.size rfl 44 _ (0, 0) _ HBX.out Tryz.underlying44 rfl (infoEntC ..) ?_)
 refine (encode_any W e HS.out HI.out).mono ?_
 rintro r w3 ⟨A, m, c, rfl, ho, hb⟩
 have HO := Lib.hid ho
 have HB := Lib.hid hb
 clear ho hb
 go_wp2
 go_ret
 exact ⟨A, m, c, rfl, HO.out.mono HSZ.out, HB0.out.trans (HB.out.mono HSZ.out)⟩
end Go.Proofs.YthmgafcnoedmjaaGreat
namespace Go.Proofs.YthmgafcnoedmjaaGreat
set_option maxRecDepth 100000
open Go.RowKit
structure RS (w0 w : World) (p : Nat) (sv : Value) (l : List Int) : Prop where
 bx : w.heap[p]? = some (.cells #[sv] 173 (0, 0))
 sl : SlK .u8 w0 sv l
 bel : Below p w0 w
 le : w0.heap.size ≤ p
structure Rd (p : Nat) (w w' : World) : Prop where
 os : w'.os = w.os
 tape : w'.tape = w.tape
 output : w'.output = w.output
 size : w.heap.size ≤ w'.heap.size
 block : ∀ k, k < w.heap.size → k ≠ p → w'.heap[k]? = w.heap[k]?
theorem Rd.refl (p : Nat) (w : World) : Rd p w w := ⟨rfl, rfl, rfl, Nat.le_refl _, fun _ _ _ => rfl⟩
theorem Rd.trans {p : Nat} {a b c : World} (h : Rd p a b) (k : Rd p b c) : Rd p a c :=
 ⟨k.os.trans h.os, k.tape.trans h.tape, k.output.trans h.output, Nat.le_trans h.size k.size, fun i hi h1 => (k.block i (Nat.lt_of_lt_of_le hi h.size) h1).trans (h.block i hi h1)⟩
theorem Rd.of_below {p : Nat} {w w' : World} (h : Below w.heap.size w w') : Rd p w w' := ⟨h.os, h.tape, h.output, h.size, fun k hk _ => h.block k hk⟩
theorem Rd.below {p B : Nat} {w w' : World} (h : Rd p w w') (hB : B ≤ p) (hp : p < w.heap.size) : Below B w w' := ⟨h.os, h.tape, h.output, h.size, fun k hk => h.block k (by omega) (by omega)⟩
theorem RS.lt {w0 w : World} {p : Nat} {sv : Value} {l : List Int} (h : RS w0 w p sv l) : p < w.heap.size := (Array.getElem?_eq_some_iff.1 h.bx).1
theorem RS.on {w0 w w' : World} {p : Nat} {sv : Value} {l : List Int} (h : RS w0 w p sv l) (hb : Below w.heap.size w w') : RS w0 w' p sv l :=
 ⟨(hb.block p h.lt).trans h.bx, h.sl, h.bel.trans (hb.mono (Nat.le_of_lt h.lt)), h.le⟩
theorem RS.now {w0 w : World} {p : Nat} {sv : Value} {l : List Int} (h : RS w0 w p sv l) : SlK .u8 w sv l := h.sl.below h.bel h.le
theorem RS.set {w0 w : World} {p : Nat} {sv sv' : Value} {l l' : List Int} (h : RS w0 w p sv l) (hs : SlK .u8 w0 sv' l') : RS w0 (w.setCell ⟨p, 0, none⟩ sv') p sv' l' ∧ Rd p w (w.setCell ⟨p, 0, none⟩ sv') := by
 refine ⟨⟨?_, hs, ?_, h.le⟩, ⟨rfl, rfl, rfl, by simp, fun k _ hk => setCell_far _ _ _ _ hk⟩⟩
 ·rw [heap_setCell_same w p 0 _ _ _ h.bx]
  rfl
 ·exact h.bel.trans ⟨rfl, rfl, rfl, by simp, fun k hk => setCell_far _ _ _ _ (by omega)⟩
theorem SlK.rest {w : World} {b off n cap : Nat} {l : List Int} (h : SlK .u8 w (.slice (some ⟨b, off, none⟩) n cap) l) {k : Nat} (hk : k ≤ n) : n = l.length ∧ SlK .u8 w (.slice (some ⟨b, off + k, none⟩) (n - k) (cap - k)) (l.drop k) ∧ (n = k → SlK .u8 w (.slice (some ⟨b, off, none⟩) 0 0) (l.drop k)) := by
 obtain ⟨p, c, e, h1, h2, h3, h4⟩ := h
 cases e
 obtain ⟨h5, h6, h7⟩ := h4 _ rfl
 refine ⟨rfl, ⟨_, cap - k, by rw [List.length_drop], by rw [List.length_drop]; omega, fun x hx => h2 x (List.mem_of_mem_drop hx), (fun e => by cases e), fun a e => ?_⟩, fun e => ?_⟩
 ·cases e
  refine ⟨rfl, h6, fun j hj => ?_⟩
  rw [List.length_drop] at hj
  rw [List.getElem_drop, ← h7 (k + j) (by omega)]
  show w.cell? ⟨b, off + k + j, none⟩ = w.cell? ⟨b, off + (k + j), none⟩
  rw [Nat.add_assoc]
 ·rw [List.drop_eq_nil_of_le (by omega)]
  exact ⟨_, 0, rfl, Nat.le_refl _, (fun x hx => by cases hx), (fun e => by cases e), fun a e => by cases e; exact ⟨rfl, h6, fun j hj => by cases hj⟩⟩
def dr (l : List Int) (k : Nat) : List Int := l.drop k
theorem dr_dr (l : List Int) (j k : Nat) : dr (dr l j) k = dr l (j + k) := List.drop_drop
def RPost (w0 w : World) (p : Nat) (r : Value) (l : List Int) (e : Ending) (w' : World) : Prop := e = .returned r ∧ ∃ sv', RS w0 w' p sv' l ∧ Rd p w w'
theorem SlK.pre {w : World} {A : Option Addr} {n cap : Nat} {l : List Int} (h : SlK .u8 w (.slice A n cap) l) {k : Nat} (hk : k ≤ n) : SlK .u8 w (.slice A k cap) (l.take k) := by
 obtain ⟨p, c, e, h1, h2, h3, h4⟩ := h
 cases e
 have hl : (l.take k).length = k := by rw [List.length_take]; omega
 refine ⟨A, cap, by rw [hl], by omega, fun x hx => h2 x (List.mem_of_mem_take hx), fun e => ⟨by rw [(h3 e).1]; simp, (h3 e).2⟩, fun a ha => ?_⟩
 obtain ⟨h5, h6, h7⟩ := h4 a ha
 refine ⟨h5, h6, fun j hj => ?_⟩
 rw [hl] at hj
 rw [List.getElem_take, h7 j (by omega)]
theorem SlK.suf {w : World} {A : Option Addr} {n cap : Nat} {l : List Int} (h : SlK .u8 w (.slice A n cap) l) {k : Nat} (hk : k ≤ n) : SlK .u8 w (.slice (A.map fun x => x.add k) (n - k) (cap - k)) (l.drop k) ∧ (n = k → SlK .u8 w (.slice A 0 0) (l.drop k)) := by
 cases A with
 | none =>
  obtain ⟨p, c, e, h1, h2, h3, h4⟩ := h
  cases e
  obtain ⟨h5, h6⟩ := h3 rfl
  subst h5 h6
  obtain rfl : k = 0 := Nat.le_zero.1 hk
  exact ⟨slK_nil w, fun _ => slK_nil w⟩
 | some a =>
  obtain ⟨b, off, sp⟩ := a
  obtain rfl : sp = none := by
   obtain ⟨_, _, e, _, _, _, h4⟩ := h
   cases e
   exact (h4 _ rfl).1
  have e : (⟨b, off, none⟩ : Addr).add k = ⟨b, off + k, none⟩ := by
   unfold Addr.add
   split
   ·rename_i e; rw [e]; rfl
   ·rfl
  rw [Option.map_some, e]
  exact (h.rest hk).2
def CutPost (w0 w : World) (p k : Nat) (l : List Int) (e : Ending) (w' : World) : Prop := ∃ A c sv', e = .returned (.slice A (l.take k).length c) ∧ SlK .u8 w0 (.slice A (l.take k).length c) (l.take k) ∧ RS w0 w' p sv' (dr l k) ∧ Rd p w w'
theorem cut_fin {w0 w : World} {p k m cap : Nat} {A : Option Addr} {l : List Int} {v' : Value} (h : RS w0 w p (.slice A l.length cap) l) (hm : min k l.length = m) (hs : SlK .u8 w0 v' (l.drop m)) : CutPost w0 w p k l (.returned (.slice A m cap)) (w.setCell ⟨p, 0, none⟩ v') := by
 have e1 : l.take m = l.take k := by rw [← hm]; exact (List.take_eq_take_min ..).symm
 have e2 : l.drop m = dr l k := by
  show l.drop m = l.drop k
  rcases Nat.le_total k l.length with h | h
  ·rw [← hm, Nat.min_eq_left h]
  ·rw [List.drop_eq_nil_of_le h, ← hm, Nat.min_eq_right h, List.drop_length]
 have e3 : (l.take k).length = m := by rw [List.length_take, hm]
 have hp := h.sl.pre (k := m) (by omega)
 rw [e1] at hp
 exact ⟨A, cap, v', by rw [e3], by rw [e3]; exact hp, h.set (e2 ▸ hs)⟩
set_option maxHeartbeats 400000 in
theorem cut_any {w0 w : World} {p : Nat} {sv : Value} {l : List Int} (h : RS w0 w p sv l) (k : Nat) (hk : k ≤ 1000) :
  Calls Tryz.prog 140 #[.pointer (some ⟨p, 0, none⟩), .int .i64 k] w (CutPost w0 w p k l) := by
 have c0 : w.cell? ⟨p, 0, none⟩ = some sv := (c_o h.bx 0).1
 have f0 := (c_o h.bx 0).2
 have HN := Lib.hid h.sl
 have HH := Lib.hid h
 obtain ⟨A, cap, rfl, h1, -⟩ := h.sl
 clear h
 go_enter Tryz.func140, Tryz.ntmps140
 go_wp2
 ·go_ret
  obtain rfl : cap = l.length := by assumption
  exact cut_fin (m := l.length) HH.out (by omega) ((HN.out.suf (Nat.le_refl _)).2 rfl)
 ·go_ret
  exact cut_fin (m := l.length) HH.out (by omega) (by simpa using (HN.out.suf (Nat.le_refl _)).1)
 ·go_ret
  obtain rfl : cap = k := by assumption
  have e : l.length = cap := by omega
  rw [show l.length - cap = 0 by omega]
  exact cut_fin (m := cap) HH.out (by omega) ((HN.out.suf (by omega)).2 e)
 ·go_ret
  exact cut_fin (m := k) HH.out (by omega) (HN.out.suf (by omega)).1
theorem getD_ok {l : List Int} (h : bytesOk l) (k : Nat) : 0 ≤ l.getD k 0 ∧ l.getD k 0 < 256 := by
 rw [List.getD_eq_getElem?_getD]
 cases e : l[k]? with
 | none => simp
 | some x => simpa using h x (List.mem_of_getElem? e)
theorem numR_bd {l : List Int} (h : bytesOk l) : ∀ k, 0 ≤ numR l k ∧ numR l k < 256 ^ k
 | 0 => by simp [numR]
 | k + 1 => by
  have := numR_bd h k
  have := getD_ok h k
  rw [numR_s, Int.pow_succ]
  split <;> omega
theorem or_add (N x : Int) (h0 : 0 ≤ N) (h1 : N < 65536) (x0 : 0 ≤ x) (x1 : x < 256) : bits BinOp.or IntKind.i64 (N * 256) x = N * 256 + x := by
 obtain ⟨n, rfl⟩ := Int.eq_ofNat_of_zero_le h0
 obtain ⟨m, rfl⟩ := Int.eq_ofNat_of_zero_le x0
 unfold bits
 show IntKind.i64.wrap ((BitVec.ofInt 64 ((n : Int) * 256) ||| BitVec.ofInt 64 (m : Int)).toNat : Int) = _
 rw [BitVec.toNat_or, show ((n : Int) * 256) = ((2 ^ 8 * n : Nat) : Int) by omega, BitVec.ofInt_natCast, BitVec.ofInt_natCast, BitVec.toNat_ofNat, BitVec.toNat_ofNat, Nat.mod_eq_of_lt (by omega), Nat.mod_eq_of_lt (by omega), ← Nat.two_pow_add_eq_or_of_lt (by omega)]
 rw [IntWalk.i64_in _ (by omega)]
 omega
theorem numR_S {l : List Int} {k : Nat} (h : k < l.length) : numR l (k + 1) = numR l k * 256 + l.getD k 0 := (numR_s l k).trans (if_pos h)
theorem numR_ge {l : List Int} : ∀ {k : Nat}, l.length ≤ k → numR l k = numR l l.length
 | 0, h => by rw [Nat.le_zero.1 h]
 | k + 1, h => by
  rcases Nat.lt_or_ge k l.length with hk | hk
  ·rw [show l.length = k + 1 by omega]
  ·rw [show numR l (k + 1) = numR l k from (numR_s l k).trans (if_neg (by omega)), numR_ge hk]
theorem numR_take (l : List Int) (n : Nat) : ∀ k, k ≤ n → numR (l.take n) k = numR l k
 | 0, _ => by rw [numR_0, numR_0]
 | k + 1, h => by
  rw [numR_s, numR_s, numR_take l n k (by omega)]
  simp only [List.getD_eq_getElem?_getD, List.getElem?_take, if_pos (show k < n by omega), List.length_take]
  by_cases hl : k < l.length
  ·rw [if_pos (by omega), if_pos hl]
  ·rw [if_neg (by omega), if_neg hl]
theorem numR_cut (l : List Int) (k : Nat) : numR (l.take k) (l.take k).length = numR l k := by
 rw [← numR_ge (List.length_take_le _ _), numR_take l k k (Nat.le_refl _)]
def NRel (w : World) (m : List Int) (n i : Value) (wr : World) : Prop := ∃ j : Nat, j ≤ m.length ∧ i = .int .i64 j ∧ n = .int .i64 (numR m j) ∧ w = wr
set_option maxHeartbeats 1000000 in
theorem rnum_any {w0 w : World} {p : Nat} {sv : Value} {l : List Int} (h : RS w0 w p sv l) (k : Nat) (hk : k ≤ 3) :
  Calls Tryz.prog 123 #[.pointer (some ⟨p, 0, none⟩), .int .i64 k] w (RPost w0 w p (.int .i64 (numR l k)) (dr l k)) := by
 have hok := h.sl.ok
 have HOK := Lib.hid hok
 have HH := Lib.hid h
 clear h hok
 go_enter Tryz.func123, Tryz.ntmps123
 go_wp2_with fail
 refine (cut_any HH.out k (by omega)).mono ?_
 rintro e w1 ⟨A, c, s1, rfl, hm, h1, g1⟩
 have HM := Lib.hid (hm.below h1.bel h1.le)
 have hokm : bytesOk (l.take k) := fun x hx => HOK.out x (List.mem_of_mem_take hx)
 have hlen : (l.take k).length ≤ 3 := Nat.le_trans (List.length_take_le _ _) hk
 have hcut := numR_cut l k
 have H1 := Lib.hid h1
 have G1 := Lib.hid g1
 clear hm h1 g1 HH
 generalize hmm : l.take k = m at *
 have HCUT := Lib.hid hcut
 have HOKM := Lib.hid hokm
 clear hcut hokm hmm
 go_upto_region 3 with (fail)
 go_loopw [5, 12] (fun n i wr => NRel w1 m n i wr) (fun _ i _ => m.length - (RowKit.intOf i).toNat)
 case atStart => exact ⟨0, Nat.zero_le _, rfl, by rw [numR_0], rfl⟩
 case round =>
  obtain ⟨j, hj, rfl, rfl, rfl⟩ := hrel
  by_cases hlt : j < m.length
  ·obtain ⟨b1, b2⟩ := numR_bd HOKM.out j
   have b3 : numR m j < 65536 := by
    refine Int.lt_of_lt_of_le b2 ?_
    obtain rfl | rfl | rfl : j = 0 ∨ j = 1 ∨ j = 2 := by omega
    ·decide
    ·decide
    ·decide
   obtain ⟨x1, x2⟩ := getD_ok HOKM.out j
   have e1 : numR m (j + 1) = numR m j * 256 + m.getD j 0 := numR_S hlt
   obtain ⟨b, off, hA, hc⟩ : ∃ b off, A = some ⟨b, off, none⟩ ∧ w1.cell? ⟨b, off + j, none⟩ = some (.int .u8 (m.getD j 0)) := by
    obtain ⟨p, c, e, h1, h2, h3, h4⟩ := HM.out
    cases e
    cases A with
    | none => rw [(h3 rfl).1] at hlt; cases hlt
    | some a =>
     obtain ⟨h5, h6, h7⟩ := h4 a rfl
     obtain ⟨b, off, sp⟩ := a
     cases h5
     refine ⟨b, off, rfl, ?_⟩
     have := h7 j hlt
     rw [this, List.getD_eq_getElem?_getD, List.getElem?_eq_getElem hlt]
     rfl
   subst hA
   obtain ⟨N, hN⟩ : ∃ N, N = numR m j := ⟨_, rfl⟩
   obtain ⟨x, hx⟩ : ∃ x, x = m.getD j 0 := ⟨_, rfl⟩
   rw [← hN] at b1 b3 e1 ⊢
   rw [← hx] at x1 x2 e1 hc
   have HE := Lib.hid e1
   have HO := Lib.hid (or_add N x b1 b3 x1 x2)
   clear hN hx e1 b2
   have z1 : (0 : Int) ≤ (j : Int) := by omega
   have z2 : (j : Int) < (m.length : Int) := by omega
   go_wp2
   go_roundw
   case rel => exact ⟨j + 1, hlt, rfl, by rw [HO.out, HE.out], rfl⟩
   case measure => simp [RowKit.intOf]; omega
  ·obtain rfl : j = m.length := by omega
   go_wp2
   go_ret
   rw [HCUT.out]
   exact ⟨rfl, s1, H1.out, G1.out⟩
end Go.Proofs.YthmgafcnoedmjaaGreat
