/- The writer: an entry; encode, May, Put. -/
import Derived.Test.YtkfebibnpincpaaEntO
namespace Go.Proofs.Ytkfebibnpincpaa
open Go.RowKit

def OpAt (w : World) (sv : Value) (ops : List Opn) : Prop := ∃ os : List (Opn × Value), ops = os.map Prod.fst ∧ Els w sv 3 (os.map opV) ∧ ∀ o ∈ os, Els w o.2 4 (o.1.2.2.map mvV)
theorem OpAt.below {B : Nat} {w w' : World} {v : Value} {ops : List Opn} (h : OpAt w v ops) (hb : Below B w w') (hB : w.heap.size ≤ B) : OpAt w' v ops := by
  obtain ⟨os, e, h1, h2⟩ := h
  exact ⟨os, e, h1.below hb hB, fun o ho => (h2 o ho).below hb hB⟩

/-- An entry's numbers are numbers. -/
structure EntI (e : Ent) : Prop where
  kind : I64 e.kind
  txn : I64 e.txn
  unit : I64 e.unit
  half : I64 e.half
  prev : I64 e.prev
  next : I64 e.next
  ap : I64 e.ap
  ac : I64 e.ac
  tp : I64 e.tp
  tc : I64 e.tc
  moves : ∀ m ∈ e.moves, mvI m
  lives : ∀ m ∈ e.lives, lvI m
  dirty : ∀ m ∈ e.dirty, dtI m
  opens : ∀ m ∈ e.opens, opI1 m

/-- Where an entry's bytes and lists lie. -/
structure EntS (w : World) (s1 s2 s3 s4 s5 s6 : Value) (e : Ent) : Prop where
  old : SlK .u8 w s1 e.old
  new : SlK .u8 w s2 e.new
  moves : Els w s3 4 (e.moves.map mvV)
  lives : Els w s4 4 (e.lives.map lvV)
  dirty : Els w s5 2 (e.dirty.map dtV)
  opens : OpAt w s6 e.opens

theorem EntS.below {B : Nat} {w w' : World} {s1 s2 s3 s4 s5 s6 : Value} {e : Ent} (h : EntS w s1 s2 s3 s4 s5 s6 e) (hb : Below B w w') (hB : w.heap.size ≤ B) : EntS w' s1 s2 s3 s4 s5 s6 e :=
  ⟨h.old.below hb hB, h.new.below hb hB, h.moves.below hb hB, h.lives.below hb hB, h.dirty.below hb hB, h.opens.below hb hB⟩

def entC (e : Ent) (s1 s2 s3 s4 s5 s6 : Value) : Array Value := #[.int .i64 e.kind, .int .i64 e.txn, .int .i64 e.unit, .int .i64 e.half, .int .i64 e.prev, .int .i64 e.next, .int .i64 e.ap, .int .i64 e.ac, .int .i64 e.tp, .int .i64 e.tc, s1, s2, s3, s4, s5, s6]

theorem wopens_any {w0 w : World} {p : Nat} {v sv : Value} {l : List Int} {bad : Bool} {ms : List Opn} (h : WS w p v l bad) (hb : Below p w0 w) (hB : w0.heap.size ≤ p) (hs : OpAt w0 sv ms) (hi : ∀ m ∈ ms, opI1 m) (hl : l.length ≤ 70000) :
    Calls Try.prog 73 #[.pointer (some ⟨p, 0, none⟩), sv, .func (.func 74) #[] #[]] w (WPost p w v (l ++ lstL opL ms) (bad || !lstB opB ms)) := by
  obtain ⟨os, rfl, h1, h2⟩ := hs
  have e1 : lstL opL (os.map Prod.fst) = lstL opL1 os := by
    unfold lstL
    rw [List.length_map, List.flatMap_map]
    rfl
  have e2 : lstB opB (os.map Prod.fst) = lstB opB1 os := by
    unfold lstB
    rw [List.length_map, List.all_map]
    rfl
  rw [e1, e2]
  exact wopen_any h hb hB ⟨h1, h2⟩ (fun o ho => hi o.1 (List.mem_map_of_mem ho)) hl

theorem Els.form {w : World} {v : Value} {k : Nat} {xs : List (List Value)} (h : Els w v k xs) : ∃ A c, v = .slice A xs.length c ∧ xs.length ≤ c := by
  obtain ⟨A, c, e, h1, _⟩ := h
  exact ⟨A, c, e, h1⟩
theorem SlK.form {q : IntKind} {w : World} {v : Value} {l : List Int} (h : SlK q w v l) : ∃ A c, v = .slice A l.length c ∧ l.length ≤ c := by
  obtain ⟨A, c, e, h1, _⟩ := h
  exact ⟨A, c, e, h1⟩
theorem celL_len {c : List Int} : (celL c).length ≤ 27 := by
  unfold celL
  split
  · rename_i h
    simp only [celOk, Bool.or_eq_true, decide_eq_true_eq] at h
    rw [List.length_append, numL_len]
    omega
  · simp

theorem Hd.cast {w0 w : World} {p q : Nat} {v0 v : Value} {o : Obj} {l : List Int} {bad b' : Bool} (H : Hd w0 p v0 q o w v l bad) (h : bad = b') : Hd w0 p v0 q o w v l b' := by
  subst h; exact H
theorem or_not1 (a b : Bool) : (!a || !b) = !(a && b) := by cases a <;> cases b <;> rfl

/-- The box of an entry. -/
def entO (e : Ent) (s1 s2 s3 s4 s5 s6 : Value) : Obj := .cells (entC e s1 s2 s3 s4 s5 s6) 30 (0, 0)

set_option maxRecDepth 100000 in
set_option maxHeartbeats 4000000 in
theorem wentry_any {w0 w : World} {p : Nat} {v : Value} (h : WS w p v [] false) (hb : Below p w0 w) (hB : w0.heap.size ≤ p) (e : Ent) {s1 s2 s3 s4 s5 s6 : Value} (hs : EntS w0 s1 s2 s3 s4 s5 s6 e) (hi : EntI e) :
    Calls Try.prog 48 #[.pointer (some ⟨p, 0, none⟩), .agg (entC e s1 s2 s3 s4 s5 s6)] w (WPost p w v (entL e) (!entB e)) := by
  obtain ⟨A1, c1, rfl, q1⟩ := hs.old.form
  obtain ⟨A2, c2, rfl, q2⟩ := hs.new.form
  obtain ⟨A3, c3, rfl, q3⟩ := hs.moves.form
  obtain ⟨A4, c4, rfl, q4⟩ := hs.lives.form
  obtain ⟨A5, c5, rfl, q5⟩ := hs.dirty.form
  obtain ⟨os, ho, h6, _⟩ := hs.opens
  obtain ⟨A6, c6, rfl, q6⟩ := h6.form
  have hos : (os.map opV).length = e.opens.length := by rw [ho, List.length_map, List.length_map]
  rw [hos] at hs ⊢
  rw [List.length_map] at hs ⊢
  rw [List.length_map] at hs ⊢
  rw [List.length_map] at hs ⊢
  have z1 := @celL_len e.old
  have z2 := @celL_len e.new
  have z3 := lstL_len mvL (n := 4) (fun x => by rw [mvL_len]; exact Nat.le_refl _) e.moves
  have z4 := lstL_len lvL (n := 8) (fun x => by rw [lvL_len]; exact Nat.le_refl _) e.lives
  have z5 := lstL_len dtL (n := 4) (fun x => by rw [dtL_len]; exact Nat.le_refl _) e.dirty
  have HS := Lib.hid hs
  have HI := Lib.hid hi
  have HH0 := Lib.hid h
  have HB := Lib.hid hb
  have H0 : Hd w p v w.heap.size (entO e (.slice A1 e.old.length c1) (.slice A2 e.new.length c2) (.slice A3 e.moves.length c3) (.slice A4 e.lives.length c4) (.slice A5 e.dirty.length c5) (.slice A6 e.opens.length c6)) (w.alloc (entO e (.slice A1 e.old.length c1) (.slice A2 e.new.length c2) (.slice A3 e.moves.length c3) (.slice A4 e.lives.length c4) (.slice A5 e.dirty.length c5) (.slice A6 e.opens.length c6))) v [] false := Hd.init h _
  have HHZ := Lib.hid H0
  have HK : Hid ((kindB e.kind = true ∧ 1 ≤ e.kind ∧ e.kind ≤ 10) ∨ (kindB e.kind = false ∧ e.kind < 1) ∨ (kindB e.kind = false ∧ 1 ≤ e.kind ∧ 10 < e.kind)) := by
    show _ ∨ _
    unfold kindB
    simp only [decide_eq_true_eq, decide_eq_false_iff_not]
    omega
  clear h H0 hb hs hi q1 q2 q3 q4 q5 q6 ho h6 hos
  rcases HK.out with ⟨hk, j1, j2⟩ | ⟨hk, j1⟩ | ⟨hk, j1, j2⟩
  all_goals
    have HKB := Lib.hid hk
    clear HK hk
    show Calls _ _ #[_, .agg #[.int .i64 e.kind, .int .i64 e.txn, .int .i64 e.unit, .int .i64 e.half, .int .i64 e.prev, .int .i64 e.next, .int .i64 e.ap, .int .i64 e.ac, .int .i64 e.tp, .int .i64 e.tc, _, _, _, _, _, _]] _ _
    go_enter Try.func48, Try.ntmps48
    go_wp2_with fail
    refine (need_any HHZ.out.ws _).mono ?_
    rintro e' w1 ⟨rfl, h1, g1⟩
    have HH1 := (HHZ.out.step h1 g1).cast (b' := !kindB e.kind) (by rw [HKB.out]; first | rfl | (simp; omega))
    have k0 : w1.cell? ⟨w.heap.size, 0, none⟩ = some (.int .i64 e.kind) := HH1.c 0
    have HX1 := Lib.hid HH1
    clear HH1 h1 g1
    go_wp2_with fail
    refine (number_1 HX1.out.ws e.kind HI.out.kind.1 HI.out.kind.2 (by simp)).mono ?_
    rintro e' w2 ⟨rfl, v2, h1, g1⟩
    have HH2 := HX1.out.step h1 g1
    clear HX1 k0
    have k1 : w2.cell? ⟨w.heap.size, 1, none⟩ = some (.int .i64 e.txn) := HH2.c 1
    have HX2 := Lib.hid HH2
    clear HH2 h1 g1
    go_wp2_with fail
    refine (number_1 HX2.out.ws e.txn HI.out.txn.1 HI.out.txn.2 (by simp only [List.length_append, List.length_nil, numL_len]; omega)).mono ?_
    rintro e' w3 ⟨rfl, v3, h1, g1⟩
    have HH3 := HX2.out.step h1 g1
    clear HX2 k1
    have k2 : w3.cell? ⟨w.heap.size, 2, none⟩ = some (.int .i64 e.unit) := HH3.c 2
    have HX3 := Lib.hid HH3
    clear HH3 h1 g1
    go_wp2_with fail
    refine (number_2 HX3.out.ws e.unit HI.out.unit.1 HI.out.unit.2 (by simp only [List.length_append, List.length_nil, numL_len]; omega)).mono ?_
    rintro e' w4 ⟨rfl, v4, h1, g1⟩
    have HH4 := HX3.out.step h1 g1
    clear HX3 k2
    have k3 : w4.cell? ⟨w.heap.size, 3, none⟩ = some (.int .i64 e.half) := HH4.c 3
    have HX4 := Lib.hid HH4
    clear HH4 h1 g1
    go_wp2_with fail
    refine (number_1 HX4.out.ws e.half HI.out.half.1 HI.out.half.2 (by simp only [List.length_append, List.length_nil, numL_len]; omega)).mono ?_
    rintro e' w5 ⟨rfl, v5, h1, g1⟩
    have HH5 := HX4.out.step h1 g1
    clear HX4 k3
    have k4 : w5.cell? ⟨w.heap.size, 4, none⟩ = some (.int .i64 e.prev) := HH5.c 4
    have HX5 := Lib.hid HH5
    clear HH5 h1 g1
    go_wp2_with fail
    refine (number_3 HX5.out.ws e.prev HI.out.prev.1 HI.out.prev.2 (by simp only [List.length_append, List.length_nil, numL_len]; omega)).mono ?_
    rintro e' w6 ⟨rfl, v6, h1, g1⟩
    have HH6 := HX5.out.step h1 g1
    clear HX5 k4
    have k5 : w6.cell? ⟨w.heap.size, 5, none⟩ = some (.int .i64 e.next) := HH6.c 5
    have HX6 := Lib.hid HH6
    clear HH6 h1 g1
    go_wp2_with fail
    refine (number_3 HX6.out.ws e.next HI.out.next.1 HI.out.next.2 (by simp only [List.length_append, List.length_nil, numL_len]; omega)).mono ?_
    rintro e' w7 ⟨rfl, v7, h1, g1⟩
    have HH7 := HX6.out.step h1 g1
    clear HX6 k5
    have k6 : w7.cell? ⟨w.heap.size, 6, none⟩ = some (.int .i64 e.ap) := HH7.c 6
    have k7 : w7.cell? ⟨w.heap.size, 7, none⟩ = some (.int .i64 e.ac) := HH7.c 7
    have HX7 := Lib.hid HH7
    clear HH7 h1 g1
    go_wp2_with fail
    refine (place_any HX7.out.ws e.ap e.ac HI.out.ap HI.out.ac (by simp only [List.length_append, List.length_nil, numL_len]; omega)).mono ?_
    rintro e' w8 ⟨rfl, v8, h1, g1⟩
    have HH8 := HX7.out.step h1 g1
    clear HX7 k6 k7
    have k8 : w8.cell? ⟨w.heap.size, 8, none⟩ = some (.int .i64 e.tp) := HH8.c 8
    have k9 : w8.cell? ⟨w.heap.size, 9, none⟩ = some (.int .i64 e.tc) := HH8.c 9
    have HX8 := Lib.hid HH8
    clear HH8 h1 g1
    go_wp2_with fail
    refine (place_any HX8.out.ws e.tp e.tc HI.out.tp HI.out.tc (by simp only [List.length_append, List.length_nil, numL_len, plL_len]; omega)).mono ?_
    rintro e' w9 ⟨rfl, v9, h1, g1⟩
    have HH9 := HX8.out.step h1 g1
    clear HX8 k8 k9
    have k10 : w9.cell? ⟨w.heap.size, 10, none⟩ = some (.slice A1 e.old.length c1) := HH9.c 10
    have HX9 := Lib.hid HH9
    clear HH9 h1 g1
    go_wp2_with fail
    refine (cell_any HX9.out.ws (HB.out.trans (HX9.out.wr.below HH0.out)) hB HS.out.old (by simp only [List.length_append, List.length_nil, numL_len, plL_len]; omega)).mono ?_
    rintro e' w10 ⟨rfl, v10, h1, g1⟩
    have HH10 := HX9.out.step h1 g1
    clear HX9 k10
    have k11 : w10.cell? ⟨w.heap.size, 11, none⟩ = some (.slice A2 e.new.length c2) := HH10.c 11
    have HX10 := Lib.hid HH10
    clear HH10 h1 g1
    go_wp2_with fail
    refine (cell_any HX10.out.ws (HB.out.trans (HX10.out.wr.below HH0.out)) hB HS.out.new (by simp only [List.length_append, List.length_nil, numL_len, plL_len]; omega)).mono ?_
    rintro e' w11 ⟨rfl, v11, h1, g1⟩
    have HH11 := HX10.out.step h1 g1
    clear HX10 k11
    have k12 : w11.cell? ⟨w.heap.size, 12, none⟩ = some (.slice A3 e.moves.length c3) := HH11.c 12
    have HX11 := Lib.hid HH11
    clear HH11 h1 g1
    go_wp2_with fail
    refine (wmoves_any HX11.out.ws (HB.out.trans (HX11.out.wr.below HH0.out)) hB HS.out.moves HI.out.moves (by simp only [List.length_append, List.length_nil, numL_len, plL_len]; omega)).mono ?_
    rintro e' w12 ⟨rfl, v12, h1, g1⟩
    have HH12 := HX11.out.step h1 g1
    clear HX11 k12
    have k13 : w12.cell? ⟨w.heap.size, 13, none⟩ = some (.slice A4 e.lives.length c4) := HH12.c 13
    have HX12 := Lib.hid HH12
    clear HH12 h1 g1
    go_wp2_with fail
    refine (wlives_any HX12.out.ws (HB.out.trans (HX12.out.wr.below HH0.out)) hB HS.out.lives HI.out.lives (by simp only [List.length_append, List.length_nil, numL_len, plL_len]; omega)).mono ?_
    rintro e' w13 ⟨rfl, v13, h1, g1⟩
    have HH13 := HX12.out.step h1 g1
    clear HX12 k13
    have k14 : w13.cell? ⟨w.heap.size, 14, none⟩ = some (.slice A5 e.dirty.length c5) := HH13.c 14
    have HX13 := Lib.hid HH13
    clear HH13 h1 g1
    go_wp2_with fail
    refine (wdirty_any HX13.out.ws (HB.out.trans (HX13.out.wr.below HH0.out)) hB HS.out.dirty HI.out.dirty (by simp only [List.length_append, List.length_nil, numL_len, plL_len]; omega)).mono ?_
    rintro e' w14 ⟨rfl, v14, h1, g1⟩
    have HH14 := HX13.out.step h1 g1
    clear HX13 k14
    have k15 : w14.cell? ⟨w.heap.size, 15, none⟩ = some (.slice A6 e.opens.length c6) := HH14.c 15
    have HX14 := Lib.hid HH14
    clear HH14 h1 g1
    go_wp2_with fail
    refine (wopens_any HX14.out.ws (HB.out.trans (HX14.out.wr.below HH0.out)) hB HS.out.opens HI.out.opens (by simp only [List.length_append, List.length_nil, numL_len, plL_len]; omega)).mono ?_
    rintro e' w15 ⟨rfl, v15, h1, g1⟩
    have HH15 := HX14.out.step h1 g1
    clear HX14 k15
    have HX15 := Lib.hid HH15
    clear HH15 h1 g1
    go_wp2
    go_end0
    exact HX15.out.post (by simp only [List.nil_append]; rfl) (by simp only [or_not1]; rfl)

end Go.Proofs.Ytkfebibnpincpaa
