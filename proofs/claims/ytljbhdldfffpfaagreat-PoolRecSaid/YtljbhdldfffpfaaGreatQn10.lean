/- PoolNone, a part. -/
import Derived.Test.YtljbhdldfffpfaaGreatQn9
import Derived.Laws.Rows
import Derived.Deep.Onto
namespace Go.Proofs.YtljbhdldfffpfaaGreat
open Go.RowKit

/-- An open unit's cells, with the slice of its moves. -/
def opV (o : Opn × Value) : List Value := [.int .i64 o.1.1, o.2, .int .i64 o.1.2.1]
def opL1 (o : Opn × Value) : List Int := opL o.1
def opB1 (o : Opn × Value) : Bool := opB o.1
def opI1 (o : Opn) : Prop := I64 o.1 ∧ I64 o.2.1 ∧ ∀ m ∈ o.2.2, mvI m
def opI (o : Opn × Value) : Prop := opI1 o.1
theorem lstL_len {α : Type} (f : α → List Int) {n : Nat} (hf : ∀ x, (f x).length ≤ n) (xs : List α) : (lstL f xs).length ≤ n * 40 + 1 := by
  unfold lstL
  split
  · rename_i h
    have := flat_pre f hf xs xs.length h
    rw [List.take_length] at this
    rw [List.length_append, numL_len]
    omega
  · simp
theorem opL_len (o : Opn) : (opL o).length ≤ 164 := by
  unfold opL
  have := lstL_len mvL (n := 4) (fun x => by rw [mvL_len]; exact Nat.le_refl _) o.2.2
  rw [List.length_append, List.length_append, numL_len, numL_len]
  omega

set_option maxRecDepth 100000 in
set_option maxHeartbeats 400000 in
theorem open_any {w0 w : World} {p : Nat} {v sv : Value} {l : List Int} {bad : Bool} (h : WS w p v l bad) (hb : Below p w0 w) (hB : w0.heap.size ≤ p) (o : Opn) (ho : opI1 o) (hs : Els w0 sv 4 (o.2.2.map mvV)) (hl : l.length ≤ 79000) :
    Calls Tryz.prog 142 #[.pointer (some ⟨p, 0, none⟩), .agg #[.int .i64 o.1, sv, .int .i64 o.2.1]] w (WPost p w v (l ++ opL o) (bad || !opB o)) := by
  obtain ⟨a, b, ms⟩ := o
  obtain ⟨ia, ib, im⟩ := ho
  simp only at ia ib im hs ⊢
  have HS := Lib.hid hs
  obtain ⟨A, cap, rfl, q1, q2, q3⟩ := hs
  rw [List.length_map] at q1 HS ⊢
  have HH0 := Lib.hid h
  have HB := Lib.hid hb
  have HI := Lib.hid im
  have H0 : Hd w p v w.heap.size (.cells #[.int .i64 a, .slice A ms.length cap, .int .i64 b] 209) (w.alloc (.cells #[.int .i64 a, .slice A ms.length cap, .int .i64 b] 209)) v l bad := Hd.init h _
  have HH := Lib.hid H0
  clear h H0 hb im q2 q3
  go_enter Tryz.func142, Tryz.ntmps142
  go_wp2_with fail
  refine (number_2 HH.out.ws a ia.1 ia.2 (by omega)).mono ?_
  rintro e w1 ⟨rfl, v1, h1, g1⟩
  have H1 := HH.out.step h1 g1
  have k2 := H1.c 2
  have HH1 := Lib.hid H1
  clear H1 h1 g1
  go_wp2_with fail
  refine (number_1 HH1.out.ws b ib.1 ib.2 (by simp [numL_len]; omega)).mono ?_
  rintro e w2 ⟨rfl, v2, h2, g2⟩
  have H2 := HH1.out.step h2 g2
  have k1 := H2.c 1
  have HH2 := Lib.hid H2
  clear H2 h2 g2 k2
  go_wp2_with fail
  refine (wmoves_any HH2.out.ws (HB.out.trans (HH2.out.wr.below HH0.out)) hB HS.out HI.out (by simp [numL_len]; omega)).mono ?_
  rintro e w3 ⟨rfl, v3, h3, g3⟩
  have HH3 := Lib.hid (HH2.out.step h3 g3)
  clear k1 h3 g3
  go_wp2
  go_end0
  exact HH3.out.post (by simp [opL]) (by rw [or_not2, or_not2]; simp [opB, Bool.and_assoc])

set_option maxRecDepth 100000 in
set_option maxHeartbeats 1000000 in
theorem wopen_any {w0 w : World} {p : Nat} {v sv : Value} {l : List Int} {bad : Bool} {ms : List (Opn × Value)} (h : WS w p v l bad) (hb : Below p w0 w) (hB : w0.heap.size ≤ p) (hs : Els w0 sv 3 (ms.map opV) ∧ ∀ o ∈ ms, Els w0 o.2 4 (o.1.2.2.map mvV)) (hi : ∀ m ∈ ms, opI m) (hl : l.length ≤ 70000) :
    Calls Tryz.prog 141 #[.pointer (some ⟨p, 0, none⟩), sv, .func (.func 142) #[] #[]] w (WPost p w v (l ++ lstL opL1 ms) (bad || !lstB opB1 ms)) := by
  have HS := Lib.hid hs
  have HH := Lib.hid h
  have HB := Lib.hid hb
  have HI := Lib.hid hi
  obtain ⟨A, cap, rfl, q1, q2, q3⟩ := hs.1
  rw [List.length_map] at q1 HS ⊢
  clear h hb q2 q3 hi
  by_cases h40 : ms.length ≤ 40
  · have hd : decide ((ms.length : Int) ≤ 40) = true := decide_eq_true (by omega)
    have HF := Lib.hid (lst_few opL1 opB1 h40)
    go_enter Tryz.func141, Tryz.ntmps141
    go_wp2_with fail
    refine (need_any HH.out _).mono ?_
    rintro e w1 ⟨rfl, h1, g1⟩
    have h1' : WS w1 p v l bad := by simpa using h1
    have H1 := Lib.hid h1'
    have G1 := Lib.hid g1
    clear h1 h1' g1
    go_wp2_with fail
    refine (number_1 H1.out _ (by omega) (by omega) (by omega)).mono ?_
    rintro e w2 ⟨rfl, v2, h2, g2⟩
    have h2' : LRel w p v bad l ms opL1 opB1 (.int .i64 0) w2 := ⟨0, v2, Nat.zero_le _, rfl, by
      rw [fit_iff.2 (show 0 ≤ (ms.length : Int) ∧ (ms.length : Int) < 256 ^ 1 by omega)] at h2
      simpa using h2, G1.out.trans g2⟩
    have H2 := Lib.hid h2'
    clear h2 h2' g2 G1 H1
    go_wp2
    go_loopw [20] (fun i wr => LRel w p v bad l ms opL1 opB1 i wr) (fun i _ => ms.length - (RowKit.intOf i).toNat)
    case atStart => exact H2.out
    case round =>
      obtain ⟨k, v3, hk, rfl, H3, G3⟩ := hrel
      have HW := Lib.hid H3
      have HG := Lib.hid G3
      clear H3 G3
      by_cases hlt : k < ms.length
      · have HB3 := Lib.hid (HB.out.trans (HG.out.below HH.out))
        obtain ⟨b, off, rfl, hbl, hc⟩ := (HS.out.1.below HB3.out hB).one (i := k) (by simpa using hlt)
        have hpl : (l ++ (numL ms.length 1 ++ (ms.take k).flatMap opL1)).length ≤ 79000 := by
          have := flat_pre opL1 (n := 164) (fun x => opL_len _) ms k h40
          rw [List.length_append, List.length_append, numL_len]
          omega
        have k0 : wr.cell? ⟨b, off + k * 3, none⟩ = some (.int .i64 ms[k].1.1) := by simpa [opV] using hc 0 (by omega)
        have k1 : wr.cell? ⟨b, off + k * 3 + 1, none⟩ = some (ms[k].2) := by simpa [opV] using hc 1 (by omega)
        have k2 : wr.cell? ⟨b, off + k * 3 + 2, none⟩ = some (.int .i64 ms[k].1.2.1) := by simpa [opV] using hc 2 (by omega)
        have hmm := HS.out.2 ms[k] (List.getElem_mem _)
        obtain ⟨A2, cap2, e2, z1, z2, z3⟩ := hmm
        rw [List.length_map] at e2
        rw [e2] at k1
        have HM : Hid (Els w0 (.slice A2 ms[k].1.2.2.length cap2) 4 (ms[k].1.2.2.map mvV)) := by
          have h := HS.out.2 ms[k] (List.getElem_mem _)
          rw [e2] at h
          exact h
        have HBa : Hid (∀ o, Below p w0 (wr.alloc o)) := fun o => HB3.out.trans ((Below.refl p wr).alloc (Nat.le_of_lt HW.out.lt) o)
        clear e2 z1 z2 z3
        clear hc
        go_wp2_with fail
        refine (open_any (HW.out.alloc _) (HBa.out _) hB ms[k].1 (HI.out _ (List.getElem_mem _)) HM.out (by omega)).mono ?_
        rintro e w4 ⟨rfl, v4, h4, g4⟩
        have h5 : LRel w p v bad l ms opL1 opB1 (.int .i64 (k + 1)) w4 := ⟨k + 1, v4, hlt, rfl, by
          rw [flat_snoc _ _ _ hlt, all_snoc _ _ _ hlt, ← or_not2, ← List.append_assoc (numL _ _), ← List.append_assoc l]
          exact h4, (HG.out.trans (Wr.alloc p wr v3 _)).trans g4⟩
        have H5 := Lib.hid h5
        clear h4 g4 h5 k0 k1 k2
        go_wp2
        go_roundw
        all_goals first
          | exact H5.out
          | (simp [RowKit.intOf]; omega)
      · obtain rfl : k = ms.length := by omega
        go_wp2
        go_end0
        rw [HF.out.1, HF.out.2]
        have := HW.out
        rw [List.take_length] at this
        exact ⟨rfl, v3, this, HG.out⟩
  · have hd : decide ((ms.length : Int) ≤ 40) = false := decide_eq_false (by omega)
    have HF := Lib.hid (lst_many opL1 opB1 h40)
    clear h40
    go_enter Tryz.func141, Tryz.ntmps141
    go_wp2_with fail
    refine (need_any HH.out _).mono ?_
    rintro e w1 ⟨rfl, h1, g1⟩
    have H1 := Lib.hid h1
    have G1 := Lib.hid g1
    clear h1 g1
    go_wp2
    go_end0
    rw [HF.out.1, HF.out.2, List.append_nil]
    exact ⟨rfl, v, H1.out, G1.out⟩

end Go.Proofs.YtljbhdldfffpfaaGreat
namespace Go.Proofs.YtljbhdldfffpfaaGreat
open Go.RowKit

def OpAt (w : World) (sv : Value) (ops : List Opn) : Prop := ∃ os : List (Opn × Value), ops = os.map Prod.fst ∧ Els w sv 3 (os.map opV) ∧ ∀ o ∈ os, Els w o.2 4 (o.1.2.2.map mvV)
theorem OpAt.below {B : Nat} {w w' : World} {v : Value} {ops : List Opn} (h : OpAt w v ops) (hb : Below B w w') (hB : w.heap.size ≤ B) : OpAt w' v ops := by
  obtain ⟨os, e, h1, h2⟩ := h
  exact ⟨os, e, h1.below hb hB, fun o ho => (h2 o ho).below hb hB⟩

/-- An entry's numbers are numbers. -/
structure EntI (e : Ent) : Prop where
  kind : I64 e.kind
  txn : I64 e.txn
  unit : I64 e.unit
  half : I64 e.half
  prev : I64 e.prev
  next : I64 e.next
  ap : I64 e.ap
  ac : I64 e.ac
  tp : I64 e.tp
  tc : I64 e.tc
  moves : ∀ m ∈ e.moves, mvI m
  lives : ∀ m ∈ e.lives, lvI m
  dirty : ∀ m ∈ e.dirty, dtI m
  opens : ∀ m ∈ e.opens, opI1 m

/-- Where an entry's bytes and lists lie. -/
structure EntS (w : World) (s1 s2 s3 s4 s5 s6 : Value) (e : Ent) : Prop where
  old : SlW w s1 e.old
  new : SlW w s2 e.new
  moves : Els w s3 4 (e.moves.map mvV)
  lives : Els w s4 4 (e.lives.map lvV)
  dirty : Els w s5 2 (e.dirty.map dtV)
  opens : OpAt w s6 e.opens

theorem EntS.below {B : Nat} {w w' : World} {s1 s2 s3 s4 s5 s6 : Value} {e : Ent} (h : EntS w s1 s2 s3 s4 s5 s6 e) (hb : Below B w w') (hB : w.heap.size ≤ B) : EntS w' s1 s2 s3 s4 s5 s6 e :=
  ⟨h.old.below hb hB, h.new.below hb hB, h.moves.below hb hB, h.lives.below hb hB, h.dirty.below hb hB, h.opens.below hb hB⟩

def entC (e : Ent) (s1 s2 s3 s4 s5 s6 : Value) : Array Value := #[.int .i64 e.kind, .int .i64 e.txn, .int .i64 e.unit, .int .i64 e.half, .int .i64 e.prev, .int .i64 e.next, .int .i64 e.ap, .int .i64 e.ac, .int .i64 e.tp, .int .i64 e.tc, s1, s2, s3, s4, s5, s6]

theorem wopens_any {w0 w : World} {p : Nat} {v sv : Value} {l : List Int} {bad : Bool} {ms : List Opn} (h : WS w p v l bad) (hb : Below p w0 w) (hB : w0.heap.size ≤ p) (hs : OpAt w0 sv ms) (hi : ∀ m ∈ ms, opI1 m) (hl : l.length ≤ 70000) :
    Calls Tryz.prog 141 #[.pointer (some ⟨p, 0, none⟩), sv, .func (.func 142) #[] #[]] w (WPost p w v (l ++ lstL opL ms) (bad || !lstB opB ms)) := by
  obtain ⟨os, rfl, h1, h2⟩ := hs
  have e1 : lstL opL (os.map Prod.fst) = lstL opL1 os := by
    unfold lstL
    rw [List.length_map, List.flatMap_map]
    rfl
  have e2 : lstB opB (os.map Prod.fst) = lstB opB1 os := by
    unfold lstB
    rw [List.length_map, List.all_map]
    rfl
  rw [e1, e2]
  exact wopen_any h hb hB ⟨h1, h2⟩ (fun o ho => hi o.1 (List.mem_map_of_mem ho)) hl

theorem Els.form {w : World} {v : Value} {k : Nat} {xs : List (List Value)} (h : Els w v k xs) : ∃ A c, v = .slice A xs.length c ∧ xs.length ≤ c := by
  obtain ⟨A, c, e, h1, _⟩ := h
  exact ⟨A, c, e, h1⟩
theorem SlK.form {q : IntKind} {w : World} {v : Value} {l : List Int} (h : SlK q w v l) : ∃ A c, v = .slice A l.length c ∧ l.length ≤ c := by
  obtain ⟨A, c, e, h1, _⟩ := h
  exact ⟨A, c, e, h1⟩
theorem celL_len {c : List Int} : (celL c).length ≤ 27 := by
  unfold celL
  split
  · rename_i h
    simp only [celOk, Bool.or_eq_true, decide_eq_true_eq] at h
    rw [List.length_append, numL_len]
    omega
  · simp

theorem Hd.cast {w0 w : World} {p q : Nat} {v0 v : Value} {o : Obj} {l : List Int} {bad b' : Bool} (H : Hd w0 p v0 q o w v l bad) (h : bad = b') : Hd w0 p v0 q o w v l b' := by
  subst h; exact H
theorem or_not1 (a b : Bool) : (!a || !b) = !(a && b) := by cases a <;> cases b <;> rfl

/-- The box of an entry. -/
def entO (e : Ent) (s1 s2 s3 s4 s5 s6 : Value) : Obj := .cells (entC e s1 s2 s3 s4 s5 s6) 55 (0, 0)

set_option maxRecDepth 100000 in
set_option maxHeartbeats 4000000 in
theorem wentry_any {w0 w : World} {p : Nat} {v : Value} (h : WS w p v [] false) (hb : Below p w0 w) (hB : w0.heap.size ≤ p) (e : Ent) {s1 s2 s3 s4 s5 s6 : Value} (hs : EntS w0 s1 s2 s3 s4 s5 s6 e) (hi : EntI e) :
    Calls Tryz.prog 112 #[.pointer (some ⟨p, 0, none⟩), .agg (entC e s1 s2 s3 s4 s5 s6)] w (WPost p w v (entL e) (!entB e)) := by
  obtain ⟨A1, c1, rfl, q1⟩ := hs.old.form
  obtain ⟨A2, c2, rfl, q2⟩ := hs.new.form
  obtain ⟨A3, c3, rfl, q3⟩ := hs.moves.form
  obtain ⟨A4, c4, rfl, q4⟩ := hs.lives.form
  obtain ⟨A5, c5, rfl, q5⟩ := hs.dirty.form
  obtain ⟨os, ho, h6, _⟩ := hs.opens
  obtain ⟨A6, c6, rfl, q6⟩ := h6.form
  have hos : (os.map opV).length = e.opens.length := by rw [ho, List.length_map, List.length_map]
  rw [hos] at hs ⊢
  rw [List.length_map] at hs ⊢
  rw [List.length_map] at hs ⊢
  rw [List.length_map] at hs ⊢
  have z1 := @celL_len e.old
  have z2 := @celL_len e.new
  have z3 := lstL_len mvL (n := 4) (fun x => by rw [mvL_len]; exact Nat.le_refl _) e.moves
  have z4 := lstL_len lvL (n := 8) (fun x => by rw [lvL_len]; exact Nat.le_refl _) e.lives
  have z5 := lstL_len dtL (n := 4) (fun x => by rw [dtL_len]; exact Nat.le_refl _) e.dirty
  have HS := Lib.hid hs
  have HI := Lib.hid hi
  have HH0 := Lib.hid h
  have HB := Lib.hid hb
  have H0 : Hd w p v w.heap.size (entO e (.slice A1 e.old.length c1) (.slice A2 e.new.length c2) (.slice A3 e.moves.length c3) (.slice A4 e.lives.length c4) (.slice A5 e.dirty.length c5) (.slice A6 e.opens.length c6)) (w.alloc (entO e (.slice A1 e.old.length c1) (.slice A2 e.new.length c2) (.slice A3 e.moves.length c3) (.slice A4 e.lives.length c4) (.slice A5 e.dirty.length c5) (.slice A6 e.opens.length c6))) v [] false := Hd.init h _
  have HHZ := Lib.hid H0
  have HK : Hid ((kindB e.kind = true ∧ 1 ≤ e.kind ∧ e.kind ≤ 10) ∨ (kindB e.kind = false ∧ e.kind < 1) ∨ (kindB e.kind = false ∧ 1 ≤ e.kind ∧ 10 < e.kind)) := by
    show _ ∨ _
    unfold kindB
    simp only [decide_eq_true_eq, decide_eq_false_iff_not]
    omega
  clear h H0 hb hs hi q1 q2 q3 q4 q5 q6 ho h6 hos
  rcases HK.out with ⟨hk, j1, j2⟩ | ⟨hk, j1⟩ | ⟨hk, j1, j2⟩
  all_goals
    have HKB := Lib.hid hk
    clear HK hk
    show Calls _ _ #[_, .agg #[.int .i64 e.kind, .int .i64 e.txn, .int .i64 e.unit, .int .i64 e.half, .int .i64 e.prev, .int .i64 e.next, .int .i64 e.ap, .int .i64 e.ac, .int .i64 e.tp, .int .i64 e.tc, _, _, _, _, _, _]] _ _
    go_enter Tryz.func112, Tryz.ntmps112
    go_wp2_with fail
    refine (need_any HHZ.out.ws _).mono ?_
    rintro e' w1 ⟨rfl, h1, g1⟩
    have HH1 := (HHZ.out.step h1 g1).cast (b' := !kindB e.kind) (by rw [HKB.out]; first | rfl | (simp; omega))
    have k0 : w1.cell? ⟨w.heap.size, 0, none⟩ = some (.int .i64 e.kind) := HH1.c 0
    have HX1 := Lib.hid HH1
    clear HH1 h1 g1
    go_wp2_with fail
    refine (number_1 HX1.out.ws e.kind HI.out.kind.1 HI.out.kind.2 (by simp)).mono ?_
    rintro e' w2 ⟨rfl, v2, h1, g1⟩
    have HH2 := HX1.out.step h1 g1
    clear HX1 k0
    have k1 : w2.cell? ⟨w.heap.size, 1, none⟩ = some (.int .i64 e.txn) := HH2.c 1
    have HX2 := Lib.hid HH2
    clear HH2 h1 g1
    go_wp2_with fail
    refine (number_1 HX2.out.ws e.txn HI.out.txn.1 HI.out.txn.2 (by simp only [List.length_append, List.length_nil, numL_len]; omega)).mono ?_
    rintro e' w3 ⟨rfl, v3, h1, g1⟩
    have HH3 := HX2.out.step h1 g1
    clear HX2 k1
    have k2 : w3.cell? ⟨w.heap.size, 2, none⟩ = some (.int .i64 e.unit) := HH3.c 2
    have HX3 := Lib.hid HH3
    clear HH3 h1 g1
    go_wp2_with fail
    refine (number_2 HX3.out.ws e.unit HI.out.unit.1 HI.out.unit.2 (by simp only [List.length_append, List.length_nil, numL_len]; omega)).mono ?_
    rintro e' w4 ⟨rfl, v4, h1, g1⟩
    have HH4 := HX3.out.step h1 g1
    clear HX3 k2
    have k3 : w4.cell? ⟨w.heap.size, 3, none⟩ = some (.int .i64 e.half) := HH4.c 3
    have HX4 := Lib.hid HH4
    clear HH4 h1 g1
    go_wp2_with fail
    refine (number_1 HX4.out.ws e.half HI.out.half.1 HI.out.half.2 (by simp only [List.length_append, List.length_nil, numL_len]; omega)).mono ?_
    rintro e' w5 ⟨rfl, v5, h1, g1⟩
    have HH5 := HX4.out.step h1 g1
    clear HX4 k3
    have k4 : w5.cell? ⟨w.heap.size, 4, none⟩ = some (.int .i64 e.prev) := HH5.c 4
    have HX5 := Lib.hid HH5
    clear HH5 h1 g1
    go_wp2_with fail
    refine (number_3 HX5.out.ws e.prev HI.out.prev.1 HI.out.prev.2 (by simp only [List.length_append, List.length_nil, numL_len]; omega)).mono ?_
    rintro e' w6 ⟨rfl, v6, h1, g1⟩
    have HH6 := HX5.out.step h1 g1
    clear HX5 k4
    have k5 : w6.cell? ⟨w.heap.size, 5, none⟩ = some (.int .i64 e.next) := HH6.c 5
    have HX6 := Lib.hid HH6
    clear HH6 h1 g1
    go_wp2_with fail
    refine (number_3 HX6.out.ws e.next HI.out.next.1 HI.out.next.2 (by simp only [List.length_append, List.length_nil, numL_len]; omega)).mono ?_
    rintro e' w7 ⟨rfl, v7, h1, g1⟩
    have HH7 := HX6.out.step h1 g1
    clear HX6 k5
    have k6 : w7.cell? ⟨w.heap.size, 6, none⟩ = some (.int .i64 e.ap) := HH7.c 6
    have k7 : w7.cell? ⟨w.heap.size, 7, none⟩ = some (.int .i64 e.ac) := HH7.c 7
    have HX7 := Lib.hid HH7
    clear HH7 h1 g1
    go_wp2_with fail
    refine (place_any HX7.out.ws e.ap e.ac HI.out.ap HI.out.ac (by simp only [List.length_append, List.length_nil, numL_len]; omega)).mono ?_
    rintro e' w8 ⟨rfl, v8, h1, g1⟩
    have HH8 := HX7.out.step h1 g1
    clear HX7 k6 k7
    have k8 : w8.cell? ⟨w.heap.size, 8, none⟩ = some (.int .i64 e.tp) := HH8.c 8
    have k9 : w8.cell? ⟨w.heap.size, 9, none⟩ = some (.int .i64 e.tc) := HH8.c 9
    have HX8 := Lib.hid HH8
    clear HH8 h1 g1
    go_wp2_with fail
    refine (place_any HX8.out.ws e.tp e.tc HI.out.tp HI.out.tc (by simp only [List.length_append, List.length_nil, numL_len, plL_len]; omega)).mono ?_
    rintro e' w9 ⟨rfl, v9, h1, g1⟩
    have HH9 := HX8.out.step h1 g1
    clear HX8 k8 k9
    have k10 : w9.cell? ⟨w.heap.size, 10, none⟩ = some (.slice A1 e.old.length c1) := HH9.c 10
    have HX9 := Lib.hid HH9
    clear HH9 h1 g1
    go_wp2_with fail
    refine (cell_any HX9.out.ws (HB.out.trans (HX9.out.wr.below HH0.out)) hB HS.out.old (by simp only [List.length_append, List.length_nil, numL_len, plL_len]; omega)).mono ?_
    rintro e' w10 ⟨rfl, v10, h1, g1⟩
    have HH10 := HX9.out.step h1 g1
    clear HX9 k10
    have k11 : w10.cell? ⟨w.heap.size, 11, none⟩ = some (.slice A2 e.new.length c2) := HH10.c 11
    have HX10 := Lib.hid HH10
    clear HH10 h1 g1
    go_wp2_with fail
    refine (cell_any HX10.out.ws (HB.out.trans (HX10.out.wr.below HH0.out)) hB HS.out.new (by simp only [List.length_append, List.length_nil, numL_len, plL_len]; omega)).mono ?_
    rintro e' w11 ⟨rfl, v11, h1, g1⟩
    have HH11 := HX10.out.step h1 g1
    clear HX10 k11
    have k12 : w11.cell? ⟨w.heap.size, 12, none⟩ = some (.slice A3 e.moves.length c3) := HH11.c 12
    have HX11 := Lib.hid HH11
    clear HH11 h1 g1
    go_wp2_with fail
    refine (wmoves_any HX11.out.ws (HB.out.trans (HX11.out.wr.below HH0.out)) hB HS.out.moves HI.out.moves (by simp only [List.length_append, List.length_nil, numL_len, plL_len]; omega)).mono ?_
    rintro e' w12 ⟨rfl, v12, h1, g1⟩
    have HH12 := HX11.out.step h1 g1
    clear HX11 k12
    have k13 : w12.cell? ⟨w.heap.size, 13, none⟩ = some (.slice A4 e.lives.length c4) := HH12.c 13
    have HX12 := Lib.hid HH12
    clear HH12 h1 g1
    go_wp2_with fail
    refine (wlives_any HX12.out.ws (HB.out.trans (HX12.out.wr.below HH0.out)) hB HS.out.lives HI.out.lives (by simp only [List.length_append, List.length_nil, numL_len, plL_len]; omega)).mono ?_
    rintro e' w13 ⟨rfl, v13, h1, g1⟩
    have HH13 := HX12.out.step h1 g1
    clear HX12 k13
    have k14 : w13.cell? ⟨w.heap.size, 14, none⟩ = some (.slice A5 e.dirty.length c5) := HH13.c 14
    have HX13 := Lib.hid HH13
    clear HH13 h1 g1
    go_wp2_with fail
    refine (wdirty_any HX13.out.ws (HB.out.trans (HX13.out.wr.below HH0.out)) hB HS.out.dirty HI.out.dirty (by simp only [List.length_append, List.length_nil, numL_len, plL_len]; omega)).mono ?_
    rintro e' w14 ⟨rfl, v14, h1, g1⟩
    have HH14 := HX13.out.step h1 g1
    clear HX13 k14
    have k15 : w14.cell? ⟨w.heap.size, 15, none⟩ = some (.slice A6 e.opens.length c6) := HH14.c 15
    have HX14 := Lib.hid HH14
    clear HH14 h1 g1
    go_wp2_with fail
    refine (wopens_any HX14.out.ws (HB.out.trans (HX14.out.wr.below HH0.out)) hB HS.out.opens HI.out.opens (by simp only [List.length_append, List.length_nil, numL_len, plL_len]; omega)).mono ?_
    rintro e' w15 ⟨rfl, v15, h1, g1⟩
    have HH15 := HX14.out.step h1 g1
    clear HX14 k15
    have HX15 := Lib.hid HH15
    clear HH15 h1 g1
    go_wp2
    go_end0
    exact HX15.out.post (by simp only [List.nil_append]; rfl) (by simp only [or_not1]; rfl)

end Go.Proofs.YtljbhdldfffpfaaGreat
namespace Go.Proofs.YtljbhdldfffpfaaGreat
open Go.RowKit

def putL (e : Ent) : List Int := if entB e = true then entL e else []
theorem putL_yes {e : Ent} (h : entB e = true) : putL e = entL e := if_pos h
theorem putL_no {e : Ent} (h : entB e = false) : putL e = [] := by unfold putL; rw [h]; rfl

theorem EntS.form {w : World} {s1 s2 s3 s4 s5 s6 : Value} {e : Ent} (hs : EntS w s1 s2 s3 s4 s5 s6 e) : ∃ A1 c1 A2 c2 A3 c3 A4 c4 A5 c5 A6 c6, s1 = .slice A1 e.old.length c1 ∧ s2 = .slice A2 e.new.length c2 ∧ s3 = .slice A3 e.moves.length c3 ∧ s4 = .slice A4 e.lives.length c4 ∧ s5 = .slice A5 e.dirty.length c5 ∧ s6 = .slice A6 e.opens.length c6 := by
  obtain ⟨A1, c1, rfl, q1⟩ := hs.old.form
  obtain ⟨A2, c2, rfl, q2⟩ := hs.new.form
  obtain ⟨A3, c3, rfl, q3⟩ := hs.moves.form
  obtain ⟨A4, c4, rfl, q4⟩ := hs.lives.form
  obtain ⟨A5, c5, rfl, q5⟩ := hs.dirty.form
  obtain ⟨os, ho, h6, _⟩ := hs.opens
  obtain ⟨A6, c6, rfl, q6⟩ := h6.form
  have hos : (os.map opV).length = e.opens.length := by rw [ho, List.length_map, List.length_map]
  simp only [List.length_map] at hos ⊢
  exact ⟨A1, c1, A2, c2, A3, c3, A4, c4, A5, c5, A6, c6, rfl, rfl, rfl, rfl, rfl, by rw [hos]⟩

theorem infoEnt : (Tryz.prog.info? 55).map (·.size) = some 16 := by kernel_rfl
theorem infoEntC (e : Ent) (s1 s2 s3 s4 s5 s6 : Value) : (Tryz.prog.info? 55).map (·.size) = some (entC e s1 s2 s3 s4 s5 s6).size := infoEnt

def EncPost (w : World) (e : Ent) (r : Ending) (w' : World) : Prop := ∃ A m c, r = .returned (.tuple #[.slice A m c, .bool (entB e)]) ∧ w'.ownsRow w.heap.size 5 1 (.slice A m c) (putL e).length (byteV (putL e)) ∧ Below w.heap.size w w'

set_option maxRecDepth 100000 in
set_option maxHeartbeats 1000000 in
theorem encode_any (w : World) (e : Ent) {s1 s2 s3 s4 s5 s6 : Value} (hs : EntS w s1 s2 s3 s4 s5 s6 e) (hi : EntI e) :
    Calls Tryz.prog 95 #[.agg (entC e s1 s2 s3 s4 s5 s6)] w (EncPost w e) := by
  obtain ⟨A1, c1, A2, c2, A3, c3, A4, c4, A5, c5, A6, c6, rfl, rfl, rfl, rfl, rfl, rfl⟩ := hs.form
  obtain ⟨W, hW⟩ : ∃ W, W = w.alloc (entO e (.slice A1 e.old.length c1) (.slice A2 e.new.length c2) (.slice A3 e.moves.length c3) (.slice A4 e.lives.length c4) (.slice A5 e.dirty.length c5) (.slice A6 e.opens.length c6)) := ⟨_, rfl⟩
  have hb0 : Below w.heap.size w W := by rw [hW]; exact (Below.refl _ _).alloc (Nat.le_refl _) _
  have hsz : W.heap.size = w.heap.size + 1 := by rw [hW]; simp
  have hbx : W.heap[w.heap.size]? = some (entO e (.slice A1 e.old.length c1) (.slice A2 e.new.length c2) (.slice A3 e.moves.length c3) (.slice A4 e.lives.length c4) (.slice A5 e.dirty.length c5) (.slice A6 e.opens.length c6)) := by rw [hW]; exact heap_alloc_new w _
  have hs2 := hs.below hb0 (Nat.le_refl _)
  have hws : WS (W.alloc (.cells #[.slice none 0 0, .bool false] 168)) W.heap.size (.slice none 0 0) [] false := ⟨heap_alloc_new W _, World.ownsRow_nil _ _ _ _⟩
  have hb1 : Below W.heap.size W (W.alloc (.cells #[.slice none 0 0, .bool false] 168)) := (Below.refl _ _).alloc (Nat.le_refl _) _
  have HS := Lib.hid hs2
  have HI := Lib.hid hi
  have HWS := Lib.hid hws
  have HB0 := Lib.hid hb0
  have HB1 := Lib.hid hb1
  have HSZ := Lib.hid hsz
  have HBX := Lib.hid ((hb1.block w.heap.size (by omega)).trans hbx)
  clear hs hs2 hi hws hb0 hb1 hbx hsz
  show Calls _ _ #[.agg #[.int .i64 e.kind, .int .i64 e.txn, .int .i64 e.unit, .int .i64 e.half, .int .i64 e.prev, .int .i64 e.next, .int .i64 e.ap, .int .i64 e.ac, .int .i64 e.tp, .int .i64 e.tc, _, _, _, _, _, _]] _ _
  go_enter Tryz.func95, Tryz.ntmps95
  go_upto_region 1 with (fail)
  show Code.wp _ _ _ _ (w.alloc (entO e (.slice A1 e.old.length c1) (.slice A2 e.new.length c2) (.slice A3 e.moves.length c3) (.slice A4 e.lives.length c4) (.slice A5 e.dirty.length c5) (.slice A6 e.opens.length c6)))
  rw [← hW]
  clear hW
  go_upto_region 2 with (fail)
  generalize W.alloc (.cells #[.slice none 0 0, .bool false] 168) = W2 at *
  have HBX2 : Hid (W2.heap[w.heap.size]? = some (.cells (entC e (.slice A1 e.old.length c1) (.slice A2 e.new.length c2) (.slice A3 e.moves.length c3) (.slice A4 e.lives.length c4) (.slice A5 e.dirty.length c5) (.slice A6 e.opens.length c6)) 55 (0, 0))) := HBX
  clear HBX
  go_wp2_with (with_reducible refine wpList_load_row rfl 55 (.tmp 1) rfl w.heap.size rfl 55 _ (0, 0) _ HBX2.out Tryz.underlying55 rfl (infoEntC ..) ?_)
  refine (wentry_any HWS.out HB1.out (Nat.le_refl _) e HS.out HI.out).mono ?_
  rintro r w3 ⟨rfl, v3, h3, g3⟩
  have hbel : Below w.heap.size w w3 := HB0.out.trans ((HB1.out.trans (g3.below HWS.out)).mono (by rw [HSZ.out]; omega))
  obtain ⟨A, m, c, rfl⟩ := own_shape h3.2
  have c0 := h3.c0
  have d1 := h3.c1
  have HO := Lib.hid h3.2
  have HBL := Lib.hid hbel
  clear h3 g3 hbel
  cases hB : entB e
  · rw [hB] at d1
    have HBF := Lib.hid hB
    clear hB
    go_wp2
    go_ret2
    exact ⟨none, 0, 0, by rw [HBF.out]; rfl, by rw [putL_no HBF.out]; exact World.ownsRow_nil _ _ _ _, HBL.out⟩
  · rw [hB] at d1
    have HBF := Lib.hid hB
    clear hB
    go_wp2
    go_ret2
    exact ⟨A, m, c, by rw [HBF.out]; rfl, by rw [putL_yes HBF.out]; exact HO.out.mono (by rw [HSZ.out]; omega), HBL.out⟩


end Go.Proofs.YtljbhdldfffpfaaGreat
