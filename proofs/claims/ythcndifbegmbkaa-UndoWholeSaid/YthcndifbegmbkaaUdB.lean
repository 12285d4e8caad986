/- undo's Back and Next, and the reference's, of any entry. -/
import Derived.Test.YthcndifbegmbkaaEntK
import Derived.Test.YthcndifbegmbkaaHeldF
namespace Go.Proofs.Ythcndifbegmbkaa.Ud
open Go.RowKit

abbrev nl : Value := .slice none 0 0
/-- What takes a set back. -/
def bkE (e : Ent) (p : Int) : Ent := ⟨2, e.txn, 0, 0, p, e.prev, e.ap, e.ac, 0, 0, [], e.old, [], [], [], []⟩
/-- What is to be undone next. -/
def nxE (e : Ent) (lsn : Int) : Int := if e.kind = 1 then lsn else if e.kind = 2 then e.next else if e.kind = 3 then e.prev else if e.kind = 4 then e.prev else 0
def zE : Array Value := #[.int .i64 0, .int .i64 0, .int .i64 0, .int .i64 0, .int .i64 0, .int .i64 0, .int .i64 0, .int .i64 0, .int .i64 0, .int .i64 0, .slice none 0 0, .slice none 0 0, .slice none 0 0, .slice none 0 0, .slice none 0 0, .slice none 0 0]
theorem own_mono {w : World} {B B' n : Nat} {v : Value} {xs : List Value} (h : w.ownsRow B 5 1 v n xs) (hB : B' ≤ B) : w.ownsRow B' 5 1 v n xs := by
  obtain ⟨h1, ⟨e, h2⟩ | ⟨g, cap, cur, e, a, r⟩⟩ := h
  · exact ⟨h1, .inl ⟨e, h2⟩⟩
  · exact ⟨h1, .inr ⟨g, cap, cur, e, Nat.le_trans hB a, r⟩⟩
def ClPost (w : World) (l : List Int) (r : Ending) (w' : World) : Prop := ∃ A q, r = .returned (.slice A l.length q) ∧ w'.ownsRow w.heap.size 5 1 (.slice A l.length q) l.length (byteV l) ∧ Below w.heap.size w w'

set_option maxRecDepth 100000 in
set_option maxHeartbeats 1000000 in
theorem uclone_any (w : World) (v : Value) (l : List Int) (h : SlW w v l) (hl : l.length ≤ 100000) : Calls Try.prog 13 #[v] w (ClPost w l) := by
  obtain ⟨⟨p, cap, rfl, h1, h3⟩, _, hk⟩ := id h
  cases p with
  | none =>
    obtain ⟨rfl, rfl⟩ := h3 rfl
    rw [List.length_nil]
    have q0 := Lib.run_eql_slice_nil (P := Try.prog) w 24 5 none 0 0 0 0 Try.underlying24
    simp only [Option.isNone_none] at q0
    clear hk h h3
    go_enter Try.func13, Try.ntmps13
    go_wp2
    go_ret
    exact ⟨none, 0, rfl, ⟨rfl, .inl ⟨rfl, rfl⟩⟩, Below.refl _ _⟩
  | some a =>
    have T0 : Below w.heap.size w (w.alloc (.cells #[] 5)) := (Below.refl _ _).alloc (Nat.le_refl _) _
    have O0 : (w.alloc (.cells #[] 5)).ownsRow w.heap.size 5 1 (.slice (some ⟨w.heap.size, 0, none⟩) 0 0) 0 (byteV []) := World.ownsRow_made w #[] 0 (Nat.le_refl _) (by unfold maxLen; omega) rfl
    obtain ⟨v', w', hr, ho, hg, _⟩ := run_append_sl (B := w.heap.size) (xs := []) O0 (h.below T0 (Nat.le_refl _)) (by omega) T0.size
    have hb : Below w.heap.size w w' := T0.grown hg T0.size (fun k hk => by cases hk; exact Nat.le_refl _)
    rw [List.nil_append, Nat.zero_add] at ho
    have HO := Lib.hid (And.intro ho hb)
    have q0 := Lib.run_eql_slice_nil (P := Try.prog) w 24 5 (some a) l.length cap 0 0 Try.underlying24
    simp only [Option.isNone_some] at q0
    have HR := Lib.hid hr
    clear hk h h3 ho hb hg T0 O0 hr
    go_enter Try.func13, Try.ntmps13
    go_wp2_with (at_builtin; refine Lib.wpList_append_run _ rfl _ _ _ _ rfl _ _ rfl rfl _ _ (HR.out _) ?_)
    go_ret
    obtain ⟨A, m, q, rfl⟩ := own_shape HO.out.1
    obtain rfl := own_n HO.out.1
    exact ⟨A, q, rfl, HO.out.1, HO.out.2⟩

theorem bk_end {w : World} {tmps : Array Value} {g : Nat} {cs : Array Value} {b : Bool} (h2 : tmps.getD 4 undef = .pointer (some ⟨g, 0, none⟩)) (h3 : tmps.getD 5 undef = .bool b) (hb : w.heap[g]? = some (.cells cs 30 (0, 0))) (hs : cs.size = 16) :
    (results Try.f8 tmps).run Try.prog w = .ok (.tuple #[.agg cs, .bool b]) w := by
  rw [Array.getD_eq_getD_getElem?] at h2 h3
  have hl := run_loadVar_row (P := Try.prog) w g 30 30 cs (0, 0) _ hb Try.underlying30 rfl (by rw [infoEnt, hs])
  simp [results, Try.results8, h2, h3, asAddr, hl]
theorem rbk_end {w : World} {tmps : Array Value} {g : Nat} {cs : Array Value} {b : Bool} (h2 : tmps.getD 4 undef = .pointer (some ⟨g, 0, none⟩)) (h3 : tmps.getD 5 undef = .bool b) (hb : w.heap[g]? = some (.cells cs 30 (0, 0))) (hs : cs.size = 16) :
    (results Try.f9 tmps).run Try.prog w = .ok (.tuple #[.agg cs, .bool b]) w := by
  rw [Array.getD_eq_getD_getElem?] at h2 h3
  have hl := run_loadVar_row (P := Try.prog) w g 30 30 cs (0, 0) _ hb Try.underlying30 rfl (by rw [infoEnt, hs])
  simp [results, Try.results9, h2, h3, asAddr, hl]

/-- Both variables of Back: what came in, and what is answered. -/
structure Bx3 (w W : World) (e : Ent) (s1 s2 s3 s4 s5 s6 : Value) : Prop where
  low : Below w.heap.size w W
  x : W.heap[w.heap.size]? = some (.cells (entC e s1 s2 s3 s4 s5 s6) 30 (0, 0))
  r : W.heap[w.heap.size + 1]? = some (.cells zE 30 (0, 0))
theorem Bx3.new (w : World) (e : Ent) (s1 s2 s3 s4 s5 s6 : Value) : Bx3 w ((w.alloc (.cells (entC e s1 s2 s3 s4 s5 s6) 30)).alloc (.cells zE 30)) e s1 s2 s3 s4 s5 s6 :=
  ⟨((Below.refl _ _).alloc (Nat.le_refl _) _).alloc (by simp) _, (Below.heap_alloc _ _ _ (by simp)).trans (heap_alloc_new w _), heap_alloc2_new w _ _⟩
theorem Bx3.on {w W W' : World} {e : Ent} {s1 s2 s3 s4 s5 s6 : Value} (h : Bx3 w W e s1 s2 s3 s4 s5 s6) (hb : Below W.heap.size W W') : Bx3 w W' e s1 s2 s3 s4 s5 s6 :=
  ⟨h.low.trans (hb.mono h.low.size), (hb.block _ (Array.getElem?_eq_some_iff.1 h.x).1).trans h.x, (hb.block _ (Array.getElem?_eq_some_iff.1 h.r).1).trans h.r⟩
theorem Bx3.c {w W : World} {e : Ent} {s1 s2 s3 s4 s5 s6 : Value} (h : Bx3 w W e s1 s2 s3 s4 s5 s6) (i : Nat) : W.cell? ⟨w.heap.size, i, none⟩ = (entC e s1 s2 s3 s4 s5 s6)[i]? := (cell_of h.x i).1

def BkYes (w : World) (e : Ent) (p : Int) (r : Ending) (w' : World) : Prop := ∃ A q, r = .returned (.tuple #[.agg (entC (bkE e p) (.slice none 0 0) (.slice A e.old.length q) (.slice none 0 0) (.slice none 0 0) (.slice none 0 0) (.slice none 0 0)), .bool true]) ∧ w'.ownsRow w.heap.size 5 1 (.slice A e.old.length q) e.old.length (byteV e.old) ∧ bytesOk e.old ∧ Below w.heap.size w w'
def BkNo (w : World) (r : Ending) (w' : World) : Prop := r = .returned (.tuple #[.agg zE, .bool false]) ∧ Below w.heap.size w w'
set_option maxRecDepth 100000 in
set_option maxHeartbeats 4000000 in
theorem back_no (w : World) (e : Ent) (s1 s2 s3 s4 s5 s6 : Value) (p : Int) (hk : ¬ e.kind = 1) : Calls Try.prog 8 #[.agg (entC e s1 s2 s3 s4 s5 s6), .int .i64 p] w (BkNo w) := by
  have HX := Lib.hid (Bx3.new w e s1 s2 s3 s4 s5 s6)
  have HK := Lib.hid hk
  clear hk
  go_enter Try.func8, Try.ntmps8
  go_upto_region 1 with (fail)
  show Code.wp _ _ _ _ ((w.alloc (.cells (entC e s1 s2 s3 s4 s5 s6) 30)).alloc (.cells zE 30))
  generalize (w.alloc (.cells (entC e s1 s2 s3 s4 s5 s6) 30)).alloc (.cells zE 30) = W at *
  have k0 : W.cell? ⟨w.heap.size, 0, none⟩ = some (.int .i64 e.kind) := HX.out.c 0
  have hk := HK.out
  have hR := HX.out.r
  have HI := Lib.hid (show (Try.prog.info? 30).map (·.size) = some (#[.int .i64 0, .int .i64 0, .int .i64 0, .int .i64 0, .int .i64 0, .int .i64 0, .int .i64 0, .int .i64 0, .int .i64 0, .int .i64 0, .slice none 0 0, .slice none 0 0, .slice none 0 0, .slice none 0 0, .slice none 0 0, .slice none 0 0] : Array Value).size from infoEnt)
  have HN := Lib.hid (show zE.size = (#[.int .i64 0, .int .i64 0, .int .i64 0, .int .i64 0, .int .i64 0, .int .i64 0, .int .i64 0, .int .i64 0, .int .i64 0, .int .i64 0, .slice none 0 0, .slice none 0 0, .slice none 0 0, .slice none 0 0, .slice none 0 0, .slice none 0 0] : Array Value).size from rfl)
  have HA := Lib.hid (show (#[.int .i64 0, .int .i64 0, .int .i64 0, .int .i64 0, .int .i64 0, .int .i64 0, .int .i64 0, .int .i64 0, .int .i64 0, .int .i64 0, .slice none 0 0, .slice none 0 0, .slice none 0 0, .slice none 0 0, .slice none 0 0, .slice none 0 0] : Array Value).all (·.oneCell') = true from by simp [Value.oneCell'])
  have HS := Lib.hid (setRow_heap W (w.heap.size + 1) zE zE _ _ hR)
  have HB : Hid (BkNo w (.returned (.tuple #[.agg zE, .bool false])) (W.setRow (w.heap.size + 1) zE)) := ⟨rfl, HX.out.low.trans (setRow_below _ _ _ (by omega))⟩
  have HRR := Lib.hid hR
  clear hR
  go_wp2_with (with_reducible refine wpList_store_row rfl 30 (.tmp 4) (.tmp 8) rfl (w.heap.size + 1) _ rfl rfl 30 _ HRR.out HI.out HN.out HA.out ?_)
  exact bodyPost_ret (bk_end rfl rfl HS.out rfl) rfl HB.out

set_option maxRecDepth 100000 in
set_option maxHeartbeats 4000000 in
theorem back_yes (w : World) (e : Ent) (s1 s2 s3 s4 s5 s6 : Value) (p : Int) (hk : e.kind = 1) (hs : SlW w s1 e.old) (hl : e.old.length ≤ 100000) : Calls Try.prog 8 #[.agg (entC e s1 s2 s3 s4 s5 s6), .int .i64 p] w (BkYes w e p) := by
  have HX := Lib.hid (Bx3.new w e s1 s2 s3 s4 s5 s6)
  have HK := Lib.hid hk
  have HS1 := Lib.hid hs
  have HL := Lib.hid hl
  obtain ⟨A1, c1, rfl, -⟩ := hs.form
  clear hk hs hl
  go_enter Try.func8, Try.ntmps8
  go_upto_region 1 with (fail)
  show Code.wp _ _ _ _ ((w.alloc (.cells (entC e (.slice A1 e.old.length c1) s2 s3 s4 s5 s6) 30)).alloc (.cells zE 30))
  generalize (w.alloc (.cells (entC e (.slice A1 e.old.length c1) s2 s3 s4 s5 s6) 30)).alloc (.cells zE 30) = W at *
  have k0 : W.cell? ⟨w.heap.size, 0, none⟩ = some (.int .i64 e.kind) := HX.out.c 0
  have hk := HK.out
  go_upto_region 4 with (fail)
  clear k0 hk
  have HOK := Lib.hid HS1.out.ok
  have HSW : Hid (SlW W (.slice A1 e.old.length c1) e.old) := HS1.out.below HX.out.low (Nat.le_refl _)
  refine wp_region_F (fun (_ : Unit) W => Bx3 w W e (.slice A1 e.old.length c1) s2 s3 s4 s5 s6) (fun _ j => Nat.beq j 11) (by kernel_rfl) ?_
  have HXD : Hid (Bx3 w W.drew e (.slice A1 e.old.length c1) s2 s3 s4 s5 s6) := HX.out.on (Below.refl _ _).drew
  have HCD : Hid (Calls Try.prog 13 #[.slice A1 e.old.length c1] W.drew (ClPost W.drew e.old)) := uclone_any _ _ _ (HSW.out.below (Below.refl _ _).drew (Nat.le_refl _)) HL.out
  generalize W.drew = X at *
  clear HX HSW
  refine wpAnyF_take0 (i := 0) (oi := ⟨_, _, _, _, _, _⟩) (v := ?_) rfl (by kernel_rfl) (by kernel_rfl) (by kernel_rfl) (fun _ _ _ h => h) (Or.inl ⟨by rfl, ?_⟩) ?_
  rotate_left
  · intro W _
    go_simp
    try with_reducible rfl
  rotate_left
  try simp only [Act.put, List.setIfInBounds_toArray, List.set_cons_zero, List.set_cons_succ]
  refine wpAnyF_take () (i := 1) (oi := ⟨_, _, _, _, _, _⟩) (v := .int .i64 e.txn) rfl (by kernel_rfl) (by kernel_rfl) (by kernel_rfl) (by kernel_rfl) (fun _ _ _ h => h) HXD.out (Or.inl ⟨by rfl, fun W hSW => ?_⟩) ?_
  · have z1 : W.cell? ⟨w.heap.size, 1, none⟩ = some (.int .i64 e.txn) := Bx3.c (show Bx3 w W e (.slice A1 e.old.length c1) s2 s3 s4 s5 s6 from hSW) 1
    go_simp
  try simp only [Act.put, List.setIfInBounds_toArray, List.set_cons_zero, List.set_cons_succ]
  refine wpAnyF_take0 (i := 2) (oi := ⟨_, _, _, _, _, _⟩) (v := ?_) rfl (by kernel_rfl) (by kernel_rfl) (by kernel_rfl) (fun _ _ _ h => h) (Or.inl ⟨by rfl, ?_⟩) ?_
  rotate_left
  · intro W _
    go_simp
    try with_reducible rfl
  rotate_left
  try simp only [Act.put, List.setIfInBounds_toArray, List.set_cons_zero, List.set_cons_succ]
  refine wpAnyF_take0 (i := 3) (oi := ⟨_, _, _, _, _, _⟩) (v := ?_) rfl (by kernel_rfl) (by kernel_rfl) (by kernel_rfl) (fun _ _ _ h => h) (Or.inl ⟨by rfl, ?_⟩) ?_
  rotate_left
  · intro W _
    go_simp
    try with_reducible rfl
  rotate_left
  try simp only [Act.put, List.setIfInBounds_toArray, List.set_cons_zero, List.set_cons_succ]
  refine wpAnyF_take () (i := 4) (oi := ⟨_, _, _, _, _, _⟩) (v := .int .i64 e.prev) rfl (by kernel_rfl) (by kernel_rfl) (by kernel_rfl) (by kernel_rfl) (fun _ _ _ h => h) HXD.out (Or.inl ⟨by rfl, fun W hSW => ?_⟩) ?_
  · have z4 : W.cell? ⟨w.heap.size, 4, none⟩ = some (.int .i64 e.prev) := Bx3.c (show Bx3 w W e (.slice A1 e.old.length c1) s2 s3 s4 s5 s6 from hSW) 4
    go_simp
  try simp only [Act.put, List.setIfInBounds_toArray, List.set_cons_zero, List.set_cons_succ]
  refine wpAnyF_take0 (i := 5) (oi := ⟨_, _, _, _, _, _⟩) (v := ?_) rfl (by kernel_rfl) (by kernel_rfl) (by kernel_rfl) (fun _ _ _ h => h) (Or.inl ⟨by rfl, ?_⟩) ?_
  rotate_left
  · intro W _
    go_simp
    try with_reducible rfl
  rotate_left
  try simp only [Act.put, List.setIfInBounds_toArray, List.set_cons_zero, List.set_cons_succ]
  refine wpAnyF_take () (i := 6) (oi := ⟨_, _, _, _, _, _⟩) (v := .agg #[.int .i64 e.ap, .int .i64 e.ac]) rfl (by kernel_rfl) (by kernel_rfl) (by kernel_rfl) (by kernel_rfl) (fun _ _ _ h => h) HXD.out (Or.inl ⟨by rfl, fun W hSW => ?_⟩) ?_
  · have z6 : W.cell? ⟨w.heap.size, 6, none⟩ = some (.int .i64 e.ap) := Bx3.c (show Bx3 w W e (.slice A1 e.old.length c1) s2 s3 s4 s5 s6 from hSW) 6
    have z7 : W.cell? ⟨w.heap.size, 7, none⟩ = some (.int .i64 e.ac) := Bx3.c (show Bx3 w W e (.slice A1 e.old.length c1) s2 s3 s4 s5 s6 from hSW) 7
    go_simp
  try simp only [Act.put, List.setIfInBounds_toArray, List.set_cons_zero, List.set_cons_succ]
  refine wpAnyF_take0 (i := 7) (oi := ⟨_, _, _, _, _, _⟩) (v := ?_) rfl (by kernel_rfl) (by kernel_rfl) (by kernel_rfl) (fun _ _ _ h => h) (Or.inl ⟨by rfl, ?_⟩) ?_
  rotate_left
  · intro W _
    go_simp
    try with_reducible rfl
  rotate_left
  try simp only [Act.put, List.setIfInBounds_toArray, List.set_cons_zero, List.set_cons_succ]
  refine wpAnyF_take () (i := 8) (oi := ⟨_, _, _, _, _, _⟩) (v := .slice A1 e.old.length c1) rfl (by kernel_rfl) (by kernel_rfl) (by kernel_rfl) (by kernel_rfl) (fun _ _ _ h => h) HXD.out (Or.inl ⟨by rfl, fun W hSW => ?_⟩) ?_
  · have z10 : W.cell? ⟨w.heap.size, 10, none⟩ = some (.slice A1 e.old.length c1) := Bx3.c (show Bx3 w W e (.slice A1 e.old.length c1) s2 s3 s4 s5 s6 from hSW) 10
    go_simp
  try simp only [Act.put, List.setIfInBounds_toArray, List.set_cons_zero, List.set_cons_succ]
  refine wpAnyF_ready (rs := [9]) (by kernel_rfl) (by simp) ?_
  refine AllReadyF.cons (o := ⟨_, _, _, _, _, _⟩) rfl (fun K hK => ?_) AllReadyF.nil
  rw [if_pos (by rfl)]
  go_simp
  go_at_call 13
  refine HCD.out.mono ?_
  rintro r Y ⟨A, q, rfl, hsl, hb⟩
  have hXl : w.heap.size + 1 < X.heap.size := (Array.getElem?_eq_some_iff.1 HXD.out.r).1
  have HXY := Lib.hid (HXD.out.on hb)
  have HSY : Hid (Y.ownsRow w.heap.size 5 1 (.slice A e.old.length q) e.old.length (byteV e.old) ∧ (∀ k, (Value.slice A e.old.length q).ownBlock = some k → w.heap.size + 1 < k)) := ⟨own_mono hsl HXD.out.low.size, fun k hk => Nat.lt_of_lt_of_le hXl (hsl.lt k hk).1⟩
  clear hsl hb HXD HCD hXl
  go_wp2_with fail
  refine hK.out _ _ (fun _ _ _ => HXY.out) ?_
  clear hK K
  try simp only [Act.put, List.setIfInBounds_toArray, List.set_cons_zero, List.set_cons_succ]
  refine wpAnyF_take0 (i := 10) (oi := ⟨_, _, _, _, _, _⟩) (v := .agg #[.int .i64 2, .int .i64 e.txn, .int .i64 0, .int .i64 0, .int .i64 p, .int .i64 e.prev, .int .i64 e.ap, .int .i64 e.ac, .int .i64 0, .int .i64 0, .slice none 0 0, .slice A e.old.length q, .slice none 0 0, .slice none 0 0, .slice none 0 0, .slice none 0 0]) rfl (by kernel_rfl) (by kernel_rfl) (by kernel_rfl) (fun _ _ _ h => h) (Or.inl ⟨by rfl, fun W _ => ?_⟩) ?_
  · go_simp
  try simp only [Act.put, List.setIfInBounds_toArray, List.set_cons_zero, List.set_cons_succ]
  have HRR := Lib.hid HXY.out.r
  have HI := Lib.hid (show (Try.prog.info? 30).map (·.size) = some (#[.int .i64 2, .int .i64 e.txn, .int .i64 0, .int .i64 0, .int .i64 p, .int .i64 e.prev, .int .i64 e.ap, .int .i64 e.ac, .int .i64 0, .int .i64 0, .slice none 0 0, .slice A e.old.length q, .slice none 0 0, .slice none 0 0, .slice none 0 0, .slice none 0 0] : Array Value).size from infoEnt)
  have HN := Lib.hid (show zE.size = (#[.int .i64 2, .int .i64 e.txn, .int .i64 0, .int .i64 0, .int .i64 p, .int .i64 e.prev, .int .i64 e.ap, .int .i64 e.ac, .int .i64 0, .int .i64 0, .slice none 0 0, .slice A e.old.length q, .slice none 0 0, .slice none 0 0, .slice none 0 0, .slice none 0 0] : Array Value).size from rfl)
  have HA := Lib.hid (show (#[.int .i64 2, .int .i64 e.txn, .int .i64 0, .int .i64 0, .int .i64 p, .int .i64 e.prev, .int .i64 e.ap, .int .i64 e.ac, .int .i64 0, .int .i64 0, .slice none 0 0, .slice A e.old.length q, .slice none 0 0, .slice none 0 0, .slice none 0 0, .slice none 0 0] : Array Value).all (·.oneCell') = true from by simp [Value.oneCell'])
  have HS := Lib.hid (setRow_heap Y (w.heap.size + 1) zE (#[.int .i64 2, .int .i64 e.txn, .int .i64 0, .int .i64 0, .int .i64 p, .int .i64 e.prev, .int .i64 e.ap, .int .i64 e.ac, .int .i64 0, .int .i64 0, .slice none 0 0, .slice A e.old.length q, .slice none 0 0, .slice none 0 0, .slice none 0 0, .slice none 0 0]) _ _ HXY.out.r)
  have HB : Hid (BkYes w e p (.returned (.tuple #[.agg (#[.int .i64 2, .int .i64 e.txn, .int .i64 0, .int .i64 0, .int .i64 p, .int .i64 e.prev, .int .i64 e.ap, .int .i64 e.ac, .int .i64 0, .int .i64 0, .slice none 0 0, .slice A e.old.length q, .slice none 0 0, .slice none 0 0, .slice none 0 0, .slice none 0 0]), .bool true])) (Y.setRow (w.heap.size + 1) (#[.int .i64 2, .int .i64 e.txn, .int .i64 0, .int .i64 0, .int .i64 p, .int .i64 e.prev, .int .i64 e.ap, .int .i64 e.ac, .int .i64 0, .int .i64 0, .slice none 0 0, .slice A e.old.length q, .slice none 0 0, .slice none 0 0, .slice none 0 0, .slice none 0 0]))) := ⟨A, q, rfl, own_at HSY.out.1 (fun k hk => setRow_far _ _ _ (by have := HSY.out.2 k hk; omega)), HOK.out, HXY.out.low.trans (setRow_below _ _ _ (by omega))⟩
  refine wpAnyF_ready (rs := [11]) (by kernel_rfl) (by simp) ?_
  refine AllReadyF.cons (o := ⟨_, _, _, _, _, _⟩) rfl (fun K hK => ?_) AllReadyF.nil
  rw [if_pos (by rfl)]
  with_reducible refine wp_store_row 30 (.tmp 4) (.tmp 21) rfl (w.heap.size + 1) _ rfl rfl 30 _ HRR.out HI.out HN.out HA.out ?_
  refine hK _ _ (fun _ h => by cases h) ?_
  clear hK K
  simp only [Act.put]
  refine wpAnyF_take0 (i := 12) (oi := ⟨_, _, _, _, _, _⟩) (v := .bool true) rfl (by kernel_rfl) (by kernel_rfl) (by kernel_rfl) (fun _ _ _ h => h) (Or.inl ⟨by rfl, fun W _ => ?_⟩) ?_
  · go_simp
  try simp only [Act.put, List.setIfInBounds_toArray, List.set_cons_zero, List.set_cons_succ]
  refine wpAnyF_done (by kernel_rfl) ?_ _
  go_wp2
  exact bodyPost_ret (bk_end rfl rfl HS.out rfl) rfl HB.out
set_option maxRecDepth 100000 in
set_option maxHeartbeats 4000000 in
theorem rback_no (w : World) (e : Ent) (s1 s2 s3 s4 s5 s6 : Value) (p : Int) (hk : ¬ e.kind = 1) : Calls Try.prog 9 #[.agg (entC e s1 s2 s3 s4 s5 s6), .int .i64 p] w (BkNo w) := by
  have HX := Lib.hid (Bx3.new w e s1 s2 s3 s4 s5 s6)
  have HK := Lib.hid hk
  clear hk
  go_enter Try.func9, Try.ntmps9
  go_upto_region 1 with (fail)
  show Code.wp _ _ _ _ ((w.alloc (.cells (entC e s1 s2 s3 s4 s5 s6) 30)).alloc (.cells zE 30))
  generalize (w.alloc (.cells (entC e s1 s2 s3 s4 s5 s6) 30)).alloc (.cells zE 30) = W at *
  have k0 : W.cell? ⟨w.heap.size, 0, none⟩ = some (.int .i64 e.kind) := HX.out.c 0
  have hk := HK.out
  have hR := HX.out.r
  have HI := Lib.hid (show (Try.prog.info? 30).map (·.size) = some (#[.int .i64 0, .int .i64 0, .int .i64 0, .int .i64 0, .int .i64 0, .int .i64 0, .int .i64 0, .int .i64 0, .int .i64 0, .int .i64 0, .slice none 0 0, .slice none 0 0, .slice none 0 0, .slice none 0 0, .slice none 0 0, .slice none 0 0] : Array Value).size from infoEnt)
  have HN := Lib.hid (show zE.size = (#[.int .i64 0, .int .i64 0, .int .i64 0, .int .i64 0, .int .i64 0, .int .i64 0, .int .i64 0, .int .i64 0, .int .i64 0, .int .i64 0, .slice none 0 0, .slice none 0 0, .slice none 0 0, .slice none 0 0, .slice none 0 0, .slice none 0 0] : Array Value).size from rfl)
  have HA := Lib.hid (show (#[.int .i64 0, .int .i64 0, .int .i64 0, .int .i64 0, .int .i64 0, .int .i64 0, .int .i64 0, .int .i64 0, .int .i64 0, .int .i64 0, .slice none 0 0, .slice none 0 0, .slice none 0 0, .slice none 0 0, .slice none 0 0, .slice none 0 0] : Array Value).all (·.oneCell') = true from by simp [Value.oneCell'])
  have HS := Lib.hid (setRow_heap W (w.heap.size + 1) zE zE _ _ hR)
  have HB : Hid (BkNo w (.returned (.tuple #[.agg zE, .bool false])) (W.setRow (w.heap.size + 1) zE)) := ⟨rfl, HX.out.low.trans (setRow_below _ _ _ (by omega))⟩
  have HRR := Lib.hid hR
  clear hR
  go_wp2_with (with_reducible refine wpList_store_row rfl 30 (.tmp 4) (.tmp 9) rfl (w.heap.size + 1) _ rfl rfl 30 _ HRR.out HI.out HN.out HA.out ?_)
  exact bodyPost_ret (rbk_end rfl rfl HS.out rfl) rfl HB.out


set_option maxRecDepth 100000 in
set_option maxHeartbeats 4000000 in
theorem rback_yes (w : World) (e : Ent) (s1 s2 s3 s4 s5 s6 : Value) (p : Int) (hk : e.kind = 1) (hs : SlW w s1 e.old) (hl : e.old.length ≤ 100000) : Calls Try.prog 9 #[.agg (entC e s1 s2 s3 s4 s5 s6), .int .i64 p] w (BkYes w e p) := by
  have HX := Lib.hid (Bx3.new w e s1 s2 s3 s4 s5 s6)
  have HK := Lib.hid hk
  have HS1 := Lib.hid hs
  have HL := Lib.hid hl
  obtain ⟨A1, c1, rfl, -⟩ := hs.form
  clear hk hs hl
  go_enter Try.func9, Try.ntmps9
  go_upto_region 1 with (fail)
  show Code.wp _ _ _ _ ((w.alloc (.cells (entC e (.slice A1 e.old.length c1) s2 s3 s4 s5 s6) 30)).alloc (.cells zE 30))
  generalize (w.alloc (.cells (entC e (.slice A1 e.old.length c1) s2 s3 s4 s5 s6) 30)).alloc (.cells zE 30) = W at *
  have k0 : W.cell? ⟨w.heap.size, 0, none⟩ = some (.int .i64 e.kind) := HX.out.c 0
  have hk := HK.out
  go_upto_region 3 with (fail)
  clear k0 hk
  have HOK := Lib.hid HS1.out.ok
  have HSW : Hid (SlW W (.slice A1 e.old.length c1) e.old) := HS1.out.below HX.out.low (Nat.le_refl _)
  refine wp_region_F (fun (_ : Unit) W => Bx3 w W e (.slice A1 e.old.length c1) s2 s3 s4 s5 s6) (fun _ j => Nat.beq j 12) (by kernel_rfl) ?_
  have HXD : Hid (Bx3 w W.drew e (.slice A1 e.old.length c1) s2 s3 s4 s5 s6) := HX.out.on (Below.refl _ _).drew
  have HSD : Hid (SlW W.drew (.slice A1 e.old.length c1) e.old) := HSW.out.below (Below.refl _ _).drew (Nat.le_refl _)
  generalize W.drew = X at *
  clear HX HSW
  refine wpAnyF_take0 (i := 0) (oi := ⟨_, _, _, _, _, _⟩) (v := ?_) rfl (by kernel_rfl) (by kernel_rfl) (by kernel_rfl) (fun _ _ _ h => h) (Or.inl ⟨by rfl, ?_⟩) ?_
  rotate_left
  · intro W _
    go_simp
    try with_reducible rfl
  rotate_left
  try simp only [Act.put, List.setIfInBounds_toArray, List.set_cons_zero, List.set_cons_succ]
  refine wpAnyF_take () (i := 1) (oi := ⟨_, _, _, _, _, _⟩) (v := .int .i64 e.txn) rfl (by kernel_rfl) (by kernel_rfl) (by kernel_rfl) (by kernel_rfl) (fun _ _ _ h => h) HXD.out (Or.inl ⟨by rfl, fun W hSW => ?_⟩) ?_
  · have z1 : W.cell? ⟨w.heap.size, 1, none⟩ = some (.int .i64 e.txn) := Bx3.c (show Bx3 w W e (.slice A1 e.old.length c1) s2 s3 s4 s5 s6 from hSW) 1
    go_simp
  try simp only [Act.put, List.setIfInBounds_toArray, List.set_cons_zero, List.set_cons_succ]
  refine wpAnyF_take0 (i := 2) (oi := ⟨_, _, _, _, _, _⟩) (v := ?_) rfl (by kernel_rfl) (by kernel_rfl) (by kernel_rfl) (fun _ _ _ h => h) (Or.inl ⟨by rfl, ?_⟩) ?_
  rotate_left
  · intro W _
    go_simp
    try with_reducible rfl
  rotate_left
  try simp only [Act.put, List.setIfInBounds_toArray, List.set_cons_zero, List.set_cons_succ]
  refine wpAnyF_take0 (i := 3) (oi := ⟨_, _, _, _, _, _⟩) (v := ?_) rfl (by kernel_rfl) (by kernel_rfl) (by kernel_rfl) (fun _ _ _ h => h) (Or.inl ⟨by rfl, ?_⟩) ?_
  rotate_left
  · intro W _
    go_simp
    try with_reducible rfl
  rotate_left
  try simp only [Act.put, List.setIfInBounds_toArray, List.set_cons_zero, List.set_cons_succ]
  refine wpAnyF_take () (i := 4) (oi := ⟨_, _, _, _, _, _⟩) (v := .agg #[.int .i64 e.ap, .int .i64 e.ac]) rfl (by kernel_rfl) (by kernel_rfl) (by kernel_rfl) (by kernel_rfl) (fun _ _ _ h => h) HXD.out (Or.inl ⟨by rfl, fun W hSW => ?_⟩) ?_
  · have z6 : W.cell? ⟨w.heap.size, 6, none⟩ = some (.int .i64 e.ap) := Bx3.c (show Bx3 w W e (.slice A1 e.old.length c1) s2 s3 s4 s5 s6 from hSW) 6
    have z7 : W.cell? ⟨w.heap.size, 7, none⟩ = some (.int .i64 e.ac) := Bx3.c (show Bx3 w W e (.slice A1 e.old.length c1) s2 s3 s4 s5 s6 from hSW) 7
    go_simp
  try simp only [Act.put, List.setIfInBounds_toArray, List.set_cons_zero, List.set_cons_succ]
  refine wpAnyF_take0 (i := 6) (oi := ⟨_, _, _, _, _, _⟩) (v := ?_) rfl (by kernel_rfl) (by kernel_rfl) (by kernel_rfl) (fun _ _ _ h => h) (Or.inl ⟨by rfl, ?_⟩) ?_
  rotate_left
  · intro W _
    go_simp
    try with_reducible rfl
  rotate_left
  try simp only [Act.put, List.setIfInBounds_toArray, List.set_cons_zero, List.set_cons_succ]
  refine wpAnyF_take () (i := 7) (oi := ⟨_, _, _, _, _, _⟩) (v := .slice A1 e.old.length c1) rfl (by kernel_rfl) (by kernel_rfl) (by kernel_rfl) (by kernel_rfl) (fun _ _ _ h => h) HXD.out (Or.inl ⟨by rfl, fun W hSW => ?_⟩) ?_
  · have z10 : W.cell? ⟨w.heap.size, 10, none⟩ = some (.slice A1 e.old.length c1) := Bx3.c (show Bx3 w W e (.slice A1 e.old.length c1) s2 s3 s4 s5 s6 from hSW) 10
    go_simp
  try simp only [Act.put, List.setIfInBounds_toArray, List.set_cons_zero, List.set_cons_succ]
  refine wpAnyF_take0 (i := 9) (oi := ⟨_, _, _, _, _, _⟩) (v := ?_) rfl (by kernel_rfl) (by kernel_rfl) (by kernel_rfl) (fun _ _ _ h => h) (Or.inl ⟨by rfl, ?_⟩) ?_
  rotate_left
  · intro W _
    go_simp
    try with_reducible rfl
  rotate_left
  try simp only [Act.put, List.setIfInBounds_toArray, List.set_cons_zero, List.set_cons_succ]
  refine wpAnyF_take () (i := 10) (oi := ⟨_, _, _, _, _, _⟩) (v := .int .i64 e.prev) rfl (by kernel_rfl) (by kernel_rfl) (by kernel_rfl) (by kernel_rfl) (fun _ _ _ h => h) HXD.out (Or.inl ⟨by rfl, fun W hSW => ?_⟩) ?_
  · have z4 : W.cell? ⟨w.heap.size, 4, none⟩ = some (.int .i64 e.prev) := Bx3.c (show Bx3 w W e (.slice A1 e.old.length c1) s2 s3 s4 s5 s6 from hSW) 4
    go_simp
  try simp only [Act.put, List.setIfInBounds_toArray, List.set_cons_zero, List.set_cons_succ]
  refine wpAnyF_ready (rs := [5]) (by kernel_rfl) (by simp) ?_
  refine AllReadyF.cons (o := ⟨_, _, _, _, _, _⟩) rfl (fun K hK => ?_) AllReadyF.nil
  rw [if_pos (by rfl)]
  go_simp
  have T0 : Below X.heap.size X (X.alloc (.cells #[] 5)) := (Below.refl _ _).alloc (Nat.le_refl _) _
  have O0 : (X.alloc (.cells #[] 5)).ownsRow X.heap.size 5 1 (.slice (some ⟨X.heap.size, 0, none⟩) 0 0) 0 (byteV []) := World.ownsRow_made X #[] 0 (Nat.le_refl _) (by unfold maxLen; omega) rfl
  obtain ⟨v', Y, hr, ho, hg, _⟩ := run_append_sl (B := X.heap.size) (xs := []) O0 (HSD.out.below T0 (Nat.le_refl _)) (by have := HL.out; omega) T0.size
  have hb : Below X.heap.size X Y := T0.grown hg T0.size (fun k hk => by cases hk; exact Nat.le_refl _)
  rw [List.nil_append, Nat.zero_add] at ho
  obtain ⟨A, m, q, rfl⟩ := own_shape ho
  obtain rfl := own_n ho
  have hXl : w.heap.size + 1 < X.heap.size := (Array.getElem?_eq_some_iff.1 HXD.out.r).1
  have HR := Lib.hid hr
  have HXZ := Lib.hid (HXD.out.on T0)
  have HXY := Lib.hid (HXD.out.on hb)
  have HSY : Hid (Y.ownsRow w.heap.size 5 1 (.slice A e.old.length q) e.old.length (byteV e.old) ∧ (∀ k, (Value.slice A e.old.length q).ownBlock = some k → w.heap.size + 1 < k)) := ⟨own_mono ho HXD.out.low.size, fun k hk => Nat.lt_of_lt_of_le hXl (ho.lt k hk).1⟩
  clear hr ho hg hb T0 O0 hXl HXD HSD
  refine hK _ _ (fun _ _ _ => HXZ.out) ?_
  clear hK K
  try simp only [Act.put, List.setIfInBounds_toArray, List.set_cons_zero, List.set_cons_succ]
  refine wpAnyF_ready (rs := [8]) (by kernel_rfl) (by simp) ?_
  refine AllReadyF.cons (o := ⟨_, _, _, _, _, _⟩) rfl (fun K hK => ?_) AllReadyF.nil
  rw [if_pos (by rfl)]
  refine Lib.wp_append_run _ (.tmp 15) (.tmp 17) 24 24 rfl _ _ rfl rfl _ _ (HR.out _) ?_
  refine hK _ _ (fun _ _ _ => HXY.out) ?_
  clear hK K
  try simp only [Act.put, List.setIfInBounds_toArray, List.set_cons_zero, List.set_cons_succ]
  refine wpAnyF_take0 (i := 11) (oi := ⟨_, _, _, _, _, _⟩) (v := .agg #[.int .i64 2, .int .i64 e.txn, .int .i64 0, .int .i64 0, .int .i64 p, .int .i64 e.prev, .int .i64 e.ap, .int .i64 e.ac, .int .i64 0, .int .i64 0, .slice none 0 0, .slice A e.old.length q, .slice none 0 0, .slice none 0 0, .slice none 0 0, .slice none 0 0]) rfl (by kernel_rfl) (by kernel_rfl) (by kernel_rfl) (fun _ _ _ h => h) (Or.inl ⟨by rfl, fun W _ => ?_⟩) ?_
  · go_simp
  try simp only [Act.put, List.setIfInBounds_toArray, List.set_cons_zero, List.set_cons_succ]
  have HRR := Lib.hid HXY.out.r
  have HI := Lib.hid (show (Try.prog.info? 30).map (·.size) = some (#[.int .i64 2, .int .i64 e.txn, .int .i64 0, .int .i64 0, .int .i64 p, .int .i64 e.prev, .int .i64 e.ap, .int .i64 e.ac, .int .i64 0, .int .i64 0, .slice none 0 0, .slice A e.old.length q, .slice none 0 0, .slice none 0 0, .slice none 0 0, .slice none 0 0] : Array Value).size from infoEnt)
  have HN := Lib.hid (show zE.size = (#[.int .i64 2, .int .i64 e.txn, .int .i64 0, .int .i64 0, .int .i64 p, .int .i64 e.prev, .int .i64 e.ap, .int .i64 e.ac, .int .i64 0, .int .i64 0, .slice none 0 0, .slice A e.old.length q, .slice none 0 0, .slice none 0 0, .slice none 0 0, .slice none 0 0] : Array Value).size from rfl)
  have HA := Lib.hid (show (#[.int .i64 2, .int .i64 e.txn, .int .i64 0, .int .i64 0, .int .i64 p, .int .i64 e.prev, .int .i64 e.ap, .int .i64 e.ac, .int .i64 0, .int .i64 0, .slice none 0 0, .slice A e.old.length q, .slice none 0 0, .slice none 0 0, .slice none 0 0, .slice none 0 0] : Array Value).all (·.oneCell') = true from by simp [Value.oneCell'])
  have HS := Lib.hid (setRow_heap Y (w.heap.size + 1) zE (#[.int .i64 2, .int .i64 e.txn, .int .i64 0, .int .i64 0, .int .i64 p, .int .i64 e.prev, .int .i64 e.ap, .int .i64 e.ac, .int .i64 0, .int .i64 0, .slice none 0 0, .slice A e.old.length q, .slice none 0 0, .slice none 0 0, .slice none 0 0, .slice none 0 0]) _ _ HXY.out.r)
  have HB : Hid (BkYes w e p (.returned (.tuple #[.agg (#[.int .i64 2, .int .i64 e.txn, .int .i64 0, .int .i64 0, .int .i64 p, .int .i64 e.prev, .int .i64 e.ap, .int .i64 e.ac, .int .i64 0, .int .i64 0, .slice none 0 0, .slice A e.old.length q, .slice none 0 0, .slice none 0 0, .slice none 0 0, .slice none 0 0]), .bool true])) (Y.setRow (w.heap.size + 1) (#[.int .i64 2, .int .i64 e.txn, .int .i64 0, .int .i64 0, .int .i64 p, .int .i64 e.prev, .int .i64 e.ap, .int .i64 e.ac, .int .i64 0, .int .i64 0, .slice none 0 0, .slice A e.old.length q, .slice none 0 0, .slice none 0 0, .slice none 0 0, .slice none 0 0]))) := ⟨A, q, rfl, own_at HSY.out.1 (fun k hk => setRow_far _ _ _ (by have := HSY.out.2 k hk; omega)), HOK.out, HXY.out.low.trans (setRow_below _ _ _ (by omega))⟩
  refine wpAnyF_ready (rs := [12]) (by kernel_rfl) (by simp) ?_
  refine AllReadyF.cons (o := ⟨_, _, _, _, _, _⟩) rfl (fun K hK => ?_) AllReadyF.nil
  rw [if_pos (by rfl)]
  with_reducible refine wp_store_row 30 (.tmp 4) (.tmp 21) rfl (w.heap.size + 1) _ rfl rfl 30 _ HRR.out HI.out HN.out HA.out ?_
  refine hK _ _ (fun _ h => by cases h) ?_
  clear hK K
  simp only [Act.put]
  refine wpAnyF_take0 (i := 13) (oi := ⟨_, _, _, _, _, _⟩) (v := .bool true) rfl (by kernel_rfl) (by kernel_rfl) (by kernel_rfl) (fun _ _ _ h => h) (Or.inl ⟨by rfl, fun W _ => ?_⟩) ?_
  · go_simp
  try simp only [Act.put, List.setIfInBounds_toArray, List.set_cons_zero, List.set_cons_succ]
  refine wpAnyF_done (by kernel_rfl) ?_ _
  go_wp2
  exact bodyPost_ret (rbk_end rfl rfl HS.out rfl) rfl HB.out

set_option maxRecDepth 100000 in
set_option maxHeartbeats 4000000 in
theorem next_any (w : World) (e : Ent) (s1 s2 s3 s4 s5 s6 : Value) (n : Int) : Calls Try.prog 11 #[.agg (entC e s1 s2 s3 s4 s5 s6), .int .i64 n] w fun r w' => r = .returned (.int .i64 (nxE e n)) ∧ Below w.heap.size w w' := by
  obtain ⟨W, hW⟩ : ∃ W, W = w.alloc (.cells (entC e s1 s2 s3 s4 s5 s6) 30) := ⟨_, rfl⟩
  have HB : Hid (Below w.heap.size w W) := by rw [hW]; exact (Below.refl _ _).alloc (Nat.le_refl _) _
  have hX : W.heap[w.heap.size]? = some (.cells (entC e s1 s2 s3 s4 s5 s6) 30 (0, 0)) := by rw [hW]; exact heap_alloc_new w _
  have k0 : W.cell? ⟨w.heap.size, 0, none⟩ = some (.int .i64 e.kind) := (cell_of hX 0).1
  have k4 : W.cell? ⟨w.heap.size, 4, none⟩ = some (.int .i64 e.prev) := (cell_of hX 4).1
  have k5 : W.cell? ⟨w.heap.size, 5, none⟩ = some (.int .i64 e.next) := (cell_of hX 5).1
  clear hX
  go_enter Try.func11, Try.ntmps11
  go_upto_region 1 with (fail)
  show Code.wp _ _ _ _ (w.alloc (.cells (entC e s1 s2 s3 s4 s5 s6) 30))
  rw [← hW]
  clear hW
  by_cases h1 : e.kind = 1
  · have HE := Lib.hid (show nxE e n = n from by unfold nxE; rw [if_pos h1])
    rw [h1] at k0
    go_wp2
    go_ret
    exact ⟨congrArg (fun x : Int => Ending.returned (.int .i64 x)) HE.out.symm, HB.out⟩
  by_cases h2 : e.kind = 2
  · have HE := Lib.hid (show nxE e n = e.next from by unfold nxE; rw [if_neg h1, if_pos h2])
    rw [h2] at k0
    clear h1
    go_wp2
    go_ret
    exact ⟨congrArg (fun x : Int => Ending.returned (.int .i64 x)) HE.out.symm, HB.out⟩
  by_cases h3 : e.kind = 3
  · have HE := Lib.hid (show nxE e n = e.prev from by unfold nxE; rw [if_neg h1, if_neg h2, if_pos h3])
    rw [h3] at k0
    clear h1 h2
    go_wp2
    go_ret
    exact ⟨congrArg (fun x : Int => Ending.returned (.int .i64 x)) HE.out.symm, HB.out⟩
  by_cases h4 : e.kind = 4
  · have HE := Lib.hid (show nxE e n = e.prev from by unfold nxE; rw [if_neg h1, if_neg h2, if_neg h3, if_pos h4])
    rw [h4] at k0
    clear h1 h2 h3
    go_wp2
    go_ret
    exact ⟨congrArg (fun x : Int => Ending.returned (.int .i64 x)) HE.out.symm, HB.out⟩
  have HE := Lib.hid (show nxE e n = 0 from by unfold nxE; rw [if_neg h1, if_neg h2, if_neg h3, if_neg h4])
  have b1 : (e.kind == 1) = false := by simpa using h1
  have b2 : (e.kind == 2) = false := by simpa using h2
  have b3 : (e.kind == 3) = false := by simpa using h3
  have b4 : (e.kind == 4) = false := by simpa using h4
  clear h1 h2 h3 h4 k4 k5
  go_wp2
  go_ret
  exact ⟨congrArg (fun x : Int => Ending.returned (.int .i64 x)) HE.out.symm, HB.out⟩

set_option maxRecDepth 100000 in
set_option maxHeartbeats 4000000 in
theorem rnext_any (w : World) (e : Ent) (s1 s2 s3 s4 s5 s6 : Value) (n : Int) : Calls Try.prog 12 #[.agg (entC e s1 s2 s3 s4 s5 s6), .int .i64 n] w fun r w' => r = .returned (.int .i64 (nxE e n)) ∧ Below w.heap.size w w' := by
  obtain ⟨W, hW⟩ : ∃ W, W = w.alloc (.cells (entC e s1 s2 s3 s4 s5 s6) 30) := ⟨_, rfl⟩
  have HB : Hid (Below w.heap.size w W) := by rw [hW]; exact (Below.refl _ _).alloc (Nat.le_refl _) _
  have hX : W.heap[w.heap.size]? = some (.cells (entC e s1 s2 s3 s4 s5 s6) 30 (0, 0)) := by rw [hW]; exact heap_alloc_new w _
  have k0 : W.cell? ⟨w.heap.size, 0, none⟩ = some (.int .i64 e.kind) := (cell_of hX 0).1
  have k4 : W.cell? ⟨w.heap.size, 4, none⟩ = some (.int .i64 e.prev) := (cell_of hX 4).1
  have k5 : W.cell? ⟨w.heap.size, 5, none⟩ = some (.int .i64 e.next) := (cell_of hX 5).1
  clear hX
  go_enter Try.func12, Try.ntmps12
  go_upto_region 1 with (fail)
  show Code.wp _ _ _ _ (w.alloc (.cells (entC e s1 s2 s3 s4 s5 s6) 30))
  rw [← hW]
  clear hW
  by_cases h1 : e.kind = 1
  · have HE := Lib.hid (show nxE e n = n from by unfold nxE; rw [if_pos h1])
    rw [h1] at k0
    go_wp2
    go_ret
    exact ⟨congrArg (fun x : Int => Ending.returned (.int .i64 x)) HE.out.symm, HB.out⟩
  by_cases h2 : e.kind = 2
  · have HE := Lib.hid (show nxE e n = e.next from by unfold nxE; rw [if_neg h1, if_pos h2])
    rw [h2] at k0
    clear h1
    go_wp2
    go_ret
    exact ⟨congrArg (fun x : Int => Ending.returned (.int .i64 x)) HE.out.symm, HB.out⟩
  by_cases h3 : e.kind = 3
  · have HE := Lib.hid (show nxE e n = e.prev from by unfold nxE; rw [if_neg h1, if_neg h2, if_pos h3])
    rw [h3] at k0
    clear h1 h2
    go_wp2
    go_ret
    exact ⟨congrArg (fun x : Int => Ending.returned (.int .i64 x)) HE.out.symm, HB.out⟩
  by_cases h4 : e.kind = 4
  · have HE := Lib.hid (show nxE e n = e.prev from by unfold nxE; rw [if_neg h1, if_neg h2, if_neg h3, if_pos h4])
    rw [h4] at k0
    clear h1 h2 h3
    go_wp2
    go_ret
    exact ⟨congrArg (fun x : Int => Ending.returned (.int .i64 x)) HE.out.symm, HB.out⟩
  have HE := Lib.hid (show nxE e n = 0 from by unfold nxE; rw [if_neg h1, if_neg h2, if_neg h3, if_neg h4])
  have b1 : (e.kind == 1) = false := by simpa using h1
  have b2 : (e.kind == 2) = false := by simpa using h2
  have b3 : (e.kind == 3) = false := by simpa using h3
  have b4 : (e.kind == 4) = false := by simpa using h4
  clear h1 h2 h3 h4 k4 k5
  go_wp2
  go_ret
  exact ⟨congrArg (fun x : Int => Ending.returned (.int .i64 x)) HE.out.symm, HB.out⟩
end Go.Proofs.Ythcndifbegmbkaa.Ud
