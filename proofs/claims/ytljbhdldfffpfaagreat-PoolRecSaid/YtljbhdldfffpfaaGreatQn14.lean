/- PoolNone, a part. -/
import Derived.Test.YtljbhdldfffpfaaGreatQn13
namespace Go.Proofs.YtljbhdldfffpfaaGreat
open Go.RowKit

def DecPost (w : World) (l : List Int) (e : Ending) (w' : World) : Prop := ∃ A1 n1 c1 A2 n2 c2 A3 n3 c3 A4 n4 c4 A5 n5 c5 A6 n6 c6, e = .returned (.agg (entC (entR l) (.slice A1 n1 c1) (.slice A2 n2 c2) (.slice A3 n3 c3) (.slice A4 n4 c4) (.slice A5 n5 c5) (.slice A6 n6 c6))) ∧ EntF w' (w.heap.size + 1) (.slice A1 n1 c1) (.slice A2 n2 c2) (.slice A3 n3 c3) (.slice A4 n4 c4) (.slice A5 n5 c5) (.slice A6 n6 c6) (entR l) ∧ Below w.heap.size w w'

theorem EntF.low {w : World} {B B' : Nat} {s1 s2 s3 s4 s5 s6 : Value} {e : Ent} (h : EntF w B s1 s2 s3 s4 s5 s6 e) (hB : B' ≤ B) : EntF w B' s1 s2 s3 s4 s5 s6 e :=
  ⟨⟨h.old.1, fun b hb => Nat.le_trans hB (h.old.2 b hb)⟩, ⟨h.new.1, fun b hb => Nat.le_trans hB (h.new.2 b hb)⟩, ⟨h.moves.1, fun b hb => Nat.le_trans hB (h.moves.2 b hb)⟩, ⟨h.lives.1, fun b hb => Nat.le_trans hB (h.lives.2 b hb)⟩, ⟨h.dirty.1, fun b hb => Nat.le_trans hB (h.dirty.2 b hb)⟩, h.opens.low hB⟩
theorem entC_all (e : Ent) (A1 A2 A3 A4 A5 A6 : Option Addr) (n1 c1 n2 c2 n3 c3 n4 c4 n5 c5 n6 c6 : Nat) : (entC e (.slice A1 n1 c1) (.slice A2 n2 c2) (.slice A3 n3 c3) (.slice A4 n4 c4) (.slice A5 n5 c5) (.slice A6 n6 c6)).all (·.oneCell') = true := by simp [entC, Value.oneCell']
def ent0 : Array Value := #[.int .i64 0, .int .i64 0, .int .i64 0, .int .i64 0, .int .i64 0, .int .i64 0, .int .i64 0, .int .i64 0, .int .i64 0, .int .i64 0, .slice none 0 0, .slice none 0 0, .slice none 0 0, .slice none 0 0, .slice none 0 0, .slice none 0 0]
theorem setRow_far (w : World) (g : Nat) (cs : Array Value) {k : Nat} (h : k ≠ g) : (w.setRow g cs).heap[k]? = w.heap[k]? := setRow_other _ _ _ _ h
theorem setRow_size (w : World) (g : Nat) (cs : Array Value) : (w.setRow g cs).heap.size = w.heap.size := by simp [World.setRow]
theorem setRow_below (w : World) (g : Nat) (cs : Array Value) {B : Nat} (hB : B ≤ g) : Below B w (w.setRow g cs) := ⟨rfl, rfl, rfl, by rw [setRow_size]; exact Nat.le_refl _, fun k hk => setRow_far _ _ _ (by omega)⟩
theorem Kpt.row {g B : Nat} (w : World) (cs : Array Value) (hB : g < B) : Kpt B w (w.setRow g cs) := ⟨by rw [setRow_size]; exact Nat.le_refl _, fun b hb _ => setRow_far _ _ _ (by omega)⟩

set_option maxRecDepth 100000 in
set_option maxHeartbeats 1000000 in
theorem decode_any (w : World) {sv : Value} {l : List Int} (h : SlK .u8 w sv l) :
    Calls Tryz.prog 108 #[sv] w (DecPost w l) := by
  obtain ⟨A, c, rfl, q⟩ := h.form
  obtain ⟨W, hW⟩ : ∃ W, W = w.alloc (.cells ent0 55) := ⟨_, rfl⟩
  have hb0 : Below w.heap.size w W := by rw [hW]; exact (Below.refl _ _).alloc (Nat.le_refl _) _
  have hsz : W.heap.size = w.heap.size + 1 := by rw [hW]; simp
  have hbx : W.heap[w.heap.size]? = some (.cells ent0 55 (0, 0)) := by rw [hW]; exact heap_alloc_new w _
  have hb1 : Below W.heap.size W (W.alloc (.cells #[.slice A l.length c] 183)) := (Below.refl _ _).alloc (Nat.le_refl _) _
  have hrs : RS W (W.alloc (.cells #[.slice A l.length c] 183)) W.heap.size (.slice A l.length c) l := ⟨heap_alloc_new W _, h.below hb0 (Nat.le_refl _), hb1, Nat.le_refl _⟩
  have HRS := Lib.hid hrs
  have HB0 := Lib.hid hb0
  have HB1 := Lib.hid hb1
  have HSZ := Lib.hid hsz
  have HBX := Lib.hid ((hb1.block w.heap.size (by omega)).trans hbx)
  clear h hb0 hb1 hsz hbx hrs
  go_enter Tryz.func108, Tryz.ntmps108
  go_upto_region 1 with (fail)
  show Code.wp _ _ _ _ (w.alloc (.cells ent0 55))
  rw [← hW]
  clear hW
  go_upto_region 2 with (fail)
  generalize W.alloc (.cells #[.slice A l.length c] 183) = W2 at *
  go_wp2_with fail
  refine (rentry_any HRS.out).mono ?_
  rintro r w3 ⟨s1, s2, s3, s4, s5, s6, sv', rfl, hE, h3, g3⟩
  obtain ⟨A1, c1, A2, c2, A3, c3, A4, c4, A5, c5, A6, c6, rfl, rfl, rfl, rfl, rfl, rfl⟩ := hE.entS.form
  have hp : w.heap.size < W2.heap.size := (Array.getElem?_eq_some_iff.1 HBX.out).1
  have hq : w.heap.size < W.heap.size := by rw [HSZ.out]; omega
  have hbx3 := (g3.block w.heap.size hp (by omega)).trans HBX.out
  have hbel : Below w.heap.size w w3 := HB0.out.trans ((HB1.out.mono (by omega)).trans (g3.below (Nat.le_of_lt hq) HRS.out.lt))
  have HB3 := Lib.hid hbx3
  have HI := Lib.hid (show (Tryz.prog.info? 55).map (·.size) = some (entC (entR l) (.slice A1 (entR l).old.length c1) (.slice A2 (entR l).new.length c2) (.slice A3 (entR l).moves.length c3) (.slice A4 (entR l).lives.length c4) (.slice A5 (entR l).dirty.length c5) (.slice A6 (entR l).opens.length c6)).size from infoEnt)
  have HA := Lib.hid (entC_all (entR l) A1 A2 A3 A4 A5 A6 (entR l).old.length c1 (entR l).new.length c2 (entR l).moves.length c3 (entR l).lives.length c4 (entR l).dirty.length c5 (entR l).opens.length c6)
  have HN := Lib.hid (show (ent0.size : Nat) = (entC (entR l) (.slice A1 (entR l).old.length c1) (.slice A2 (entR l).new.length c2) (.slice A3 (entR l).moves.length c3) (.slice A4 (entR l).lives.length c4) (.slice A5 (entR l).dirty.length c5) (.slice A6 (entR l).opens.length c6)).size from rfl)
  have HE := Lib.hid ((hE.low (show w.heap.size + 1 ≤ W2.heap.size + 1 by omega)).at (Kpt.row w3 (entC (entR l) (.slice A1 (entR l).old.length c1) (.slice A2 (entR l).new.length c2) (.slice A3 (entR l).moves.length c3) (.slice A4 (entR l).lives.length c4) (.slice A5 (entR l).dirty.length c5) (.slice A6 (entR l).opens.length c6)) (show w.heap.size < w.heap.size + 1 by omega)))
  have HBL := Lib.hid (hbel.trans (setRow_below w3 w.heap.size (entC (entR l) (.slice A1 (entR l).old.length c1) (.slice A2 (entR l).new.length c2) (.slice A3 (entR l).moves.length c3) (.slice A4 (entR l).lives.length c4) (.slice A5 (entR l).dirty.length c5) (.slice A6 (entR l).opens.length c6)) (Nat.le_refl _)))
  have HR := Lib.hid (setRow_heap w3 w.heap.size ent0 (entC (entR l) (.slice A1 (entR l).old.length c1) (.slice A2 (entR l).new.length c2) (.slice A3 (entR l).moves.length c3) (.slice A4 (entR l).lives.length c4) (.slice A5 (entR l).dirty.length c5) (.slice A6 (entR l).opens.length c6)) _ _ hbx3)
  clear hE h3 g3 hp hq hbx3 hbel
  generalize (entR l).old.length = n1 at *
  generalize (entR l).new.length = n2 at *
  generalize (entR l).moves.length = n3 at *
  generalize (entR l).lives.length = n4 at *
  generalize (entR l).dirty.length = n5 at *
  generalize (entR l).opens.length = n6 at *
  go_wp2_with (with_reducible refine wpList_store_row rfl 55 (.tmp 2) (.tmp 6) rfl w.heap.size _ rfl rfl 55 _ HB3.out HI.out HN.out HA.out ?_)
  refine bodyPost_ret (v := .agg (entC (entR l) (.slice A1 n1 c1) (.slice A2 n2 c2) (.slice A3 n3 c3) (.slice A4 n4 c4) (.slice A5 n5 c5) (.slice A6 n6 c6))) ?_ rfl ?_
  · exact results_cell_row Tryz.results108 _ _ _ _ _ _ _ rfl HR.out Tryz.underlying55 rfl HI.out
  · exact ⟨_, _, _, _, _, _, _, _, _, _, _, _, _, _, _, _, _, _, rfl, HE.out, HBL.out⟩
end Go.Proofs.YtljbhdldfffpfaaGreat
namespace Go.Proofs.YtljbhdldfffpfaaGreat
open Go.RowKit

theorem bstr_eqlE {l l' : List Int} (h : bytesOk l) (h' : bytesOk l') : ((bstr l).toList == (bstr l').toList) = decide (l = l') := by
  rw [Bool.eq_iff_iff, beq_iff_eq, toList_eq, toList_eq, decide_eq_true_eq]
  constructor
  · intro e
    refine bstr_inj h h' ?_
    generalize bstr l = x at *
    generalize bstr l' = y at *
    cases x; cases y
    simp only at e
    congr
    exact Array.ext' e
  · rintro rfl; rfl
theorem ret_bE {a b : Bool} (h : a = b) : Ending.returned (.bool a) = .returned (.bool b) := by rw [h]

set_option maxRecDepth 100000 in
set_option maxHeartbeats 400000 in
theorem equalE_any (w : World) (v u : Value) (l m : List Int) (h : SlK .u8 w v l) (h' : SlK .u8 w u m) : Calls Tryz.prog 71 #[v, u] w fun e w' => e = .returned (.bool (decide (l = m))) ∧ w' = w := by
  have v0 := conv_slK h
  have v1 := conv_slK h'
  have HE := Lib.hid (bstr_eqlE h.ok h'.ok)
  obtain ⟨p, cap, rfl, -⟩ := h
  obtain ⟨q, caq, rfl, -⟩ := h'
  go_enter Tryz.func71, Tryz.ntmps71
  go_wp2
  go_ret
  exact ⟨ret_bE HE.out, rfl⟩

theorem flat_ok {α : Type} {f : α → List Int} (hf : ∀ x, bytesOk (f x)) (xs : List α) : bytesOk (xs.flatMap f) := by
  intro y hy
  obtain ⟨x, _, h⟩ := List.mem_flatMap.1 hy
  exact hf x y h
theorem app_ok {a b : List Int} (h : bytesOk a) (k : bytesOk b) : bytesOk (a ++ b) := fun x hx => (List.mem_append.1 hx).elim (h x) (k x)
theorem lstL_ok {α : Type} {f : α → List Int} (hf : ∀ x, bytesOk (f x)) (xs : List α) : bytesOk (lstL f xs) := by
  unfold lstL
  split
  · exact app_ok (numL_ok _ _) (flat_ok hf xs)
  · intro x hx; cases hx
theorem plL_ok (a c : Int) : bytesOk (plL a c) := app_ok (numL_ok _ _) (numL_ok _ _)
theorem mvL_ok (m : Mv) : bytesOk (mvL m) := app_ok (plL_ok _ _) (plL_ok _ _)
theorem lvL_ok (m : Lv) : bytesOk (lvL m) := app_ok (app_ok (app_ok (numL_ok _ _) (numL_ok _ _)) (numL_ok _ _)) (numL_ok _ _)
theorem dtL_ok (m : Dt) : bytesOk (dtL m) := app_ok (numL_ok _ _) (numL_ok _ _)
theorem opL_ok (m : Opn) : bytesOk (opL m) := app_ok (app_ok (numL_ok _ _) (numL_ok _ _)) (lstL_ok mvL_ok _)
theorem celL_ok {c : List Int} (h : bytesOk c) : bytesOk (celL c) := by
  unfold celL
  split
  · exact app_ok (numL_ok _ _) h
  · intro x hx; cases hx
theorem entL_okE {e : Ent} (ho : bytesOk e.old) (hn : bytesOk e.new) : bytesOk (entL e) := by
  unfold entL
  exact app_ok (app_ok (app_ok (app_ok (app_ok (app_ok (app_ok (app_ok (app_ok (app_ok (app_ok (app_ok (app_ok (numL_ok _ _) (numL_ok _ _)) (numL_ok _ _)) (numL_ok _ _)) (numL_ok _ _)) (numL_ok _ _)) (plL_ok _ _)) (plL_ok _ _)) (celL_ok ho)) (celL_ok hn)) (lstL_ok mvL_ok _)) (lstL_ok lvL_ok _)) (lstL_ok dtL_ok _)) (lstL_ok opL_ok _)

def tkB (l : List Int) : Bool := entB (entR l) && decide (l = entL (entR l))
def ent00 : Ent := ⟨0, 0, 0, 0, 0, 0, 0, 0, 0, 0, [], [], [], [], [], []⟩
def tkE (l : List Int) : Ent := if tkB l = true then entR l else ent00
def tkN (l : List Int) : Int := if tkB l = true then 0 else 4
theorem tk_yes {l : List Int} (h : tkB l = true) : tkE l = entR l ∧ tkN l = 0 := ⟨if_pos h, if_pos h⟩
theorem tk_no {l : List Int} (h : tkB l = false) : tkE l = ent00 ∧ tkN l = 4 := by unfold tkE tkN; rw [h]; exact ⟨rfl, rfl⟩
theorem setRow_alloc (w : World) (old cs : Array Value) (t : TypeId) : (w.alloc (.cells old t)).setRow w.heap.size cs = w.alloc (.cells cs t) := by
  have h := setRow_heap (w.alloc (.cells old t)) w.heap.size old cs t (0, 0) (heap_alloc_new w _)
  have e2 : ((w.alloc (.cells old t)).setRow w.heap.size cs).heap = (w.alloc (.cells cs t)).heap := by
    apply Array.ext_getElem?
    intro i
    by_cases hi : i = w.heap.size
    · subst hi
      rw [h, heap_alloc_new]
    · rw [setRow_far _ _ _ hi]
      show (w.heap.push _)[i]? = (w.heap.push _)[i]?
      rw [Array.getElem?_push, Array.getElem?_push, if_neg hi, if_neg hi]
  have e3 : ∀ a b : World, a.heap = b.heap → a.tape = b.tape → a.drawn = b.drawn → a.os = b.os → a.output = b.output → a = b := by
    intro a b h1 h2 h3 h4 h5
    cases a; cases b
    simp only at h1 h2 h3 h4 h5
    subst h1 h2 h3 h4 h5
    rfl
  exact e3 _ _ e2 rfl rfl rfl rfl
theorem ent0_F (w : World) (B : Nat) : EntF w B (.slice none 0 0) (.slice none 0 0) (.slice none 0 0) (.slice none 0 0) (.slice none 0 0) (.slice none 0 0) ent00 := by
  have h1 : SlF w B (.slice none 0 0) [] := ⟨slK_nil w, fun b hb => by cases hb⟩
  have h2 : ∀ k, ElF w B (.slice none 0 0) k [] := fun k => ⟨⟨none, 0, rfl, Nat.le_refl _, fun _ => rfl, fun a e => by cases e⟩, fun b hb => by cases hb⟩
  exact ⟨h1, h1, h2 4, h2 4, h2 2, ⟨[], rfl, (h2 3).1, (h2 3).2, fun o ho => by cases ho⟩⟩

def TkPost (w : World) (l : List Int) (e : Ending) (w' : World) : Prop := ∃ A1 n1 c1 A2 n2 c2 A3 n3 c3 A4 n4 c4 A5 n5 c5 A6 n6 c6, e = .returned (.tuple #[.agg (entC (tkE l) (.slice A1 n1 c1) (.slice A2 n2 c2) (.slice A3 n3 c3) (.slice A4 n4 c4) (.slice A5 n5 c5) (.slice A6 n6 c6)), .int .i64 (tkN l)]) ∧ EntF w' (w.heap.size + 1) (.slice A1 n1 c1) (.slice A2 n2 c2) (.slice A3 n3 c3) (.slice A4 n4 c4) (.slice A5 n5 c5) (.slice A6 n6 c6) (tkE l) ∧ Below w.heap.size w w'

theorem take_end {w : World} {tmps : Array Value} {g : Nat} {cs : Array Value} {n : Int} (h2 : tmps.getD 2 undef = .pointer (some ⟨g, 0, none⟩)) (h3 : tmps.getD 3 undef = .int .i64 n) (hb : w.heap[g]? = some (.cells cs 55 (0, 0))) (hs : cs.size = 16) :
    (results Tryz.f93 tmps).run Tryz.prog w = .ok (.tuple #[.agg cs, .int .i64 n]) w := by
  rw [Array.getD_eq_getD_getElem?] at h2 h3
  have hl := run_loadVar_row (P := Tryz.prog) w g 55 55 cs (0, 0) _ hb Tryz.underlying55 rfl (by rw [infoEnt, hs])
  simp [results, Tryz.results93, h2, h3, asAddr, hl]

set_option maxRecDepth 100000 in
set_option maxHeartbeats 4000000 in
theorem take_any (w : World) {sv : Value} {l : List Int} (h : SlK .u8 w sv l) (hI : EntI (entR l)) :
    Calls Tryz.prog 93 #[sv] w (TkPost w l) := by
  obtain ⟨A, c, rfl, q⟩ := h.form
  obtain ⟨W, hW⟩ : ∃ W, W = w.alloc (.cells ent0 55) := ⟨_, rfl⟩
  have hb0 : Below w.heap.size w W := by rw [hW]; exact (Below.refl _ _).alloc (Nat.le_refl _) _
  have hsz : W.heap.size = w.heap.size + 1 := by rw [hW]; simp
  have hbx : W.heap[w.heap.size]? = some (.cells ent0 55 (0, 0)) := by rw [hW]; exact heap_alloc_new w _
  have HS := Lib.hid h
  have HI := Lib.hid hI
  have HB0 := Lib.hid hb0
  have HSZ := Lib.hid hsz
  have HBX := Lib.hid hbx
  clear h hI hb0 hsz hbx
  go_enter Tryz.func93, Tryz.ntmps93
  go_upto_region 1 with (fail)
  show Code.wp _ _ _ _ (w.alloc (.cells ent0 55))
  rw [← hW]
  clear hW
  go_wp2_with fail
  refine (decode_any W (HS.out.below HB0.out (Nat.le_refl _))).mono ?_
  rintro r w2 ⟨A1, n1, c1, A2, n2, c2, A3, n3, c3, A4, n4, c4, A5, n5, c5, A6, n6, c6, rfl, hE, hb2⟩
  have hq : w.heap.size < W.heap.size := by rw [HSZ.out]; omega
  have HBo := Lib.hid (heap_alloc_new w2 (.cells #[.int .i64 0, .int .i64 0, .int .i64 0, .int .i64 0, .int .i64 0, .int .i64 0, .int .i64 0, .int .i64 0, .int .i64 0, .int .i64 0, .slice none 0 0, .slice none 0 0, .slice none 0 0, .slice none 0 0, .slice none 0 0, .slice none 0 0] 55))
  have HZI := Lib.hid (show (Tryz.prog.info? 55).map (·.size) = some (entC (entR l) (.slice A1 n1 c1) (.slice A2 n2 c2) (.slice A3 n3 c3) (.slice A4 n4 c4) (.slice A5 n5 c5) (.slice A6 n6 c6)).size from infoEnt)
  have HZA := Lib.hid (entC_all (entR l) A1 A2 A3 A4 A5 A6 n1 c1 n2 c2 n3 c3 n4 c4 n5 c5 n6 c6)
  have HZN := Lib.hid (show (#[.int .i64 0, .int .i64 0, .int .i64 0, .int .i64 0, .int .i64 0, .int .i64 0, .int .i64 0, .int .i64 0, .int .i64 0, .int .i64 0, .slice none 0 0, .slice none 0 0, .slice none 0 0, .slice none 0 0, .slice none 0 0, .slice none 0 0] : Array Value).size = (entC (entR l) (.slice A1 n1 c1) (.slice A2 n2 c2) (.slice A3 n3 c3) (.slice A4 n4 c4) (.slice A5 n5 c5) (.slice A6 n6 c6)).size from rfl)
  have HSA := Lib.hid (setRow_alloc w2 #[.int .i64 0, .int .i64 0, .int .i64 0, .int .i64 0, .int .i64 0, .int .i64 0, .int .i64 0, .int .i64 0, .int .i64 0, .int .i64 0, .slice none 0 0, .slice none 0 0, .slice none 0 0, .slice none 0 0, .slice none 0 0, .slice none 0 0] (entC (entR l) (.slice A1 n1 c1) (.slice A2 n2 c2) (.slice A3 n3 c3) (.slice A4 n4 c4) (.slice A5 n5 c5) (.slice A6 n6 c6)) 55)
  have hb3 : Below w2.heap.size w2 (w2.alloc (.cells (entC (entR l) (.slice A1 n1 c1) (.slice A2 n2 c2) (.slice A3 n3 c3) (.slice A4 n4 c4) (.slice A5 n5 c5) (.slice A6 n6 c6)) 55)) := (Below.refl _ _).alloc (Nat.le_refl _) _
  have hbx3 := (hb3.block w.heap.size (Nat.lt_of_lt_of_le hq hb2.size)).trans ((hb2.block w.heap.size hq).trans HBX.out)
  have hE3 : EntF (w2.alloc (.cells (entC (entR l) (.slice A1 n1 c1) (.slice A2 n2 c2) (.slice A3 n3 c3) (.slice A4 n4 c4) (.slice A5 n5 c5) (.slice A6 n6 c6)) 55)) (w.heap.size + 1) (.slice A1 n1 c1) (.slice A2 n2 c2) (.slice A3 n3 c3) (.slice A4 n4 c4) (.slice A5 n5 c5) (.slice A6 n6 c6) (entR l) := (hE.low (by omega)).at ⟨hb3.size, fun b _ hl => hb3.block b hl⟩
  have HBE := Lib.hid (heap_alloc_new w2 (.cells (entC (entR l) (.slice A1 n1 c1) (.slice A2 n2 c2) (.slice A3 n3 c3) (.slice A4 n4 c4) (.slice A5 n5 c5) (.slice A6 n6 c6)) 55))
  have HB3 := Lib.hid (HB0.out.trans ((hb2.mono (by omega)).trans (hb3.mono (Nat.le_trans (Nat.le_of_lt hq) hb2.size))))
  have HBX3 := Lib.hid hbx3
  have HE3 := Lib.hid hE3
  have HQ := Lib.hid (show w.heap.size < w2.heap.size from Nat.lt_of_lt_of_le hq hb2.size)
  clear hE hb2 hq hb3 hbx3 hE3
  go_upto_region 2 with (with_reducible refine wpList_store_row rfl 55 (.tmp 4) (.tmp 8) rfl w2.heap.size _ rfl rfl 55 _ HBo.out HZI.out HZN.out HZA.out ?_)
  rw [HSA.out]
  have HW3 : Hid (w2.heap.size < (w2.alloc (.cells (entC (entR l) (.slice A1 n1 c1) (.slice A2 n2 c2) (.slice A3 n3 c3) (.slice A4 n4 c4) (.slice A5 n5 c5) (.slice A6 n6 c6)) 55)).heap.size) := by show _ < _; simp
  generalize w2.alloc (.cells (entC (entR l) (.slice A1 n1 c1) (.slice A2 n2 c2) (.slice A3 n3 c3) (.slice A4 n4 c4) (.slice A5 n5 c5) (.slice A6 n6 c6)) 55) = w3 at *
  go_wp2_with (with_reducible refine wpList_load_row rfl 55 (.tmp 4) rfl w2.heap.size rfl 55 _ (0, 0) _ HBE.out Tryz.underlying55 rfl HZI.out ?_)
  refine (encode_any w3 (entR l) HE3.out.entS HI.out).mono ?_
  rintro r w4 ⟨Ac, mc, cc, rfl, hoc, hb4⟩
  have hE4 : EntF w4 (w.heap.size + 1) (.slice A1 n1 c1) (.slice A2 n2 c2) (.slice A3 n3 c3) (.slice A4 n4 c4) (.slice A5 n5 c5) (.slice A6 n6 c6) (entR l) := HE3.out.at ⟨hb4.size, fun b _ hl => hb4.block b hl⟩
  have h34 : w2.heap.size < w3.heap.size := HW3.out
  have hbx4 := (hb4.block w.heap.size (by have := HQ.out; omega)).trans HBX3.out
  have hbe4 := (hb4.block w2.heap.size HW3.out).trans HBE.out
  have hbel4 : Below w.heap.size w w4 := HB3.out.trans (hb4.mono (by have := HQ.out; omega))
  have HE4 := Lib.hid hE4
  have HB4 := Lib.hid hbel4
  have HX4 := Lib.hid hbx4
  have HBE4 := Lib.hid hbe4
  have HOC := Lib.hid hoc
  clear hoc hb4 hE4 h34 hbx4 hbe4 hbel4
  have HZN2 := Lib.hid (show ent0.size = (entC (entR l) (.slice A1 n1 c1) (.slice A2 n2 c2) (.slice A3 n3 c3) (.slice A4 n4 c4) (.slice A5 n5 c5) (.slice A6 n6 c6)).size from rfl)
  have HN0 := Lib.hid (show ent0.size = (#[.int .i64 0, .int .i64 0, .int .i64 0, .int .i64 0, .int .i64 0, .int .i64 0, .int .i64 0, .int .i64 0, .int .i64 0, .int .i64 0, .slice none 0 0, .slice none 0 0, .slice none 0 0, .slice none 0 0, .slice none 0 0, .slice none 0 0] : Array Value).size from rfl)
  have HI0 := Lib.hid (show (Tryz.prog.info? 55).map (·.size) = some (#[.int .i64 0, .int .i64 0, .int .i64 0, .int .i64 0, .int .i64 0, .int .i64 0, .int .i64 0, .int .i64 0, .int .i64 0, .int .i64 0, .slice none 0 0, .slice none 0 0, .slice none 0 0, .slice none 0 0, .slice none 0 0, .slice none 0 0] : Array Value).size from infoEnt)
  have HA0 := Lib.hid (show (#[.int .i64 0, .int .i64 0, .int .i64 0, .int .i64 0, .int .i64 0, .int .i64 0, .int .i64 0, .int .i64 0, .int .i64 0, .int .i64 0, .slice none 0 0, .slice none 0 0, .slice none 0 0, .slice none 0 0, .slice none 0 0, .slice none 0 0] : Array Value).all (·.oneCell') = true from by simp [Value.oneCell'])
  have fin_no : tkB l = false → TkPost w l (.returned (.tuple #[.agg ent0, .int .i64 4])) (w4.setRow w.heap.size #[.int .i64 0, .int .i64 0, .int .i64 0, .int .i64 0, .int .i64 0, .int .i64 0, .int .i64 0, .int .i64 0, .int .i64 0, .int .i64 0, .slice none 0 0, .slice none 0 0, .slice none 0 0, .slice none 0 0, .slice none 0 0, .slice none 0 0]) := fun ht => by
    obtain ⟨t1, t2⟩ := tk_no ht
    exact ⟨none, 0, 0, none, 0, 0, none, 0, 0, none, 0, 0, none, 0, 0, none, 0, 0, by rw [t1, t2]; rfl, by rw [t1]; exact ent0_F _ _, HB4.out.trans (setRow_below _ _ _ (Nat.le_refl _))⟩
  have FNO := Lib.hid fin_no
  have HR0 := Lib.hid (setRow_heap w4 w.heap.size ent0 #[.int .i64 0, .int .i64 0, .int .i64 0, .int .i64 0, .int .i64 0, .int .i64 0, .int .i64 0, .int .i64 0, .int .i64 0, .int .i64 0, .slice none 0 0, .slice none 0 0, .slice none 0 0, .slice none 0 0, .slice none 0 0, .slice none 0 0] _ _ HX4.out)
  cases hB : entB (entR l) with
  | false =>
    have HT := Lib.hid (show tkB l = false from by unfold tkB; rw [hB]; rfl)
    clear hB fin_no
    go_wp2_with (with_reducible refine wpList_store_row rfl 55 (.tmp 2) (.tmp 22) rfl w.heap.size _ rfl rfl 55 _ HX4.out HI0.out HN0.out HA0.out ?_)
    refine bodyPost_ret (v := .tuple #[.agg ent0, .int .i64 4]) ?_ rfl (FNO.out HT.out)
    exact take_end rfl rfl HR0.out rfl
  | true =>
    have HP := Lib.hid (putL_yes hB)
    have HBT := Lib.hid hB
    have hoc : w4.ownsRow w3.heap.size 5 1 (.slice Ac mc cc) (entL (entR l)).length (byteV (entL (entR l))) := by have := HOC.out; rw [HP.out] at this; exact this
    have hsc : SlK .u8 w4 (.slice Ac mc cc) (entL (entR l)) := own_slK hoc (entL_okE HE4.out.old.1.ok HE4.out.new.1.ok)
    have hsb : SlK .u8 w4 (.slice A l.length c) l := HS.out.below HB4.out (Nat.le_refl _)
    have HEQ := Lib.hid (equalE_any w4 _ _ _ _ hsb hsc)
    clear hB hoc hsc hsb fin_no
    cases hq : decide (l = entL (entR l)) with
    | false =>
      have HT := Lib.hid (show tkB l = false from by unfold tkB; rw [HBT.out, hq]; rfl)
      rw [hq] at HEQ
      clear hq
      go_wp2_with (first
        | (go_at_call 71; refine HEQ.out.mono ?_; rintro e w5 ⟨rfl, rfl⟩)
        | (with_reducible refine wpList_store_row rfl 55 (.tmp 2) (.tmp 22) rfl w.heap.size _ rfl rfl 55 _ HX4.out HI0.out HN0.out HA0.out ?_))
      refine bodyPost_ret (v := .tuple #[.agg ent0, .int .i64 4]) ?_ rfl (FNO.out HT.out)
      exact take_end rfl rfl HR0.out rfl
    | true =>
      have HT := Lib.hid (show tkB l = true from by unfold tkB; rw [HBT.out, hq]; rfl)
      rw [hq] at HEQ
      clear hq
      have HR1 := Lib.hid (setRow_heap w4 w.heap.size ent0 (entC (entR l) (.slice A1 n1 c1) (.slice A2 n2 c2) (.slice A3 n3 c3) (.slice A4 n4 c4) (.slice A5 n5 c5) (.slice A6 n6 c6)) _ _ HX4.out)
      go_wp2_with (first
        | (go_at_call 71; refine HEQ.out.mono ?_; rintro e w5 ⟨rfl, rfl⟩)
        | (with_reducible refine wpList_load_row rfl 55 (.tmp 4) rfl w2.heap.size rfl 55 _ (0, 0) _ HBE4.out Tryz.underlying55 rfl HZI.out ?_)
        | (with_reducible refine wpList_store_row rfl 55 (.tmp 2) (.tmp 23) rfl w.heap.size _ rfl rfl 55 _ HX4.out HZI.out HZN2.out HZA.out ?_))
      refine bodyPost_ret (v := .tuple #[.agg (entC (entR l) (.slice A1 n1 c1) (.slice A2 n2 c2) (.slice A3 n3 c3) (.slice A4 n4 c4) (.slice A5 n5 c5) (.slice A6 n6 c6)), .int .i64 0]) ?_ rfl ?_
      · exact take_end rfl rfl HR1.out rfl
      · obtain ⟨t1, t2⟩ := tk_yes HT.out
        exact ⟨A1, n1, c1, A2, n2, c2, A3, n3, c3, A4, n4, c4, A5, n5, c5, A6, n6, c6, by rw [t1, t2], by rw [t1]; exact HE4.out.at (Kpt.row _ _ (by omega)), HB4.out.trans (setRow_below _ _ _ (Nat.le_refl _))⟩
end Go.Proofs.YtljbhdldfffpfaaGreat
