/- TrailAll, a part. -/
import Derived.Test.YthmgafcnoedmjaaGreatQ6
import Derived.WalkKit
import Derived.WalkSpells
import Derived.WalkLawsBesides
import Derived.Maps.OwnSet
import Derived.Lib.SlKeysI
import Derived.StillTailTactics
import Derived.Laws.Rows
import Derived.Test.YthmgafcnoedmjaaGreatRows
import Derived.Test.YthmgafcnoedmjaaGreatQ1
import Derived.Deep.QuietTactic
import Derived.BigQuiet
import Derived.Deep.WholeRow
namespace Go.Proofs.YthmgafcnoedmjaaGreat
set_option maxRecDepth 100000
open Go.RowKit
def DecPost (w : World) (l : List Int) (e : Ending) (w' : World) : Prop := ∃ A1 n1 c1 A2 n2 c2 A3 n3 c3 A4 n4 c4 A5 n5 c5 A6 n6 c6, e = .returned (.agg (entC (entR l) (.slice A1 n1 c1) (.slice A2 n2 c2) (.slice A3 n3 c3) (.slice A4 n4 c4) (.slice A5 n5 c5) (.slice A6 n6 c6))) ∧ EntF w' (w.heap.size + 1) (.slice A1 n1 c1) (.slice A2 n2 c2) (.slice A3 n3 c3) (.slice A4 n4 c4) (.slice A5 n5 c5) (.slice A6 n6 c6) (entR l) ∧ Below w.heap.size w w'
theorem EntF.low {w : World} {B B' : Nat} {s1 s2 s3 s4 s5 s6 : Value} {e : Ent} (h : EntF w B s1 s2 s3 s4 s5 s6 e) (hB : B' ≤ B) : EntF w B' s1 s2 s3 s4 s5 s6 e :=
 ⟨⟨h.old.1, fun b hb => Nat.le_trans hB (h.old.2 b hb)⟩, ⟨h.new.1, fun b hb => Nat.le_trans hB (h.new.2 b hb)⟩, ⟨h.moves.1, fun b hb => Nat.le_trans hB (h.moves.2 b hb)⟩, ⟨h.lives.1, fun b hb => Nat.le_trans hB (h.lives.2 b hb)⟩, ⟨h.dirty.1, fun b hb => Nat.le_trans hB (h.dirty.2 b hb)⟩, h.opens.low hB⟩
theorem entC_all (e : Ent) (A1 A2 A3 A4 A5 A6 : Option Addr) (n1 c1 n2 c2 n3 c3 n4 c4 n5 c5 n6 c6 : Nat) : (entC e (.slice A1 n1 c1) (.slice A2 n2 c2) (.slice A3 n3 c3) (.slice A4 n4 c4) (.slice A5 n5 c5) (.slice A6 n6 c6)).all (·.oneCell') = true := by simp [entC, Value.oneCell']
def ent0 : Array Value := #[.int .i64 0, .int .i64 0, .int .i64 0, .int .i64 0, .int .i64 0, .int .i64 0, .int .i64 0, .int .i64 0, .int .i64 0, .int .i64 0, .slice none 0 0, .slice none 0 0, .slice none 0 0, .slice none 0 0, .slice none 0 0, .slice none 0 0]
theorem setRow_far (w : World) (g : Nat) (cs : Array Value) {k : Nat} (h : k ≠ g) : (w.setRow g cs).heap[k]? = w.heap[k]? := setRow_other _ _ _ _ h
theorem setRow_size (w : World) (g : Nat) (cs : Array Value) : (w.setRow g cs).heap.size = w.heap.size := by simp [World.setRow]
theorem setRow_below (w : World) (g : Nat) (cs : Array Value) {B : Nat} (hB : B ≤ g) : Below B w (w.setRow g cs) := ⟨rfl, rfl, rfl, by rw [setRow_size]; exact Nat.le_refl _, fun k hk => setRow_far _ _ _ (by omega)⟩
theorem Kpt.row {g B : Nat} (w : World) (cs : Array Value) (hB : g < B) : Kpt B w (w.setRow g cs) := ⟨by rw [setRow_size]; exact Nat.le_refl _, fun b hb _ => setRow_far _ _ _ (by omega)⟩
set_option maxHeartbeats 1000000 in
theorem decode_any (w : World) {sv : Value} {l : List Int} (h : SlK .u8 w sv l) :
  Calls Tryz.prog 92 #[sv] w (DecPost w l) := by
 obtain ⟨A, c, rfl, q⟩ := h.form
 obtain ⟨W, hW⟩ : ∃ W, W = w.alloc (.cells ent0 44) := ⟨_, rfl⟩
 have hb0 : Below w.heap.size w W := by rw [hW]; exact (Below.refl _ _).alloc (Nat.le_refl _) _
 have hsz : W.heap.size = w.heap.size + 1 := by rw [hW]; simp
 have hbx : W.heap[w.heap.size]? = some (.cells ent0 44 (0, 0)) := by rw [hW]; exact heap_alloc_new w _
 have hb1 : Below W.heap.size W (W.alloc (.cells #[.slice A l.length c] 173)) := (Below.refl _ _).alloc (Nat.le_refl _) _
 have hrs : RS W (W.alloc (.cells #[.slice A l.length c] 173)) W.heap.size (.slice A l.length c) l := ⟨heap_alloc_new W _, h.below hb0 (Nat.le_refl _), hb1, Nat.le_refl _⟩
 have HRS := Lib.hid hrs
 have HB0 := Lib.hid hb0
 have HB1 := Lib.hid hb1
 have HSZ := Lib.hid hsz
 have HBX := Lib.hid ((hb1.block w.heap.size (by omega)).trans hbx)
 clear h hb0 hb1 hsz hbx hrs
 go_enter Tryz.func92, Tryz.ntmps92
 go_upto_region 1 with (fail)
 show Code.wp _ _ _ _ (w.alloc (.cells ent0 44))
 rw [← hW]
 clear hW
 go_upto_region 2 with (fail)
 generalize W.alloc (.cells #[.slice A l.length c] 173) = W2 at *
 go_wp2_with fail
 refine (rentry_any HRS.out).mono ?_
 rintro r w3 ⟨s1, s2, s3, s4, s5, s6, sv', rfl, hE, h3, g3⟩
 obtain ⟨A1, c1, A2, c2, A3, c3, A4, c4, A5, c5, A6, c6, rfl, rfl, rfl, rfl, rfl, rfl⟩ := hE.entS.form
 have hp : w.heap.size < W2.heap.size := (Array.getElem?_eq_some_iff.1 HBX.out).1
 have hq : w.heap.size < W.heap.size := by rw [HSZ.out]; omega
 have hbx3 := (g3.block w.heap.size hp (by omega)).trans HBX.out
 have hbel : Below w.heap.size w w3 := HB0.out.trans ((HB1.out.mono (by omega)).trans (g3.below (Nat.le_of_lt hq) HRS.out.lt))
 have HB3 := Lib.hid hbx3
 have HI := Lib.hid (show (Tryz.prog.info? 44).map (·.size) = some (entC (entR l) (.slice A1 (entR l).old.length c1) (.slice A2 (entR l).new.length c2) (.slice A3 (entR l).moves.length c3) (.slice A4 (entR l).lives.length c4) (.slice A5 (entR l).dirty.length c5) (.slice A6 (entR l).opens.length c6)).size from infoEnt)
 have HA := Lib.hid (entC_all (entR l) A1 A2 A3 A4 A5 A6 (entR l).old.length c1 (entR l).new.length c2 (entR l).moves.length c3 (entR l).lives.length c4 (entR l).dirty.length c5 (entR l).opens.length c6)
 have HN := Lib.hid (show (ent0.size : Nat) = (entC (entR l) (.slice A1 (entR l).old.length c1) (.slice A2 (entR l).new.length c2) (.slice A3 (entR l).moves.length c3) (.slice A4 (entR l).lives.length c4) (.slice A5 (entR l).dirty.length c5) (.slice A6 (entR l).opens.length c6)).size from rfl)
 have HE := Lib.hid ((hE.low (show w.heap.size + 1 ≤ W2.heap.size + 1 by omega)).at (Kpt.row w3 (entC (entR l) (.slice A1 (entR l).old.length c1) (.slice A2 (entR l).new.length c2) (.slice A3 (entR l).moves.length c3) (.slice A4 (entR l).lives.length c4) (.slice A5 (entR l).dirty.length c5) (.slice A6 (entR l).opens.length c6)) (show w.heap.size < w.heap.size + 1 by omega)))
 have HBL := Lib.hid (hbel.trans (setRow_below w3 w.heap.size (entC (entR l) (.slice A1 (entR l).old.length c1) (.slice A2 (entR l).new.length c2) (.slice A3 (entR l).moves.length c3) (.slice A4 (entR l).lives.length c4) (.slice A5 (entR l).dirty.length c5) (.slice A6 (entR l).opens.length c6)) (Nat.le_refl _)))
 have HR := Lib.hid (setRow_heap w3 w.heap.size ent0 (entC (entR l) (.slice A1 (entR l).old.length c1) (.slice A2 (entR l).new.length c2) (.slice A3 (entR l).moves.length c3) (.slice A4 (entR l).lives.length c4) (.slice A5 (entR l).dirty.length c5) (.slice A6 (entR l).opens.length c6)) _ _ hbx3)
 clear hE h3 g3 hp hq hbx3 hbel
 generalize (entR l).old.length = n1 at *
 generalize (entR l).new.length = n2 at *
 generalize (entR l).moves.length = n3 at *
 generalize (entR l).lives.length = n4 at *
 generalize (entR l).dirty.length = n5 at *
 generalize (entR l).opens.length = n6 at *
 go_wp2_with (with_reducible refine wpList_store_row rfl 44 (.tmp 2) (.tmp 6) rfl w.heap.size _ rfl rfl 44 _ HB3.out HI.out HN.out HA.out ?_)
 refine bodyPost_ret (v := .agg (entC (entR l) (.slice A1 n1 c1) (.slice A2 n2 c2) (.slice A3 n3 c3) (.slice A4 n4 c4) (.slice A5 n5 c5) (.slice A6 n6 c6))) ?_ rfl ?_
 ·exact results_cell_row Tryz.results92 _ _ _ _ _ _ _ rfl HR.out Tryz.underlying44 rfl HI.out
 ·exact ⟨_, _, _, _, _, _, _, _, _, _, _, _, _, _, _, _, _, _, rfl, HE.out, HBL.out⟩
end Go.Proofs.YthmgafcnoedmjaaGreat
namespace Go.Proofs.YthmgafcnoedmjaaGreat
open Go.RowKit
theorem bstr_eqlE {l l' : List Int} (h : bytesOk l) (h' : bytesOk l') : ((bstr l).toList == (bstr l').toList) = decide (l = l') := by
 rw [Bool.eq_iff_iff, beq_iff_eq, toList_eq, toList_eq, decide_eq_true_eq]
 constructor
 ·intro e
  refine bstr_inj h h' ?_
  generalize bstr l = x at *
  generalize bstr l' = y at *
  cases x; cases y
  simp only at e
  congr
  exact Array.ext' e
 ·rintro rfl; rfl
theorem ret_bE {a b : Bool} (h : a = b) : Ending.returned (.bool a) = .returned (.bool b) := by rw [h]
set_option maxHeartbeats 400000 in
theorem equalE_any (w : World) (v u : Value) (l m : List Int) (h : SlK .u8 w v l) (h' : SlK .u8 w u m) : Calls Tryz.prog 59 #[v, u] w fun e w' => e = .returned (.bool (decide (l = m))) ∧ w' = w := by
 have v0 := conv_slK h
 have v1 := conv_slK h'
 have HE := Lib.hid (bstr_eqlE h.ok h'.ok)
 obtain ⟨p, cap, rfl, -⟩ := h
 obtain ⟨q, caq, rfl, -⟩ := h'
 go_enter Tryz.func59, Tryz.ntmps59
 go_wp2
 go_ret
 exact ⟨ret_bE HE.out, rfl⟩
theorem flat_ok {α : Type} {f : α → List Int} (hf : ∀ x, bytesOk (f x)) (xs : List α) : bytesOk (xs.flatMap f) := by
 intro y hy
 obtain ⟨x, _, h⟩ := List.mem_flatMap.1 hy
 exact hf x y h
theorem app_ok {a b : List Int} (h : bytesOk a) (k : bytesOk b) : bytesOk (a ++ b) := fun x hx => (List.mem_append.1 hx).elim (h x) (k x)
theorem lstL_ok {α : Type} {f : α → List Int} (hf : ∀ x, bytesOk (f x)) (xs : List α) : bytesOk (lstL f xs) := by
 unfold lstL
 split
 ·exact app_ok (numL_ok _ _) (flat_ok hf xs)
 ·intro x hx; cases hx
theorem plL_ok (a c : Int) : bytesOk (plL a c) := app_ok (numL_ok _ _) (numL_ok _ _)
theorem mvL_ok (m : Mv) : bytesOk (mvL m) := app_ok (plL_ok _ _) (plL_ok _ _)
theorem lvL_ok (m : Lv) : bytesOk (lvL m) := app_ok (app_ok (app_ok (numL_ok _ _) (numL_ok _ _)) (numL_ok _ _)) (numL_ok _ _)
theorem dtL_ok (m : Dt) : bytesOk (dtL m) := app_ok (numL_ok _ _) (numL_ok _ _)
theorem opL_ok (m : Opn) : bytesOk (opL m) := app_ok (app_ok (numL_ok _ _) (numL_ok _ _)) (lstL_ok mvL_ok _)
theorem celL_ok {c : List Int} (h : bytesOk c) : bytesOk (celL c) := by
 unfold celL
 split
 ·exact app_ok (numL_ok _ _) h
 ·intro x hx; cases hx
theorem entL_okE {e : Ent} (ho : bytesOk e.old) (hn : bytesOk e.new) : bytesOk (entL e) := by
 unfold entL
 exact app_ok (app_ok (app_ok (app_ok (app_ok (app_ok (app_ok (app_ok (app_ok (app_ok (app_ok (app_ok (app_ok (numL_ok _ _) (numL_ok _ _)) (numL_ok _ _)) (numL_ok _ _)) (numL_ok _ _)) (numL_ok _ _)) (plL_ok _ _)) (plL_ok _ _)) (celL_ok ho)) (celL_ok hn)) (lstL_ok mvL_ok _)) (lstL_ok lvL_ok _)) (lstL_ok dtL_ok _)) (lstL_ok opL_ok _)
def tkB (l : List Int) : Bool := entB (entR l) && decide (l = entL (entR l))
def ent00 : Ent := ⟨0, 0, 0, 0, 0, 0, 0, 0, 0, 0, [], [], [], [], [], []⟩
def tkE (l : List Int) : Ent := if tkB l = true then entR l else ent00
def tkN (l : List Int) : Int := if tkB l = true then 0 else 4
theorem tk_yes {l : List Int} (h : tkB l = true) : tkE l = entR l ∧ tkN l = 0 := ⟨if_pos h, if_pos h⟩
theorem tk_no {l : List Int} (h : tkB l = false) : tkE l = ent00 ∧ tkN l = 4 := by unfold tkE tkN; rw [h]; exact ⟨rfl, rfl⟩
theorem setRow_alloc (w : World) (old cs : Array Value) (t : TypeId) : (w.alloc (.cells old t)).setRow w.heap.size cs = w.alloc (.cells cs t) := by
 have h := setRow_heap (w.alloc (.cells old t)) w.heap.size old cs t (0, 0) (heap_alloc_new w _)
 have e2 : ((w.alloc (.cells old t)).setRow w.heap.size cs).heap = (w.alloc (.cells cs t)).heap := by
  apply Array.ext_getElem?
  intro i
  by_cases hi : i = w.heap.size
  ·subst hi
   rw [h, heap_alloc_new]
  ·rw [setRow_far _ _ _ hi]
   show (w.heap.push _)[i]? = (w.heap.push _)[i]?
   rw [Array.getElem?_push, Array.getElem?_push, if_neg hi, if_neg hi]
 have e3 : ∀ a b : World, a.heap = b.heap → a.tape = b.tape → a.drawn = b.drawn → a.os = b.os → a.output = b.output → a = b := by
  intro a b h1 h2 h3 h4 h5
  cases a; cases b
  simp only at h1 h2 h3 h4 h5
  subst h1 h2 h3 h4 h5
  rfl
 exact e3 _ _ e2 rfl rfl rfl rfl
theorem ent0_F (w : World) (B : Nat) : EntF w B (.slice none 0 0) (.slice none 0 0) (.slice none 0 0) (.slice none 0 0) (.slice none 0 0) (.slice none 0 0) ent00 := by
 have h1 : SlF w B (.slice none 0 0) [] := ⟨slK_nil w, fun b hb => by cases hb⟩
 have h2 : ∀ k, ElF w B (.slice none 0 0) k [] := fun k => ⟨⟨none, 0, rfl, Nat.le_refl _, fun _ => rfl, fun a e => by cases e⟩, fun b hb => by cases hb⟩
 exact ⟨h1, h1, h2 4, h2 4, h2 2, ⟨[], rfl, (h2 3).1, (h2 3).2, fun o ho => by cases ho⟩⟩
def TkPost (w : World) (l : List Int) (e : Ending) (w' : World) : Prop := ∃ A1 n1 c1 A2 n2 c2 A3 n3 c3 A4 n4 c4 A5 n5 c5 A6 n6 c6, e = .returned (.tuple #[.agg (entC (tkE l) (.slice A1 n1 c1) (.slice A2 n2 c2) (.slice A3 n3 c3) (.slice A4 n4 c4) (.slice A5 n5 c5) (.slice A6 n6 c6)), .int .i64 (tkN l)]) ∧ EntF w' (w.heap.size + 1) (.slice A1 n1 c1) (.slice A2 n2 c2) (.slice A3 n3 c3) (.slice A4 n4 c4) (.slice A5 n5 c5) (.slice A6 n6 c6) (tkE l) ∧ Below w.heap.size w w'
theorem take_end {w : World} {tmps : Array Value} {g : Nat} {cs : Array Value} {n : Int} (h2 : tmps.getD 2 undef = .pointer (some ⟨g, 0, none⟩)) (h3 : tmps.getD 3 undef = .int .i64 n) (hb : w.heap[g]? = some (.cells cs 44 (0, 0))) (hs : cs.size = 16) :
  (results Tryz.f76 tmps).run Tryz.prog w = .ok (.tuple #[.agg cs, .int .i64 n]) w := by
 rw [Array.getD_eq_getD_getElem?] at h2 h3
 have hl := run_loadVar_row (P := Tryz.prog) w g 44 44 cs (0, 0) _ hb Tryz.underlying44 rfl (by rw [infoEnt, hs])
 simp [results, Tryz.results76, h2, h3, asAddr, hl]
set_option maxHeartbeats 4000000 in
theorem take_any (w : World) {sv : Value} {l : List Int} (h : SlK .u8 w sv l) (hI : EntI (entR l)) :
  Calls Tryz.prog 76 #[sv] w (TkPost w l) := by
 obtain ⟨A, c, rfl, q⟩ := h.form
 obtain ⟨W, hW⟩ : ∃ W, W = w.alloc (.cells ent0 44) := ⟨_, rfl⟩
 have hb0 : Below w.heap.size w W := by rw [hW]; exact (Below.refl _ _).alloc (Nat.le_refl _) _
 have hsz : W.heap.size = w.heap.size + 1 := by rw [hW]; simp
 have hbx : W.heap[w.heap.size]? = some (.cells ent0 44 (0, 0)) := by rw [hW]; exact heap_alloc_new w _
 have HS := Lib.hid h
 have HI := Lib.hid hI
 have HB0 := Lib.hid hb0
 have HSZ := Lib.hid hsz
 have HBX := Lib.hid hbx
 clear h hI hb0 hsz hbx
 go_enter Tryz.func76, Tryz.ntmps76
 go_upto_region 1 with (fail)
 show Code.wp _ _ _ _ (w.alloc (.cells ent0 44))
 rw [← hW]
 clear hW
 go_wp2_with fail
 refine (decode_any W (HS.out.below HB0.out (Nat.le_refl _))).mono ?_
 rintro r w2 ⟨A1, n1, c1, A2, n2, c2, A3, n3, c3, A4, n4, c4, A5, n5, c5, A6, n6, c6, rfl, hE, hb2⟩
 have hq : w.heap.size < W.heap.size := by rw [HSZ.out]; omega
 have HBo := Lib.hid (heap_alloc_new w2 (.cells #[.int .i64 0, .int .i64 0, .int .i64 0, .int .i64 0, .int .i64 0, .int .i64 0, .int .i64 0, .int .i64 0, .int .i64 0, .int .i64 0, .slice none 0 0, .slice none 0 0, .slice none 0 0, .slice none 0 0, .slice none 0 0, .slice none 0 0] 44))
 have HZI := Lib.hid (show (Tryz.prog.info? 44).map (·.size) = some (entC (entR l) (.slice A1 n1 c1) (.slice A2 n2 c2) (.slice A3 n3 c3) (.slice A4 n4 c4) (.slice A5 n5 c5) (.slice A6 n6 c6)).size from infoEnt)
 have HZA := Lib.hid (entC_all (entR l) A1 A2 A3 A4 A5 A6 n1 c1 n2 c2 n3 c3 n4 c4 n5 c5 n6 c6)
 have HZN := Lib.hid (show (#[.int .i64 0, .int .i64 0, .int .i64 0, .int .i64 0, .int .i64 0, .int .i64 0, .int .i64 0, .int .i64 0, .int .i64 0, .int .i64 0, .slice none 0 0, .slice none 0 0, .slice none 0 0, .slice none 0 0, .slice none 0 0, .slice none 0 0] : Array Value).size = (entC (entR l) (.slice A1 n1 c1) (.slice A2 n2 c2) (.slice A3 n3 c3) (.slice A4 n4 c4) (.slice A5 n5 c5) (.slice A6 n6 c6)).size from rfl)
 have HSA := Lib.hid (setRow_alloc w2 #[.int .i64 0, .int .i64 0, .int .i64 0, .int .i64 0, .int .i64 0, .int .i64 0, .int .i64 0, .int .i64 0, .int .i64 0, .int .i64 0, .slice none 0 0, .slice none 0 0, .slice none 0 0, .slice none 0 0, .slice none 0 0, .slice none 0 0] (entC (entR l) (.slice A1 n1 c1) (.slice A2 n2 c2) (.slice A3 n3 c3) (.slice A4 n4 c4) (.slice A5 n5 c5) (.slice A6 n6 c6)) 44)
 have hb3 : Below w2.heap.size w2 (w2.alloc (.cells (entC (entR l) (.slice A1 n1 c1) (.slice A2 n2 c2) (.slice A3 n3 c3) (.slice A4 n4 c4) (.slice A5 n5 c5) (.slice A6 n6 c6)) 44)) := (Below.refl _ _).alloc (Nat.le_refl _) _
 have hbx3 := (hb3.block w.heap.size (Nat.lt_of_lt_of_le hq hb2.size)).trans ((hb2.block w.heap.size hq).trans HBX.out)
 have hE3 : EntF (w2.alloc (.cells (entC (entR l) (.slice A1 n1 c1) (.slice A2 n2 c2) (.slice A3 n3 c3) (.slice A4 n4 c4) (.slice A5 n5 c5) (.slice A6 n6 c6)) 44)) (w.heap.size + 1) (.slice A1 n1 c1) (.slice A2 n2 c2) (.slice A3 n3 c3) (.slice A4 n4 c4) (.slice A5 n5 c5) (.slice A6 n6 c6) (entR l) := (hE.low (by omega)).at ⟨hb3.size, fun b _ hl => hb3.block b hl⟩
 have HBE := Lib.hid (heap_alloc_new w2 (.cells (entC (entR l) (.slice A1 n1 c1) (.slice A2 n2 c2) (.slice A3 n3 c3) (.slice A4 n4 c4) (.slice A5 n5 c5) (.slice A6 n6 c6)) 44))
 have HB3 := Lib.hid (HB0.out.trans ((hb2.mono (by omega)).trans (hb3.mono (Nat.le_trans (Nat.le_of_lt hq) hb2.size))))
 have HBX3 := Lib.hid hbx3
 have HE3 := Lib.hid hE3
 have HQ := Lib.hid (show w.heap.size < w2.heap.size from Nat.lt_of_lt_of_le hq hb2.size)
 clear hE hb2 hq hb3 hbx3 hE3
 go_upto_region 2 with (with_reducible refine wpList_store_row rfl 44 (.tmp 4) (.tmp 8) rfl w2.heap.size _ rfl rfl 44 _ HBo.out HZI.out HZN.out HZA.out ?_)
 rw [HSA.out]
 have HW3 : Hid (w2.heap.size < (w2.alloc (.cells (entC (entR l) (.slice A1 n1 c1) (.slice A2 n2 c2) (.slice A3 n3 c3) (.slice A4 n4 c4) (.slice A5 n5 c5) (.slice A6 n6 c6)) 44)).heap.size) := by show _ < _; simp
 generalize w2.alloc (.cells (entC (entR l) (.slice A1 n1 c1) (.slice A2 n2 c2) (.slice A3 n3 c3) (.slice A4 n4 c4) (.slice A5 n5 c5) (.slice A6 n6 c6)) 44) = w3 at *
 go_wp2_with (with_reducible refine wpList_load_row rfl 44 (.tmp 4) rfl w2.heap.size rfl 44 _ (0, 0) _ HBE.out Tryz.underlying44 rfl HZI.out ?_)
 refine (encode_any w3 (entR l) HE3.out.entS HI.out).mono ?_
 rintro r w4 ⟨Ac, mc, cc, rfl, hoc, hb4⟩
 have hE4 : EntF w4 (w.heap.size + 1) (.slice A1 n1 c1) (.slice A2 n2 c2) (.slice A3 n3 c3) (.slice A4 n4 c4) (.slice A5 n5 c5) (.slice A6 n6 c6) (entR l) := HE3.out.at ⟨hb4.size, fun b _ hl => hb4.block b hl⟩
 have h34 : w2.heap.size < w3.heap.size := HW3.out
 have hbx4 := (hb4.block w.heap.size (by have := HQ.out; omega)).trans HBX3.out
 have hbe4 := (hb4.block w2.heap.size HW3.out).trans HBE.out
 have hbel4 : Below w.heap.size w w4 := HB3.out.trans (hb4.mono (by have := HQ.out; omega))
 have HE4 := Lib.hid hE4
 have HB4 := Lib.hid hbel4
 have HX4 := Lib.hid hbx4
 have HBE4 := Lib.hid hbe4
 have HOC := Lib.hid hoc
 clear hoc hb4 hE4 h34 hbx4 hbe4 hbel4
 have HZN2 := Lib.hid (show ent0.size = (entC (entR l) (.slice A1 n1 c1) (.slice A2 n2 c2) (.slice A3 n3 c3) (.slice A4 n4 c4) (.slice A5 n5 c5) (.slice A6 n6 c6)).size from rfl)
 have HN0 := Lib.hid (show ent0.size = (#[.int .i64 0, .int .i64 0, .int .i64 0, .int .i64 0, .int .i64 0, .int .i64 0, .int .i64 0, .int .i64 0, .int .i64 0, .int .i64 0, .slice none 0 0, .slice none 0 0, .slice none 0 0, .slice none 0 0, .slice none 0 0, .slice none 0 0] : Array Value).size from rfl)
 have HI0 := Lib.hid (show (Tryz.prog.info? 44).map (·.size) = some (#[.int .i64 0, .int .i64 0, .int .i64 0, .int .i64 0, .int .i64 0, .int .i64 0, .int .i64 0, .int .i64 0, .int .i64 0, .int .i64 0, .slice none 0 0, .slice none 0 0, .slice none 0 0, .slice none 0 0, .slice none 0 0, .slice none 0 0] : Array Value).size from infoEnt)
 have HA0 := Lib.hid (show (#[.int .i64 0, .int .i64 0, .int .i64 0, .int .i64 0, .int .i64 0, .int .i64 0, .int .i64 0, .int .i64 0, .int .i64 0, .int .i64 0, .slice none 0 0, .slice none 0 0, .slice none 0 0, .slice none 0 0, .slice none 0 0, .slice none 0 0] : Array Value).all (·.oneCell') = true from by simp [Value.oneCell'])
 have fin_no : tkB l = false → TkPost w l (.returned (.tuple #[.agg ent0, .int .i64 4])) (w4.setRow w.heap.size #[.int .i64 0, .int .i64 0, .int .i64 0, .int .i64 0, .int .i64 0, .int .i64 0, .int .i64 0, .int .i64 0, .int .i64 0, .int .i64 0, .slice none 0 0, .slice none 0 0, .slice none 0 0, .slice none 0 0, .slice none 0 0, .slice none 0 0]) := fun ht => by
  obtain ⟨t1, t2⟩ := tk_no ht
  exact ⟨none, 0, 0, none, 0, 0, none, 0, 0, none, 0, 0, none, 0, 0, none, 0, 0, by rw [t1, t2]; rfl, by rw [t1]; exact ent0_F _ _, HB4.out.trans (setRow_below _ _ _ (Nat.le_refl _))⟩
 have FNO := Lib.hid fin_no
 have HR0 := Lib.hid (setRow_heap w4 w.heap.size ent0 #[.int .i64 0, .int .i64 0, .int .i64 0, .int .i64 0, .int .i64 0, .int .i64 0, .int .i64 0, .int .i64 0, .int .i64 0, .int .i64 0, .slice none 0 0, .slice none 0 0, .slice none 0 0, .slice none 0 0, .slice none 0 0, .slice none 0 0] _ _ HX4.out)
 cases hB : entB (entR l) with
 | false =>
  have HT := Lib.hid (show tkB l = false from by unfold tkB; rw [hB]; rfl)
  clear hB fin_no
  go_wp2_with (with_reducible refine wpList_store_row rfl 44 (.tmp 2) (.tmp 22) rfl w.heap.size _ rfl rfl 44 _ HX4.out HI0.out HN0.out HA0.out ?_)
  refine bodyPost_ret (v := .tuple #[.agg ent0, .int .i64 4]) ?_ rfl (FNO.out HT.out)
  exact take_end rfl rfl HR0.out rfl
 | true =>
  have HP := Lib.hid (putL_yes hB)
  have HBT := Lib.hid hB
  have hoc : w4.ownsRow w3.heap.size 5 1 (.slice Ac mc cc) (entL (entR l)).length (byteV (entL (entR l))) := by have := HOC.out; rw [HP.out] at this; exact this
  have hsc : SlK .u8 w4 (.slice Ac mc cc) (entL (entR l)) := own_slK hoc (entL_okE HE4.out.old.1.ok HE4.out.new.1.ok)
  have hsb : SlK .u8 w4 (.slice A l.length c) l := HS.out.below HB4.out (Nat.le_refl _)
  have HEQ := Lib.hid (equalE_any w4 _ _ _ _ hsb hsc)
  clear hB hoc hsc hsb fin_no
  cases hq : decide (l = entL (entR l)) with
  | false =>
   have HT := Lib.hid (show tkB l = false from by unfold tkB; rw [HBT.out, hq]; rfl)
   rw [hq] at HEQ
   clear hq
   go_wp2_with (first
    | (go_at_call 59; refine HEQ.out.mono ?_; rintro e w5 ⟨rfl, rfl⟩)
    | (with_reducible refine wpList_store_row rfl 44 (.tmp 2) (.tmp 22) rfl w.heap.size _ rfl rfl 44 _ HX4.out HI0.out HN0.out HA0.out ?_))
   refine bodyPost_ret (v := .tuple #[.agg ent0, .int .i64 4]) ?_ rfl (FNO.out HT.out)
   exact take_end rfl rfl HR0.out rfl
  | true =>
   have HT := Lib.hid (show tkB l = true from by unfold tkB; rw [HBT.out, hq]; rfl)
   rw [hq] at HEQ
   clear hq
   have HR1 := Lib.hid (setRow_heap w4 w.heap.size ent0 (entC (entR l) (.slice A1 n1 c1) (.slice A2 n2 c2) (.slice A3 n3 c3) (.slice A4 n4 c4) (.slice A5 n5 c5) (.slice A6 n6 c6)) _ _ HX4.out)
   go_wp2_with (first
    | (go_at_call 59; refine HEQ.out.mono ?_; rintro e w5 ⟨rfl, rfl⟩)
    | (with_reducible refine wpList_load_row rfl 44 (.tmp 4) rfl w2.heap.size rfl 44 _ (0, 0) _ HBE4.out Tryz.underlying44 rfl HZI.out ?_)
    | (with_reducible refine wpList_store_row rfl 44 (.tmp 2) (.tmp 23) rfl w.heap.size _ rfl rfl 44 _ HX4.out HZI.out HZN2.out HZA.out ?_))
   refine bodyPost_ret (v := .tuple #[.agg (entC (entR l) (.slice A1 n1 c1) (.slice A2 n2 c2) (.slice A3 n3 c3) (.slice A4 n4 c4) (.slice A5 n5 c5) (.slice A6 n6 c6)), .int .i64 0]) ?_ rfl ?_
   ·exact take_end rfl rfl HR1.out rfl
   ·obtain ⟨t1, t2⟩ := tk_yes HT.out
    exact ⟨A1, n1, c1, A2, n2, c2, A3, n3, c3, A4, n4, c4, A5, n5, c5, A6, n6, c6, by rw [t1, t2], by rw [t1]; exact HE4.out.at (Kpt.row _ _ (by omega)), HB4.out.trans (setRow_below _ _ _ (Nat.le_refl _))⟩
end Go.Proofs.YthmgafcnoedmjaaGreat
namespace Go.Proofs.YthmgafcnoedmjaaGreat
open Go.RowKit Go.Maps Go.ChangeMaps Go.MapKept
open Go.WideElems (Fit rd rg pl rd_val elemAt)
def tokR (v : Value) : Option (DataW Value × List MemPlace) := some (.held v, [])
def atF (D : DataW Value) (i : Int) : Option Value := match D.atKey (.int .i64 i) .nil with | .held v => some v | _ => none
def fm (w : World) (P : Program) (k b : Nat) (m : Int → Option Value) : Prop := ∃ D : DataW Value, w.ownsMap P k tokR b (size D) D ∧ ∀ i, m i = atF D i
def upd {α : Type} (m : Int → α) (i : Int) (v : α) : Int → α := fun j => if j = i then v else m j
theorem upd_same {α : Type} (m : Int → α) (i : Int) (v : α) : upd m i v i = v := by simp [upd]
theorem upd_other {α : Type} (m : Int → α) {i j : Int} (h : j ≠ i) (v : α) : upd m i v j = m j := by simp [upd, h]
section
variable {P : Program} {k t e b : Nat} {m : Int → Option Value} {w : World} {D : DataW Value} {n : Nat}
theorem owns_size (h : w.ownsMap P k tokR b n D) : w.ownsMap P k tokR b (size D) D := by
 obtain ⟨es, clock, hb, F, hs, hD⟩ := h
 exact ⟨es, clock, hb, F, by subst hD; simp [size, length_sorted], hD⟩
theorem keyLit (i : Int) : WideAt.IsKeyLit (.int .i64 i) := by trivial
theorem fm.lt (h : fm w P k b m) : b < w.heap.size := by obtain ⟨D, hD, _⟩ := h; exact hD.lt
theorem fm.of_block {w' : World} (h : fm w P k b m) (hb : w'.heap[b]? = w.heap[b]?) : fm w' P k b m := by
 obtain ⟨D, ⟨es, clock, h1, h2⟩, hm⟩ := h
 exact ⟨D, ⟨es, clock, hb.trans h1, h2⟩, hm⟩
theorem fm_made (w : World) (P : Program) (k : Nat) : fm (w.alloc (.map #[] 0)) P k w.heap.size (fun _ => none) :=
 ⟨.map [], World.ownsMap_made w P k tokR, fun _ => rfl⟩
theorem atKey_has {i : Int} (h : has D (.int .i64 i) = true) (z z' : DataW Value) : D.atKey (.int .i64 i) z = D.atKey (.int .i64 i) z' := by
 cases D <;> try (cases h; done)
 rename_i es
 unfold DataW.atKey
 cases hf : es.find? (fun p => p.1.sameKey (.int .i64 i)) with
 | some p => simp [hf]
 | none =>
  rw [has_eq] at h
  obtain ⟨p, hp, hs⟩ := List.any_eq_true.1 h
  exact absurd hs (by simpa using List.find?_eq_none.1 hf p hp)
theorem look_atF (h : w.ownsMap P k tokR b n D) (K : Keyed P k) (ht : P.underlying t = some (.map k e)) (hk : P.underlying k = some (.int .i64)) {z : Value} (hz : (zeroValue e).run P w = .ok z w) {i : Int} (hw : (Lit.int .i64 i).wf = true) :
  (Instr.lookup t (.map (some b)) (.int .i64 i) true).run P w = .ok (.tuple #[(atF D i).getD z, .bool (atF D i).isSome]) w ∧ (Instr.lookup t (.map (some b)) (.int .i64 i) false).run P w = .ok ((atF D i).getD z) w ∧ has D (.int .i64 i) = (atF D i).isSome := by
 have hkey := keyOf_int_mk hk hw
 obtain ⟨v, ps, hrun, hv⟩ := h.look_ok K ht hz (zd := .held z) (zp := []) rfl hkey
 obtain ⟨v', ps', hrun', hv'⟩ := h.lookup K ht hz (zd := .held z) (zp := []) rfl hkey
 have e1 : D.atKey (.int .i64 i) (.held z) = .held v := by have := congrArg (Option.map Prod.fst) hv; simpa [tokR] using this.symm
 have e2 : D.atKey (.int .i64 i) (.held z) = .held v' := by have := congrArg (Option.map Prod.fst) hv'; simpa [tokR] using this.symm
 have e3 : v' = v := by have := e2.symm.trans e1; simpa using this
 subst e3
 cases hh : has D (.int .i64 i) with
 | true =>
  have e4 : atF D i = some v' := by unfold atF; rw [atKey_has hh .nil (.held z), e1]
  rw [hh] at hrun
  rw [e4]
  exact ⟨hrun, hrun', rfl⟩
 | false =>
  have e4 : atF D i = none := by unfold atF; rw [atKey_of_not_has hh]
  have e5 : v' = z := by have := e1.symm.trans (atKey_of_not_has hh _); simpa using this
  subst e5
  rw [hh] at hrun
  rw [e4]
  exact ⟨hrun, hrun', rfl⟩
theorem fm.look (h : fm w P k b m) (K : Keyed P k) (ht : P.underlying t = some (.map k e)) (hk : P.underlying k = some (.int .i64)) {z : Value} (hz : (zeroValue e).run P w = .ok z w) {i : Int} (hw : (Lit.int .i64 i).wf = true) :
  (Instr.lookup t (.map (some b)) (.int .i64 i) false).run P w = .ok ((m i).getD z) w := by
 obtain ⟨D, hD, hm⟩ := h
 rw [hm i]; exact (look_atF hD K ht hk hz hw).2.1
theorem fm.look_ok (h : fm w P k b m) (K : Keyed P k) (ht : P.underlying t = some (.map k e)) (hk : P.underlying k = some (.int .i64)) {z : Value} (hz : (zeroValue e).run P w = .ok z w) {i : Int} (hw : (Lit.int .i64 i).wf = true) :
  (Instr.lookup t (.map (some b)) (.int .i64 i) true).run P w = .ok (.tuple #[(m i).getD z, .bool (m i).isSome]) w := by
 obtain ⟨D, hD, hm⟩ := h
 rw [hm i]; exact (look_atF hD K ht hk hz hw).1
theorem atF_put (h : w.ownsMap P k tokR b n D) {i : Int} (v : Value) (j : Int) : atF (D.put (.int .i64 i) (.held v)) j = upd (atF D) i (some v) j := by
 unfold upd
 by_cases hj : j = i
 ·subst hj
  rw [if_pos rfl]
  unfold atF
  rw [atKey_put_same h.isMap (keyLit _)]
 ·rw [if_neg hj]
  unfold atF
  rw [atKey_put_other (by intro e; exact hj (by simpa using e))]
theorem keys_facts (h : w.ownsMap P k tokR b n D) (K : Keyed P k) (hk : P.underlying k = some (.int .i64)) : (intKeys D).Nodup ∧ (∀ x, x ∈ intKeys D ↔ has D (.int .i64 x) = true) ∧ (intKeys D).length = size D := by
 obtain ⟨es, hD, hpw, _⟩ := h.entries K
 obtain ⟨es', hD', hko⟩ := h.keysOf
 obtain rfl : es = es' := by rw [hD] at hD'; simpa using hD'
 subst hD
 have hks : ∀ p ∈ es, ∃ x, p.1 = .int .i64 x := fun p hp => by obtain ⟨v, hv⟩ := hko p hp; obtain ⟨x, _, hx, _⟩ := Maps.keyOf_i64 hk hv; exact ⟨x, hx⟩
 refine ⟨?_, fun x => ?_, by simp [intKeys, size]⟩
 ·show (es.map fun p => intOf p.1).Nodup
  refine List.pairwise_map.2 (hpw.imp_of_mem fun {p q} hp' hq' hne e => hne ?_)
  obtain ⟨a, ha⟩ := hks p hp'
  obtain ⟨b, hb⟩ := hks q hq'
  rw [ha, hb] at e ⊢
  exact congrArg _ e
 ·rw [has_eq, List.any_eq_true]
  show x ∈ es.map (fun p => intOf p.1) ↔ _
  rw [List.mem_map]
  constructor
  ·rintro ⟨p, hp', rfl⟩
   obtain ⟨a, ha⟩ := hks p hp'
   exact ⟨p, hp', by rw [ha]; simp [Lit.sameKey, intOf]⟩
  ·rintro ⟨p, hp', hs⟩
   obtain ⟨a, ha⟩ := hks p hp'
   rw [ha] at hs
   exact ⟨p, hp', by rw [ha]; simpa [Lit.sameKey, intOf] using hs⟩
theorem nodup_bound {l : List Int} (h : l.Nodup) {N : Nat} (hb : ∀ x ∈ l, 0 ≤ x ∧ x < N) : l.length ≤ N := by
 have h1 : (l.map Int.toNat).Nodup := by
  refine List.pairwise_map.2 (h.imp_of_mem fun {p q} hp hq hne e => hne ?_)
  have := hb p hp; have := hb q hq; omega
 have h2 := List.Nodup.length_le_of_subset h1 (l₂ := List.range N) (by
  intro x hx
  obtain ⟨y, hy, rfl⟩ := List.mem_map.1 hx
  have := hb y hy
  exact List.mem_range.2 (by omega))
 simpa using h2
theorem size_bound (h : w.ownsMap P k tokR b n D) (K : Keyed P k) (ht : P.underlying t = some (.map k e)) (hk : P.underlying k = some (.int .i64)) {z : Value} (hz : (zeroValue e).run P w = .ok z w) {N : Nat} (hb : ∀ i, (atF D i).isSome = true → 0 ≤ i ∧ i < N) : size D ≤ N := by
 obtain ⟨h1, h2, h3⟩ := keys_facts h K hk
 rw [← h3]
 refine nodup_bound h1 fun x hx => hb x ?_
 have hw := intKeys_wf h hk x hx
 rw [← (look_atF h K ht hk hz hw).2.2]
 exact (h2 x).1 hx
theorem fm.store (h : fm w P k b m) (K : Keyed P k) (ht : P.underlying t = some (.map k e)) (hk : P.underlying k = some (.int .i64)) {z : Value} (hz : (zeroValue e).run P w = .ok z w) {N : Nat} (hN : N < maxLen) (hb : ∀ i, (m i).isSome = true → 0 ≤ i ∧ i < N)
  {i : Int} (hw : (Lit.int .i64 i).wf = true) (v : Value) : ∃ w', (Instr.mapUpdate t (.map (some b)) (.int .i64 i) v).run P w = .ok () w' ∧ fm w' P k b (upd m i (some v)) ∧ w.mapTurned w' b := by
 obtain ⟨D, hD, hm⟩ := h
 have hs := size_bound hD K ht hk hz (N := N) (fun i hi => hb i (by rw [hm i]; exact hi))
 obtain ⟨w', r1, r2, r3⟩ := hD.store K ht (by omega) (keyOf_int_mk hk hw) (d := .held v) (ps := []) (val := v) rfl
 refine ⟨w', r1, ⟨_, owns_size r2, fun j => ?_⟩, r3⟩
 rw [atF_put hD v j]
 unfold upd
 rw [hm j]
theorem fm.clear (h : fm w P k b m) (ht : P.underlying t = some (.map k e)) (ty : TypeId) : ∃ w', (Builtin.clear_ #[t] ty #[.map (some b)]).run P w = .ok (.tuple #[]) w' ∧ fm w' P k b (fun _ => none) ∧ w.mapTurned w' b := by
 obtain ⟨D, ⟨es, clock, hb, F, hs, hD⟩, hm⟩ := h
 refine ⟨setBlock w b (.map #[] clock), ?_, ⟨.map [], ⟨#[], clock, heap_setBlock_same hb _, ⟨by simp, stamped_empty clock, by simp⟩, by simp [size], rfl⟩, fun _ => rfl⟩, ⟨es, clock, #[], clock, hb, rfl⟩⟩
 simp [Builtin.clear_, run_underlying ht, MapKept.run_getObj_map hb, MapKept.run_setObj_map _ hb, Result.andThen, setBlock]
end
section
variable {P : Program} {w : World}
theorem wpList_clear {ops : Array Oper} {rest : List Oper} {o : Oper} {a : Act} {Q : Exit → Act → World → Prop} (hg : o.guard = none) (x : Operand) (t : TypeId) (hop : o.op = Op.call { callee := Callee.builtin Builtin.clear, args := #[x], argTypes := #[t] })
  (k e b : Nat) (m : Int → Option Value) (ht : P.underlying t = some (.map k e)) (hx : a.eval x = .map (some b)) (h : fm w P k b m)
  (hK : ∀ w', fm w' P k b (fun _ => none) → w.mapTurned w' b → wpList P ops Q rest (a.put o.dst (.tuple #[])) w') : wpList P ops Q (o :: rest) a w := by
 refine wpList_plain hg fun K' hK' => ?_
 obtain ⟨w', hrun, r1, r2⟩ := h.clear ht o.type
 unfold Oper.wp
 simp [execOp, hop, resolve, invoke, builtin, hx, hrun, Result.andThen]
 exact hK' _ _ (hK w' r1 r2)
theorem wpStill_load_row {ops : Array Oper} {rest : List Oper} {o : Oper} {a : Act} {Q : Act → Prop} (hgd : o.guard = none) (ty : TypeId) (x : Operand) (ho : o.op = .load ty x)
  (g : Nat) (hx : a.eval x = .pointer (some ⟨g, 0, none⟩)) (t : TypeId) (cs : Array Value) (fr : Nat × Nat) (d : TypeDesc) (hg : w.heap[g]? = some (.cells cs t fr))
  (hu : P.underlying ty = some d) (hd : (match d with | .struct _ | .array _ _ => true | _ => false) = true) (hi : (P.info? ty).map (·.size) = some cs.size)
  (h : wpStill P ops w Q rest (a.put o.dst (.agg cs))) : wpStill P ops w Q (o :: rest) a := by
 refine wpStill_step fun K hK => ?_
 have hw : Region.wanted o (yielded ops a.tmps) = true := by simp [Region.wanted, hgd]
 rw [if_pos hw]
 unfold Oper.still execOp
 simp only [ho, hx, Instr.loadAt, Instr.sureAddr, Sem.run_bind, Sem.run_pure, Result.andThen_ok, run_loadVar_row w g t ty cs fr d hg hu hd hi]
 exact ⟨rfl, hK _ h⟩
end
end Go.Proofs.YthmgafcnoedmjaaGreat
namespace Go.Proofs.YthmgafcnoedmjaaGreat
open Go.RowKit Go.Maps
structure Dk where
 tiles : Int
 now : Int → Option Value
 old : Int → Option Value
 dead : Bool
 set : Bool
 left : Int
 mv : Value
 mask : List Int
def SlB (w : World) (v : Value) (l : List Int) (g : Nat) : Prop := ∃ p len cap, v = .slice p len cap ∧ len = l.length ∧ len ≤ cap ∧ len ≤ 1000000 ∧ (p = none → l = []) ∧ ∀ a, p = some a → l ≠ [] → a.block = g ∧ a.spot = none ∧ ∀ j (h : j < l.length), w.cell? ⟨g, a.off + j, none⟩ = some (.int .u8 l[j])
def IsBlk (v : Value) : Prop := ∃ l : List Int, l.length = 64 ∧ (∀ x ∈ l, 0 ≤ x ∧ x < 256) ∧ v = .agg (l.map (Value.int .u8)).toArray
structure Dk.Ok (d : Dk) : Prop where
 lo : 0 ≤ d.tiles
 hi : d.tiles ≤ 2000
 now : ∀ i v, d.now i = some v → 0 ≤ i ∧ i < d.tiles ∧ IsBlk v
 old : ∀ i v, d.old i = some v → 0 ≤ i ∧ i < d.tiles ∧ IsBlk v
 llo : 0 ≤ d.left
 lhi : d.left ≤ 9223372036854775807
 mok : bytesOk d.mask
structure DiskAt (w : World) (p bn bo g : Nat) (d : Dk) : Prop where
 cells : w.heap[p]? = some (.cells #[.int .i64 d.tiles, .map (some bn), .map (some bo), .bool d.dead, .bool d.set, .int .i64 d.left, d.mv] 75 (0, 0))
 now : fm w Tryz.prog 3 bn d.now
 old : fm w Tryz.prog 3 bo d.old
 mask : SlB w d.mv d.mask g
 ne : bn ≠ bo ∧ p ≠ bn ∧ p ≠ bo ∧ g ≠ p
 ok : d.Ok
section
variable {w : World} {p bn bo g : Nat} {d : Dk}
theorem DiskAt.c0 (h : DiskAt w p bn bo g d) : w.cell? ⟨p, 0, none⟩ = some (.int .i64 d.tiles) := (c_o h.cells 0).1
theorem DiskAt.c1 (h : DiskAt w p bn bo g d) : w.cell? ⟨p, 1, none⟩ = some (.map (some bn)) := (c_o h.cells 1).1
theorem DiskAt.c2 (h : DiskAt w p bn bo g d) : w.cell? ⟨p, 2, none⟩ = some (.map (some bo)) := (c_o h.cells 2).1
theorem DiskAt.c3 (h : DiskAt w p bn bo g d) : w.cell? ⟨p, 3, none⟩ = some (.bool d.dead) := (c_o h.cells 3).1
theorem DiskAt.c4 (h : DiskAt w p bn bo g d) : w.cell? ⟨p, 4, none⟩ = some (.bool d.set) := (c_o h.cells 4).1
theorem DiskAt.c5 (h : DiskAt w p bn bo g d) : w.cell? ⟨p, 5, none⟩ = some (.int .i64 d.left) := (c_o h.cells 5).1
theorem DiskAt.c6 (h : DiskAt w p bn bo g d) : w.cell? ⟨p, 6, none⟩ = some d.mv := (c_o h.cells 6).1
theorem DiskAt.fz (h : DiskAt w p bn bo g d) (i : Nat) : w.frozen? ⟨p, i, none⟩ = false := (c_o h.cells i).2
end
theorem dead_any (w : World) {p bn bo g : Nat} {d : Dk} (h : DiskAt w p bn bo g d) : Calls Tryz.prog 22 #[.pointer (some ⟨p, 0, none⟩)] w fun e w' => e = .returned (.bool d.dead) ∧ w' = w := by
 have c3 := h.c3
 go_enter Tryz.func22, Tryz.ntmps22
 go_wp2
 go_ret
 exact ⟨rfl, rfl⟩
theorem tiles_any (w : World) {p bn bo g : Nat} {d : Dk} (h : DiskAt w p bn bo g d) : Calls Tryz.prog 35 #[.pointer (some ⟨p, 0, none⟩)] w fun e w' => e = .returned (.int .i64 d.tiles) ∧ w' = w := by
 have c0 := h.c0
 go_enter Tryz.func35, Tryz.ntmps35
 go_wp2
 go_ret
 exact ⟨rfl, rfl⟩
theorem ready_any (w : World) {p bn bo g : Nat} {d : Dk} (h : DiskAt w p bn bo g d) : Calls Tryz.prog 44 #[.pointer (some ⟨p, 0, none⟩)] w fun e w' => e = .returned (.int .i64 (if d.dead then 2 else 0)) ∧ w' = w := by
 have c3 := h.c3
 cases hd : d.dead
 all_goals
  rw [hd] at c3
  go_enter Tryz.func44, Tryz.ntmps44
  go_wp2
  go_ret
  exact ⟨rfl, rfl⟩
theorem has_any (w : World) {p bn bo g : Nat} {d : Dk} (h : DiskAt w p bn bo g d) (at_ : Int) : Calls Tryz.prog 45 #[.pointer (some ⟨p, 0, none⟩), .int .i64 at_] w fun e w' => e = .returned (.bool (decide (0 ≤ at_ ∧ at_ < d.tiles))) ∧ w' = w := by
 have c0 := h.c0
 by_cases h0 : 0 ≤ at_
 ·by_cases h1 : at_ < d.tiles
  ·have e1 : decide (0 ≤ at_ ∧ at_ < d.tiles) = true := by simp; omega
   rw [e1]
   go_enter Tryz.func45, Tryz.ntmps45
   go_wp2
   go_ret
   exact ⟨rfl, rfl⟩
  ·have e1 : decide (0 ≤ at_ ∧ at_ < d.tiles) = false := by simp; omega
   rw [e1]
   go_enter Tryz.func45, Tryz.ntmps45
   go_wp2
   go_ret
   exact ⟨rfl, rfl⟩
 ·have e1 : decide (0 ≤ at_ ∧ at_ < d.tiles) = false := by simp; omega
  rw [e1]
  go_enter Tryz.func45, Tryz.ntmps45
  go_wp2
  go_ret
  exact ⟨rfl, rfl⟩
structure Fr (B : Nat) (S : Nat → Prop) (w w' : World) : Prop where
 os : w'.os = w.os
 tape : w'.tape = w.tape
 output : w'.output = w.output
 size : w.heap.size ≤ w'.heap.size
 block : ∀ k, k < B → ¬ S k → w'.heap[k]? = w.heap[k]?
def Three (p bn bo : Nat) : Nat → Prop := fun k => k = p ∨ k = bn ∨ k = bo
section
variable {B : Nat} {S : Nat → Prop} {a w w' : World}
theorem Fr.refl (B : Nat) (S : Nat → Prop) (w : World) : Fr B S w w := ⟨rfl, rfl, rfl, Nat.le_refl _, fun _ _ _ => rfl⟩
theorem Fr.trans {b c : World} {B' : Nat} {S' : Nat → Prop} (h : Fr B S a b) (k : Fr B' S' b c) (hB : B ≤ B') (hS : ∀ x, x < B → S' x → S x) : Fr B S a c :=
 ⟨k.os.trans h.os, k.tape.trans h.tape, k.output.trans h.output, Nat.le_trans h.size k.size, fun i hi hn => (k.block i (by omega) (fun e => hn (hS i hi e))).trans (h.block i hi hn)⟩
theorem Fr.drew (h : Fr B S a w) : Fr B S a w.drew := ⟨h.os, h.tape, h.output, h.size, h.block⟩
theorem Fr.alloc (h : Fr B S a w) (hB : B ≤ w.heap.size) (o : Obj) : Fr B S a (w.alloc o) :=
 ⟨h.os, h.tape, h.output, by have := h.size; simp; omega, fun k hk hn => (Below.heap_alloc _ _ _ (by omega)).trans (h.block k hk hn)⟩
theorem Fr.setCell (h : Fr B S a w) {p : Addr} (hp : S p.block ∨ B ≤ p.block) (u : Value) : Fr B S a (w.setCell p u) :=
 ⟨h.os, h.tape, h.output, by have := h.size; simpa [World.setCell] using this, fun k hk hn => (Below.heap_setCell _ _ _ _ (by rintro rfl; rcases hp with hp | hp; exact hn hp; omega)).trans (h.block k hk hn)⟩
theorem Fr.turned (h : Fr B S a w) {b : Nat} (hb : S b ∨ B ≤ b) (ht : w.mapTurned w' b) : Fr B S a w' := by
 have hg := ht.grown
 refine ⟨hg.os.trans h.os, hg.tape.trans h.tape, hg.output.trans h.output, Nat.le_trans h.size hg.size, fun k hk hn => ?_⟩
 obtain ⟨es, clock, es', clock', hb2, rfl⟩ := ht
 exact (ChangeMaps.heap_setBlock_other hb2 _ (by rintro rfl; rcases hb with hb | hb; exact hn hb; omega)).trans (h.block k hk hn)
end
theorem cutNow_un (w : World) {p bn bo g : Nat} {d : Dk} (h : DiskAt w p bn bo g d) (hs : d.set = false) : Calls Tryz.prog 47 #[.pointer (some ⟨p, 0, none⟩)] w fun e w' => e = .returned (.bool false) ∧ w' = w := by
 have c4 := h.c4
 rw [hs] at c4
 go_enter Tryz.func47, Tryz.ntmps47
 go_wp2
 go_ret
 exact ⟨rfl, rfl⟩
theorem cutNow_now (w : World) {p bn bo g : Nat} {d : Dk} (h : DiskAt w p bn bo g d) (hs : d.set = true) (hl : d.left = 0) : Calls Tryz.prog 47 #[.pointer (some ⟨p, 0, none⟩)] w fun e w' => e = .returned (.bool true) ∧ w' = w := by
 have c4 := h.c4
 have c5 := h.c5
 rw [hs] at c4
 rw [hl] at c5
 go_enter Tryz.func47, Tryz.ntmps47
 go_wp2
 go_ret
 exact ⟨rfl, rfl⟩
theorem cutNow_later (w : World) {p bn bo g : Nat} {d : Dk} (h : DiskAt w p bn bo g d) (hs : d.set = true) (hl : d.left ≠ 0) : Calls Tryz.prog 47 #[.pointer (some ⟨p, 0, none⟩)] w fun e w' => e = .returned (.bool false) ∧ w' = w.setCell ⟨p, 5, none⟩ (.int .i64 (d.left - 1)) := by
 have c4 := h.c4
 have c5 := h.c5
 have f5 := h.fz 5
 rw [hs] at c4
 have l1 := h.ok.llo
 have l2 := h.ok.lhi
 have hb : (d.left == 0) = false := by simpa using hl
 go_enter Tryz.func47, Tryz.ntmps47
 go_wp2
 go_ret
 exact ⟨rfl, rfl⟩
theorem power_any (w : World) {p bn bo g : Nat} {d : Dk} (h : DiskAt w p bn bo g d) : Calls Tryz.prog 23 #[.pointer (some ⟨p, 0, none⟩)] w fun e w' => e = .returned (.tuple #[]) ∧ w' = w.setCell ⟨p, 3, none⟩ (.bool false) := by
 have c3 := h.c3
 have f3 := h.fz 3
 go_enter Tryz.func23, Tryz.ntmps23
 go_wp2
 go_end0
 exact ⟨rfl, rfl⟩
end Go.Proofs.YthmgafcnoedmjaaGreat
