/- TrailAll, a part. -/
import Derived.Test.YthmgafcnoedmjaaGreatQ42
import Derived.Test.YthmgafcnoedmjaaGreatQ25
namespace Go.Proofs.YthmgafcnoedmjaaGreat
set_option maxRecDepth 100000
theorem zok_iff {s : ZS} {k : Nat} : zok s k = true ↔ s.2 = false ∧ k ≤ s.1.length := by
 unfold zok
 simp only [Bool.and_eq_true, Bool.not_eq_true', decide_eq_true_eq]
theorem zr_bad {s : ZS} {k : Nat} (h : (zr s k).2 = false) : zok s k = true := by
 cases e : zok s k
 ·unfold zr at h; rw [e] at h; cases h
 ·rfl
theorem numL_numR : ∀ (k : Nat) (l : List Int), bytesOk l → k ≤ l.length → numL (numR l k) k = l.take k
 | 0, _, _, _ => rfl
 | k + 1, l, h, hk => by
  have ih := numL_numR k l h (by omega)
  have hb := getD_ok h k
  have hR := numR_bd h k
  rw [numR_S (show k < l.length by omega), List.take_succ_eq_append_getElem (show k < l.length by omega), ← ih]
  have e : l.getD k 0 = l[k]'(by omega) := by rw [List.getD_eq_getElem?_getD, List.getElem?_eq_getElem (by omega)]; rfl
  rw [e] at hb ⊢
  generalize l[k]'(by omega) = x at *
  generalize numR l k = N at *
  clear ih e
  obtain ⟨h0, h1⟩ := hR
  have key : ∀ (j : Nat) (N : Int), 0 ≤ N → numL (N * 256 + x) (j + 1) = numL N j ++ [x] := fun j => by
   induction j with
   | zero => intro N hN; simp [numL]; omega
   | succ j ih =>
    intro N hN
    show ((N * 256 + x) / 256 ^ (j + 1) % 256) :: numL (N * 256 + x) (j + 1) = (N / 256 ^ j % 256 :: numL N j) ++ [x]
    rw [ih N hN, List.cons_append]
    have e := @Int.ediv_ediv (N * 256 + x) 256 (256 ^ j)
    rw [if_neg (by omega), Int.sub_zero] at e
    rw [Int.pow_succ, Int.mul_comm (256 ^ j), ← e, show (N * 256 + x) / 256 = N by omega]
  exact key k N h0
theorem zr_eat {s : ZS} (hs : bytesOk s.1) {k : Nat} (h : (zr s k).2 = false) : s.2 = false ∧ s.1 = numL (zv s k) k ++ (zr s k).1 ∧ fitB (zv s k) k = true ∧ bytesOk (zr s k).1 := by
 have ho := zr_bad h
 obtain ⟨h1, h2⟩ := zok_iff.1 ho
 have e1 : zv s k = numR s.1 k := by unfold zv; rw [if_pos ho]
 have e2 : (zr s k).1 = s.1.drop k := by unfold zr; rw [if_pos ho]
 rw [e1, e2, numL_numR k _ hs h2]
 exact ⟨h1, (List.take_append_drop ..).symm, fit_iff.2 (numR_bd hs k), ok_drop hs k⟩
theorem zr_ok (s : ZS) (hs : bytesOk s.1) (k : Nat) : bytesOk (zr s k).1 := by
 unfold zr
 split
 ·exact ok_drop hs k
 ·exact hs
theorem zr_fed {n : Int} {k : Nat} (hk : k = 1 ∨ k = 2 ∨ k = 3) (h : fitB n k = true) (t : List Int) : zv (numL n k ++ t, false) k = n ∧ zr (numL n k ++ t, false) k = (t, false) := by
 have ho : zok (numL n k ++ t, false) k = true := zok_iff.2 ⟨rfl, by rw [List.length_append, numL_len]; omega⟩
 constructor
 ·unfold zv
  rw [if_pos ho]
  rcases hk with rfl | rfl | rfl
  ·exact numR_1 n t h
  ·exact numR_2 n t h
  ·exact numR_3 n t h
 ·unfold zr
  rw [if_pos ho, numL_drop]
structure Eats {α : Type} (f : ZS → α × ZS) (g : α → List Int) (B : α → Bool) : Prop where
 eat : ∀ s : ZS, bytesOk s.1 → (f s).2.2 = false → s.2 = false ∧ s.1 = g (f s).1 ++ (f s).2.1 ∧ B (f s).1 = true
 fed : ∀ x t, B x = true → f (g x ++ t, false) = (x, (t, false))
 ok : ∀ s : ZS, bytesOk s.1 → bytesOk (f s).2.1
theorem Eats.congr {α : Type} {f : ZS → α × ZS} {g g' : α → List Int} {B B' : α → Bool} (h : Eats f g B) (hg : ∀ x, g x = g' x) (hB : ∀ x, B x = B' x) : Eats f g' B' :=
 ⟨fun s hs hz => by rw [← hg, ← hB]; exact h.eat s hs hz, fun x t hx => by rw [← hg]; exact h.fed x t (by rw [hB]; exact hx), h.ok⟩
def zn (k : Nat) (s : ZS) : Int × ZS := (zv s k, zr s k)
theorem eats_n {k : Nat} (hk : k = 1 ∨ k = 2 ∨ k = 3) : Eats (zn k) (fun n => numL n k) (fun n => fitB n k) :=
 ⟨fun s hs h => by obtain ⟨a, b, c, _⟩ := zr_eat hs h; exact ⟨a, b, c⟩, fun x t hx => by
  obtain ⟨a, b⟩ := zr_fed hk hx t
  show (_, _) = _
  rw [a, b], fun s hs => zr_ok s hs k⟩
def zseq {α β : Type} (f : ZS → α × ZS) (f' : ZS → β × ZS) (s : ZS) : (α × β) × ZS := (((f s).1, (f' (f s).2).1), (f' (f s).2).2)
theorem eats_seq {α β : Type} {f : ZS → α × ZS} {f' : ZS → β × ZS} {g : α → List Int} {g' : β → List Int} {B : α → Bool} {B' : β → Bool} (h : Eats f g B) (h' : Eats f' g' B') :
  Eats (zseq f f') (fun x => g x.1 ++ g' x.2) (fun x => B x.1 && B' x.2) := by
 refine ⟨fun s hs hz => ?_, fun x t hx => ?_, fun s hs => h'.ok _ (h.ok _ hs)⟩
 ·have h2 : (f' (f s).2).2.2 = false := hz
  obtain ⟨a1, a2, a3⟩ := h'.eat (f s).2 (h.ok s hs) h2
  obtain ⟨b1, b2, b3⟩ := h.eat s hs a1
  refine ⟨b1, ?_, ?_⟩
  ·show s.1 = (g (f s).1 ++ g' (f' (f s).2).1) ++ _
   rw [List.append_assoc]
   exact b2.trans (by rw [a2]; rfl)
  ·show (B (f s).1 && B' (f' (f s).2).1) = true
   rw [b3, a3]; rfl
 ·simp only [Bool.and_eq_true] at hx
  unfold zseq
  rw [List.append_assoc, h.fed x.1 _ hx.1]
  show ((x.1, (f' (g' x.2 ++ t, false)).1), (f' (g' x.2 ++ t, false)).2) = _
  rw [h'.fed x.2 t hx.2]
def zcell (s : ZS) : List Int × ZS := (zcL s, zcS s)
theorem eats_cell : Eats zcell celL celOk := by
 refine ⟨fun s hs hz => ?_, fun x t hx => ?_, fun s hs => ?_⟩
 ·have hz : (zcS s).2 = false := hz
  show s.2 = false ∧ s.1 = celL (zcL s) ++ (zcS s).1 ∧ celOk (zcL s) = true
  unfold zcS at hz ⊢
  unfold zcL
  by_cases h0 : zv s 1 = 0
  ·rw [if_pos h0] at hz ⊢
   obtain ⟨a, b, c, _⟩ := zr_eat hs hz
   rw [if_neg (by omega)]
   rw [h0] at b
   exact ⟨a, b, rfl⟩
  ·rw [if_neg h0] at hz ⊢
   by_cases h1 : zv s 1 = 26 ∧ (zr s 1).2 = false
   ·rw [if_pos h1] at hz ⊢
    rw [if_pos h1]
    obtain ⟨a, b, c, d⟩ := zr_eat hs h1.2
    have ho := zr_bad hz
    obtain ⟨_, hl⟩ := zok_iff.1 ho
    rw [if_pos ho]
    have e2 : (zr (zr s 1) 26).1 = (zr s 1).1.drop 26 := by rw [zr, if_pos ho]
    rw [e2]
    have hlen : ((zr s 1).1.take 26).length = 26 := by rw [List.length_take]; omega
    have hc : celOk ((zr s 1).1.take 26) = true := by unfold celOk; rw [hlen]; rfl
    refine ⟨a, ?_, hc⟩
    unfold celL
    rw [if_pos hc, hlen, List.append_assoc, List.take_append_drop]
    rw [h1.1] at b
    exact b
   ·rw [if_neg h1] at hz
    cases hz
 ·have hl : x.length = 0 ∨ x.length = 26 := by unfold celOk at hx; simpa using hx
  show (zcL (celL x ++ t, false), zcS (celL x ++ t, false)) = _
  have e0 : celL x ++ t = numL x.length 1 ++ (x ++ t) := by unfold celL; rw [if_pos hx, List.append_assoc]
  rw [e0]
  obtain ⟨a, b⟩ := zr_fed (.inl rfl) (show fitB (x.length : Int) 1 = true from fit_iff.2 (by omega)) (x ++ t)
  unfold zcL zcS
  rw [a, b]
  rcases hl with h | h
  ·obtain rfl := List.length_eq_zero_iff.1 h
   simp
  ·have ho : zok (x ++ t, false) 26 = true := zok_iff.2 ⟨rfl, by rw [List.length_append]; omega⟩
   rw [h]
   have e3 : zr (x ++ t, false) 26 = (t, false) := by unfold zr; rw [if_pos ho, show (x ++ t, false).1.drop 26 = t from List.drop_left' h]
   rw [if_pos ⟨rfl, rfl⟩, if_pos ho, if_neg (by omega), if_pos ⟨rfl, rfl⟩, e3, show (x ++ t, false).1.take 26 = x from List.take_left' h]
 ·show bytesOk (zcS s).1
  unfold zcS
  split
  ·exact zr_ok s hs 1
  ·split
   ·exact zr_ok _ (zr_ok s hs 1) 26
   ·exact zr_ok s hs 1
section
variable {α : Type} {f : ZS → α × ZS} {g : α → List Int} {B : α → Bool}
theorem zl_ok (h : Eats f g B) : ∀ n s, bytesOk s.1 → bytesOk (zl f n s).2.1
 | 0, s, hs => hs
 | n + 1, s, hs => by
  unfold zl
  split
  ·exact hs
  ·exact zl_ok h n _ (h.ok s hs)
theorem zl_eat (h : Eats f g B) : ∀ (n : Nat) (s : ZS), bytesOk s.1 → (zl f n s).2.2 = false → s.2 = false ∧ s.1 = (zl f n s).1.flatMap g ++ (zl f n s).2.1 ∧ (zl f n s).1.all B = true ∧ (zl f n s).1.length = n
 | 0, s, _, hz => ⟨hz, rfl, rfl, rfl⟩
 | n + 1, s, hs, hz => by
  unfold zl at hz ⊢
  by_cases hb : s.2 = true
  ·rw [if_pos hb] at hz
   rw [hb] at hz
   cases hz
  ·rw [if_neg hb] at hz ⊢
   obtain ⟨a1, a2, a3, a4⟩ := zl_eat h n (f s).2 (h.ok s hs) hz
   obtain ⟨b1, b2, b3⟩ := h.eat s hs a1
   refine ⟨b1, ?_, ?_, ?_⟩
   ·show s.1 = g (f s).1 ++ (zl f n (f s).2).1.flatMap g ++ _
    rw [List.append_assoc, ← a2]
    exact b2
   ·show (B (f s).1 && (zl f n (f s).2).1.all B) = true
    rw [b3, a3]; rfl
   ·show (zl f n (f s).2).1.length + 1 = n + 1
    rw [a4]
theorem zl_fed (h : Eats f g B) : ∀ (xs : List α) (t : List Int), xs.all B = true → zl f xs.length (xs.flatMap g ++ t, false) = (xs, (t, false))
 | [], t, _ => rfl
 | x :: r, t, hx => by
  simp only [List.all_cons, Bool.and_eq_true] at hx
  show (if (((x :: r).flatMap g ++ t, false) : ZS).2 = true then _ else _) = _
  rw [if_neg (by simp), List.flatMap_cons, List.append_assoc, h.fed x _ hx.1]
  show (x :: (zl f r.length (r.flatMap g ++ t, false)).1, (zl f r.length (r.flatMap g ++ t, false)).2) = _
  rw [zl_fed h r t hx.2]
end
def zlst {α : Type} (f : ZS → α × ZS) (s : ZS) : List α × ZS := zl f (zm s).toNat (zmS s)
theorem eats_lst {α : Type} {f : ZS → α × ZS} {g : α → List Int} {B : α → Bool} (h : Eats f g B) : Eats (zlst f) (lstL g) (lstB B) := by
 refine ⟨fun s hs hz => ?_, fun xs t hx => ?_, fun s hs => ?_⟩
 ·unfold zlst at hz ⊢
  have hms : bytesOk (zmS s).1 := by unfold zmS; split <;> exact zr_ok s hs 1
  obtain ⟨a1, a2, a3, a4⟩ := zl_eat h _ _ hms hz
  generalize hr : zl f (zm s).toNat (zmS s) = r at *
  unfold zmS at a1 a2
  unfold zm at a4
  by_cases hb : (decide (40 < zv s 1) || (zr s 1).2) = true
  ·rw [if_pos hb] at a1
   cases a1
  ·rw [if_neg hb] at a1 a2 a4
   obtain ⟨b1, b2, b3, b4⟩ := zr_eat hs a1
   have h40 : ¬ 40 < zv s 1 := by
    intro hh
    rw [decide_eq_true hh] at hb
    exact hb rfl
   have hp := (fit_iff.1 b3).1
   have hn : (r.1.length : Int) = zv s 1 := by omega
   have hle : r.1.length ≤ 40 := by omega
   refine ⟨b1, ?_, ?_⟩
   ·unfold lstL
    rw [if_pos hle, hn, List.append_assoc, ← a2]
    exact b2
   ·unfold lstB
    rw [decide_eq_true hle, a3]; rfl
 ·simp only [lstB, Bool.and_eq_true, decide_eq_true_eq] at hx
  unfold zlst lstL
  rw [if_pos hx.1, List.append_assoc]
  obtain ⟨a, b⟩ := zr_fed (.inl rfl) (show fitB (xs.length : Int) 1 = true from fit_iff.2 (by omega)) (xs.flatMap g ++ t)
  have hb : (decide (40 < (xs.length : Int)) || false) = false := by rw [decide_eq_false (by omega)]; rfl
  unfold zm zmS
  rw [a, b]
  simp only [hb, Bool.false_eq_true, if_false, Int.toNat_natCast]
  exact zl_fed h xs t hx.2
 ·unfold zlst
  exact zl_ok h _ _ (by unfold zmS; split <;> exact zr_ok s hs 1)
end Go.Proofs.YthmgafcnoedmjaaGreat
namespace Go.Proofs.YthmgafcnoedmjaaGreat
theorem Eats.map {α β : Type} {f : ZS → α × ZS} {g : α → List Int} {B : α → Bool} (h : Eats f g B) (φ : α → β) (ψ : β → α) (h1 : ∀ x, ψ (φ x) = x) (h2 : ∀ y, φ (ψ y) = y) : Eats (fun s => (φ (f s).1, (f s).2)) (fun y => g (ψ y)) (fun y => B (ψ y)) :=
 ⟨fun s hs hz => by
  show s.2 = false ∧ s.1 = g (ψ (φ (f s).1)) ++ _ ∧ B (ψ (φ (f s).1)) = true
  rw [h1]
  exact h.eat s hs hz, fun y t hy => by
  have := h.fed (ψ y) t hy
  show (φ (f (g (ψ y) ++ t, false)).1, (f (g (ψ y) ++ t, false)).2) = _
  rw [this, h2], h.ok⟩
theorem eats_rid : Eats (zseq (zn 1) (zn 1)) (fun x => plL x.1 x.2) (fun x => plB x.1 x.2) := eats_seq (eats_n (.inl rfl)) (eats_n (.inl rfl))
theorem eats_mv : Eats zmvF mvL mvB :=
 (eats_seq eats_rid eats_rid).map (fun x => (x.1.1, x.1.2, x.2.1, x.2.2)) (fun m => ((m.1, m.2.1), (m.2.2.1, m.2.2.2))) (fun _ => rfl) (fun _ => rfl)
theorem eats_mvs : Eats zmv (lstL mvL) (lstB mvB) := eats_lst eats_mv
def zcm (s : ZS) : Bool × ZS := (decide (zv s 1 = 1), ((zr s 1).1, (zr s 1).2 || decide (1 < zv s 1)))
theorem eats_cm : Eats zcm (fun b => numL (b01 b) 1) (fun _ => true) := by
 refine ⟨fun s hs hz => ?_, fun b t _ => ?_, fun s hs => zr_ok s hs 1⟩
 ·have hz : ((zr s 1).2 || decide (1 < zv s 1)) = false := hz
  rw [Bool.or_eq_false_iff, decide_eq_false_iff_not] at hz
  obtain ⟨a, b, c, _⟩ := zr_eat hs hz.1
  have hp := (fit_iff.1 c).1
  refine ⟨a, ?_, rfl⟩
  show s.1 = numL (b01 (decide (zv s 1 = 1))) 1 ++ (zr s 1).1
  have e : b01 (decide (zv s 1 = 1)) = zv s 1 := by
   by_cases h : zv s 1 = 1
   ·rw [decide_eq_true h, h]; rfl
   ·rw [decide_eq_false h, show zv s 1 = 0 by omega]; rfl
  rw [e]
  exact b
 ·have hf : fitB (b01 b) 1 = true := by cases b <;> rfl
  obtain ⟨h1, h2⟩ := zr_fed (.inl rfl) hf t
  show (decide (zv _ 1 = 1), ((zr _ 1).1, (zr _ 1).2 || decide (1 < zv _ 1))) = _
  rw [h1, h2]
  cases b <;> rfl
def zlvF (s : ZS) : Lv × ZS := zseq (zn 1) (zseq (zn 3) (zseq (zn 3) zcm)) s
theorem eats_lv : Eats zlvF lvL lvB :=
 (eats_seq (eats_n (.inl rfl)) (eats_seq (eats_n (.inr (.inr rfl))) (eats_seq (eats_n (.inr (.inr rfl))) eats_cm))).congr (fun m => by unfold lvL; simp only [List.append_assoc]) (fun m => by unfold lvB; simp only [Bool.and_true, Bool.and_assoc])
def zdtF (s : ZS) : Dt × ZS := zseq (zn 1) (zn 3) s
theorem eats_dt : Eats zdtF dtL dtB := (eats_seq (eats_n (.inl rfl)) (eats_n (.inr (.inr rfl)))).congr (fun _ => rfl) (fun _ => rfl)
def zopF (s : ZS) : Opn × ZS := zseq (zn 2) (zseq (zn 1) zmv) s
theorem eats_op : Eats zopF opL opB := (eats_seq (eats_n (.inr (.inl rfl))) (eats_seq (eats_n (.inl rfl)) eats_mvs)).congr (fun m => by unfold opL; simp only [List.append_assoc]) (fun m => by unfold opB; simp only [Bool.and_assoc])
abbrev ZT := Int × Int × Int × Int × Int × Int × (Int × Int) × (Int × Int) × List Int × List Int × List Mv × List Lv × List Dt × List Opn
def zE0 : ZS → ZT × ZS := zseq (zn 1) (zseq (zn 1) (zseq (zn 2) (zseq (zn 1) (zseq (zn 3) (zseq (zn 3) (zseq (zseq (zn 1) (zn 1)) (zseq (zseq (zn 1) (zn 1)) (zseq zcell (zseq zcell (zseq zmv (zseq (zlst zlvF) (zseq (zlst zdtF) (zlst zopF)))))))))))))
def toE (x : ZT) : Ent := ⟨x.1, x.2.1, x.2.2.1, x.2.2.2.1, x.2.2.2.2.1, x.2.2.2.2.2.1, x.2.2.2.2.2.2.1.1, x.2.2.2.2.2.2.1.2, x.2.2.2.2.2.2.2.1.1, x.2.2.2.2.2.2.2.1.2, x.2.2.2.2.2.2.2.2.1, x.2.2.2.2.2.2.2.2.2.1, x.2.2.2.2.2.2.2.2.2.2.1, x.2.2.2.2.2.2.2.2.2.2.2.1, x.2.2.2.2.2.2.2.2.2.2.2.2.1, x.2.2.2.2.2.2.2.2.2.2.2.2.2⟩
def ofE (e : Ent) : ZT := (e.kind, e.txn, e.unit, e.half, e.prev, e.next, (e.ap, e.ac), (e.tp, e.tc), e.old, e.new, e.moves, e.lives, e.dirty, e.opens)
def zE (s : ZS) : Ent × ZS := (toE (zE0 s).1, (zE0 s).2)
def entB0 (e : Ent) : Bool := fitB e.kind 1 && (fitB e.txn 1 && (fitB e.unit 2 && (fitB e.half 1 && (fitB e.prev 3 && (fitB e.next 3 && (plB e.ap e.ac && (plB e.tp e.tc && (celOk e.old && (celOk e.new && (lstB mvB e.moves && (lstB lvB e.lives && (lstB dtB e.dirty && lstB opB e.opens))))))))))))
theorem entB_0 (e : Ent) : entB e = (kindB e.kind && entB0 e) := by unfold entB entB0; simp only [Bool.and_assoc]
theorem eats_E : Eats zE entL entB0 := by
 have h1 : Eats (zn 1) (fun n => numL n 1) (fun n => fitB n 1) := eats_n (.inl rfl)
 have h2 : Eats (zn 2) (fun n => numL n 2) (fun n => fitB n 2) := eats_n (.inr (.inl rfl))
 have h3 : Eats (zn 3) (fun n => numL n 3) (fun n => fitB n 3) := eats_n (.inr (.inr rfl))
 have h := eats_seq h1 (eats_seq h1 (eats_seq h2 (eats_seq h1 (eats_seq h3 (eats_seq h3 (eats_seq eats_rid (eats_seq eats_rid (eats_seq eats_cell (eats_seq eats_cell (eats_seq eats_mvs (eats_seq (eats_lst eats_lv) (eats_seq (eats_lst eats_dt) (eats_lst eats_op)))))))))))))
 exact (h.map toE ofE (fun _ => rfl) (fun _ => rfl)).congr (fun e => by unfold entL ofE; simp only [List.append_assoc]) (fun e => rfl)
theorem zE_tk {l : List Int} (hl : bytesOk l) : ((zE (l, false)).2.2 = false ∧ (zE (l, false)).2.1 = [] ∧ entB (zE (l, false)).1 = true) ↔ tkB l = true := by
 constructor
 ·rintro ⟨h1, h2, h3⟩
  obtain ⟨_, a, _⟩ := eats_E.eat (l, false) hl h1
  rw [h2, List.append_nil] at a
  have a' : l = entL (zE (l, false)).1 := a
  rw [a']
  exact (tkB_entL h3).1
 ·intro h
  simp only [tkB, Bool.and_eq_true, decide_eq_true_eq] at h
  have hB := h.1
  rw [entB_0, Bool.and_eq_true] at hB
  have f := eats_E.fed (entR l) [] hB.2
  rw [List.append_nil, ← h.2] at f
  rw [f]
  exact ⟨rfl, rfl, h.1⟩
theorem zE_is {l : List Int} (h : tkB l = true) : (zE (l, false)).1 = tkE l := by
 rw [(tk_yes h).1]
 simp only [tkB, Bool.and_eq_true, decide_eq_true_eq] at h
 have hB := h.1
 rw [entB_0, Bool.and_eq_true] at hB
 have f := eats_E.fed (entR l) [] hB.2
 rw [List.append_nil, ← h.2] at f
 rw [f]
end Go.Proofs.YthmgafcnoedmjaaGreat
namespace Go.Proofs.YthmgafcnoedmjaaGreat
open Go.RowKit
theorem zcL_ok {s : ZS} (hs : bytesOk s.1) : bytesOk (zcL s) := by
 unfold zcL
 split
 ·split
  ·exact ok_take (zr_ok s hs 1) 26
  ·exact fun x hx => by rw [List.eq_of_mem_replicate hx]; omega
 ·exact fun x hx => by cases hx
theorem zm_bd {s : ZS} (h : bytesOk s.1) : 0 ≤ zm s ∧ zm s ≤ 40 := by
 have := zv_pos h 1
 unfold zm
 split
 ·omega
 ·rename_i h
  simp only [Bool.or_eq_true, decide_eq_true_eq, not_or] at h
  omega
theorem fit_I {n : Int} {k : Nat} (h : fitB n k = true) (hk : k ≤ 3) : I64 n := by
 obtain ⟨a, b⟩ := fit_iff.1 h
 have : (256 : Int) ^ k ≤ 16777216 := by
  obtain rfl | rfl | rfl | rfl : k = 0 ∨ k = 1 ∨ k = 2 ∨ k = 3 := by omega
  all_goals decide
 exact ⟨by omega, by omega⟩
theorem lstB_all {α : Type} {B : α → Bool} {P : α → Prop} (hP : ∀ x, B x = true → P x) {xs : List α} (h : lstB B xs = true) : ∀ x ∈ xs, P x := by
 unfold lstB at h
 rw [Bool.and_eq_true] at h
 exact fun x hx => hP x (List.all_eq_true.1 h.2 x hx)
theorem mvB_I (m : Mv) (h : mvB m = true) : mvI m := by
 simp only [mvB, plB, Bool.and_eq_true] at h
 exact ⟨fit_I h.1.1 (by decide), fit_I h.1.2 (by decide), fit_I h.2.1 (by decide), fit_I h.2.2 (by decide)⟩
theorem lvB_I (m : Lv) (h : lvB m = true) : lvI m := by
 simp only [lvB, Bool.and_eq_true] at h
 exact ⟨fit_I h.1.1 (by decide), fit_I h.1.2 (by decide), fit_I h.2 (by decide)⟩
theorem dtB_I (m : Dt) (h : dtB m = true) : dtI m := by
 simp only [dtB, Bool.and_eq_true] at h
 exact ⟨fit_I h.1 (by decide), fit_I h.2 (by decide)⟩
theorem opB_I (m : Opn) (h : opB m = true) : opI1 m := by
 simp only [opB, Bool.and_eq_true] at h
 exact ⟨fit_I h.1.1 (by decide), fit_I h.1.2 (by decide), lstB_all mvB_I h.2⟩
theorem entB0_I (e : Ent) (h : entB0 e = true) : EntI e := by
 simp only [entB0, plB, Bool.and_eq_true] at h
 obtain ⟨h0, h1, h2, h3, h4, h5, h6, h7, _, _, hm, hl, hd, ho⟩ := h
 exact ⟨fit_I h0 (by decide), fit_I h1 (by decide), fit_I h2 (by decide), fit_I h3 (by decide), fit_I h4 (by decide), fit_I h5 (by decide), fit_I h6.1 (by decide), fit_I h6.2 (by decide), fit_I h7.1 (by decide), fit_I h7.2 (by decide), lstB_all mvB_I hm, lstB_all lvB_I hl, lstB_all dtB_I hd, lstB_all opB_I ho⟩
theorem rtake_end {w : World} {tmps : Array Value} {g : Nat} {cs : Array Value} {n : Int} (h2 : tmps.getD 2 undef = .pointer (some ⟨g, 0, none⟩)) (h3 : tmps.getD 3 undef = .int .i64 n) (hb : w.heap[g]? = some (.cells cs 44 (0, 0))) (hs : cs.size = 16) :
  (results Tryz.f56 tmps).run Tryz.prog w = .ok (.tuple #[.agg cs, .int .i64 n]) w := by
 rw [Array.getD_eq_getD_getElem?] at h2 h3
 have hl := run_loadVar_row (P := Tryz.prog) w g 44 44 cs (0, 0) _ hb Tryz.underlying44 rfl (by rw [infoEnt, hs])
 simp [results, Tryz.results56, h2, h3, asAddr, hl]
structure TzB (W wq : World) (p : Nat) (cs : Array Value) (st : ZS) (sv : Value) (w : World) : Prop where
 rz : RZ W w p sv st.1 st.2
 bx : w.heap[wq.heap.size]? = some (.cells cs 44 (0, 0))
 kp : Kpt (p + 1) wq w
 lt : p < wq.heap.size
section
variable {W wq w w' : World} {p : Nat} {cs cs' : Array Value} {st st' : ZS} {sv sv' : Value}
theorem TzB.q (h : TzB W wq p cs st sv w) : wq.heap.size < w.heap.size := (Array.getElem?_eq_some_iff.1 h.bx).1
theorem TzB.rd (h : TzB W wq p cs st sv w) (hz : RZ W w' p sv' st'.1 st'.2) (g : Rd p w w') : TzB W wq p cs st' sv' w' :=
 ⟨hz, (g.block _ h.q (Nat.ne_of_gt h.lt)).trans h.bx, h.kp.trans (Kpt.rd g (Nat.lt_succ_self p)), h.lt⟩
theorem TzB.grow (h : TzB W wq p cs st sv w) {row : Option Nat} (hg : w.grownBy w' row) (hr : ∀ k, row = some k → wq.heap.size < k) : TzB W wq p cs st sv w' := by
 have hb : ∀ b, b < w.heap.size → b ≤ wq.heap.size → w'.heap[b]? = w.heap[b]? := fun b h1 h2 => hg.block b h1 (fun e => by have := hr b e.symm; omega)
 refine ⟨h.rz.grow hg (fun k hk => Nat.lt_trans h.lt (hr k hk)), (hb _ h.q (Nat.le_refl _)).trans h.bx, ⟨Nat.le_trans h.kp.size hg.size, fun b h1 h2 => ?_⟩, h.lt⟩
 exact (hb b (Nat.lt_of_lt_of_le h2 h.kp.size) (Nat.le_of_lt h2)).trans (h.kp.block b h1 h2)
theorem TzB.on (h : TzB W wq p cs st sv w) (hb : Below w.heap.size w w') : TzB W wq p cs st sv w' :=
 h.rd (h.rz.on hb) (Rd.of_below hb)
theorem TzB.put (h : TzB W wq p cs st sv w) (i : Nat) (v : Value) (e : cs.setIfInBounds i v = cs') : TzB W wq p cs' st sv (w.setCell ⟨wq.heap.size, i, none⟩ v) := by
 have hp := h.lt
 refine ⟨⟨(setCell_far _ _ _ _ (by omega)).trans h.rz.bx, h.rz.sl, h.rz.bel.trans ⟨rfl, rfl, rfl, by simp, fun k hk => setCell_far _ _ _ _ (by omega)⟩, h.rz.le⟩, by rw [heap_setCell_same w _ i _ _ _ h.bx, e], ⟨by simpa using h.kp.size, fun b h1 h2 => ?_⟩, hp⟩
 exact (setCell_far _ _ _ _ (by omega)).trans (h.kp.block b h1 h2)
theorem TzB.mark (h : TzB W wq p cs st sv w) (b : Bool) : TzB W wq p cs (st.1, b) sv (w.setCell ⟨p, 1, none⟩ (.bool b)) ∧ Rd p w (w.setCell ⟨p, 1, none⟩ (.bool b)) :=
 ⟨h.rd (st' := (st.1, b)) (h.rz.mark b).1 (h.rz.mark b).2, (h.rz.mark b).2⟩
theorem TzB.far (h : TzB W wq p cs st sv w) {x i : Nat} {v : Value} (hx : wq.heap.size < x) : TzB W wq p cs st sv (w.setCell ⟨x, i, none⟩ v) := by
 have hp := h.lt
 refine ⟨⟨(setCell_far _ _ _ _ (by omega)).trans h.rz.bx, h.rz.sl, h.rz.bel.trans ⟨rfl, rfl, rfl, by simp, fun k hk => setCell_far _ _ _ _ (by omega)⟩, h.rz.le⟩, (setCell_far _ _ _ _ (by omega)).trans h.bx, ⟨by simpa using h.kp.size, fun b h1 h2 => ?_⟩, hp⟩
 exact (setCell_far _ _ _ _ (by omega)).trans (h.kp.block b h1 h2)
theorem TzB.cell (h : TzB W wq p cs st sv w) (i : Nat) : w.cell? ⟨wq.heap.size, i, none⟩ = cs[i]? := (c_o h.bx i).1
theorem TzB.froz (h : TzB W wq p cs st sv w) (i : Nat) : w.frozen? ⟨wq.heap.size, i, none⟩ = false := (c_o h.bx i).2
theorem TzB.bad (h : TzB W wq p cs st sv w) : w.cell? ⟨p, 1, none⟩ = some (.bool st.2) := (c_o h.rz.bx 1).1
theorem TzB.badf (h : TzB W wq p cs st sv w) : w.frozen? ⟨p, 1, none⟩ = false := (c_o h.rz.bx 1).2
theorem TzB.len (h : TzB W wq p cs st sv w) : w.cell? ⟨p, 0, none⟩ = some sv := (c_o h.rz.bx 0).1
theorem Kpt.mark {B : Nat} (w : World) (v : Value) (i : Nat) (hB : p < B) : Kpt B w (w.setCell ⟨p, i, none⟩ v) := ⟨by simp, fun b hb _ => setCell_far _ _ _ _ (by omega)⟩
theorem Kpt.refl (B : Nat) (w : World) : Kpt B w w := ⟨Nat.le_refl _, fun _ _ _ => rfl⟩
end
def TzL {α : Type} (W wq w0 : World) (p : Nat) (t : TypeId) (k : Nat) (V : α → List Value) (f : ZS → α × ZS) (F : Value → Array Value) (total : List α × ZS) (i : Value) (wr : World) : Prop :=
 ∃ (n : Nat) (D : List α) (st : ZS) (A : Option Addr) (m c : Nat) (sv : Value), n ≤ 40 ∧ i = .int .i64 n ∧ D.length + n ≤ 40 ∧ wr.ownsRow w0.heap.size t k (.slice A m c) D.length (D.flatMap V) ∧ D ++ (zl f n st).1 = total.1 ∧ (zl f n st).2 = total.2 ∧ TzB W wq p (F (.slice A m c)) st sv wr ∧ Kpt (wq.heap.size + 1) w0 wr
def TzO {α : Type} (W wq w0 : World) (p : Nat) (k : Nat) (V : α → List Value) (F : Value → Array Value) (total : List α × ZS) (wx : World) : Prop :=
 ∃ (A : Option Addr) (c : Nat) (sv : Value), TzB W wq p (F (.slice A total.1.length c)) total.2 sv wx ∧ ElF wx (wq.heap.size + 1) (.slice A total.1.length c) k (total.1.map V) ∧ Kpt (wq.heap.size + 1) w0 wx
theorem TzL.done {α : Type} {W wq w0 wr : World} {p : Nat} {t : TypeId} {k : Nat} {V : α → List Value} {f : ZS → α × ZS} {F : Value → Array Value} {total : List α × ZS} {n : Nat} {D : List α} {st : ZS} {A : Option Addr} {m c : Nat} {sv : Value} (hV : ∀ x, (V x).length = k) (ho : wr.ownsRow w0.heap.size t k (.slice A m c) D.length (D.flatMap V)) (h1 : D ++ (zl f n st).1 = total.1) (h2 : (zl f n st).2 = total.2) (hb : TzB W wq p (F (.slice A m c)) st sv wr) (hk : Kpt (wq.heap.size + 1) w0 wr) (hq : wq.heap.size < w0.heap.size) (e : zl f n st = ([], st)) : TzO W wq w0 p k V F total wr := by
 have e1 : total.1 = D := by rw [← h1, e]; simp
 have e2 : total.2 = st := by rw [← h2, e]
 have hm := own_n ho
 subst hm
 have hE := own_els (f := V) hV ho rfl
 refine ⟨A, c, sv, ?_, ?_, hk⟩
 ·rw [e1, e2]; exact hb
 ·rw [e1]; exact ⟨hE.1, fun b hb => Nat.le_trans hq (hE.2 b hb)⟩
def TzLo (W wq w0 : World) (p : Nat) (F : Value → Array Value) (total : List Opn × ZS) (i : Value) (wr : World) : Prop :=
 ∃ (n : Nat) (os : List (Opn × Value)) (st : ZS) (A : Option Addr) (m c : Nat) (sv : Value), n ≤ 40 ∧ i = .int .i64 n ∧ os.length + n ≤ 40 ∧ wr.ownsRow w0.heap.size 119 3 (.slice A m c) os.length (os.flatMap opV) ∧ os.map Prod.fst ++ (zl zopF n st).1 = total.1 ∧ (zl zopF n st).2 = total.2 ∧
  (∀ o ∈ os, Els wr o.2 4 (o.1.2.2.map mvV) ∧ (o.1.2.2 ≠ [] → ∀ b, o.2.ownBlock = some b → w0.heap.size ≤ b ∧ b < wr.heap.size ∧ (Value.slice A m c).ownBlock ≠ some b)) ∧ TzB W wq p (F (.slice A m c)) st sv wr ∧ Kpt (wq.heap.size + 1) w0 wr
def TzOo (W wq w0 : World) (p : Nat) (F : Value → Array Value) (total : List Opn × ZS) (wx : World) : Prop :=
 ∃ (A : Option Addr) (c : Nat) (sv : Value), TzB W wq p (F (.slice A total.1.length c)) total.2 sv wx ∧ OpF wx (wq.heap.size + 1) (.slice A total.1.length c) total.1 ∧ Kpt (wq.heap.size + 1) w0 wx
theorem TzLo.done {W wq w0 wr : World} {p : Nat} {F : Value → Array Value} {total : List Opn × ZS} {n : Nat} {os : List (Opn × Value)} {st : ZS} {A : Option Addr} {m c : Nat} {sv : Value} (ho : wr.ownsRow w0.heap.size 119 3 (.slice A m c) os.length (os.flatMap opV)) (h1 : os.map Prod.fst ++ (zl zopF n st).1 = total.1) (h2 : (zl zopF n st).2 = total.2)
  (hin : ∀ o ∈ os, Els wr o.2 4 (o.1.2.2.map mvV) ∧ (o.1.2.2 ≠ [] → ∀ b, o.2.ownBlock = some b → w0.heap.size ≤ b ∧ b < wr.heap.size ∧ (Value.slice A m c).ownBlock ≠ some b)) (hb : TzB W wq p (F (.slice A m c)) st sv wr) (hk : Kpt (wq.heap.size + 1) w0 wr) (hq : wq.heap.size < w0.heap.size) (e : zl zopF n st = ([], st)) : TzOo W wq w0 p F total wr := by
 have e1 : total.1 = os.map Prod.fst := by rw [← h1, e]; simp
 have e2 : total.2 = st := by rw [← h2, e]
 have hm := own_n ho
 subst hm
 have hE := own_els (f := opV) (fun _ => rfl) ho rfl
 have hl : total.1.length = os.length := by rw [e1, List.length_map]
 refine ⟨A, c, sv, ?_, ?_, hk⟩
 ·rw [hl, e2]; exact hb
 ·rw [hl]
  exact ⟨os, e1, hE.1, fun b hb => Nat.le_trans hq (hE.2 b hb), fun o ho => ⟨(hin o ho).1, fun hne b hb => Nat.le_trans hq ((hin o ho).2 hne b hb).1⟩⟩
end Go.Proofs.YthmgafcnoedmjaaGreat
