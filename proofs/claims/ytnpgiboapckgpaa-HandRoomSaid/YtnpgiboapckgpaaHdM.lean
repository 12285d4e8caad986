/- hand, plainly: the hand's turn ends; what it leaves; keys that are told. -/
import Derived.Test.YtnpgiboapckgpaaHdR
namespace Go.Proofs.Ytnpgiboapckgpaa
open Go.RowKit

/-- How many of the first n places are loose and have their bit. -/
def cntB (P : Nat → Pl) : Nat → Nat
  | 0 => 0
  | n + 1 => cntB P n + if (P n).n = 0 ∧ (P n).b = true then 1 else 0
theorem cntB_up {P : Nat → Pl} {c : Nat} {x : Pl} (hx : x.b = false) : ∀ n, n ≤ c → cntB (up P c x) n = cntB P n
  | 0, _ => rfl
  | n + 1, h => by
    unfold cntB
    rw [cntB_up hx n (by omega), up_other _ (by omega)]
theorem cntB_down {P : Nat → Pl} {c : Nat} {x : Pl} (hx : x.b = false) (h1 : (P c).n = 0) (h2 : (P c).b = true) : ∀ n, c < n → cntB (up P c x) n + 1 = cntB P n
  | 0, h => by omega
  | n + 1, h => by
    unfold cntB
    by_cases e : c = n
    · subst e
      rw [cntB_up hx c (Nat.le_refl _), up_same, if_neg (by rw [hx]; simp), if_pos ⟨h1, h2⟩]
    · have := cntB_down hx h1 h2 n (by omega)
      rw [up_other _ (Ne.symm e)]
      omega
theorem turn_skip {n : Nat} {P : Nat → Pl} : ∀ (d a : Nat), a < n → (P ((a + d) % n)).n = 0 → ∃ e, (∀ f, turnF n (f + e) P a = turnF n f P ((a + e) % n)) ∧ (P ((a + e) % n)).n = 0
  | d, a, ha, h => by
    by_cases h0 : (P a).n = 0
    · exact ⟨0, fun f => by rw [Nat.add_zero, Nat.add_zero, Nat.mod_eq_of_lt ha], by rw [Nat.add_zero, Nat.mod_eq_of_lt ha]; exact h0⟩
    · cases d with
      | zero => rw [Nat.add_zero, Nat.mod_eq_of_lt ha] at h; exact absurd h h0
      | succ d =>
        have e1 : ∀ x, ((a + 1) % n + x) % n = (a + (x + 1)) % n := fun x => by rw [Nat.mod_add_mod]; congr 1; omega
        obtain ⟨e, he, h2⟩ := turn_skip d ((a + 1) % n) (Nat.mod_lt _ (by omega)) (by rw [e1]; exact h)
        refine ⟨e + 1, fun f => ?_, by rw [← e1]; exact h2⟩
        rw [← Nat.add_assoc]
        show (if 0 < (P a).n then turnF n (f + e) P ((a + 1) % n) else _) = _
        rw [if_pos (by omega), he, e1]
theorem turn_ends {n : Nat} : ∀ (m : Nat) (P : Nat → Pl) (a : Nat), cntB P n = m → a < n → (∃ i, i < n ∧ (P i).n = 0) → ∃ f P' a' j, turnF n f P a = some (P', a', j) := by
  intro m
  induction m using Nat.strongRecOn with
  | _ m ih =>
    intro P a hm ha ⟨i, hi, h0⟩
    have hd : (P ((a + (i + n - a)) % n)).n = 0 := by
      rw [show a + (i + n - a) = i + n by omega, Nat.add_mod_right, Nat.mod_eq_of_lt hi]; exact h0
    obtain ⟨e, he, h2⟩ := turn_skip (i + n - a) a ha hd
    have hc : (a + e) % n < n := Nat.mod_lt _ (by omega)
    generalize (a + e) % n = c at *
    cases hb : (P c).b with
    | false =>
      refine ⟨1 + e, P, (c + 1) % n, c, ?_⟩
      rw [he]
      show (if 0 < (P c).n then _ else if (P c).b = true then _ else _) = _
      rw [if_neg (by omega), if_neg (by rw [hb]; decide)]
    | true =>
      have hdn := cntB_down (P := P) (c := c) (x := { P c with b := false }) rfl h2 hb n hc
      obtain ⟨f, P', a', j, hf⟩ := ih (cntB (up P c { P c with b := false }) n) (by omega) _ ((c + 1) % n) rfl (Nat.mod_lt _ (by omega)) ⟨c, hc, by rw [up_same]; exact h2⟩
      refine ⟨f + 1 + e, P', a', j, ?_⟩
      rw [he]
      show (if 0 < (P c).n then _ else if (P c).b = true then turnF n f (up P c { P c with b := false }) ((c + 1) % n) else _) = _
      rw [if_neg (by omega), if_pos hb, hf]

/-- The same but for the bits. -/
def Sim (P P' : Nat → Pl) : Prop := ∀ i, (P' i).u = (P i).u ∧ (P' i).k = (P i).k ∧ (P' i).v = (P i).v ∧ (P' i).n = (P i).n
theorem Sim.refl (P : Nat → Pl) : Sim P P := fun _ => ⟨rfl, rfl, rfl, rfl⟩
theorem Sim.trans {P Q R : Nat → Pl} (h : Sim P Q) (k : Sim Q R) : Sim P R := fun i => ⟨(k i).1.trans (h i).1, (k i).2.1.trans (h i).2.1, (k i).2.2.1.trans (h i).2.2.1, (k i).2.2.2.trans (h i).2.2.2⟩
theorem Sim.bit (P : Nat → Pl) (c : Nat) (b : Bool) : Sim P (up P c { P c with b := b }) := fun i => by
  by_cases e : i = c
  · subst e; rw [up_same]; exact ⟨rfl, rfl, rfl, rfl⟩
  · rw [up_other _ e]; exact ⟨rfl, rfl, rfl, rfl⟩
theorem turnF_sim {n : Nat} : ∀ (f : Nat) (P : Nat → Pl) (a : Nat) {P' : Nat → Pl} {a' j : Nat}, turnF n f P a = some (P', a', j) → Sim P P'
  | 0, _, _, _, _, _, h => by cases h
  | f + 1, P, a, P', a', j, h => by
    unfold turnF at h
    split at h
    · exact turnF_sim f _ _ h
    · split at h
      · exact (Sim.bit P a false).trans (turnF_sim f _ _ h)
      · injection h with h
        injection h with h1 h3
        subst h1
        exact Sim.refl _

/-- How many of the first n places are used. -/
def cntU (P : Nat → Pl) : Nat → Nat
  | 0 => 0
  | n + 1 => cntU P n + if (P n).u = true then 1 else 0
theorem keysTo_cnt (P : Nat → Pl) : ∀ n, (keysTo P n).length = cntU P n
  | 0 => rfl
  | n + 1 => by
    unfold keysTo cntU
    split
    · rw [List.length_append, keysTo_cnt P n]; rfl
    · rw [keysTo_cnt P n]; rfl
theorem keysTo_mem (P : Nat → Pl) : ∀ n x, x ∈ keysTo P n → ∃ i, i < n ∧ (P i).u = true ∧ (P i).k = x
  | 0, _, h => by cases h
  | n + 1, x, h => by
    unfold keysTo at h
    split at h
    · rename_i hu
      rcases List.mem_append.1 h with h | h
      · obtain ⟨i, h1, h2⟩ := keysTo_mem P n x h
        exact ⟨i, by omega, h2⟩
      · exact ⟨n, by omega, hu, (List.mem_singleton.1 h).symm⟩
    · obtain ⟨i, h1, h2⟩ := keysTo_mem P n x h
      exact ⟨i, by omega, h2⟩
theorem keysTo_all (P : Nat → Pl) : ∀ n, (∀ i, i < n → (P i).u = true) → (keysTo P n).length = n ∧ ∀ i, i < n → (keysTo P n)[i]? = some (P i).k
  | 0, _ => ⟨rfl, fun _ h => by omega⟩
  | n + 1, h => by
    obtain ⟨h1, h2⟩ := keysTo_all P n fun i hi => h i (by omega)
    have e : keysTo P (n + 1) = keysTo P n ++ [(P n).k] := if_pos (h n (by omega))
    rw [e]
    refine ⟨by rw [List.length_append, h1]; rfl, fun i hi => ?_⟩
    by_cases he : i = n
    · subst he; rw [List.getElem?_append_right (by omega), h1, Nat.sub_self]; rfl
    · rw [List.getElem?_append_left (by omega)]; exact h2 i (by omega)
theorem rowP_congr {n : Nat} {P P' : Nat → Pl} (h : ∀ i, i < n → P i = P' i) : rowP n P = rowP n P' := by
  unfold rowP
  refine rowV_ext (n := n) (k := 5) (V := fun i => (P' i).c) (fun i => (P' i).c_size) (by decide) (by rw [rowV_size]) fun i j hi hj => ?_
  rw [rowV_at (fun i => (P i).c_size) hi hj, h i hi]
theorem HA.congr {w : World} {p g n a : Nat} {P P' : Nat → Pl} (hh : HA w p g ⟨n, P, a⟩) (h : ∀ i, i < n → P i = P' i) : HA w p g ⟨n, P', a⟩ := ⟨by have e := hh.hg; unfold rowH at e ⊢; rw [← clip_congr h]; exact e, hh.eq, hh.la, hh.ln⟩
theorem Mine.congr {B : Nat} {w W : World} {p g n a : Nat} {P P' : Nat → Pl} (hh : Mine B w W p g ⟨n, P, a⟩) (h : ∀ i, i < n → P i = P' i) : Mine B w W p g ⟨n, P', a⟩ := ⟨hh.ha.congr h, hh.be, hh.bp, hh.bg⟩

/-- Keys 0 to i - 1, put in order. -/
def fillP (x : ByteArray) (i : Nat) : Nat → Pl := fun j => if j < i then ⟨true, (j : Int), x, true, 0⟩ else Pl.zero
theorem fillP_lt (x : ByteArray) {i j : Nat} (h : j < i) : fillP x i j = ⟨true, (j : Int), x, true, 0⟩ := if_pos h
theorem fillP_ge (x : ByteArray) {i j : Nat} (h : i ≤ j) : fillP x i j = Pl.zero := if_neg (by omega)
theorem fill_put (x : ByteArray) {n i : Nat} (h : i < n) : PutR ⟨n, fillP x i, 0⟩ (i : Int) x ⟨n, fillP x (i + 1), 0⟩ (tup4 0 emp false 0) := by
  have r := PutR.vac (s := ⟨n, fillP x i, 0⟩) (k := (i : Int)) (v := x) i (first_at (Nat.le_refl _) (fun j _ => by
    show ((fillP x i j).u && decide ((fillP x i j).k = (i : Int))) = false
    by_cases e : j < i
    · rw [fillP_lt x e]; simp; omega
    · rw [fillP_ge x (by omega)]; rfl) (fun e => absurd e (Nat.lt_irrefl _)))
    (first_at (Nat.le_of_lt h) (fun j e => by
      show (!(fillP x i j).u) = false
      rw [fillP_lt x e]; rfl) (fun _ => by show (!(fillP x i i).u) = true; rw [fillP_ge x (Nat.le_refl _)]; rfl)) h
  have e1 : up (fillP x i) i ⟨true, (i : Int), x, true, 0⟩ = fillP x (i + 1) := by
    funext j
    by_cases e : j = i
    · subst e; rw [up_same, fillP_lt x (by omega)]
    · rw [up_other _ e]
      by_cases e2 : j < i
      · rw [fillP_lt x e2, fillP_lt x (by omega)]
      · rw [fillP_ge x (by omega), fillP_ge x (by omega)]
  simp only [e1, fillP_ge x (Nat.le_refl i)] at r
  exact r
theorem new_fill (x : ByteArray) (n : Nat) : newS n = ⟨n, fillP x 0, 0⟩ := rfl
theorem owns_int {w : World} {b t n : Nat} {v : Value} {l : List Int} (h : w.ownsRow b t 1 v n (intV l)) (hn : 0 < n) : ∃ gk cap, v = .slice (some ⟨gk, 0, none⟩) n cap ∧ ∀ j x, l[j]? = some x → w.cell? ⟨gk, j, none⟩ = some (.int .i64 x) := by
  obtain ⟨hl, ⟨rfl, rfl⟩ | ⟨g, cap, cur, rfl, _, hg, _, _, _, ht⟩⟩ := h
  · omega
  · refine ⟨g, cap, rfl, fun j x hx => ?_⟩
    rw [(cell_of hg j).1]
    have h2 : (intV l)[j]? = some (.int .i64 x) := by unfold intV; rw [List.getElem?_map, hx]; rfl
    rw [← ht] at h2
    rw [List.getElem?_take] at h2
    split at h2
    · simpa using h2
    · cases h2
theorem hit_own {n a t : Nat} {P : Nat → Pl} (ht : t < n) (h : ∀ j, j < n → (P j).u = true ∧ (P j).k = (j : Int)) : First n (hit ⟨n, P, a⟩ (t : Int)) t :=
  first_at (Nat.le_of_lt ht) (fun j hj => by
    show ((P j).u && decide ((P j).k = (t : Int))) = false
    rw [(h j (by omega)).2]; simp; omega) (fun _ => by
    show ((P t).u && decide ((P t).k = (t : Int))) = true
    rw [(h t ht).1, (h t ht).2]; simp)
theorem hit_none {n a : Nat} {k : Int} {P : Nat → Pl} (h : ∀ j, j < n → (P j).u = true → (P j).k ≠ k) : First n (hit ⟨n, P, a⟩ k) n :=
  first_at (Nat.le_refl _) (fun j hj => by
    show ((P j).u && decide ((P j).k = k)) = false
    cases hu : (P j).u with
    | false => rfl
    | true => simp [h j hj hu]) (fun e => absurd e (Nat.lt_irrefl _))
theorem cntU_all (P : Nat → Pl) : ∀ n, (∀ j, j < n → (P j).u = true) → cntU P n = n
  | 0, _ => rfl
  | n + 1, h => by unfold cntU; rw [cntU_all P n fun j hj => h j (by omega), if_pos (h n (by omega))]
theorem room_of (n : Nat) (h1 : 1 ≤ n) (h2 : n ≤ 64) : roomOf (n : Int) = n := by unfold roomOf; omega
end Go.Proofs.Ytnpgiboapckgpaa
