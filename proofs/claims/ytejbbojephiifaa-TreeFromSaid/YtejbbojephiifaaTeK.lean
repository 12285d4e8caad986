/- tree: the shape of a tree, level by level. -/
import Derived.Test.YtejbbojephiifaaTeA
namespace Go.Proofs.Ytejbbojephiifaa
open Go.RowKit

def kids (h : Nat) (g : G (h + 1)) : List (G h) := (Nd.l g).map (·.2)
/-- The counts of a level, and of those below it. -/
def lv : (h : Nat) → List (G h) → List (List Nat)
  | 0, gs => [gs.map (cnt 0)]
  | h + 1, gs => gs.map (cnt (h + 1)) :: lv h (gs.flatMap (kids h))
/-- The blocks of the children. -/
def kp : (h : Nat) → G h → List Nat
  | 0, _ => []
  | h + 1, g => (Nd.l g).map fun x => gb h x.2
def ptrV (b : Nat) : Value := .pointer (some ⟨b, 0, none⟩)
def intV (n : Nat) : Value := .int .i64 (n : Int)
theorem kp_at {h : Nat} {R : Rest} {w : World} {g : G h} (ha : At h R w g) : ∃ A c, (tp h g).2 = .slice A (kp h g).length c ∧ ∀ i (_ : i < (kp h g).length), ∃ q k, A = some ⟨q, 0, none⟩ ∧ q < w.heap.size ∧ w.cell? ⟨q, i * 2, none⟩ = some (.string k) ∧ w.cell? ⟨q, i * 2 + 1, none⟩ = some (ptrV ((kp h g).getD i 0)) := by
  cases h with
  | zero => exact ⟨none, 0, rfl, fun i hi => absurd hi (Nat.not_lt_zero i)⟩
  | succ h =>
    obtain ⟨b, v, l⟩ : Nd (G h) := g
    have hp : PAQ w b R v (kns h l) := ha.1
    obtain ⟨A, c, e⟩ := own_shape hp.own
    have hl : (kp (h + 1) (⟨b, v, l⟩ : Nd (G h))).length = l.length := by show (l.map _).length = _; rw [List.length_map]
    refine ⟨A, c, ?_, fun i hi => ?_⟩
    · refine e.trans ?_
      rw [kns_len]
      exact congrArg (fun n => Value.slice A n c) hl.symm
    · rw [hl] at hi
      have hi2 : i < (kns h l).length := by rw [kns_len]; exact hi
      obtain ⟨q, cp, e2, _, hq⟩ := hp.own.form (by omega)
      rw [e] at e2
      cases e2
      subst e
      have h0 := (own_cell KN.en_len hp.own hi2 (j := 0) (by omega)).1
      have h1 := (own_cell KN.en_len hp.own hi2 (j := 1) (by omega)).1
      have e3 : (kns h l)[i] = ⟨(l[i]).1, gb h (l[i]).2⟩ := by simp [kns]
      rw [e3] at h0 h1
      refine ⟨q, (l[i]).1, rfl, hq, h0, h1.trans ?_⟩
      show some (ptrV (gb h (l[i]).2)) = some (ptrV ((l.map fun x => gb h x.2).getD i 0))
      simp [List.getD_eq_getElem?_getD, hi]
theorem infoInt : (Try.prog.info? 3).map (fun i => (i.zero, i.size, i.bytes)) = some (some (.int .i64 0), 1, 8) := by kernel_rfl
theorem infoPtr : (Try.prog.info? 69).map (fun i => (i.zero, i.size, i.bytes)) = some (some (.pointer none), 1, 8) := by kernel_rfl
theorem infoSl : (Try.prog.info? 54).map (fun i => (i.zero, i.size, i.bytes)) = some (some (.slice none 0 0), 1, 24) := by kernel_rfl
theorem own_ne_ty {w : World} {B B' k k' n n' g g' : Nat} {e e' : TypeId} {m c m' c' : Nat} {xs xs' : List Value} (h : w.ownsRow B e k (.slice (some ⟨g, 0, none⟩) m c) n xs) (h' : w.ownsRow B' e' k' (.slice (some ⟨g', 0, none⟩) m' c') n' xs') (ht : e ≠ e') : g ≠ g' := by
  rintro rfl
  rcases h.2 with ⟨h2, _⟩ | ⟨_, _, _, h2, _, hg, _⟩
  · cases h2
  · cases h2
    rcases h'.2 with ⟨h3, _⟩ | ⟨_, _, _, h3, _, hg', _⟩
    · cases h3
    · cases h3
      rw [hg] at hg'
      cases hg'
      exact ht rfl
theorem own_apart {w w' : World} {B B' k k' n n' : Nat} {e e' : TypeId} {v v' : Value} {xs xs' : List Value} (h : w.ownsRow B e k v n xs) (h' : w.ownsRow B' e' k' v' n' xs') (ht : e ≠ e') (g : w.grownBy w' v'.ownBlock) : w'.ownsRow B e k v n xs := by
  refine own_same h (fun b hb => g.block b (own_lt h hb) (fun e => ?_))
  rcases id h.2 with ⟨rfl, _⟩ | ⟨q, cp, _, rfl, _, _, _⟩
  · cases hb
  · cases hb
    rcases id h'.2 with ⟨rfl, _⟩ | ⟨q', cp', _, rfl, _, _, _⟩
    · cases e
    · cases e
      exact own_ne_ty h h' ht rfl

/-- Trees of one height, in a world that was. -/
def Row (h : Nat) (w : World) (gs : List (G h)) : Prop := ∀ g ∈ gs, (∃ R, At h R w g) ∧ cnt h g ≤ 4 ∧ Ok h g ∧ (h = 0 ∨ 2 ≤ cnt h g)
def ptrs (h : Nat) (gs : List (G h)) : List Value := gs.map fun g => ptrV (gb h g)
/-- The state at the head of the outer loop: what is told, and the level that is to come. -/
def ShS (w : World) (tot : List (List Nat)) (gk : Nat) (s l : Value) (wr : World) : Prop :=
  Below w.heap.size w wr ∧ ∃ done vs, wr.ownsRow w.heap.size 54 1 s done.length vs ∧ vs.length = done.length ∧ (∀ i (_ : i < done.length), ∃ v, vs[i]? = some v ∧ wr.ownsRow w.heap.size 3 1 v (done.getD i []).length ((done.getD i []).map intV)) ∧
    ((gk = 0 ∧ (∃ A c, l = .slice A 0 c) ∧ done = tot) ∨ (∃ h, gk = h + 1 ∧ ∃ gs : List (G h), Row h w gs ∧ gs ≠ [] ∧ done ++ lv h gs = tot ∧ gs.length ≤ 100000 ∧ ∃ q c, l = .slice (some ⟨q, 0, none⟩) gs.length c ∧ w.heap.size ≤ q ∧ q < wr.heap.size ∧ ∀ i (_ : i < gs.length), wr.cell? ⟨q, i, none⟩ = some ((ptrs h gs).getD i (.pointer none))))

theorem own_up {w w' : World} {B k n : Nat} {e : TypeId} {v : Value} {xs : List Value} (h : w.ownsRow B e k v n xs) (hb : Below w.heap.size w w') : w'.ownsRow B e k v n xs := own_same h fun b hx => hb.block b (own_lt h hx)
theorem news_v (w : World) (v : Value) (t : TypeId) : ∀ (j : Nat) (u : Value), [v][j]? = some u → (w.alloc (.cells #[v] t)).cell? ((⟨w.heap.size, 0, none⟩ : Addr).add j) = some u := by
  intro j u hu
  cases j with
  | zero =>
    simp only [List.getElem?_cons_zero, Option.some.injEq] at hu
    subst hu
    exact (cell_of (heap_alloc_new w (.cells #[v] t)) 0).1
  | succ j => simp at hu
theorem kp_le (h : Nat) (g : G h) : (kp h g).length ≤ cnt h g := by
  cases h with
  | zero => exact Nat.zero_le _
  | succ h => exact Nat.le_of_eq (List.length_map ..)
theorem kp_kids (h : Nat) (g : G (h + 1)) : kp (h + 1) g = (kids h g).map (gb h) := by simp [kp, kids]
theorem flat_le {α β : Type} (f : α → List β) (m : Nat) : ∀ l : List α, (∀ x ∈ l, (f x).length ≤ m) → (l.flatMap f).length ≤ m * l.length
  | [], _ => by simp
  | x :: l, h => by
    have h1 := h x (List.mem_cons_self ..)
    have h2 := flat_le f m l fun y hy => h y (List.mem_cons_of_mem _ hy)
    rw [List.flatMap_cons, List.length_append, List.length_cons, Nat.mul_succ]
    omega
theorem flat_ge {α β : Type} (f : α → List β) : ∀ l : List α, (∀ x ∈ l, 1 ≤ (f x).length) → l.length ≤ (l.flatMap f).length
  | [], _ => by simp
  | x :: l, h => by
    have h1 := h x (List.mem_cons_self ..)
    have h2 := flat_ge f l fun y hy => h y (List.mem_cons_of_mem _ hy)
    rw [List.flatMap_cons, List.length_append, List.length_cons]
    omega
theorem kids_ok {h : Nat} {gs : List (G (h + 1))} (hk : ∀ g ∈ gs, Ok (h + 1) g) : ∀ y ∈ gs.flatMap (kids h), Ok h y ∧ 2 ≤ cnt h y ∧ cnt h y ≤ 4 := by
  intro y hy
  obtain ⟨g, hg, hy⟩ := List.mem_flatMap.1 hy
  obtain ⟨x, hx, rfl⟩ := List.mem_map.1 hy
  have hq : Kid h (Ok h) x := hk g hg x hx
  exact ⟨hq.2.2.1, hq.1, hq.2.1⟩
theorem kids_kvs (h : Nat) (gs : List (G (h + 1))) : (gs.flatMap (kids h)).flatMap (kvs h) = gs.flatMap (kvs (h + 1)) := by
  rw [List.flatMap_assoc]
  congr 1
  funext g
  show ((Nd.l g).map (·.2)).flatMap (kvs h) = (Nd.l g).flatMap fun x => kvs h x.2
  rw [List.flatMap_map]
theorem wid_le : ∀ (h : Nat) (gs : List (G h)), (∀ g ∈ gs, Ok h g ∧ 2 ≤ cnt h g) → gs.length ≤ (gs.flatMap (kvs h)).length
  | 0, gs, hk => flat_ge (kvs 0) gs fun g hg => by have := (hk g hg).2; exact Nat.le_of_lt this
  | h + 1, gs, hk => by
    have h1 := wid_le h (gs.flatMap (kids h)) fun y hy => ⟨(kids_ok (fun g hg => (hk g hg).1) y hy).1, (kids_ok (fun g hg => (hk g hg).1) y hy).2.1⟩
    rw [kids_kvs] at h1
    refine Nat.le_trans (flat_ge (kids h) gs fun g hg => ?_) h1
    have h2 : 2 ≤ (Nd.l g).length := (hk g hg).2
    show 1 ≤ ((Nd.l g).map _).length
    rw [List.length_map]; omega
theorem lv_le : ∀ (h : Nat) (gs : List (G h)), (∀ g ∈ gs, Ok h g ∧ 2 ≤ cnt h g) → ∀ r ∈ lv h gs, r.length ≤ (gs.flatMap (kvs h)).length
  | 0, gs, hk, r, hr => by
    have hr : r = gs.map (cnt 0) := List.mem_singleton.1 hr
    subst hr
    rw [List.length_map]
    exact wid_le 0 gs hk
  | h + 1, gs, hk, r, hr => by
    rcases List.mem_cons.1 hr with rfl | hr
    · rw [List.length_map]; exact wid_le (h + 1) gs hk
    · have h1 := lv_le h (gs.flatMap (kids h)) (fun y hy => ⟨(kids_ok (fun g hg => (hk g hg).1) y hy).1, (kids_ok (fun g hg => (hk g hg).1) y hy).2.1⟩) r hr
      rw [kids_kvs] at h1
      exact h1
theorem lv_top {h : Nat} {g : G h} (ho : Ok h g) (hc : h = 0 ∨ 2 ≤ cnt h g) {n : Nat} (hn : (kvs h g).length ≤ n) (h1 : 1 ≤ n) : ∀ r ∈ lv h [g], r.length ≤ n := by
  intro r hr
  rcases hc with rfl | hc
  · have hr : r = [g].map (cnt 0) := List.mem_singleton.1 hr
    subst hr
    simpa using h1
  · have := lv_le h [g] (fun y hy => by rw [List.mem_singleton.1 hy]; exact ⟨ho, hc⟩) r hr
    simp at this
    omega
theorem lv_head (h : Nat) (gs : List (G h)) : ∃ r, r.length = gs.length ∧ r = gs.map (cnt h) ∧ ∃ t, lv h gs = r :: t := by
  cases h with
  | zero => exact ⟨_, List.length_map .., rfl, [], rfl⟩
  | succ h => exact ⟨_, List.length_map .., rfl, _, rfl⟩
theorem kids_at {h : Nat} {w : World} {gs : List (G (h + 1))} (hr : Row (h + 1) w gs) : Row h w (gs.flatMap (kids h)) := by
  intro y hy
  have h1 := kids_ok (fun g hg => (hr g hg).2.2.1) y hy
  obtain ⟨g, hg, hy⟩ := List.mem_flatMap.1 hy
  obtain ⟨x, hx, rfl⟩ := List.mem_map.1 hy
  obtain ⟨⟨R, ha⟩, _⟩ := hr g hg
  have ha : PAQ w (Nd.b g) R (Nd.v g) (kns h (Nd.l g)) ∧ ∀ x ∈ (Nd.l g), At h R0 w x.2 := ha
  exact ⟨⟨R0, ha.2 x hx⟩, h1.2.2, h1.1, .inr h1.2.1⟩
theorem kids_ne {h : Nat} {w : World} {gs : List (G (h + 1))} (hr : Row (h + 1) w gs) (hn : gs ≠ []) : gs.flatMap (kids h) ≠ [] := by
  obtain ⟨g, t, rfl⟩ := List.exists_cons_of_ne_nil hn
  have h2 := (hr g (List.mem_cons_self ..)).2.2.2
  have h2 : 2 ≤ (Nd.l g).length := h2.resolve_left (by omega)
  intro e
  have h3 := congrArg List.length e
  rw [List.flatMap_cons, List.length_append] at h3
  have h4 : (kids h g).length = (Nd.l g).length := List.length_map ..
  simp only [List.length_nil] at h3
  omega
theorem kp_flat (h : Nat) (gs : List (G (h + 1))) : gs.flatMap (kp (h + 1)) = (gs.flatMap (kids h)).map (gb h) := by
  rw [List.map_flatMap]
  congr 1
  funext g
  exact kp_kids h g
theorem kp_zero (gs : List (G 0)) : gs.flatMap (kp 0) = [] := by
  rw [List.flatMap_eq_nil_iff]
  exact fun _ _ => rfl
theorem lv_len : ∀ (h : Nat) (gs : List (G h)), (lv h gs).length = h + 1
  | 0, _ => rfl
  | h + 1, gs => by show (lv h _).length + 1 = _; rw [lv_len h]
theorem ht_le : ∀ (h : Nat) (g : G h), Ok h g → 2 ≤ cnt h g → h + 1 ≤ (kvs h g).length
  | 0, g, _, hc => Nat.le_of_lt hc
  | h + 1, g, ho, hc => by
    obtain ⟨b, v, l⟩ : Nd (G h) := g
    match l, ho, hc with
    | x :: y :: t, ho, _ =>
      have hx : Kid h (Ok h) x := ho x (List.mem_cons_self ..)
      have hy : Kid h (Ok h) y := ho y (List.mem_cons_of_mem _ (List.mem_cons_self ..))
      have h1 := ht_le h x.2 hx.2.2.1 hx.1
      have h2 := ht_le h y.2 hy.2.2.1 hy.1
      show _ ≤ ((x :: y :: t).flatMap fun x => kvs h x.2).length
      rw [List.flatMap_cons, List.flatMap_cons, List.length_append, List.length_append]
      omega
    | [], _, hc => exact absurd hc (by show ¬ 2 ≤ 0; omega)
    | [_], _, hc => exact absurd hc (by show ¬ 2 ≤ 1; omega)
theorem lv_short {h : Nat} {g : G h} (ho : Ok h g) (hc : h = 0 ∨ 2 ≤ cnt h g) {n : Nat} (hn : (kvs h g).length ≤ n) (h1 : 1 ≤ n) : (lv h [g]).length ≤ n := by
  rw [lv_len]
  rcases hc with rfl | hc
  · omega
  · have := ht_le h g ho hc; omega
end Go.Proofs.Ytejbbojephiifaa
