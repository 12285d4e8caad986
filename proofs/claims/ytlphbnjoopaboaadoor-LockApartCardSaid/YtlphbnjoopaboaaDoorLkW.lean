/- The lock table: New, Held, wanted, inTheWay. -/
import Derived.Test.YtlphbnjoopaboaaDoorLkB
import Derived.OwnWalk
import Derived.Sort.OwnSortedInts
namespace Go.Proofs.YtlphbnjoopaboaaDoor
open Go.RowKit Go.Maps Go.WideMaps

/-- A lock table in memory, from block B on: M has the mode of each name and of each one who holds it, N the names of each one. -/
structure LkAt (w : World) (B p bm bn n : Nat) (M N : Lit → Lit → Option Value) (om on : Lit → Option Nat) : Prop where
  tb : Tb w
  b2 : 2 ≤ B
  bw : B ≤ w.heap.size
  pb : B ≤ p
  hp : w.heap[p]? = some (.cells #[.map (some bm), .map (some bn)] 36 (0, 0))
  m : MM w Tryd.prog 9 3 bm n M om
  nn : MM w Tryd.prog 3 9 bn n N on
  hm : ∀ c, MMb bm om c → B ≤ c
  hn : ∀ c, MMb bn on c → B ≤ c
  sep : ∀ c, MMb bm om c → MMb bn on c → False
  mo : ∀ l j v, M l j = some v → ∃ k : Nat, 1 ≤ k ∧ k < 5 ∧ v = .int .i64 (k : Int)

def mN (M : Lit → Lit → Option Value) (l j : Lit) : Nat := match M l j with | some (.int _ z) => z.toNat | _ => 0
section
variable {w w' : World} {B p bm bn n : Nat} {M N : Lit → Lit → Option Value} {om on : Lit → Option Nat}
theorem LkAt.plt (h : LkAt w B p bm bn n M N om on) : p < w.heap.size := (Array.getElem?_eq_some_iff.1 h.hp).1
theorem LkAt.on_ (h : LkAt w B p bm bn n M N om on) (hb : Below w.heap.size w w') : LkAt w' B p bm bn n M N om on :=
  ⟨h.tb.below hb (Nat.le_trans h.b2 h.bw), h.b2, Nat.le_trans h.bw hb.size, h.pb, (hb.block p h.plt).trans h.hp, h.m.on hb, h.nn.on hb, h.hm, h.hn, h.sep, h.mo⟩
theorem LkAt.c0 (h : LkAt w B p bm bn n M N om on) : w.cell? ⟨p, 0, none⟩ = some (.map (some bm)) := (cell_of h.hp 0).1
theorem LkAt.c1 (h : LkAt w B p bm bn n M N om on) : w.cell? ⟨p, 1, none⟩ = some (.map (some bn)) := (cell_of h.hp 1).1
theorem LkAt.val (h : LkAt w B p bm bn n M N om on) (l j : Lit) : (M l j).getD (.int .i64 0) = .int .i64 (mN M l j : Int) ∧ mN M l j < 5 ∧ ((M l j).isSome = true ↔ 1 ≤ mN M l j) := by
  unfold mN
  cases hv : M l j with
  | none => exact ⟨rfl, by decide, by simp⟩
  | some v =>
    obtain ⟨k, h1, h2, rfl⟩ := h.mo l j v hv
    exact ⟨by simp, by simpa using h2, by simp; omega⟩
end

theorem new_lk (w : World) (T : Tb w) (hB : 2 ≤ w.heap.size) : Calls Tryd.prog 6 #[] w fun e w' => e = .returned (.pointer (some ⟨w.heap.size + 2, 0, none⟩)) ∧ LkAt w' w.heap.size (w.heap.size + 2) w.heap.size (w.heap.size + 1) 0 (fun _ _ => none) (fun _ _ => none) (fun _ => none) (fun _ => none) ∧ Below w.heap.size w w' := by
  have hmk := @run_makeMap Tryd.prog
  go_enter Tryd.func6, Tryd.ntmps6
  go_wp2
  go_ret
  have s1 : (w.alloc (.map #[] 0)).heap.size = w.heap.size + 1 := by simp
  have s2 : ((w.alloc (.map #[] 0)).alloc (.map #[] 0)).heap.size = w.heap.size + 2 := by simp
  have B1 : Below w.heap.size w (w.alloc (.map #[] 0)) := (Below.refl _ _).alloc (Nat.le_refl _) _
  have B2 := B1.alloc (by omega) (.map #[] 0)
  have B3 := B2.alloc (by omega) (.cells #[.map (some w.heap.size), .map (some (w.heap.size + 1))] 36)
  have M1 := MM.made w Tryd.prog 9 3
  have M2 := MM.made (w.alloc (.map #[] 0)) Tryd.prog 3 9
  rw [s1] at M2
  refine ⟨rfl, ⟨T.below B3 hB, hB, B3.size, by omega, ?_, (M1.on ((Below.refl _ _).alloc (Nat.le_refl _) _)).on ((Below.refl _ _).alloc (Nat.le_refl _) _), M2.on ((Below.refl _ _).alloc (Nat.le_refl _) _), ?_, ?_, ?_, fun _ _ _ h => by cases h⟩, B3⟩
  · rw [← s2]; exact heap_alloc_new _ _
  · rintro c (rfl | ⟨l, h⟩)
    · exact Nat.le_refl _
    · cases h
  · rintro c (rfl | ⟨l, h⟩)
    · omega
    · cases h
  · rintro c (rfl | ⟨l, h⟩) (e | ⟨l', h'⟩)
    · omega
    · cases h'
    · cases h
    · cases h

theorem held_any (w : World) {B p bm bn n : Nat} {M N : Lit → Lit → Option Value} {om on : Lit → Option Nat} (h : LkAt w B p bm bn n M N om on) {s : ByteArray} (hs : s.size ≤ maxLen) {i : Int} (hi : (Lit.int .i64 i).wf = true) :
    Calls Tryd.prog 9 #[.pointer (some ⟨p, 0, none⟩), .int .i64 i, .string s] w fun e w' => e = .returned (.int .i64 (mN M (sL s) (iL i) : Int)) ∧ w' = w := by
  have c0 := h.c0
  have k1 := h.m.out.look kS Tryd.underlying33 (zM1 w) (keyS hs)
  have hv := (h.val (sL s) (iL i)).1
  cases ho : om (sL s) with
  | none =>
    rw [ho] at k1
    simp only [Option.map_none, Option.getD_none] at k1
    have k2 : (Instr.lookup 45 (.map none) (.int .i64 i) false).run Tryd.prog w = .ok (.int .i64 0) w := Maps.look_nil false kI Tryd.underlying45 (zI w) (keyI hi)
    have hm := h.m.non _ ho
    have e : mN M (sL s) (iL i) = 0 := by unfold mN; rw [hm]
    rw [e]
    clear hv hm e h ho hs hi
    go_enter Tryd.func9, Tryd.ntmps9
    go_wp2
    go_ret
    exact ⟨rfl, rfl⟩
  | some c =>
    rw [ho] at k1
    simp only [Option.map_some, Option.getD_some] at k1
    have k2 := (h.m.inn _ _ ho).look kI Tryd.underlying45 (zI w) (keyI hi)
    rw [hv] at k2
    clear hv h ho hs hi
    generalize mN M (sL s) (iL i) = q at *
    go_enter Tryd.func9, Tryd.ntmps9
    go_wp2
    go_ret
    exact ⟨rfl, rfl⟩

theorem wanted_any (w : World) (T : Tb w) {a b : Nat} (ha : a < 5) (ha1 : 1 ≤ a) (hb : b < 5) : Calls Tryd.prog 11 #[.int .i64 (a : Int), .int .i64 (b : Int)] w fun e w' => e = .returned (.tuple #[.int .i64 (jN a b : Int), .bool true]) ∧ w' = w := by
  have C := joinN T ha hb rfl
  have h0 : (0 : Int) ≤ (jN a b : Int) := by omega
  have h1 : ¬ (a : Int) = 0 := by omega
  have h2 : ((a : Int) != 0) = true := by simp; omega
  generalize jN a b = q at *
  go_enter Tryd.func11, Tryd.ntmps11
  go_wp2_with (first | (go_at_call 19; refine C.mono ?_; rintro e w' ⟨rfl, hw⟩; obtain rfl := hw.symm; clear hw))
  exact bodyPost_ret (v := .tuple #[.int .i64 (q : Int), .bool true]) (by simp [results, Tryd.results11, go_sem]) rfl ⟨rfl, rfl⟩

theorem infoI64 : (Tryd.prog.info? 3).map (fun i => (i.zero, i.size, i.bytes)) = some (some (.int .i64 0), 1, 8) := by kernel_rfl
theorem info_parts {o : Option TypeInfo} {z : Value} {s b : Nat} (h : o.map (fun i => (i.zero, i.size, i.bytes)) = some (some z, s, b)) : ∃ i, o = some i ∧ i.zero = some z ∧ i.size = s ∧ i.bytes = b := by
  cases o with
  | none => cases h
  | some i =>
    simp only [Option.map_some, Option.some.injEq, Prod.mk.injEq] at h
    exact ⟨i, rfl, h.1, h.2.1, h.2.2⟩
def intV (l : List Int) : List Value := l.map (Value.int .i64)
theorem owns_slice {w : World} {b t n : Nat} {v : Value} {xs : List Value} (h : w.ownsRow b t 1 v n xs) : ∃ p c, v = .slice p n c := by
  obtain ⟨_, ⟨rfl, rfl⟩ | ⟨g, cap, cur, rfl, _⟩⟩ := h
  · exact ⟨_, _, rfl⟩
  · exact ⟨_, _, rfl⟩
theorem news_one (w : World) (k : Int) : ∀ (j : Nat) (u : Value), [Value.int .i64 k][j]? = some u → (w.alloc (.cells #[.int .i64 k] 3)).cell? ((⟨w.heap.size, 0, none⟩ : Addr).add j) = some u := by
  intro j u hu
  cases j with
  | zero =>
    simp only [List.getElem?_cons_zero, Option.some.injEq] at hu
    subst hu
    have e : (⟨w.heap.size, 0, none⟩ : Addr).add 0 = ⟨w.heap.size, 0, none⟩ := by unfold Addr.add; split <;> simp_all
    rw [e]
    exact (cell_of (heap_alloc_new w (.cells #[.int .i64 k] 3)) 0).1
  | succ j => simp at hu

/-- Who hinders: the others, rising, whose mode does not go with m. -/
structure Ways (M : Lit → Lit → Option Value) (l : Lit) (who : Int) (m : Nat) (L : List Int) : Prop where
  up : L.Pairwise (· < ·)
  iff : ∀ x, x ∈ L ↔ x ≠ who ∧ ∃ k : Nat, k < 5 ∧ M l (iL x) = some (.int .i64 (k : Int)) ∧ gN k m = false

def SlR (w : World) (B : Nat) (v : Value) (L : List Int) : Prop := w.ownsRow B 3 1 v L.length (intV L)

/-- What has been met of a map that is ranged over: those that are no longer to come, and of which c holds. -/
def Met (D : DataW Value) (left : Lit → Bool) (c : Int → Prop) (L : List Int) : Prop := L.Nodup ∧ ∀ x, x ∈ L ↔ (has D (iL x) = true ∧ left (iL x) = false ∧ c x)
theorem Met.start (D : DataW Value) (c : Int → Prop) : Met D (has D) c [] := ⟨List.nodup_nil, fun x => by cases has D (iL x) <;> simp⟩
theorem same_iL (x y : Int) : (iL y).sameKey (iL x) = decide (y = x) := by simp [iL, Lit.sameKey]
theorem Met.yes {D : DataW Value} {left : Lit → Bool} {c : Int → Prop} {L : List Int} (h : Met D left c L) {x : Int} (hl : left (iL x) = true) (hx : has D (iL x) = true) (hc : c x) : Met D (fun z => left z && !z.sameKey (iL x)) c (L ++ [x]) := by
  have hn : x ∉ L := fun e => by have := ((h.2 x).1 e).2.1; rw [hl] at this; cases this
  refine ⟨List.nodup_append.2 ⟨h.1, by simp, fun a ha b hb => by rintro rfl; simp at hb; subst hb; exact hn ha⟩, fun y => ?_⟩
  rw [List.mem_append, List.mem_singleton, h.2 y]
  dsimp only
  rw [same_iL]
  by_cases e : y = x
  · subst e; simp [hx, hc]
  · simp [e]
theorem Met.no {D : DataW Value} {left : Lit → Bool} {c : Int → Prop} {L : List Int} (h : Met D left c L) {x : Int} (hc : ¬ c x) : Met D (fun z => left z && !z.sameKey (iL x)) c L := by
  refine ⟨h.1, fun y => ?_⟩
  rw [h.2 y]
  dsimp only
  rw [same_iL]
  by_cases e : y = x
  · subst e; simp [hc]
  · simp [e]

theorem invKI : ∀ key kl, keyOf Tryd.prog 3 key = some kl → ∃ x : Int, key = .int .i64 x := fun _ _ h => by obtain ⟨x, hx, _⟩ := Maps.keyOf_int_inv Tryd.underlying3 h; exact ⟨x, hx⟩
theorem invVV : ∀ (v : Value) (y : DataW Value × List MemPlace), tokR v = some y → ∃ c, v = id c := fun v _ _ => ⟨v, rfl⟩

theorem way_nil (w : World) {B p bm bn n : Nat} {M N : Lit → Lit → Option Value} {om on : Lit → Option Nat} (h : LkAt w B p bm bn n M N om on) {s : ByteArray} (hs : s.size ≤ maxLen) (i : Int) (m : Nat) (ho : om (sL s) = none) :
    Calls Tryd.prog 12 #[.pointer (some ⟨p, 0, none⟩), .int .i64 i, .string s, .int .i64 (m : Int)] w fun e w' => e = .returned (.slice none 0 0) ∧ Ways M (sL s) i m [] ∧ Below w.heap.size w w' := by
  have c0 := h.c0
  have k1 := h.m.out.look kS Tryd.underlying33 (zM1 w) (keyS hs)
  rw [ho] at k1
  simp only [Option.map_none, Option.getD_none] at k1
  have hrg := run_range_nilMap (P := Tryd.prog) w 45 3 3 Tryd.underlying45
  have hnx : ∀ ty, (Instr.next (.pointer (some ⟨w.heap.size, 0, none⟩)) false ty).run Tryd.prog (w.alloc (.mapIter none 0 #[] 0)) = _ := fun ty => run_next_nilMap w ty 0 0 #[]
  have HW : Hid (Ways M (sL s) i m []) := ⟨List.Pairwise.nil, fun x => by rw [h.m.non _ ho]; simp⟩
  clear h ho hs
  go_enter Tryd.func12, Tryd.ntmps12
  go_wp2
  refine wp_loop_rounds 1 ?_
  rw [rounds_succ]
  go_wp2_with (first | (go_at_call 21; refine (Tryd.slices_Sort_int_none none 0 _).mono ?_; rintro e w' ⟨rfl, hw⟩; obtain rfl := hw.symm; clear hw))
  go_ret
  exact ⟨rfl, HW.out, (Below.refl _ _).alloc (Nat.le_refl _) _⟩

theorem has_of {D : DataW Value} {l : Lit} {v : Value} (h : atL D l = some v) : has D l = true := by
  cases hh : has D l with
  | true => rfl
  | false => unfold atL at h; rw [atKey_of_not_has hh] at h; cases h

theorem ways_of {M : Lit → Lit → Option Value} {l : Lit} {who : Int} {m : Nat} {D : DataW Value} {left : Lit → Bool} {L : List Int} (hD : ∀ j, WideAt.IsKeyLit j → M l j = atL D j) (h : Met D left (fun x => x ≠ who ∧ ∃ k : Nat, k < 5 ∧ M l (iL x) = some (.int .i64 (k : Int)) ∧ gN k m = false) L) (hl : ∀ kl, left kl = false) :
    Ways M l who m (L.mergeSort fun x y => decide (x ≤ y)) := by
  have hp := List.mergeSort_perm L fun x y => decide (x ≤ y)
  have hpw : (L.mergeSort (fun x y => decide (x ≤ y))).Pairwise (fun x y => decide (x ≤ y) = true) := List.pairwise_mergeSort (fun a b c h1 h2 => by simp at *; omega) (fun a b => by simp; omega) L
  have hnd := hp.nodup_iff.2 h.1
  refine ⟨(hpw.and hnd).imp fun {a b} hab => ?_, fun x => ?_⟩
  · have h1 := hab.1
    have h2 := hab.2
    simp at h1
    omega
  · rw [hp.mem_iff, h.2 x]
    constructor
    · exact fun e => e.2.2
    · intro e
      obtain ⟨k, _, hk, _⟩ := e.2
      exact ⟨has_of ((hD (iL x) trivial).symm.trans hk), hl _, e⟩

def Cond (M : Lit → Lit → Option Value) (l : Lit) (who : Int) (m : Nat) (x : Int) : Prop := x ≠ who ∧ ∃ k : Nat, k < 5 ∧ M l (iL x) = some (.int .i64 (k : Int)) ∧ gN k m = false

set_option maxRecDepth 100000 in
set_option maxHeartbeats 2000000 in
theorem way_some (w : World) {B p bm bn n : Nat} {M N : Lit → Lit → Option Value} {om on : Lit → Option Nat} (h : LkAt w B p bm bn n M N om on) {s : ByteArray} (hs : s.size ≤ maxLen) (i : Int) {m : Nat} (hm5 : m < 5) (hn : n ≤ 1000) {c : Nat} (ho : om (sL s) = some c) :
    Calls Tryd.prog 12 #[.pointer (some ⟨p, 0, none⟩), .int .i64 i, .string s, .int .i64 (m : Int)] w fun e w' => ∃ v L, e = .returned v ∧ Ways M (sL s) i m L ∧ SlR w' w.heap.size v L ∧ Below w.heap.size w w' := by
  obtain ⟨ii, hi, hz0, hz1, hz2⟩ := info_parts infoI64
  have c0 := h.c0
  have k1 := h.m.out.look kS Tryd.underlying33 (zM1 w) (keyS hs)
  rw [ho] at k1
  simp only [Option.map_some, Option.getD_some] at k1
  obtain ⟨D, hown, hD⟩ := h.m.inn _ _ ho
  have hsz := hown.size_le
  have HM : Hid (∀ l j v, M l j = some v → ∃ k : Nat, 1 ≤ k ∧ k < 5 ∧ v = .int .i64 (k : Int)) := h.mo
  have HD : Hid (∀ l, WideAt.IsKeyLit l → M (sL s) l = atL D l) := hD
  have HT : Hid (Tb w ∧ 2 ≤ w.heap.size) := ⟨h.tb, Nat.le_trans h.b2 h.bw⟩
  have HO := Lib.hid hown
  clear h ho hs hD
  go_enter Tryd.func12, Tryd.ntmps12
  go_wp2_with (first
    | (at_range; refine wpList_range_own _ rfl _ 45 rfl 3 3 kI Tryd.underlying45 _ c n D rfl hown ?_; intro w0 hrg0 hg0 hs0)
    | go_in)
  go_frame
  have hb0 : Below w.heap.size w w0 := (Below.refl _ _).grown hg0 (Nat.le_refl _) (fun k hk => by cases hk)
  have R0 : Hid (∃ (L : List Int) (left : Lit → Bool) (cnt : Nat), w0.ranges Tryd.prog 3 tokR c w.heap.size n D left cnt ∧ SlR w0 w.heap.size (.slice none 0 0) L ∧ Met D left (Cond M (sL s) i m) L ∧ L.length + cnt ≤ n ∧ Below w.heap.size w w0) :=
    ⟨[], _, _, hrg0, World.ownsRow_nil _ _ _ _, Met.start _ _, by simpa using hsz, hb0⟩
  clear hrg0 hg0 hs0 hb0 c0 k1
  go_loopw [9] (fun sv wr => Hid (∃ (L : List Int) (left : Lit → Bool) (cnt : Nat), wr.ranges Tryd.prog 3 tokR c w.heap.size n D left cnt ∧ SlR wr w.heap.size sv L ∧ Met D left (Cond M (sL s) i m) L ∧ L.length + cnt ≤ n ∧ Below w.heap.size w wr)) (fun _ wr => wr.rangeLeft c w.heap.size)
  case atStart => exact R0
  case round =>
    obtain ⟨L, left, cnt, hrg, hsl, hmet, hlen, hb⟩ := hrel.out
    clear hrel R0
    have HS := Lib.hid hsl
    have HMET := Lib.hid hmet
    have HB := Lib.hid hb
    have HLE := Lib.hid hrg.left_eq
    clear hmet hb
    obtain ⟨pt, cap, rfl⟩ := owns_slice hsl
    clear hsl
    go_wp2_with (first
      | (at_next; refine wpList_next_ranges _ rfl _ rfl 3 kI tokR (fun x : Int => .int .i64 x) (id : Value → Value) invKI invVV c w.heap.size n D left cnt rfl hrg ?_ ?_)
      | go_in)
    · intro _ hl0
      have HW := Lib.hid (ways_of HD.out HMET.out hl0)
      have hll : (L.mergeSort (fun x y => decide (x ≤ y))).length = L.length := (List.mergeSort_perm _ _).length_eq
      have HSZ := hrg.owns.size_le
      clear hrg hl0
      rcases HS.out.2 with ⟨hnil, _⟩ | ⟨g, cap', cur, hv, hbase, hbk, h1, h2, h3, h4⟩
      · injection hnil with e1 e2 e3
        subst e1 e3
        obtain rfl : L = [] := List.eq_nil_of_length_eq_zero e2
        clear hll e2
        go_wp2_with (first | (go_at_call 21; refine (Tryd.slices_Sort_int_none none 0 _).mono ?_; rintro e w' ⟨rfl, hw⟩; obtain rfl := hw.symm; clear hw))
        go_ret
        exact ⟨_, _, rfl, HW.out, by rw [List.mergeSort_nil]; exact HS.out, HB.out⟩
      · injection hv with e1 e2 e3
        subst e1 e3
        have hH := holds_of_blockI hbk (by simpa [intV] using h4)
        have hg := (Array.getElem?_eq_some_iff.1 hbk).1
        have CS := Tryd.slices_Sort_int g 0 cap L wr hH hg (by omega)
        have HO2 : Hid (∀ (n' : Nat) (os : Array Obj), SlR (Sort.grow (Sort.putRow (Value.int .i64) (Sort.ahead wr n') g 0 (L.mergeSort fun x y => decide (x ≤ y)).toArray) os) w.heap.size (.slice (some ⟨g, 0, none⟩) L.length cap) (L.mergeSort fun x y => decide (x ≤ y)) ∧ Below w.heap.size w (Sort.grow (Sort.putRow (Value.int .i64) (Sort.ahead wr n') g 0 (L.mergeSort fun x y => decide (x ≤ y)).toArray) os)) := fun n' os => by
          refine ⟨?_, HB.out.grown (grownBy_sortedI _) HB.out.size (fun k hk => by cases hk; exact hbase)⟩
          have := ownsRow_sortedI (n := n') (os := os) hll hbase hbk h1 h2 h3
          unfold SlR intV
          rw [hll]
          exact this
        clear hH hg hbk h1 h2 h3 h4 hbase hll HSZ hlen
        go_wp2_with (first | (go_at_call 21; refine CS.mono ?_; rintro e w' ⟨rfl, n', os, hw⟩; have H3 := Lib.hid (HO2.out n' os); rw [← hw] at H3; clear hw))
        go_ret
        exact ⟨_, _, rfl, HW.out, H3.out.1, H3.out.2⟩
    · intro x v kl y ps w1 cnt1 hkx hlx hy hat hrg1 hlt hg1 hs1 hen
      obtain ⟨x', hx', rfl, hwx⟩ := Maps.keyOf_int_inv Tryd.underlying3 hkx
      injection hx' with _ hx'
      subst hx'
      obtain ⟨rfl, rfl⟩ := Prod.mk.inj (Option.some.inj hy)
      clear hy hkx
      have hM : M (sL s) (iL x) = some v := (HD.out (iL x) trivial).trans (by unfold atL iL; rw [hat .nil])
      have hhas : has D (iL x) = true := has_true_of_atKey hat
      obtain ⟨k, hk1, hk5, rfl⟩ := HM.out _ _ _ hM
      have hsl1 : SlR w1 w.heap.size (.slice pt L.length cap) L := HS.out.kept hg1 (Or.inr (Ne.symm (row_ne_iter HS.out hrg)))
      have hb1 : Below w.heap.size w w1 := HB.out.grown hg1 HB.out.size (fun k hk => by cases hk; exact Nat.le_refl _)
      have T1 := HT.out.1.below hb1 HT.out.2
      have HLX := Lib.hid hlx
      have HRG1 := Lib.hid hrg1
      have HS1 := Lib.hid hsl1
      have HB1 := Lib.hid hb1
      have HMM := Lib.hid hM
      have HHAS := Lib.hid hhas
      have HLT := Lib.hid hlt
      clear hlx hrg1 hsl1 hb1 hM hhas hlt hat hg1 hs1 hrg
      by_cases e : x = i
      · have hno : Hid (¬ Cond M (sL s) i m x) := fun h => h.1 e
        subst e
        clear T1
        go_wp2
        go_roundw
        case rel => exact ⟨L, _, cnt1, HRG1.out, HS1.out, HMET.out.no hno.out, by have := HLT.out; omega, HB1.out⟩
        case measure => rw [HRG1.out.left_eq, HLE.out]; exact HLT.out
      · cases hg : gN k m with
        | true =>
          have hno : Hid (¬ Cond M (sL s) i m x) := by
            rintro ⟨_, k', _, hk', hf⟩
            rw [HMM.out] at hk'
            injection hk' with hk'
            injection hk' with _ hk'
            have : k = k' := by omega
            subst this
            rw [hg] at hf
            cases hf
          have CG := goesN T1 hk5 hm5 hg
          clear T1 hg
          go_wp2_with (first | (go_at_call 20; refine CG.mono ?_; rintro e w' ⟨rfl, hw⟩; obtain rfl := hw.symm; clear hw))
          go_roundw
          case rel => exact ⟨L, _, cnt1, HRG1.out, HS1.out, HMET.out.no hno.out, by have := HLT.out; omega, HB1.out⟩
          case measure => rw [HRG1.out.left_eq, HLE.out]; exact HLT.out
        | false =>
          have hyes : Hid (Cond M (sL s) i m x) := ⟨e, k, hk5, HMM.out, hg⟩
          have CG := goesN T1 hk5 hm5 hg
          clear T1 hg
          go_wp2_with (first | (go_at_call 20; refine CG.mono ?_; rintro e w' ⟨rfl, hw⟩; obtain rfl := hw.symm; clear hw) | (at_builtin; refine wpList_append_own _ rfl _ _ 25 rfl w.heap.size 3 ii (.int .i64 0) 1 8 Tryd.underlying25 hi hz0 hz1 hz2 rfl (by decide) _ _ _ rfl (HS1.out.alloc _) ⟨w1.heap.size, 0, none⟩ 1 1 [.int .i64 x] rfl ?c2 ?c3 ?c4 ?c5 ?c6 ?c7 ?_))
          · rfl
          · exact news_one w1 x
          · intro u hu; obtain rfl := List.mem_singleton.1 hu; rfl
          · unfold maxLen; omega
          · omega
          · simp only [Array.size_push, World.alloc]; have := HB1.out.size; omega
          intro v' w3 hown3 hgrow _
          have hcl : c < w.heap.size := HO.out.lt
          have hrg3 := (HRG1.out.alloc (.cells #[.int .i64 x] 3)).kept hgrow (row_ne_low HS1.out hcl) (row_ne_iter HS1.out HRG1.out)
          have hb3 : Below w.heap.size w w3 := (HB1.out.alloc HB1.out.size _).grown hgrow (by simp only [Array.size_push, World.alloc]; have := HB1.out.size; omega) (fun k hk => (HS1.out.lt k hk).1)
          have hs3 : SlR w3 w.heap.size v' (L ++ [x]) := by
            unfold SlR intV
            rw [List.length_append, List.map_append]
            exact hown3
          have hmt := HMET.out.yes HLX.out HHAS.out hyes.out
          have HR : Hid (∃ (L : List Int) (left : Lit → Bool) (cnt : Nat), w3.ranges Tryd.prog 3 tokR c w.heap.size n D left cnt ∧ SlR w3 w.heap.size v' L ∧ Met D left (Cond M (sL s) i m) L ∧ L.length + cnt ≤ n ∧ Below w.heap.size w w3) :=
            ⟨_, _, cnt1, hrg3, hs3, hmt, by have := HLT.out; rw [List.length_append, List.length_singleton]; omega, hb3⟩
          have HLE3 : Hid (w3.rangeLeft c w.heap.size < wr.rangeLeft c w.heap.size) := by rw [show w3.rangeLeft c w.heap.size = _ from hrg3.left_eq, HLE.out]; exact HLT.out
          clear hrg3 hb3 hs3 hmt hown3 hgrow hcl
          go_wp2
          go_roundw
          case rel => exact HR
          case measure => exact HLE3.out
end Go.Proofs.YtlphbnjoopaboaaDoor
