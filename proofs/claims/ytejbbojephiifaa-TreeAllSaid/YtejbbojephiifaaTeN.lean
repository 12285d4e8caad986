/- tree: slices.Insert of one element. -/
import Derived.Test.YtejbbojephiifaaTeI
namespace Go.Proofs.Ytejbbojephiifaa
open Go.RowKit

theorem run_append_types {P : Program} (w : World) (t u ty e : TypeId) (s x : Value) (ht : P.underlying t = some (.slice e)) (hu : P.underlying u = some (.slice e)) :
    (Builtin.append_ #[t, u] ty #[s, x]).run P w = (Builtin.append_ #[t, t] ty #[s, x]).run P w := by
  cases s <;> simp [Builtin.append_, Sem.run_bind, run_underlying ht, run_underlying hu]
theorem wpList_append_r {P : Program} (w : World) {ops : Array Oper} {rest : List Oper} {o : Oper} {a : Act} {Q : Exit → Act → World → Prop} (hgd : o.guard = none) (d s : Operand) (dT sT : TypeId)
    (ho : o.op = .call { callee := .builtin .append, args := #[d, s], argTypes := #[dT, sT] }) (v u : Value) (hd : a.eval d = v) (hs : a.eval s = u) {v' : Value} {w' : World}
    (hr : (Builtin.append_ #[dT, sT] o.type #[v, u]).run P w = .ok v' w') (h : wpList P ops Q rest (a.put o.dst v') w') : wpList P ops Q (o :: rest) a w :=
  wpList_plain hgd fun _ hK => by
    unfold Oper.wp execOp
    simp only [ho, resolve, invoke, builtin, Sem.run_bind, Sem.run_pure, Result.andThen_ok, List.map_toArray, List.map_cons, List.map_nil, hd, hs, hr]
    exact hK _ _ h

section
variable (w : World) (xs : List KV) (x : KV) (h : Nat) (hh : w.heap[h]? = some (.cells x.en.toArray 78 (0, 0)))
include hh
abbrev InsP (w : World) (v : Value) (n i : Nat) (xs : List KV) (x : KV) (e : Ending) (w' : World) : Prop := ∃ g cp, e = .returned (.slice (some ⟨g, 0, none⟩) (n + 1) cp) ∧ w'.ownsRow 0 78 3 (.slice (some ⟨g, 0, none⟩) (n + 1) cp) (n + 1) ((xs.take i ++ x :: xs.drop i).flatMap KV.en) ∧ Fr w.heap.size (fun b => v.ownBlock = some b) w w' ∧ (v.ownBlock = some g ∨ w.heap.size ≤ g)

set_option maxRecDepth 100000 in
set_option maxHeartbeats 1000000 in
/-- At the end. -/
theorem insP_end (v : Value) (n : Nat) (hn : n = xs.length) (hsm : n ≤ 1000) (ho : w.ownsRow 0 78 3 v n (xs.flatMap KV.en)) :
    Calls Try.prog 43 #[v, .int .i64 n, .slice (some ⟨h, 0, none⟩) 1 1] w (InsP w v n n xs x) := by
  obtain ⟨ii, hi, hz0, hz1, hz2⟩ := info_parts infoKV
  obtain ⟨g, cap, w2, hr, ho2, hgr, hat, hlt⟩ := run_append_lies (P := Try.prog) w 62 62 0 78 ii _ 3 32 Try.underlying62 hi hz0 hz1 hz2 rfl (by decide) v n (xs.flatMap KV.en) ho ⟨h, 0, none⟩ 1 1 x.en (by rw [x.en_len]) (fun j u hu => by
    rw [add_off, Nat.zero_add, (cell_of hh _).1]; simpa using hu) x.en_one (by decide) (by unfold maxLen; omega) (by omega) (Nat.zero_le _) _ rfl
  have hr' : ∀ ty, (Builtin.append_ #[62, 61] ty #[v, .slice (some ⟨h, 0, none⟩) 1 1]).run Try.prog w = .ok (.slice (some ⟨g, 0, none⟩) (n + 1) cap) w2 := fun ty => by
    rw [run_append_types w 62 61 ty 78 _ _ Try.underlying62 Try.underlying61]
    exact hr
  have e1 : xs.flatMap KV.en ++ x.en = (xs.take n ++ x :: xs.drop n).flatMap KV.en := by rw [hn, List.take_length, List.drop_length, List.flatMap_append]; simp
  rw [e1] at ho2
  have hfr : Fr w.heap.size (fun b => v.ownBlock = some b) w w2 := (Fr.refl _ _ w).grown hgr (Nat.le_refl _) (fun b hb => .inl hb)
  have hat2 : v.ownBlock = some g ∨ w.heap.size ≤ g := hat.imp_right (fun e => by omega)
  obtain ⟨A0, cp0, rfl⟩ := own_shape ho
  have HR := Lib.hid hr'
  have HO := Lib.hid ho2
  have HF := Lib.hid hfr
  have HA := Lib.hid hat2
  clear hr hr' ho2 hgr hat hlt e1 hfr hat2 ho hi hz0 hz1 hz2 hh hn
  have hle : ∀ p : Option Addr, (if cp0 = n then p else p) = p := fun p => by split <;> rfl
  by_cases hc : cp0 = n
  · subst hc
    go_enter Try.func43, Try.ntmps43
    go_wp2_with (with_reducible refine wpList_append_r _ rfl (.tmp 23) (.tmp 24) 62 61 rfl (.slice A0 cp0 cp0) (.slice (some ⟨h, 0, none⟩) 1 1) rfl rfl (HR.out _) ?_)
    go_ret
    exact ⟨g, cap, rfl, HO.out, HF.out, HA.out⟩
  · go_enter Try.func43, Try.ntmps43
    go_wp2_with (with_reducible refine wpList_append_r _ rfl (.tmp 23) (.tmp 24) 62 61 rfl (.slice A0 n cp0) (.slice (some ⟨h, 0, none⟩) 1 1) rfl rfl (HR.out _) ?_)
    go_ret
    exact ⟨g, cap, rfl, HO.out, HF.out, HA.out⟩

section
variable (g n c i : Nat) (hn : n = xs.length) (hsm : n ≤ 1000) (hin : i < n) (ho : w.ownsRow 0 78 3 (.slice (some ⟨g, 0, none⟩) n c) n (xs.flatMap KV.en)) (hne : h ≠ g)
include hn hsm hin ho

include hne in
set_option maxRecDepth 100000 in
set_option maxHeartbeats 1000000 in
/-- In the middle, where there is room. -/
theorem insP_room (hroom : n + 1 ≤ c) :
    Calls Try.prog 43 #[.slice (some ⟨g, 0, none⟩) n c, .int .i64 i, .slice (some ⟨h, 0, none⟩) 1 1] w (InsP w (.slice (some ⟨g, 0, none⟩) n c) n i xs x) := by
  obtain ⟨ii, hi, hz0, hz1, hz2⟩ := info_parts infoKV
  obtain ⟨cap, cur, hcap, hg, hnc, hcm, hcs, htk⟩ : ∃ cap cur, cap = c ∧ w.heap[g]? = some (.cells cur 78 (0, 0)) ∧ n ≤ cap ∧ cap ≤ maxLen ∧ cur.size = cap * 3 ∧ cur.toList.take (n * 3) = xs.flatMap KV.en := by
    rcases ho.2 with ⟨e, _⟩ | ⟨g', cap, cur, e, _, hg, h4, h5, h6, h7⟩
    · cases e
    · cases e
      exact ⟨_, cur, rfl, hg, h4, h5, h6, h7⟩
  subst hcap
  clear ho
  have hcm' := hcm
  unfold maxLen at hcm'
  have htl : ((xs.take i).flatMap KV.en).length = i * 3 := by rw [flat_len KV.en_len, List.length_take]; congr 1; omega
  have e1 : (xs.drop i).flatMap KV.en = (cur.toList.take (n * 3)).drop (i * 3) := by
    rw [htk]
    conv => rhs; rw [← List.take_append_drop i xs, List.flatMap_append]
    rw [List.drop_left' htl]
  have e2 : (xs.take i).flatMap KV.en = cur.toList.take (i * 3) := by
    rw [show cur.toList.take (i * 3) = (cur.toList.take (n * 3)).take (i * 3) by rw [List.take_take]; congr 1; omega, htk]
    conv => rhs; rw [← List.take_append_drop i xs, List.flatMap_append]
    rw [List.take_left' htl]
  have e3 : (xs.take i ++ x :: xs.drop i).flatMap KV.en = (xs.take i).flatMap KV.en ++ x.en ++ (xs.drop i).flatMap KV.en := by simp
  obtain ⟨cs, hcs1⟩ : ∃ cs, cs = (xs.drop i).flatMap KV.en := ⟨_, rfl⟩
  have hdl : cs.length = (n - i) * 3 := by rw [hcs1, flat_len KV.en_len, List.length_drop, hn]
  have hone : ∀ u ∈ cs, u.oneCell' = true := fun u hu => by
    rw [hcs1] at hu
    obtain ⟨y, _, hy⟩ := List.mem_flatMap.1 hu
    exact y.en_one u hy
  rw [← hcs1] at e1 e3
  have fit1 : (i + 1) * 3 + cs.length ≤ cur.size := by rw [hdl, hcs]; omega
  have hx1 : x.en.length = 3 := x.en_len
  have hmin : Nat.min (n + 1 - i) (n - i) = n - i := Nat.min_eq_right (by omega)
  have hmin1 : Nat.min 1 (n + 1 - i) = 1 := Nat.min_eq_left (by omega)
  have hc1 : ∀ ty, (Builtin.copy_ #[62, 62] ty #[.slice (some ⟨g, (i + 1) * 3, none⟩) (n - i) (cap - (i + 1)), .slice (some ⟨g, i * 3, none⟩) (n + 1 - i) (cap - i)]).run Try.prog w.drew = .ok (goInt ((n - i : Nat) : Int)) (w.drew.setRow g (lay cur ((i + 1) * 3) cs)) := fun ty => by
    have := run_copy_k (P := Try.prog) w.drew 62 62 ty 78 g ((i + 1) * 3) (n - i) (cap - (i + 1)) ⟨g, i * 3, none⟩ (n + 1 - i) (cap - i) 3 cur 78 cs Try.underlying62 szKV hg (by rw [hmin, hdl]) (news_of hg e1) fit1 hone
    rwa [hmin] at this
  have hg1 : (w.drew.setRow g (lay cur ((i + 1) * 3) cs)).heap[g]? = some (.cells (lay cur ((i + 1) * 3) cs) 78 (0, 0)) := setRow_heap w.drew g cur _ _ _ hg
  have hh1 : (w.drew.setRow g (lay cur ((i + 1) * 3) cs)).heap[h]? = some (.cells x.en.toArray 78 (0, 0)) := (setRow_far _ _ _ hne).trans hh
  have hs1 := lay_size fit1
  have fit2 : i * 3 + x.en.length ≤ (lay cur ((i + 1) * 3) cs).size := by rw [hs1, hcs, hx1]; omega
  have hc2 : ∀ ty, (Builtin.copy_ #[62, 61] ty #[.slice (some ⟨g, i * 3, none⟩) (n + 1 - i) (cap - i), .slice (some ⟨h, 0, none⟩) 1 1]).run Try.prog (w.drew.setRow g (lay cur ((i + 1) * 3) cs)) = .ok (goInt 1) ((w.drew.setRow g (lay cur ((i + 1) * 3) cs)).setRow g (lay (lay cur ((i + 1) * 3) cs) (i * 3) x.en)) := fun ty => by
    have := run_copy_k (P := Try.prog) (w.drew.setRow g (lay cur ((i + 1) * 3) cs)) 62 61 ty 78 g (i * 3) (n + 1 - i) (cap - i) ⟨h, 0, none⟩ 1 1 3 _ 78 x.en Try.underlying62 szKV hg1 (by rw [hmin1, hx1]) (fun j u hu => by rw [add_off, Nat.zero_add, (cell_of hh1 _).1]; simpa using hu) fit2 x.en_one
    rwa [hmin1] at this
  have hfr : Fr w.heap.size (fun b => (Value.slice (some ⟨g, 0, none⟩) n cap).ownBlock = some b) w ((w.drew.setRow g (lay cur ((i + 1) * 3) cs)).setRow g (lay (lay cur ((i + 1) * 3) cs) (i * 3) x.en)) := ((Fr.refl w.heap.size (fun b => (Value.slice (some ⟨g, 0, none⟩) n cap).ownBlock = some b) w).drew.setRow (b := g) (.inl rfl) _).setRow (b := g) (.inl rfl) _
  have hown : ((w.drew.setRow g (lay cur ((i + 1) * 3) cs)).setRow g (lay (lay cur ((i + 1) * 3) cs) (i * 3) x.en)).ownsRow 0 78 3 (.slice (some ⟨g, 0, none⟩) (n + 1) cap) (n + 1) ((xs.take i ++ x :: xs.drop i).flatMap KV.en) := by
    refine own_of (setRow_heap _ g _ _ _ _ hg1) hroom hcm (by rw [lay_size fit2, hs1, hcs]) ?_ ?_
    · rw [lay_mid fit2 (by rw [hx1]; omega), lay_lo fit1 (by omega), show (n + 1) * 3 = (i + 1) * 3 + cs.length by rw [hdl]; omega, lay_hi fit1, e3, e2, hx1, List.drop_left' (by rw [List.length_take, Array.length_toList, hcs]; omega)]
    · rw [e3, List.length_append, List.length_append, htl, hx1, hdl]; omega
  have hov : ∀ lb cb, (callFunc 54 #[.slice (some ⟨h, 0, none⟩) 1 1, .slice (some ⟨g, (i + 1) * 3, none⟩) lb cb]).run Try.prog w = .ok (.value (.bool false)) w := fun lb cb => by
    rw [run_callFunc_extern Try.func54 (by kernel_rfl) (by kernel_rfl) (by kernel_rfl) (e := Extern.SlicesOverlaps.overlaps #[61, 61] #[4]) (by kernel_rfl),
      Lib.run_overlaps_apart w 61 4 78 Try.underlying61 3 Try.sizeOf78 ⟨h, 0, none⟩ ⟨g, (i + 1) * 3, none⟩ 1 1 lb cb hne 78 78 x.en.toArray.size cur.size (shape_of hh) (shape_of hg) (by rw [hcs]; omega) (cell_of hh _).2 (cell_of hh _).2]
    rfl
  have HC1 := Lib.hid hc1
  have HC2 := Lib.hid hc2
  have HF := Lib.hid hfr
  have HO := Lib.hid hown
  have ne1 : ¬ ((i : Int) = (n : Int)) := by omega
  have hx1 : ((i : Int)) ≤ (n : Int) := by omega
  have hx2 : ¬ ((cap : Int) < (n : Int) + 1) := by omega
  have hx3 : (n : Int) + 1 ≤ (cap : Int) := by omega
  have hx4 : ¬ cap = i + 1 := by omega
  have hx5 : ¬ cap = i := by omega
  have hx6 : i + 1 ≤ n + 1 := by omega
  have hx7 : i ≤ n + 1 := by omega
  have hx8 : i + 1 ≤ cap := by omega
  have hx9 : i ≤ n := by omega
  have hxa : (i : Int) + 1 ≤ (n : Int) + 1 := by omega
  have hxb : n + 1 - (i + 1) = n - i := by omega
  have hxc : (i : Int) ≤ (n : Int) + 1 := by omega
  have hwr : IntKind.i64.wrap ((i : Int) + 1) = (i : Int) + 1 := IntWalk.i64_in _ (by omega)
  have hwt : ((i : Int) + 1).toNat = i + 1 := by omega
  have hwz : (0 : Int) ≤ (i : Int) + 1 := by omega
  generalize hW : w.drew.setRow g (lay cur ((i + 1) * 3) cs) = w1 at *
  clear hW hc1 hc2 hfr hown hg hg1 hh hh1 htk e1 e2 e3 fit1 fit2 hs1 hcs hdl htl hcs1 hz0 hz1 hz2 hi hn hone hmin hmin1
  go_enter Try.func43, Try.ntmps43
  go_wp2_with fail
  go_region_law (refine step_copy_r (v' := goInt ((n - i : Nat) : Int)) (w' := w1) rfl (.tmp 73) (.tmp 76) 62 62 rfl (.slice (some ⟨g, (i + 1) * 3, none⟩) (n - i) (cap - (i + 1))) (.slice (some ⟨g, i * 3, none⟩) (n + 1 - i) (cap - i)) (by go_simp) (by go_simp) (HC1.out _) ?_)
  go_wp2_with (with_reducible refine wpList_copy_r _ rfl (.tmp 80) (.tmp 81) 62 61 rfl (.slice (some ⟨g, i * 3, none⟩) (n + 1 - i) (cap - i)) (.slice (some ⟨h, 0, none⟩) 1 1) rfl rfl (HC2.out _) ?_)
  go_ret
  exact ⟨g, cap, rfl, HO.out, HF.out, .inl rfl⟩

set_option maxRecDepth 100000 in
set_option maxHeartbeats 1000000 in
/-- In the middle, where there is none. -/
theorem insP_grow (hroom : ¬ n + 1 ≤ c) :
    Calls Try.prog 43 #[.slice (some ⟨g, 0, none⟩) n c, .int .i64 i, .slice (some ⟨h, 0, none⟩) 1 1] w (InsP w (.slice (some ⟨g, 0, none⟩) n c) n i xs x) := by
  obtain ⟨ii, hi, hz0, hz1, hz2⟩ := info_parts infoKV
  obtain ⟨cap, cur, hcap, hg, hnc, hcm, hcs, htk⟩ : ∃ cap cur, cap = c ∧ w.heap[g]? = some (.cells cur 78 (0, 0)) ∧ n ≤ cap ∧ cap ≤ maxLen ∧ cur.size = cap * 3 ∧ cur.toList.take (n * 3) = xs.flatMap KV.en := by
    rcases ho.2 with ⟨e, _⟩ | ⟨g', cap, cur, e, _, hg, h4, h5, h6, h7⟩
    · cases e
    · cases e
      exact ⟨_, cur, rfl, hg, h4, h5, h6, h7⟩
  subst hcap
  clear ho
  obtain rfl : cap = n := by omega
  have hgl : g < w.heap.size := (Array.getElem?_eq_some_iff.1 hg).1
  have hhl : h < w.heap.size := (Array.getElem?_eq_some_iff.1 hh).1
  have htl : ((xs.take i).flatMap KV.en).length = i * 3 := by rw [flat_len KV.en_len, List.length_take]; congr 1; omega
  have e1 : (xs.drop i).flatMap KV.en = (cur.toList.take (cap * 3)).drop (i * 3) := by
    rw [htk]
    conv => rhs; rw [← List.take_append_drop i xs, List.flatMap_append]
    rw [List.drop_left' htl]
  have e2 : (xs.take i).flatMap KV.en = cur.toList.take (i * 3) := by
    rw [show cur.toList.take (i * 3) = (cur.toList.take (cap * 3)).take (i * 3) by rw [List.take_take]; congr 1; omega, htk]
    conv => rhs; rw [← List.take_append_drop i xs, List.flatMap_append]
    rw [List.take_left' htl]
  have e3 : (xs.take i ++ x :: xs.drop i).flatMap KV.en = (xs.take i).flatMap KV.en ++ x.en ++ (xs.drop i).flatMap KV.en := by simp
  obtain ⟨cs, hcs1⟩ : ∃ cs, cs = (xs.drop i).flatMap KV.en := ⟨_, rfl⟩
  obtain ⟨ol, hol1⟩ : ∃ ol, ol = (xs.take i).flatMap KV.en := ⟨_, rfl⟩
  have hdl : cs.length = (cap - i) * 3 := by rw [hcs1, flat_len KV.en_len, List.length_drop, hn]
  have hone : ∀ u ∈ cs, u.oneCell' = true := fun u hu => by
    rw [hcs1] at hu
    obtain ⟨y, _, hy⟩ := List.mem_flatMap.1 hu
    exact y.en_one u hy
  rw [← hcs1] at e1 e3
  rw [← hol1] at e2 e3 htl
  have hold : (Builtin.firstCells ii.size i (.slice (some ⟨g, 0, none⟩) i cap)).run Try.prog w.drew = .ok ol.toArray w.drew := by
    have := run_firstCells_some (P := Try.prog) w.drew ii.size i ⟨g, 0, none⟩ i cap ol (by rw [htl, hz1]) (fun j u hu => by
      rw [add_off, Nat.zero_add, (cell_of (w := w.drew) hg _).1]
      rw [e2, List.getElem?_take] at hu
      split at hu
      · rw [← Array.getElem?_toList]; exact hu
      · cases hu)
    exact this
  have hG := grownCap_ge w (cap + 1) cap 78
  have hM := grownCap_le_maxLen w (cap + 1) cap 78 (by unfold maxLen; omega)
  have hap : ∀ ty, (Builtin.append_ #[62, 3] ty #[.slice (some ⟨g, 0, none⟩) i cap, .int .i64 ((cap + 1 - i : Nat) : Int)]).run Try.prog w = _ := fun ty => Lib.run_append_grow_zeros w 62 3 ty 78 ii _ .i64 .i64 Try.underlying62 Try.underlying3 hi hz0 (some ⟨g, 0, none⟩) i cap ol hold (cap + 1 - i) (by omega) (by omega) (by omega) (by omega) (by rw [hz2]; omega) (growslice_fits (by omega) (by rw [hz2]; omega))
  rw [show i + (cap + 1 - i) = cap + 1 by omega] at hap
  obtain ⟨c2, hc2e⟩ : ∃ c2, c2 = ol.toArray ++ Builtin.zeroCells (Value.cells (.agg #[.string ⟨#[]⟩, .int .i64 0, .int .i64 0])) (cap + 1 - i) ++ Builtin.zeroCells (Value.cells (.agg #[.string ⟨#[]⟩, .int .i64 0, .int .i64 0])) (grownCap w (cap + 1) cap 78 - (cap + 1)) := ⟨_, rfl⟩
  rw [← hc2e] at hap
  have hs2 : c2.size = grownCap w (cap + 1) cap 78 * 3 := by
    rw [hc2e]; simp [size_zeroCells, Value.cells, htl]; omega
  have ht2 : c2.toList.take (i * 3) = ol := by
    rw [hc2e]; simp only [Array.toList_append, List.append_assoc]; rw [List.take_left' htl]
  generalize grownCap w (cap + 1) cap 78 = G at *
  clear hc2e hold
  have hM' := hM
  unfold maxLen at hM'
  have hxl : x.en.length = 3 := x.en_len
  obtain ⟨N, hN⟩ : ∃ N, N = w.heap.size := ⟨_, rfl⟩
  rw [← hN] at hap hgl hhl
  have hb2 : Fr w.heap.size (fun b => (Value.slice (some ⟨g, 0, none⟩) cap cap).ownBlock = some b) w (w.drew.alloc (.cells c2 78)) := (Fr.refl _ _ w).drew.alloc (Nat.le_refl _) _
  have hg2 : (w.drew.alloc (.cells c2 78)).heap[g]? = some (.cells cur 78 (0, 0)) := (Below.heap_alloc _ _ _ (by show g < w.heap.size; omega)).trans hg
  have hh2 : (w.drew.alloc (.cells c2 78)).heap[h]? = some (.cells x.en.toArray 78 (0, 0)) := (Below.heap_alloc _ _ _ (by show h < w.heap.size; omega)).trans hh
  have hn2 : (w.drew.alloc (.cells c2 78)).heap[N]? = some (.cells c2 78 (0, 0)) := by rw [hN]; exact heap_alloc_new w.drew _
  generalize w.drew.alloc (.cells c2 78) = w2 at *
  have hmin1 : Nat.min 1 (cap + 1 - i) = 1 := Nat.min_eq_left (by omega)
  have hmin : Nat.min (cap - i) (cap - i) = cap - i := Nat.min_self _
  have fit1 : i * 3 + x.en.length ≤ c2.size := by rw [hs2, hxl]; omega
  have hc1 : ∀ ty, (Builtin.copy_ #[62, 61] ty #[.slice (some ⟨N, i * 3, none⟩) (cap + 1 - i) (G - i), .slice (some ⟨h, 0, none⟩) 1 1]).run Try.prog w2 = .ok (goInt 1) (w2.setRow N (lay c2 (i * 3) x.en)) := fun ty => by
    have := run_copy_k (P := Try.prog) w2 62 61 ty 78 N (i * 3) (cap + 1 - i) (G - i) ⟨h, 0, none⟩ 1 1 3 _ 78 x.en Try.underlying62 szKV hn2 (by rw [hmin1, hxl]) (fun j u hu => by rw [add_off, Nat.zero_add, (cell_of hh2 _).1]; simpa using hu) fit1 x.en_one
    rwa [hmin1] at this
  have hs3 := lay_size fit1
  have hn3 : (w2.setRow N (lay c2 (i * 3) x.en)).heap[N]? = some (.cells (lay c2 (i * 3) x.en) 78 (0, 0)) := setRow_heap w2 N _ _ _ _ hn2
  have hg3 : (w2.setRow N (lay c2 (i * 3) x.en)).heap[g]? = some (.cells cur 78 (0, 0)) := (setRow_far _ _ _ (by omega)).trans hg2
  have hb3 := hb2.setRow (b := N) (.inr (by omega)) (lay c2 (i * 3) x.en)
  have ht3 : (lay c2 (i * 3) x.en).toList.take ((i + 1) * 3) = ol ++ x.en := by
    rw [show (i + 1) * 3 = i * 3 + x.en.length by rw [hxl]; omega, lay_hi fit1, ht2]
  generalize hl3 : lay c2 (i * 3) x.en = c3 at *
  generalize hw3 : w2.setRow N c3 = w3 at *
  have fit2 : (i + 1) * 3 + cs.length ≤ c3.size := by rw [hs3, hs2, hdl]; omega
  have hc4 : ∀ ty, (Builtin.copy_ #[62, 62] ty #[.slice (some ⟨N, (i + 1) * 3, none⟩) (cap - i) (G - (i + 1)), .slice (some ⟨g, i * 3, none⟩) (cap - i) (cap - i)]).run Try.prog w3.drew = .ok (goInt ((cap - i : Nat) : Int)) (w3.drew.setRow N (lay c3 ((i + 1) * 3) cs)) := fun ty => by
    have := run_copy_k (P := Try.prog) w3.drew 62 62 ty 78 N ((i + 1) * 3) (cap - i) (G - (i + 1)) ⟨g, i * 3, none⟩ (cap - i) (cap - i) 3 c3 78 cs Try.underlying62 szKV hn3 (by rw [hmin, hdl]) (news_of (w := w3.drew) hg3 e1) fit2 hone
    rwa [hmin] at this
  have hb4 := hb3.drew.setRow (b := N) (.inr (by omega)) (lay c3 ((i + 1) * 3) cs)
  have hown : (w3.drew.setRow N (lay c3 ((i + 1) * 3) cs)).ownsRow 0 78 3 (.slice (some ⟨N, 0, none⟩) (cap + 1) G) (cap + 1) ((xs.take i ++ x :: xs.drop i).flatMap KV.en) := by
    refine own_of (setRow_heap _ N _ _ _ _ hn3) hG hM (by rw [lay_size fit2, hs3, hs2]) ?_ ?_
    · rw [show (cap + 1) * 3 = (i + 1) * 3 + cs.length by rw [hdl]; omega, lay_hi fit2, ht3, e3]
    · rw [e3, List.length_append, List.length_append, htl, hxl, hdl]; omega
  have hNle : w.heap.size ≤ N := by omega
  have HAP := Lib.hid hap
  have HC1 := Lib.hid hc1
  have HC4 := Lib.hid hc4
  have HF := Lib.hid hb4
  have HO := Lib.hid hown
  have HN := Lib.hid hNle
  have ne1 : ¬ ((i : Int) = (cap : Int)) := by omega
  have hx1 : ((i : Int)) ≤ (cap : Int) := by omega
  have hx2 : (cap : Int) < (cap : Int) + 1 := by omega
  have hx3 : (cap : Int) + 1 - (i : Int) = ((cap + 1 - i : Nat) : Int) := by omega
  have hx4 : ¬ G = i + 1 := by omega
  have hx5 : ¬ G = i := by omega
  have hx6 : i + 1 ≤ cap + 1 := by omega
  have hx7 : i ≤ cap + 1 := by omega
  have hx8 : ¬ cap = i := by omega
  have hx9 : i ≤ cap := by omega
  have hxa : (i : Int) + 1 ≤ (cap : Int) + 1 := by omega
  have hxb : cap + 1 - (i + 1) = cap - i := by omega
  have hwr : IntKind.i64.wrap ((i : Int) + 1) = (i : Int) + 1 := IntWalk.i64_in _ (by omega)
  have hwt : ((i : Int) + 1).toNat = i + 1 := by omega
  have hwz : (0 : Int) ≤ (i : Int) + 1 := by omega
  clear hap hc1 hc4 hb2 hb3 hb4 hown hg hg2 hg3 hh hh2 hn2 hn3 htk e1 e2 e3 fit1 fit2 hs2 hs3 hcs hdl htl hcs1 hol1 hz0 hz1 hz2 hi hn hone hmin hmin1 ht2 ht3 hl3 hw3 hgl hhl hN hM hNle hxl
  go_enter Try.func43, Try.ntmps43
  go_wp2_with (first | (with_reducible refine wpList_append_r _ rfl (.tmp 34) (.tmp 39) 62 3 rfl (.slice (some ⟨g, 0, none⟩) i cap) (.int .i64 ((cap + 1 - i : Nat) : Int)) rfl rfl (HAP.out _) ?_) | (with_reducible refine wpList_copy_r _ rfl (.tmp 43) (.tmp 44) 62 61 rfl (.slice (some ⟨N, i * 3, none⟩) (cap + 1 - i) (G - i)) (.slice (some ⟨h, 0, none⟩) 1 1) rfl rfl (HC1.out _) ?_))
  go_region_law (refine step_copy_r (v' := goInt ((cap - i : Nat) : Int)) (w' := w3.drew.setRow N (lay c3 ((i + 1) * 3) cs)) rfl (.tmp 50) (.tmp 53) 62 62 rfl (.slice (some ⟨N, (i + 1) * 3, none⟩) (cap - i) (G - (i + 1))) (.slice (some ⟨g, i * 3, none⟩) (cap - i) (cap - i)) (by go_simp) (by go_simp) (HC4.out _) ?_)
  go_wp2
  go_ret
  exact ⟨N, G, rfl, HO.out, HF.out, .inr HN.out⟩
end

/-- slices.Insert. -/
theorem insP_any (v : Value) (i : Nat) (hsm : xs.length ≤ 1000) (hin : i ≤ xs.length) (ho : w.ownsRow 0 78 3 v xs.length (xs.flatMap KV.en)) (hne : v.ownBlock ≠ some h) :
    Calls Try.prog 43 #[v, .int .i64 i, .slice (some ⟨h, 0, none⟩) 1 1] w (InsP w v xs.length i xs x) := by
  by_cases hi : i = xs.length
  · subst hi
    exact insP_end w xs x h hh v _ rfl hsm ho
  · rcases ho.form (by omega) with ⟨g, cap, rfl, _, _⟩
    have hne' : h ≠ g := fun e => hne (by rw [e]; rfl)
    by_cases hr : xs.length + 1 ≤ cap
    · exact insP_room w xs x h hh g _ cap i rfl hsm (by omega) ho hne' hr
    · exact insP_grow w xs x h hh g _ cap i rfl hsm (by omega) ho hr
end

section
variable (w : World) (xs : List KN) (x : KN) (h : Nat) (hh : w.heap[h]? = some (.cells x.en.toArray 72 (0, 0)))
include hh
abbrev InsQ (w : World) (v : Value) (n i : Nat) (xs : List KN) (x : KN) (e : Ending) (w' : World) : Prop := ∃ g cp, e = .returned (.slice (some ⟨g, 0, none⟩) (n + 1) cp) ∧ w'.ownsRow 0 72 2 (.slice (some ⟨g, 0, none⟩) (n + 1) cp) (n + 1) ((xs.take i ++ x :: xs.drop i).flatMap KN.en) ∧ Fr w.heap.size (fun b => v.ownBlock = some b) w w' ∧ (v.ownBlock = some g ∨ w.heap.size ≤ g)

set_option maxRecDepth 100000 in
set_option maxHeartbeats 1000000 in
/-- At the end. -/
theorem insQ_end (v : Value) (n : Nat) (hn : n = xs.length) (hsm : n ≤ 1000) (ho : w.ownsRow 0 72 2 v n (xs.flatMap KN.en)) :
    Calls Try.prog 46 #[v, .int .i64 n, .slice (some ⟨h, 0, none⟩) 1 1] w (InsQ w v n n xs x) := by
  obtain ⟨ii, hi, hz0, hz1, hz2⟩ := info_parts infoKN
  obtain ⟨g, cap, w2, hr, ho2, hgr, hat, hlt⟩ := run_append_lies (P := Try.prog) w 64 64 0 72 ii _ 2 24 Try.underlying64 hi hz0 hz1 hz2 rfl (by decide) v n (xs.flatMap KN.en) ho ⟨h, 0, none⟩ 1 1 x.en (by rw [x.en_len]) (fun j u hu => by
    rw [add_off, Nat.zero_add, (cell_of hh _).1]; simpa using hu) x.en_one (by decide) (by unfold maxLen; omega) (by omega) (Nat.zero_le _) _ rfl
  have hr' : ∀ ty, (Builtin.append_ #[64, 63] ty #[v, .slice (some ⟨h, 0, none⟩) 1 1]).run Try.prog w = .ok (.slice (some ⟨g, 0, none⟩) (n + 1) cap) w2 := fun ty => by
    rw [run_append_types w 64 63 ty 72 _ _ Try.underlying64 Try.underlying63]
    exact hr
  have e1 : xs.flatMap KN.en ++ x.en = (xs.take n ++ x :: xs.drop n).flatMap KN.en := by rw [hn, List.take_length, List.drop_length, List.flatMap_append]; simp
  rw [e1] at ho2
  have hfr : Fr w.heap.size (fun b => v.ownBlock = some b) w w2 := (Fr.refl _ _ w).grown hgr (Nat.le_refl _) (fun b hb => .inl hb)
  have hat2 : v.ownBlock = some g ∨ w.heap.size ≤ g := hat.imp_right (fun e => by omega)
  obtain ⟨A0, cp0, rfl⟩ := own_shape ho
  have HR := Lib.hid hr'
  have HO := Lib.hid ho2
  have HF := Lib.hid hfr
  have HA := Lib.hid hat2
  clear hr hr' ho2 hgr hat hlt e1 hfr hat2 ho hi hz0 hz1 hz2 hh hn
  have hle : ∀ p : Option Addr, (if cp0 = n then p else p) = p := fun p => by split <;> rfl
  by_cases hc : cp0 = n
  · subst hc
    go_enter Try.func46, Try.ntmps46
    go_wp2_with (with_reducible refine wpList_append_r _ rfl (.tmp 23) (.tmp 24) 64 63 rfl (.slice A0 cp0 cp0) (.slice (some ⟨h, 0, none⟩) 1 1) rfl rfl (HR.out _) ?_)
    go_ret
    exact ⟨g, cap, rfl, HO.out, HF.out, HA.out⟩
  · go_enter Try.func46, Try.ntmps46
    go_wp2_with (with_reducible refine wpList_append_r _ rfl (.tmp 23) (.tmp 24) 64 63 rfl (.slice A0 n cp0) (.slice (some ⟨h, 0, none⟩) 1 1) rfl rfl (HR.out _) ?_)
    go_ret
    exact ⟨g, cap, rfl, HO.out, HF.out, HA.out⟩

section
variable (g n c i : Nat) (hn : n = xs.length) (hsm : n ≤ 1000) (hin : i < n) (ho : w.ownsRow 0 72 2 (.slice (some ⟨g, 0, none⟩) n c) n (xs.flatMap KN.en)) (hne : h ≠ g)
include hn hsm hin ho

include hne in
set_option maxRecDepth 100000 in
set_option maxHeartbeats 1000000 in
/-- In the middle, where there is room. -/
theorem insQ_room (hroom : n + 1 ≤ c) :
    Calls Try.prog 46 #[.slice (some ⟨g, 0, none⟩) n c, .int .i64 i, .slice (some ⟨h, 0, none⟩) 1 1] w (InsQ w (.slice (some ⟨g, 0, none⟩) n c) n i xs x) := by
  obtain ⟨ii, hi, hz0, hz1, hz2⟩ := info_parts infoKN
  obtain ⟨cap, cur, hcap, hg, hnc, hcm, hcs, htk⟩ : ∃ cap cur, cap = c ∧ w.heap[g]? = some (.cells cur 72 (0, 0)) ∧ n ≤ cap ∧ cap ≤ maxLen ∧ cur.size = cap * 2 ∧ cur.toList.take (n * 2) = xs.flatMap KN.en := by
    rcases ho.2 with ⟨e, _⟩ | ⟨g', cap, cur, e, _, hg, h4, h5, h6, h7⟩
    · cases e
    · cases e
      exact ⟨_, cur, rfl, hg, h4, h5, h6, h7⟩
  subst hcap
  clear ho
  have hcm' := hcm
  unfold maxLen at hcm'
  have htl : ((xs.take i).flatMap KN.en).length = i * 2 := by rw [flat_len KN.en_len, List.length_take]; congr 1; omega
  have e1 : (xs.drop i).flatMap KN.en = (cur.toList.take (n * 2)).drop (i * 2) := by
    rw [htk]
    conv => rhs; rw [← List.take_append_drop i xs, List.flatMap_append]
    rw [List.drop_left' htl]
  have e2 : (xs.take i).flatMap KN.en = cur.toList.take (i * 2) := by
    rw [show cur.toList.take (i * 2) = (cur.toList.take (n * 2)).take (i * 2) by rw [List.take_take]; congr 1; omega, htk]
    conv => rhs; rw [← List.take_append_drop i xs, List.flatMap_append]
    rw [List.take_left' htl]
  have e3 : (xs.take i ++ x :: xs.drop i).flatMap KN.en = (xs.take i).flatMap KN.en ++ x.en ++ (xs.drop i).flatMap KN.en := by simp
  obtain ⟨cs, hcs1⟩ : ∃ cs, cs = (xs.drop i).flatMap KN.en := ⟨_, rfl⟩
  have hdl : cs.length = (n - i) * 2 := by rw [hcs1, flat_len KN.en_len, List.length_drop, hn]
  have hone : ∀ u ∈ cs, u.oneCell' = true := fun u hu => by
    rw [hcs1] at hu
    obtain ⟨y, _, hy⟩ := List.mem_flatMap.1 hu
    exact y.en_one u hy
  rw [← hcs1] at e1 e3
  have fit1 : (i + 1) * 2 + cs.length ≤ cur.size := by rw [hdl, hcs]; omega
  have hx1 : x.en.length = 2 := x.en_len
  have hmin : Nat.min (n + 1 - i) (n - i) = n - i := Nat.min_eq_right (by omega)
  have hmin1 : Nat.min 1 (n + 1 - i) = 1 := Nat.min_eq_left (by omega)
  have hc1 : ∀ ty, (Builtin.copy_ #[64, 64] ty #[.slice (some ⟨g, (i + 1) * 2, none⟩) (n - i) (cap - (i + 1)), .slice (some ⟨g, i * 2, none⟩) (n + 1 - i) (cap - i)]).run Try.prog w.drew = .ok (goInt ((n - i : Nat) : Int)) (w.drew.setRow g (lay cur ((i + 1) * 2) cs)) := fun ty => by
    have := run_copy_k (P := Try.prog) w.drew 64 64 ty 72 g ((i + 1) * 2) (n - i) (cap - (i + 1)) ⟨g, i * 2, none⟩ (n + 1 - i) (cap - i) 2 cur 72 cs Try.underlying64 szKN hg (by rw [hmin, hdl]) (news_of hg e1) fit1 hone
    rwa [hmin] at this
  have hg1 : (w.drew.setRow g (lay cur ((i + 1) * 2) cs)).heap[g]? = some (.cells (lay cur ((i + 1) * 2) cs) 72 (0, 0)) := setRow_heap w.drew g cur _ _ _ hg
  have hh1 : (w.drew.setRow g (lay cur ((i + 1) * 2) cs)).heap[h]? = some (.cells x.en.toArray 72 (0, 0)) := (setRow_far _ _ _ hne).trans hh
  have hs1 := lay_size fit1
  have fit2 : i * 2 + x.en.length ≤ (lay cur ((i + 1) * 2) cs).size := by rw [hs1, hcs, hx1]; omega
  have hc2 : ∀ ty, (Builtin.copy_ #[64, 63] ty #[.slice (some ⟨g, i * 2, none⟩) (n + 1 - i) (cap - i), .slice (some ⟨h, 0, none⟩) 1 1]).run Try.prog (w.drew.setRow g (lay cur ((i + 1) * 2) cs)) = .ok (goInt 1) ((w.drew.setRow g (lay cur ((i + 1) * 2) cs)).setRow g (lay (lay cur ((i + 1) * 2) cs) (i * 2) x.en)) := fun ty => by
    have := run_copy_k (P := Try.prog) (w.drew.setRow g (lay cur ((i + 1) * 2) cs)) 64 63 ty 72 g (i * 2) (n + 1 - i) (cap - i) ⟨h, 0, none⟩ 1 1 2 _ 72 x.en Try.underlying64 szKN hg1 (by rw [hmin1, hx1]) (fun j u hu => by rw [add_off, Nat.zero_add, (cell_of hh1 _).1]; simpa using hu) fit2 x.en_one
    rwa [hmin1] at this
  have hfr : Fr w.heap.size (fun b => (Value.slice (some ⟨g, 0, none⟩) n cap).ownBlock = some b) w ((w.drew.setRow g (lay cur ((i + 1) * 2) cs)).setRow g (lay (lay cur ((i + 1) * 2) cs) (i * 2) x.en)) := ((Fr.refl w.heap.size (fun b => (Value.slice (some ⟨g, 0, none⟩) n cap).ownBlock = some b) w).drew.setRow (b := g) (.inl rfl) _).setRow (b := g) (.inl rfl) _
  have hown : ((w.drew.setRow g (lay cur ((i + 1) * 2) cs)).setRow g (lay (lay cur ((i + 1) * 2) cs) (i * 2) x.en)).ownsRow 0 72 2 (.slice (some ⟨g, 0, none⟩) (n + 1) cap) (n + 1) ((xs.take i ++ x :: xs.drop i).flatMap KN.en) := by
    refine own_of (setRow_heap _ g _ _ _ _ hg1) hroom hcm (by rw [lay_size fit2, hs1, hcs]) ?_ ?_
    · rw [lay_mid fit2 (by rw [hx1]; omega), lay_lo fit1 (by omega), show (n + 1) * 2 = (i + 1) * 2 + cs.length by rw [hdl]; omega, lay_hi fit1, e3, e2, hx1, List.drop_left' (by rw [List.length_take, Array.length_toList, hcs]; omega)]
    · rw [e3, List.length_append, List.length_append, htl, hx1, hdl]; omega
  have hov : ∀ lb cb, (callFunc 58 #[.slice (some ⟨h, 0, none⟩) 1 1, .slice (some ⟨g, (i + 1) * 2, none⟩) lb cb]).run Try.prog w = .ok (.value (.bool false)) w := fun lb cb => by
    rw [run_callFunc_extern Try.func58 (by kernel_rfl) (by kernel_rfl) (by kernel_rfl) (e := Extern.SlicesOverlaps.overlaps #[63, 63] #[4]) (by kernel_rfl),
      Lib.run_overlaps_apart w 63 4 72 Try.underlying63 2 Try.sizeOf72 ⟨h, 0, none⟩ ⟨g, (i + 1) * 2, none⟩ 1 1 lb cb hne 72 72 x.en.toArray.size cur.size (shape_of hh) (shape_of hg) (by rw [hcs]; omega) (cell_of hh _).2 (cell_of hh _).2]
    rfl
  have HC1 := Lib.hid hc1
  have HC2 := Lib.hid hc2
  have HF := Lib.hid hfr
  have HO := Lib.hid hown
  have ne1 : ¬ ((i : Int) = (n : Int)) := by omega
  have hx1 : ((i : Int)) ≤ (n : Int) := by omega
  have hx2 : ¬ ((cap : Int) < (n : Int) + 1) := by omega
  have hx3 : (n : Int) + 1 ≤ (cap : Int) := by omega
  have hx4 : ¬ cap = i + 1 := by omega
  have hx5 : ¬ cap = i := by omega
  have hx6 : i + 1 ≤ n + 1 := by omega
  have hx7 : i ≤ n + 1 := by omega
  have hx8 : i + 1 ≤ cap := by omega
  have hx9 : i ≤ n := by omega
  have hxa : (i : Int) + 1 ≤ (n : Int) + 1 := by omega
  have hxb : n + 1 - (i + 1) = n - i := by omega
  have hxc : (i : Int) ≤ (n : Int) + 1 := by omega
  have hwr : IntKind.i64.wrap ((i : Int) + 1) = (i : Int) + 1 := IntWalk.i64_in _ (by omega)
  have hwt : ((i : Int) + 1).toNat = i + 1 := by omega
  have hwz : (0 : Int) ≤ (i : Int) + 1 := by omega
  generalize hW : w.drew.setRow g (lay cur ((i + 1) * 2) cs) = w1 at *
  clear hW hc1 hc2 hfr hown hg hg1 hh hh1 htk e1 e2 e3 fit1 fit2 hs1 hcs hdl htl hcs1 hz0 hz1 hz2 hi hn hone hmin hmin1
  go_enter Try.func46, Try.ntmps46
  go_wp2_with fail
  go_region_law (refine step_copy_r (v' := goInt ((n - i : Nat) : Int)) (w' := w1) rfl (.tmp 73) (.tmp 76) 64 64 rfl (.slice (some ⟨g, (i + 1) * 2, none⟩) (n - i) (cap - (i + 1))) (.slice (some ⟨g, i * 2, none⟩) (n + 1 - i) (cap - i)) (by go_simp) (by go_simp) (HC1.out _) ?_)
  go_wp2_with (with_reducible refine wpList_copy_r _ rfl (.tmp 80) (.tmp 81) 64 63 rfl (.slice (some ⟨g, i * 2, none⟩) (n + 1 - i) (cap - i)) (.slice (some ⟨h, 0, none⟩) 1 1) rfl rfl (HC2.out _) ?_)
  go_ret
  exact ⟨g, cap, rfl, HO.out, HF.out, .inl rfl⟩

set_option maxRecDepth 100000 in
set_option maxHeartbeats 1000000 in
/-- In the middle, where there is none. -/
theorem insQ_grow (hroom : ¬ n + 1 ≤ c) :
    Calls Try.prog 46 #[.slice (some ⟨g, 0, none⟩) n c, .int .i64 i, .slice (some ⟨h, 0, none⟩) 1 1] w (InsQ w (.slice (some ⟨g, 0, none⟩) n c) n i xs x) := by
  obtain ⟨ii, hi, hz0, hz1, hz2⟩ := info_parts infoKN
  obtain ⟨cap, cur, hcap, hg, hnc, hcm, hcs, htk⟩ : ∃ cap cur, cap = c ∧ w.heap[g]? = some (.cells cur 72 (0, 0)) ∧ n ≤ cap ∧ cap ≤ maxLen ∧ cur.size = cap * 2 ∧ cur.toList.take (n * 2) = xs.flatMap KN.en := by
    rcases ho.2 with ⟨e, _⟩ | ⟨g', cap, cur, e, _, hg, h4, h5, h6, h7⟩
    · cases e
    · cases e
      exact ⟨_, cur, rfl, hg, h4, h5, h6, h7⟩
  subst hcap
  clear ho
  obtain rfl : cap = n := by omega
  have hgl : g < w.heap.size := (Array.getElem?_eq_some_iff.1 hg).1
  have hhl : h < w.heap.size := (Array.getElem?_eq_some_iff.1 hh).1
  have htl : ((xs.take i).flatMap KN.en).length = i * 2 := by rw [flat_len KN.en_len, List.length_take]; congr 1; omega
  have e1 : (xs.drop i).flatMap KN.en = (cur.toList.take (cap * 2)).drop (i * 2) := by
    rw [htk]
    conv => rhs; rw [← List.take_append_drop i xs, List.flatMap_append]
    rw [List.drop_left' htl]
  have e2 : (xs.take i).flatMap KN.en = cur.toList.take (i * 2) := by
    rw [show cur.toList.take (i * 2) = (cur.toList.take (cap * 2)).take (i * 2) by rw [List.take_take]; congr 1; omega, htk]
    conv => rhs; rw [← List.take_append_drop i xs, List.flatMap_append]
    rw [List.take_left' htl]
  have e3 : (xs.take i ++ x :: xs.drop i).flatMap KN.en = (xs.take i).flatMap KN.en ++ x.en ++ (xs.drop i).flatMap KN.en := by simp
  obtain ⟨cs, hcs1⟩ : ∃ cs, cs = (xs.drop i).flatMap KN.en := ⟨_, rfl⟩
  obtain ⟨ol, hol1⟩ : ∃ ol, ol = (xs.take i).flatMap KN.en := ⟨_, rfl⟩
  have hdl : cs.length = (cap - i) * 2 := by rw [hcs1, flat_len KN.en_len, List.length_drop, hn]
  have hone : ∀ u ∈ cs, u.oneCell' = true := fun u hu => by
    rw [hcs1] at hu
    obtain ⟨y, _, hy⟩ := List.mem_flatMap.1 hu
    exact y.en_one u hy
  rw [← hcs1] at e1 e3
  rw [← hol1] at e2 e3 htl
  have hold : (Builtin.firstCells ii.size i (.slice (some ⟨g, 0, none⟩) i cap)).run Try.prog w.drew = .ok ol.toArray w.drew := by
    have := run_firstCells_some (P := Try.prog) w.drew ii.size i ⟨g, 0, none⟩ i cap ol (by rw [htl, hz1]) (fun j u hu => by
      rw [add_off, Nat.zero_add, (cell_of (w := w.drew) hg _).1]
      rw [e2, List.getElem?_take] at hu
      split at hu
      · rw [← Array.getElem?_toList]; exact hu
      · cases hu)
    exact this
  have hG := grownCap_ge w (cap + 1) cap 72
  have hM := grownCap_le_maxLen w (cap + 1) cap 72 (by unfold maxLen; omega)
  have hap : ∀ ty, (Builtin.append_ #[64, 3] ty #[.slice (some ⟨g, 0, none⟩) i cap, .int .i64 ((cap + 1 - i : Nat) : Int)]).run Try.prog w = _ := fun ty => Lib.run_append_grow_zeros w 64 3 ty 72 ii _ .i64 .i64 Try.underlying64 Try.underlying3 hi hz0 (some ⟨g, 0, none⟩) i cap ol hold (cap + 1 - i) (by omega) (by omega) (by omega) (by omega) (by rw [hz2]; omega) (growslice_fits (by omega) (by rw [hz2]; omega))
  rw [show i + (cap + 1 - i) = cap + 1 by omega] at hap
  obtain ⟨c2, hc2e⟩ : ∃ c2, c2 = ol.toArray ++ Builtin.zeroCells (Value.cells (.agg #[.string ⟨#[]⟩, .pointer none])) (cap + 1 - i) ++ Builtin.zeroCells (Value.cells (.agg #[.string ⟨#[]⟩, .pointer none])) (grownCap w (cap + 1) cap 72 - (cap + 1)) := ⟨_, rfl⟩
  rw [← hc2e] at hap
  have hs2 : c2.size = grownCap w (cap + 1) cap 72 * 2 := by
    rw [hc2e]; simp [size_zeroCells, Value.cells, htl]; omega
  have ht2 : c2.toList.take (i * 2) = ol := by
    rw [hc2e]; simp only [Array.toList_append, List.append_assoc]; rw [List.take_left' htl]
  generalize grownCap w (cap + 1) cap 72 = G at *
  clear hc2e hold
  have hM' := hM
  unfold maxLen at hM'
  have hxl : x.en.length = 2 := x.en_len
  obtain ⟨N, hN⟩ : ∃ N, N = w.heap.size := ⟨_, rfl⟩
  rw [← hN] at hap hgl hhl
  have hb2 : Fr w.heap.size (fun b => (Value.slice (some ⟨g, 0, none⟩) cap cap).ownBlock = some b) w (w.drew.alloc (.cells c2 72)) := (Fr.refl _ _ w).drew.alloc (Nat.le_refl _) _
  have hg2 : (w.drew.alloc (.cells c2 72)).heap[g]? = some (.cells cur 72 (0, 0)) := (Below.heap_alloc _ _ _ (by show g < w.heap.size; omega)).trans hg
  have hh2 : (w.drew.alloc (.cells c2 72)).heap[h]? = some (.cells x.en.toArray 72 (0, 0)) := (Below.heap_alloc _ _ _ (by show h < w.heap.size; omega)).trans hh
  have hn2 : (w.drew.alloc (.cells c2 72)).heap[N]? = some (.cells c2 72 (0, 0)) := by rw [hN]; exact heap_alloc_new w.drew _
  generalize w.drew.alloc (.cells c2 72) = w2 at *
  have hmin1 : Nat.min 1 (cap + 1 - i) = 1 := Nat.min_eq_left (by omega)
  have hmin : Nat.min (cap - i) (cap - i) = cap - i := Nat.min_self _
  have fit1 : i * 2 + x.en.length ≤ c2.size := by rw [hs2, hxl]; omega
  have hc1 : ∀ ty, (Builtin.copy_ #[64, 63] ty #[.slice (some ⟨N, i * 2, none⟩) (cap + 1 - i) (G - i), .slice (some ⟨h, 0, none⟩) 1 1]).run Try.prog w2 = .ok (goInt 1) (w2.setRow N (lay c2 (i * 2) x.en)) := fun ty => by
    have := run_copy_k (P := Try.prog) w2 64 63 ty 72 N (i * 2) (cap + 1 - i) (G - i) ⟨h, 0, none⟩ 1 1 2 _ 72 x.en Try.underlying64 szKN hn2 (by rw [hmin1, hxl]) (fun j u hu => by rw [add_off, Nat.zero_add, (cell_of hh2 _).1]; simpa using hu) fit1 x.en_one
    rwa [hmin1] at this
  have hs3 := lay_size fit1
  have hn3 : (w2.setRow N (lay c2 (i * 2) x.en)).heap[N]? = some (.cells (lay c2 (i * 2) x.en) 72 (0, 0)) := setRow_heap w2 N _ _ _ _ hn2
  have hg3 : (w2.setRow N (lay c2 (i * 2) x.en)).heap[g]? = some (.cells cur 72 (0, 0)) := (setRow_far _ _ _ (by omega)).trans hg2
  have hb3 := hb2.setRow (b := N) (.inr (by omega)) (lay c2 (i * 2) x.en)
  have ht3 : (lay c2 (i * 2) x.en).toList.take ((i + 1) * 2) = ol ++ x.en := by
    rw [show (i + 1) * 2 = i * 2 + x.en.length by rw [hxl]; omega, lay_hi fit1, ht2]
  generalize hl3 : lay c2 (i * 2) x.en = c3 at *
  generalize hw3 : w2.setRow N c3 = w3 at *
  have fit2 : (i + 1) * 2 + cs.length ≤ c3.size := by rw [hs3, hs2, hdl]; omega
  have hc4 : ∀ ty, (Builtin.copy_ #[64, 64] ty #[.slice (some ⟨N, (i + 1) * 2, none⟩) (cap - i) (G - (i + 1)), .slice (some ⟨g, i * 2, none⟩) (cap - i) (cap - i)]).run Try.prog w3.drew = .ok (goInt ((cap - i : Nat) : Int)) (w3.drew.setRow N (lay c3 ((i + 1) * 2) cs)) := fun ty => by
    have := run_copy_k (P := Try.prog) w3.drew 64 64 ty 72 N ((i + 1) * 2) (cap - i) (G - (i + 1)) ⟨g, i * 2, none⟩ (cap - i) (cap - i) 2 c3 72 cs Try.underlying64 szKN hn3 (by rw [hmin, hdl]) (news_of (w := w3.drew) hg3 e1) fit2 hone
    rwa [hmin] at this
  have hb4 := hb3.drew.setRow (b := N) (.inr (by omega)) (lay c3 ((i + 1) * 2) cs)
  have hown : (w3.drew.setRow N (lay c3 ((i + 1) * 2) cs)).ownsRow 0 72 2 (.slice (some ⟨N, 0, none⟩) (cap + 1) G) (cap + 1) ((xs.take i ++ x :: xs.drop i).flatMap KN.en) := by
    refine own_of (setRow_heap _ N _ _ _ _ hn3) hG hM (by rw [lay_size fit2, hs3, hs2]) ?_ ?_
    · rw [show (cap + 1) * 2 = (i + 1) * 2 + cs.length by rw [hdl]; omega, lay_hi fit2, ht3, e3]
    · rw [e3, List.length_append, List.length_append, htl, hxl, hdl]; omega
  have hNle : w.heap.size ≤ N := by omega
  have HAP := Lib.hid hap
  have HC1 := Lib.hid hc1
  have HC4 := Lib.hid hc4
  have HF := Lib.hid hb4
  have HO := Lib.hid hown
  have HN := Lib.hid hNle
  have ne1 : ¬ ((i : Int) = (cap : Int)) := by omega
  have hx1 : ((i : Int)) ≤ (cap : Int) := by omega
  have hx2 : (cap : Int) < (cap : Int) + 1 := by omega
  have hx3 : (cap : Int) + 1 - (i : Int) = ((cap + 1 - i : Nat) : Int) := by omega
  have hx4 : ¬ G = i + 1 := by omega
  have hx5 : ¬ G = i := by omega
  have hx6 : i + 1 ≤ cap + 1 := by omega
  have hx7 : i ≤ cap + 1 := by omega
  have hx8 : ¬ cap = i := by omega
  have hx9 : i ≤ cap := by omega
  have hxa : (i : Int) + 1 ≤ (cap : Int) + 1 := by omega
  have hxb : cap + 1 - (i + 1) = cap - i := by omega
  have hwr : IntKind.i64.wrap ((i : Int) + 1) = (i : Int) + 1 := IntWalk.i64_in _ (by omega)
  have hwt : ((i : Int) + 1).toNat = i + 1 := by omega
  have hwz : (0 : Int) ≤ (i : Int) + 1 := by omega
  clear hap hc1 hc4 hb2 hb3 hb4 hown hg hg2 hg3 hh hh2 hn2 hn3 htk e1 e2 e3 fit1 fit2 hs2 hs3 hcs hdl htl hcs1 hol1 hz0 hz1 hz2 hi hn hone hmin hmin1 ht2 ht3 hl3 hw3 hgl hhl hN hM hNle hxl
  go_enter Try.func46, Try.ntmps46
  go_wp2_with (first | (with_reducible refine wpList_append_r _ rfl (.tmp 34) (.tmp 39) 64 3 rfl (.slice (some ⟨g, 0, none⟩) i cap) (.int .i64 ((cap + 1 - i : Nat) : Int)) rfl rfl (HAP.out _) ?_) | (with_reducible refine wpList_copy_r _ rfl (.tmp 43) (.tmp 44) 64 63 rfl (.slice (some ⟨N, i * 2, none⟩) (cap + 1 - i) (G - i)) (.slice (some ⟨h, 0, none⟩) 1 1) rfl rfl (HC1.out _) ?_))
  go_region_law (refine step_copy_r (v' := goInt ((cap - i : Nat) : Int)) (w' := w3.drew.setRow N (lay c3 ((i + 1) * 2) cs)) rfl (.tmp 50) (.tmp 53) 64 64 rfl (.slice (some ⟨N, (i + 1) * 2, none⟩) (cap - i) (G - (i + 1))) (.slice (some ⟨g, i * 2, none⟩) (cap - i) (cap - i)) (by go_simp) (by go_simp) (HC4.out _) ?_)
  go_wp2
  go_ret
  exact ⟨N, G, rfl, HO.out, HF.out, .inr HN.out⟩
end

/-- slices.Insert. -/
theorem insQ_any (v : Value) (i : Nat) (hsm : xs.length ≤ 1000) (hin : i ≤ xs.length) (ho : w.ownsRow 0 72 2 v xs.length (xs.flatMap KN.en)) (hne : v.ownBlock ≠ some h) :
    Calls Try.prog 46 #[v, .int .i64 i, .slice (some ⟨h, 0, none⟩) 1 1] w (InsQ w v xs.length i xs x) := by
  by_cases hi : i = xs.length
  · subst hi
    exact insQ_end w xs x h hh v _ rfl hsm ho
  · rcases ho.form (by omega) with ⟨g, cap, rfl, _, _⟩
    have hne' : h ≠ g := fun e => hne (by rw [e]; rfl)
    by_cases hr : xs.length + 1 ≤ cap
    · exact insQ_room w xs x h hh g _ cap i rfl hsm (by omega) ho hne' hr
    · exact insQ_grow w xs x h hh g _ cap i rfl hsm (by omega) ho hr
end
end Go.Proofs.Ytejbbojephiifaa
