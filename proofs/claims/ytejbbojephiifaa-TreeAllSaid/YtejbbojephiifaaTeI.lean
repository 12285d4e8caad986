/- tree: rows of structs: copies, cleared places; slices.Insert, Delete, Clone. -/
import Derived.Test.YtejbbojephiifaaTeF
import Derived.Lib.Overlaps
import Derived.Lib.AppendZerosOnto
import Derived.Lib.SliceRun
import Derived.Laws.CopyRow
import Derived.Deep.AppendLies
import Derived.Deep.RegionLaw
namespace Go.Proofs.Ytejbbojephiifaa
open Go.RowKit

/-- Values laid over a row. -/
def lay (cur : Array Value) (o : Nat) (cs : List Value) : Array Value := (cur.toList.take o ++ cs ++ cur.toList.drop (o + cs.length)).toArray
section
variable {P : Program}
theorem run_copy_k (w : World) (dT sT ty elem : TypeId) (g o dLen dCap : Nat) (a : Addr) (sLen sCap k : Nat) (cur : Array Value) (t : TypeId) (cs : List Value) (hu : P.underlying dT = some (.slice elem)) (hs : (P.info? elem).map (·.size) = some k)
    (hg : w.heap[g]? = some (.cells cur t (0, 0))) (hn : cs.length = Nat.min sLen dLen * k) (hsrc : ∀ j v, cs[j]? = some v → w.cell? (a.add j) = some v) (hfit : o + cs.length ≤ cur.size) (h1 : ∀ v ∈ cs, v.oneCell' = true) :
    (Builtin.copy_ #[dT, sT] ty #[.slice (some ⟨g, o, none⟩) dLen dCap, .slice (some a) sLen sCap]).run P w =
      .ok (goInt (Nat.min sLen dLen)) (w.setRow g (lay cur o cs)) := by
  have hl := run_loadCells_list (P := P) w a cs hsrc
  have hst := Go.run_storeCells_at P g o t cs 0 cur w hg (by simpa using hfit) h1
  cases hq : P.info? elem with
  | none => simp [hq] at hs
  | some i =>
    have hi : i.size = k := by simpa [hq] using hs
    simp [Builtin.copy_, run_underlying hu, Builtin.lenOf, Builtin.firstCells, sizeOf, typeInfo, hq, hi, ← hn, hl, hst, lay]
theorem run_clear_k (w : World) (t e ty te : TypeId) (i : TypeInfo) (z : Value) (ht : P.underlying t = some (.slice e)) (hi : P.info? e = some i) (hz : i.zero = some z) (h1 : ∀ v ∈ z.cells.toList, v.oneCell' = true) (g o n c : Nat) (hn : 0 < n) (cur : Array Value)
    (hg : w.heap[g]? = some (.cells cur te (0, 0))) (hfit : o + n * z.cells.size ≤ cur.size) :
    ∃ cs : List Value, cs.length = n * z.cells.size ∧ (Builtin.clear_ #[t] ty #[.slice (some ⟨g, o, none⟩) n c]).run P w = .ok (.tuple #[]) (w.setRow g (lay cur o cs)) := by
  have hl : (Builtin.zeroCells z.cells n).toList.length = n * z.cells.size := by rw [Array.length_toList, size_zeroCells]
  refine ⟨(Builtin.zeroCells z.cells n).toList, hl, ?_⟩
  have hone : ∀ v ∈ (Builtin.zeroCells z.cells n).toList, v.oneCell' = true := by
    intro v hv
    simp only [Builtin.zeroCells, Array.toList_map, List.mem_map] at hv
    obtain ⟨x, hx, rfl⟩ := hv
    by_cases h0 : z.cells.size = 0
    · have hx0 : x ∈ (Array.range (n * z.cells.size)).toList := hx
      rw [h0] at hx0
      simp at hx0
    · have hlt : x % z.cells.size < z.cells.size := Nat.mod_lt _ (by omega)
      rw [getElem!_pos z.cells _ hlt]
      exact h1 _ (by simp)
  have hst := Go.run_storeCells_at P g o te (Builtin.zeroCells z.cells n).toList 0 cur w hg (by rw [hl]; omega) hone
  simp only [Nat.add_zero] at hst
  have hv : (zeroValue e).run P w = .ok z w := by simp [zeroValue, typeInfo, hi, hz]
  obtain ⟨m, rfl⟩ : ∃ m, n = m + 1 := ⟨n - 1, by omega⟩
  simp [Builtin.clear_, run_underlying ht, hv, hst, lay]

theorem wpList_copy_r (w : World) {ops : Array Oper} {rest : List Oper} {o : Oper} {a : Act} {Q : Exit → Act → World → Prop} (hgd : o.guard = none) (d s : Operand) (dT sT : TypeId)
    (ho : o.op = .call { callee := .builtin .copy, args := #[d, s], argTypes := #[dT, sT] }) (v u : Value) (hd : a.eval d = v) (hs : a.eval s = u) {v' : Value} {w' : World}
    (hr : (Builtin.copy_ #[dT, sT] o.type #[v, u]).run P w = .ok v' w') (h : wpList P ops Q rest (a.put o.dst v') w') : wpList P ops Q (o :: rest) a w :=
  wpList_plain hgd fun _ hK => by
    unfold Oper.wp execOp
    simp only [ho, resolve, invoke, builtin, Sem.run_bind, Sem.run_pure, Result.andThen_ok, List.map_toArray, List.map_cons, List.map_nil, hd, hs, hr]
    exact hK _ _ h
theorem wpList_clear_r (w : World) {ops : Array Oper} {rest : List Oper} {o : Oper} {a : Act} {Q : Exit → Act → World → Prop} (hgd : o.guard = none) (s : Operand) (sT : TypeId)
    (ho : o.op = .call { callee := .builtin .clear, args := #[s], argTypes := #[sT] }) (u : Value) (hs : a.eval s = u) {v' : Value} {w' : World}
    (hr : (Builtin.clear_ #[sT] o.type #[u]).run P w = .ok v' w') (h : wpList P ops Q rest (a.put o.dst v') w') : wpList P ops Q (o :: rest) a w :=
  wpList_plain hgd fun _ hK => by
    unfold Oper.wp execOp
    simp only [ho, resolve, invoke, builtin, Sem.run_bind, Sem.run_pure, Result.andThen_ok, List.map_toArray, List.map_cons, List.map_nil, hs, hr]
    exact hK _ _ h
theorem step_copy_r {ops : Array Oper} {o : Oper} {a : Act} {w : World} {K : Act → World → Prop} {Q : Exit → Act → World → Prop} {E : Prop} (hg : o.guard = none) (d x : Operand) (dT sT : TypeId)
    (ho : o.op = .call { callee := .builtin .copy, args := #[d, x], argTypes := #[dT, sT] }) (v u : Value) (hd : a.eval d = v) (hx : a.eval x = u) {v' : Value} {w' : World}
    (hr : (Builtin.copy_ #[dT, sT] o.type #[v, u]).run P w = .ok v' w') (h : K (a.put o.dst v') w') : if Region.wanted o (yielded ops a.tmps) = true then Oper.wp P o a w K Q else E := by
  have hw : Region.wanted o (yielded ops a.tmps) = true := by simp [Region.wanted, hg]
  rw [if_pos hw]
  unfold Oper.wp execOp
  simp only [ho, resolve, invoke, builtin, Sem.run_bind, Sem.run_pure, Result.andThen_ok, List.map_toArray, List.map_cons, List.map_nil, hd, hx, hr]
  exact h
theorem step_append_r {ops : Array Oper} {o : Oper} {a : Act} {w : World} {K : Act → World → Prop} {Q : Exit → Act → World → Prop} {E : Prop} (hg : o.guard = none) (d x : Operand) (dT sT : TypeId)
    (ho : o.op = .call { callee := .builtin .append, args := #[d, x], argTypes := #[dT, sT] }) (v u : Value) (hd : a.eval d = v) (hx : a.eval x = u) {v' : Value} {w' : World}
    (hr : (Builtin.append_ #[dT, sT] o.type #[v, u]).run P w = .ok v' w') (h : K (a.put o.dst v') w') : if Region.wanted o (yielded ops a.tmps) = true then Oper.wp P o a w K Q else E := by
  have hw : Region.wanted o (yielded ops a.tmps) = true := by simp [Region.wanted, hg]
  rw [if_pos hw]
  unfold Oper.wp execOp
  simp only [ho, resolve, invoke, builtin, Sem.run_bind, Sem.run_pure, Result.andThen_ok, List.map_toArray, List.map_cons, List.map_nil, hd, hx, hr]
  exact h
end

theorem lay_size {cur : Array Value} {o : Nat} {cs : List Value} (h : o + cs.length ≤ cur.size) : (lay cur o cs).size = cur.size := by
  simp [lay]; omega
theorem lay_lo {cur : Array Value} {o n : Nat} {cs : List Value} (h : o + cs.length ≤ cur.size) (hn : n ≤ o) : (lay cur o cs).toList.take n = cur.toList.take n := by
  simp only [lay, List.append_assoc]
  rw [List.take_append_of_le_length (by simp; omega), List.take_take, Nat.min_eq_left hn]
theorem lay_hi {cur : Array Value} {o : Nat} {cs : List Value} (h : o + cs.length ≤ cur.size) : (lay cur o cs).toList.take (o + cs.length) = cur.toList.take o ++ cs := by
  simp only [lay]
  rw [List.take_append_of_le_length (by simp; omega), List.take_of_length_le (by simp; omega)]
theorem lay_mid {cur : Array Value} {o n : Nat} {cs : List Value} (h : o + cs.length ≤ cur.size) (hn : o + cs.length ≤ n) : (lay cur o cs).toList.take n = cur.toList.take o ++ cs ++ (cur.toList.take n).drop (o + cs.length) := by
  have hl : (cur.toList.take o ++ cs).length = o + cs.length := by simp; omega
  simp only [lay]
  rw [List.take_append, hl, List.take_of_length_le (by omega), List.drop_take]
theorem shape_of {w : World} {p : Nat} {cs : Array Value} {t : TypeId} {fr : Nat × Nat} (h : w.heap[p]? = some (.cells cs t fr)) : w.shape? p = some (t, cs.size) := by
  simp [World.shape?, h]
theorem setRow_far (w : World) (g : Nat) (cs : Array Value) {k : Nat} (h : k ≠ g) : (w.setRow g cs).heap[k]? = w.heap[k]? := setRow_other _ _ _ _ h
/-- A row of one's own, out of its block. -/
theorem own_of {w : World} {e : TypeId} {k g n cap : Nat} {cur : Array Value} {xs : List Value} (hg : w.heap[g]? = some (.cells cur e (0, 0))) (hn : n ≤ cap) (hm : cap ≤ maxLen) (hs : cur.size = cap * k) (ht : cur.toList.take (n * k) = xs) (hl : xs.length = n * k) : w.ownsRow 0 e k (.slice (some ⟨g, 0, none⟩) n cap) n xs :=
  ⟨hl, .inr ⟨g, cap, cur, rfl, Nat.zero_le _, hg, hn, hm, hs, ht⟩⟩
theorem news_of {w : World} {g : Nat} {cur : Array Value} {t : TypeId} {o k : Nat} {cs : List Value} (hg : w.heap[g]? = some (.cells cur t (0, 0))) (h : cs = (cur.toList.take k).drop o) : ∀ j v, cs[j]? = some v → w.cell? ((⟨g, o, none⟩ : Addr).add j) = some v := fun j v hv => by
  rw [add_off, (cell_of hg _).1]
  subst h
  rw [List.getElem?_drop, List.getElem?_take] at hv
  split at hv
  · rw [← Array.getElem?_toList]; exact hv
  · cases hv

section
variable (w : World) (g n c : Nat) (xs : List KV)

/-- slices.Delete: nothing is deleted. -/
theorem delP_none (v : Value) (hv : v = .slice none 0 0) : Calls Try.prog 41 #[v, .int .i64 0, .int .i64 0] w fun e w' => e = .returned v ∧ w' = w := by
  subst hv
  go_enter Try.func41, Try.ntmps41
  go_wp2
  go_ret
  exact ⟨rfl, rfl⟩

set_option maxRecDepth 100000 in
set_option maxHeartbeats 1000000 in
/-- slices.Delete: from i to j. -/
theorem delP_any (i j : Nat) (hn : n = xs.length) (hsm : n ≤ 1000) (hij : i < j) (hj : j ≤ n) (ho : w.ownsRow 0 78 3 (.slice (some ⟨g, 0, none⟩) n c) n (xs.flatMap KV.en)) :
    Calls Try.prog 41 #[.slice (some ⟨g, 0, none⟩) n c, .int .i64 i, .int .i64 j] w fun e w' =>
      e = .returned (.slice (some ⟨g, 0, none⟩) (n - (j - i)) c) ∧ w'.ownsRow 0 78 3 (.slice (some ⟨g, 0, none⟩) (n - (j - i)) c) (n - (j - i)) ((xs.take i ++ xs.drop j).flatMap KV.en) ∧ Fr w.heap.size (fun b => b = g) w w' := by
  obtain ⟨ii, hi, hz0, hz1, hz2⟩ := info_parts infoKV
  obtain ⟨cap, cur, hcap, hg, hnc, hcm, hcs, htk⟩ : ∃ cap cur, cap = c ∧ w.heap[g]? = some (.cells cur 78 (0, 0)) ∧ n ≤ cap ∧ cap ≤ maxLen ∧ cur.size = cap * 3 ∧ cur.toList.take (n * 3) = xs.flatMap KV.en := by
    rcases ho.2 with ⟨e, _⟩ | ⟨g', cap, cur, e, _, hg, h4, h5, h6, h7⟩
    · cases e
    · cases e
      exact ⟨_, cur, rfl, hg, h4, h5, h6, h7⟩
  subst hcap
  clear ho
  have hcm' := hcm
  unfold maxLen at hcm'
  have hxl : (xs.flatMap KV.en).length = n * 3 := by rw [flat_len KV.en_len, hn]
  have hdl : ((xs.drop j).flatMap KV.en).length = (n - j) * 3 := by rw [flat_len KV.en_len, List.length_drop, hn]
  have htl : ((xs.take i).flatMap KV.en).length = i * 3 := by rw [flat_len KV.en_len, List.length_take]; congr 1; omega
  have e1 : (xs.drop j).flatMap KV.en = (cur.toList.take (n * 3)).drop (j * 3) := by
    rw [htk]
    conv => rhs; rw [← List.take_append_drop j xs, List.flatMap_append]
    rw [List.drop_left']
    rw [flat_len KV.en_len, List.length_take]; congr 1; omega
  have e2 : (xs.take i).flatMap KV.en = cur.toList.take (i * 3) := by
    rw [show cur.toList.take (i * 3) = (cur.toList.take (n * 3)).take (i * 3) by rw [List.take_take]; congr 1; omega, htk]
    conv => rhs; rw [← List.take_append_drop i xs, List.flatMap_append]
    rw [List.take_left' htl]
  have fit1 : i * 3 + ((xs.drop j).flatMap KV.en).length ≤ cur.size := by rw [hdl, hcs]; omega
  obtain ⟨cs1, hcs1⟩ : ∃ cs1, cs1 = (xs.drop j).flatMap KV.en := ⟨_, rfl⟩
  rw [← hcs1] at hdl fit1 e1
  have ha : ∀ ty, (Builtin.append_ #[62, 62] ty #[.slice (some ⟨g, 0, none⟩) i cap, .slice (some ⟨g, j * 3, none⟩) (n - j) (cap - j)]).run Try.prog w.drew = .ok (.slice (some ⟨g, 0, none⟩) (i + (n - j)) cap) (w.drew.setRow g (lay cur (i * 3) cs1)) := fun ty => by
    have := run_append_room (P := Try.prog) w.drew 62 ty 78 ii Try.underlying62 hi g i cap cur hg ⟨g, j * 3, none⟩ (n - j) (cap - j) cs1 (by rw [hdl, hz1]) (news_of hg e1) (fun u hu => by
      rw [hcs1] at hu
      obtain ⟨x, _, hx⟩ := List.mem_flatMap.1 hu
      exact x.en_one u hx) (by omega) (by rw [hz1]; exact fit1)
    rw [hz1] at this
    exact this
  have ha0 : n = j → ∀ ty, (Builtin.append_ #[62, 62] ty #[.slice (some ⟨g, 0, none⟩) i cap, .slice (some ⟨g, 0, none⟩) 0 (cap - j)]).run Try.prog w.drew = .ok (.slice (some ⟨g, 0, none⟩) (i + (n - j)) cap) (w.drew.setRow g (lay cur (i * 3) cs1)) := fun hjn ty => by
    subst hjn
    have hcs0 : cs1 = [] := List.eq_nil_of_length_eq_zero (by rw [hdl]; omega)
    have := run_append_room (P := Try.prog) w.drew 62 ty 78 ii Try.underlying62 hi g i cap cur hg ⟨g, 0, none⟩ 0 (cap - n) cs1 (by rw [hdl, hz1]; simp) (fun q u hu => by rw [hcs0] at hu; cases hu) (fun u hu => by rw [hcs0] at hu; cases hu) (by omega) (by rw [hz1]; exact fit1)
    rw [hz1] at this
    rw [Nat.sub_self]
    exact this
  have hg1 : (w.drew.setRow g (lay cur (i * 3) cs1)).heap[g]? = some (.cells (lay cur (i * 3) cs1) 78 (0, 0)) := setRow_heap w.drew g cur _ _ _ hg
  have hs1 := lay_size fit1
  obtain ⟨cs2, hcl2, hcl⟩ := run_clear_k (P := Try.prog) (w.drew.setRow g (lay cur (i * 3) cs1)) 62 78 0 78 ii _ Try.underlying62 hi hz0 (by intro v hv; simp [Value.cells] at hv; rcases hv with rfl | rfl | rfl <;> rfl) g ((i + (n - j)) * 3) (j - i) (cap - (i + (n - j))) (by omega) _ hg1 (by rw [hs1, hcs]; simp [Value.cells]; omega)
  have hcl2' : cs2.length = (j - i) * 3 := hcl2
  have hfr : Fr w.heap.size (fun b => b = g) w ((w.drew.setRow g (lay cur (i * 3) cs1)).setRow g (lay (lay cur (i * 3) cs1) ((i + (n - j)) * 3) cs2)) := ((Fr.refl w.heap.size (fun b => b = g) w).drew.setRow (b := g) (.inl rfl) _).setRow (b := g) (.inl rfl) _
  have fit2 : (i + (n - j)) * 3 + cs2.length ≤ (lay cur (i * 3) cs1).size := by rw [hs1, hcs, hcl2']; omega
  have hown : ((w.drew.setRow g (lay cur (i * 3) cs1)).setRow g (lay (lay cur (i * 3) cs1) ((i + (n - j)) * 3) cs2)).ownsRow 0 78 3 (.slice (some ⟨g, 0, none⟩) (n - (j - i)) cap) (n - (j - i)) ((xs.take i ++ xs.drop j).flatMap KV.en) := by
    refine own_of (setRow_heap _ g _ _ _ _ hg1) (by omega) hcm (by rw [lay_size fit2, hs1, hcs]) ?_ ?_
    · rw [lay_lo fit2 (by omega), show (n - (j - i)) * 3 = i * 3 + cs1.length by rw [hdl]; omega, lay_hi fit1, List.flatMap_append, e2, hcs1]
    · rw [List.flatMap_append, List.length_append, htl, ← hcs1, hdl]; omega
  have HA := Lib.hid ha
  have HA0 := Lib.hid ha0
  have HF := Lib.hid hfr
  have HO := Lib.hid hown
  have HC := Lib.hid hcl
  have ne1 : ¬ ((i : Int) = (j : Int)) := by omega
  have hx1 : ((i : Int)) < (j : Int) := by omega
  have hx2 : (j : Int) ≤ (n : Int) := by omega
  have hx3 : (n : Int) ≤ (cap : Int) := by omega
  have hx4 : (i : Int) ≤ (cap : Int) := by omega
  have hx5 : (j : Int) ≤ (cap : Int) := by omega
  have hx6 : i ≤ cap := by omega
  have hx7 : j ≤ cap := by omega
  have hle : n - (j - i) = i + (n - j) := by omega
  rw [hle] at HO ⊢
  rw [show j - i = n - (i + (n - j)) by omega] at HC
  have hm0 : ((i : Int) + ((n : Int) - (j : Int))) = ((i + (n - j) : Nat) : Int) := by omega
  generalize hW : w.drew.setRow g (lay cur (i * 3) cs1) = w1 at *
  clear hW ha ha0 hfr hown hcl hg hg1 htk e1 e2 fit1 fit2 hs1 hcl2 hcl2' hcs hdl htl hxl hcs1 hz0 hz1 hz2 hi hn
  by_cases hjc : cap = j
  · have hjn : n = j := by omega
    subst hjc
    subst hjn
    have HA1 := Lib.hid (HA0.out rfl)
    simp only [Nat.sub_self, Nat.add_zero] at HA1 HC HO HF ⊢
    go_enter Try.func41, Try.ntmps41
    go_wp2_with fail
    go_region_law (refine step_append_r rfl (.tmp 22) (.tmp 25) 62 62 rfl (.slice (some ⟨g, 0, none⟩) i n) (.slice (some ⟨g, 0, none⟩) 0 0) rfl rfl (HA1.out _) ?_)
    go_wp2_with (with_reducible refine wpList_clear_r _ rfl (.tmp 31) 62 rfl (.slice (some ⟨g, i * 3, none⟩) (n - i) (n - i)) rfl HC.out ?_)
    go_ret
    exact ⟨rfl, HO.out, HF.out⟩
  · have hjcI : ¬ ((cap : Int) = (j : Int)) := by omega
    go_enter Try.func41, Try.ntmps41
    go_wp2_with fail
    go_region_law (refine step_append_r (v' := .slice (some ⟨g, 0, none⟩) (i + (n - j)) cap) (w' := w1) rfl (.tmp 22) (.tmp 25) 62 62 rfl (.slice (some ⟨g, 0, none⟩) i cap) (.slice (some ⟨g, j * 3, none⟩) (n - j) (cap - j)) (by go_simp) (by go_simp) (HA.out _) ?_)
    go_wp2_with (with_reducible refine wpList_clear_r _ rfl (.tmp 31) 62 rfl (.slice (some ⟨g, (i + (n - j)) * 3, none⟩) (n - (i + (n - j))) (cap - (i + (n - j)))) rfl HC.out ?_)
    go_ret
    exact ⟨rfl, HO.out, HF.out⟩

set_option maxRecDepth 100000 in
theorem cloneP_nil : Calls Try.prog 56 #[.slice none 0 0] w fun e w' => e = .returned (.slice none 0 0) ∧ w' = w := by
  go_enter Try.func56, Try.ntmps56
  have hnil : ∀ w, (binOp .eql 62 (.slice none 0 0) (.slice none 0 0)).run Try.prog w = .ok (.bool true) w := fun w => Lib.run_eql_slice_nil (P := Try.prog) w 62 78 none 0 0 0 0 Try.underlying62
  go_wp2
  go_ret
  exact ⟨rfl, rfl⟩

set_option maxRecDepth 100000 in
set_option maxHeartbeats 1000000 in
/-- slices.Clone. -/
theorem cloneP_any (o m c2 : Nat) (h0 : 0 < m) (hsm : m ≤ 1000) (hm : m = xs.length) (hc : ∀ j v, (xs.flatMap KV.en)[j]? = some v → w.cell? ((⟨g, o, none⟩ : Addr).add j) = some v) :
    Calls Try.prog 56 #[.slice (some ⟨g, o, none⟩) m c2] w fun e w' => ∃ h cp, e = .returned (.slice (some ⟨h, 0, none⟩) m cp) ∧ w'.ownsRow w.heap.size 78 3 (.slice (some ⟨h, 0, none⟩) m cp) m (xs.flatMap KV.en) ∧ Below w.heap.size w w' := by
  obtain ⟨ii, hi, hz0, hz1, hz2⟩ := info_parts infoKV
  have hB := (Below.refl w.heap.size w).alloc (Nat.le_refl _) (.cells #[] 78)
  have O0 : (w.alloc (.cells #[] 78)).ownsRow w.heap.size 78 3 (.slice (some ⟨w.heap.size, 0, none⟩) 0 0) 0 [] := World.ownsRow_made w #[] 0 (Nat.le_refl _) (by unfold maxLen; omega) rfl
  have hl : (xs.flatMap KV.en).length = m * 3 := by rw [flat_len KV.en_len, hm]
  have h1 : ∀ u ∈ xs.flatMap KV.en, u.oneCell' = true := fun u hu => by
    obtain ⟨x, _, hx⟩ := List.mem_flatMap.1 hu
    exact x.en_one u hx
  have hcl : ∀ j v, (xs.flatMap KV.en)[j]? = some v → (w.alloc (.cells #[] 78)).cell? ((⟨g, o, none⟩ : Addr).add j) = some v := fun j v hv => by
    exact Lib.cell?_alloc_some _ (hc j v hv)
  have HC := Lib.hid hcl
  have HO := Lib.hid O0
  have HB := Lib.hid hB
  have H1 := Lib.hid h1
  generalize xs.flatMap KV.en = cs at *
  clear hc hm O0 hB hcl h1
  have hnil : ∀ w, (binOp .eql 62 (.slice (some ⟨g, o, none⟩) m c2) (.slice none 0 0)).run Try.prog w = .ok (.bool false) w := fun w => Lib.run_eql_slice_nil (P := Try.prog) w 62 78 (some ⟨g, o, none⟩) m c2 0 0 Try.underlying62
  go_enter Try.func56, Try.ntmps56
  go_wp2_with (at_builtin; refine wpList_append_lies _ rfl _ _ 62 rfl w.heap.size 78 ii _ 3 32 Try.underlying62 hi hz0 hz1 hz2 rfl (by decide) _ 0 [] rfl HO.out ⟨g, o, none⟩ m c2 cs rfl hl HC.out H1.out h0 (by unfold maxLen; omega) (by omega) HB.out.size _ rfl ?_)
  intro h cp w2 ho hgr hat hlt
  have hb2 : Below w.heap.size w w2 := HB.out.grown hgr HB.out.size (fun q hq => (HO.out.lt q hq).1)
  go_wp2
  go_ret
  exact ⟨h, cp, rfl, ho, hb2⟩
end

section
variable (w : World) (g n c : Nat) (xs : List KN)

/-- slices.Delete: nothing is deleted. -/
theorem delQ_none (v : Value) (hv : v = .slice none 0 0) : Calls Try.prog 53 #[v, .int .i64 0, .int .i64 0] w fun e w' => e = .returned v ∧ w' = w := by
  subst hv
  go_enter Try.func53, Try.ntmps53
  go_wp2
  go_ret
  exact ⟨rfl, rfl⟩

set_option maxRecDepth 100000 in
set_option maxHeartbeats 1000000 in
/-- slices.Delete: from i to j. -/
theorem delQ_any (i j : Nat) (hn : n = xs.length) (hsm : n ≤ 1000) (hij : i < j) (hj : j ≤ n) (ho : w.ownsRow 0 72 2 (.slice (some ⟨g, 0, none⟩) n c) n (xs.flatMap KN.en)) :
    Calls Try.prog 53 #[.slice (some ⟨g, 0, none⟩) n c, .int .i64 i, .int .i64 j] w fun e w' =>
      e = .returned (.slice (some ⟨g, 0, none⟩) (n - (j - i)) c) ∧ w'.ownsRow 0 72 2 (.slice (some ⟨g, 0, none⟩) (n - (j - i)) c) (n - (j - i)) ((xs.take i ++ xs.drop j).flatMap KN.en) ∧ Fr w.heap.size (fun b => b = g) w w' := by
  obtain ⟨ii, hi, hz0, hz1, hz2⟩ := info_parts infoKN
  obtain ⟨cap, cur, hcap, hg, hnc, hcm, hcs, htk⟩ : ∃ cap cur, cap = c ∧ w.heap[g]? = some (.cells cur 72 (0, 0)) ∧ n ≤ cap ∧ cap ≤ maxLen ∧ cur.size = cap * 2 ∧ cur.toList.take (n * 2) = xs.flatMap KN.en := by
    rcases ho.2 with ⟨e, _⟩ | ⟨g', cap, cur, e, _, hg, h4, h5, h6, h7⟩
    · cases e
    · cases e
      exact ⟨_, cur, rfl, hg, h4, h5, h6, h7⟩
  subst hcap
  clear ho
  have hcm' := hcm
  unfold maxLen at hcm'
  have hxl : (xs.flatMap KN.en).length = n * 2 := by rw [flat_len KN.en_len, hn]
  have hdl : ((xs.drop j).flatMap KN.en).length = (n - j) * 2 := by rw [flat_len KN.en_len, List.length_drop, hn]
  have htl : ((xs.take i).flatMap KN.en).length = i * 2 := by rw [flat_len KN.en_len, List.length_take]; congr 1; omega
  have e1 : (xs.drop j).flatMap KN.en = (cur.toList.take (n * 2)).drop (j * 2) := by
    rw [htk]
    conv => rhs; rw [← List.take_append_drop j xs, List.flatMap_append]
    rw [List.drop_left']
    rw [flat_len KN.en_len, List.length_take]; congr 1; omega
  have e2 : (xs.take i).flatMap KN.en = cur.toList.take (i * 2) := by
    rw [show cur.toList.take (i * 2) = (cur.toList.take (n * 2)).take (i * 2) by rw [List.take_take]; congr 1; omega, htk]
    conv => rhs; rw [← List.take_append_drop i xs, List.flatMap_append]
    rw [List.take_left' htl]
  have fit1 : i * 2 + ((xs.drop j).flatMap KN.en).length ≤ cur.size := by rw [hdl, hcs]; omega
  obtain ⟨cs1, hcs1⟩ : ∃ cs1, cs1 = (xs.drop j).flatMap KN.en := ⟨_, rfl⟩
  rw [← hcs1] at hdl fit1 e1
  have ha : ∀ ty, (Builtin.append_ #[64, 64] ty #[.slice (some ⟨g, 0, none⟩) i cap, .slice (some ⟨g, j * 2, none⟩) (n - j) (cap - j)]).run Try.prog w.drew = .ok (.slice (some ⟨g, 0, none⟩) (i + (n - j)) cap) (w.drew.setRow g (lay cur (i * 2) cs1)) := fun ty => by
    have := run_append_room (P := Try.prog) w.drew 64 ty 72 ii Try.underlying64 hi g i cap cur hg ⟨g, j * 2, none⟩ (n - j) (cap - j) cs1 (by rw [hdl, hz1]) (news_of hg e1) (fun u hu => by
      rw [hcs1] at hu
      obtain ⟨x, _, hx⟩ := List.mem_flatMap.1 hu
      exact x.en_one u hx) (by omega) (by rw [hz1]; exact fit1)
    rw [hz1] at this
    exact this
  have ha0 : n = j → ∀ ty, (Builtin.append_ #[64, 64] ty #[.slice (some ⟨g, 0, none⟩) i cap, .slice (some ⟨g, 0, none⟩) 0 (cap - j)]).run Try.prog w.drew = .ok (.slice (some ⟨g, 0, none⟩) (i + (n - j)) cap) (w.drew.setRow g (lay cur (i * 2) cs1)) := fun hjn ty => by
    subst hjn
    have hcs0 : cs1 = [] := List.eq_nil_of_length_eq_zero (by rw [hdl]; omega)
    have := run_append_room (P := Try.prog) w.drew 64 ty 72 ii Try.underlying64 hi g i cap cur hg ⟨g, 0, none⟩ 0 (cap - n) cs1 (by rw [hdl, hz1]; simp) (fun q u hu => by rw [hcs0] at hu; cases hu) (fun u hu => by rw [hcs0] at hu; cases hu) (by omega) (by rw [hz1]; exact fit1)
    rw [hz1] at this
    rw [Nat.sub_self]
    exact this
  have hg1 : (w.drew.setRow g (lay cur (i * 2) cs1)).heap[g]? = some (.cells (lay cur (i * 2) cs1) 72 (0, 0)) := setRow_heap w.drew g cur _ _ _ hg
  have hs1 := lay_size fit1
  obtain ⟨cs2, hcl2, hcl⟩ := run_clear_k (P := Try.prog) (w.drew.setRow g (lay cur (i * 2) cs1)) 64 72 0 72 ii _ Try.underlying64 hi hz0 (by intro v hv; simp [Value.cells] at hv; rcases hv with rfl | rfl <;> rfl) g ((i + (n - j)) * 2) (j - i) (cap - (i + (n - j))) (by omega) _ hg1 (by rw [hs1, hcs]; simp [Value.cells]; omega)
  have hcl2' : cs2.length = (j - i) * 2 := hcl2
  have hfr : Fr w.heap.size (fun b => b = g) w ((w.drew.setRow g (lay cur (i * 2) cs1)).setRow g (lay (lay cur (i * 2) cs1) ((i + (n - j)) * 2) cs2)) := ((Fr.refl w.heap.size (fun b => b = g) w).drew.setRow (b := g) (.inl rfl) _).setRow (b := g) (.inl rfl) _
  have fit2 : (i + (n - j)) * 2 + cs2.length ≤ (lay cur (i * 2) cs1).size := by rw [hs1, hcs, hcl2']; omega
  have hown : ((w.drew.setRow g (lay cur (i * 2) cs1)).setRow g (lay (lay cur (i * 2) cs1) ((i + (n - j)) * 2) cs2)).ownsRow 0 72 2 (.slice (some ⟨g, 0, none⟩) (n - (j - i)) cap) (n - (j - i)) ((xs.take i ++ xs.drop j).flatMap KN.en) := by
    refine own_of (setRow_heap _ g _ _ _ _ hg1) (by omega) hcm (by rw [lay_size fit2, hs1, hcs]) ?_ ?_
    · rw [lay_lo fit2 (by omega), show (n - (j - i)) * 2 = i * 2 + cs1.length by rw [hdl]; omega, lay_hi fit1, List.flatMap_append, e2, hcs1]
    · rw [List.flatMap_append, List.length_append, htl, ← hcs1, hdl]; omega
  have HA := Lib.hid ha
  have HA0 := Lib.hid ha0
  have HF := Lib.hid hfr
  have HO := Lib.hid hown
  have HC := Lib.hid hcl
  have ne1 : ¬ ((i : Int) = (j : Int)) := by omega
  have hx1 : ((i : Int)) < (j : Int) := by omega
  have hx2 : (j : Int) ≤ (n : Int) := by omega
  have hx3 : (n : Int) ≤ (cap : Int) := by omega
  have hx4 : (i : Int) ≤ (cap : Int) := by omega
  have hx5 : (j : Int) ≤ (cap : Int) := by omega
  have hx6 : i ≤ cap := by omega
  have hx7 : j ≤ cap := by omega
  have hle : n - (j - i) = i + (n - j) := by omega
  rw [hle] at HO ⊢
  rw [show j - i = n - (i + (n - j)) by omega] at HC
  have hm0 : ((i : Int) + ((n : Int) - (j : Int))) = ((i + (n - j) : Nat) : Int) := by omega
  generalize hW : w.drew.setRow g (lay cur (i * 2) cs1) = w1 at *
  clear hW ha ha0 hfr hown hcl hg hg1 htk e1 e2 fit1 fit2 hs1 hcl2 hcl2' hcs hdl htl hxl hcs1 hz0 hz1 hz2 hi hn
  by_cases hjc : cap = j
  · have hjn : n = j := by omega
    subst hjc
    subst hjn
    have HA1 := Lib.hid (HA0.out rfl)
    simp only [Nat.sub_self, Nat.add_zero] at HA1 HC HO HF ⊢
    go_enter Try.func53, Try.ntmps53
    go_wp2_with fail
    go_region_law (refine step_append_r rfl (.tmp 22) (.tmp 25) 64 64 rfl (.slice (some ⟨g, 0, none⟩) i n) (.slice (some ⟨g, 0, none⟩) 0 0) rfl rfl (HA1.out _) ?_)
    go_wp2_with (with_reducible refine wpList_clear_r _ rfl (.tmp 31) 64 rfl (.slice (some ⟨g, i * 2, none⟩) (n - i) (n - i)) rfl HC.out ?_)
    go_ret
    exact ⟨rfl, HO.out, HF.out⟩
  · have hjcI : ¬ ((cap : Int) = (j : Int)) := by omega
    go_enter Try.func53, Try.ntmps53
    go_wp2_with fail
    go_region_law (refine step_append_r (v' := .slice (some ⟨g, 0, none⟩) (i + (n - j)) cap) (w' := w1) rfl (.tmp 22) (.tmp 25) 64 64 rfl (.slice (some ⟨g, 0, none⟩) i cap) (.slice (some ⟨g, j * 2, none⟩) (n - j) (cap - j)) (by go_simp) (by go_simp) (HA.out _) ?_)
    go_wp2_with (with_reducible refine wpList_clear_r _ rfl (.tmp 31) 64 rfl (.slice (some ⟨g, (i + (n - j)) * 2, none⟩) (n - (i + (n - j))) (cap - (i + (n - j)))) rfl HC.out ?_)
    go_ret
    exact ⟨rfl, HO.out, HF.out⟩

set_option maxRecDepth 100000 in
theorem cloneQ_nil : Calls Try.prog 57 #[.slice none 0 0] w fun e w' => e = .returned (.slice none 0 0) ∧ w' = w := by
  go_enter Try.func57, Try.ntmps57
  have hnil : ∀ w, (binOp .eql 64 (.slice none 0 0) (.slice none 0 0)).run Try.prog w = .ok (.bool true) w := fun w => Lib.run_eql_slice_nil (P := Try.prog) w 64 72 none 0 0 0 0 Try.underlying64
  go_wp2
  go_ret
  exact ⟨rfl, rfl⟩

set_option maxRecDepth 100000 in
set_option maxHeartbeats 1000000 in
/-- slices.Clone. -/
theorem cloneQ_any (o m c2 : Nat) (h0 : 0 < m) (hsm : m ≤ 1000) (hm : m = xs.length) (hc : ∀ j v, (xs.flatMap KN.en)[j]? = some v → w.cell? ((⟨g, o, none⟩ : Addr).add j) = some v) :
    Calls Try.prog 57 #[.slice (some ⟨g, o, none⟩) m c2] w fun e w' => ∃ h cp, e = .returned (.slice (some ⟨h, 0, none⟩) m cp) ∧ w'.ownsRow w.heap.size 72 2 (.slice (some ⟨h, 0, none⟩) m cp) m (xs.flatMap KN.en) ∧ Below w.heap.size w w' := by
  obtain ⟨ii, hi, hz0, hz1, hz2⟩ := info_parts infoKN
  have hB := (Below.refl w.heap.size w).alloc (Nat.le_refl _) (.cells #[] 72)
  have O0 : (w.alloc (.cells #[] 72)).ownsRow w.heap.size 72 2 (.slice (some ⟨w.heap.size, 0, none⟩) 0 0) 0 [] := World.ownsRow_made w #[] 0 (Nat.le_refl _) (by unfold maxLen; omega) rfl
  have hl : (xs.flatMap KN.en).length = m * 2 := by rw [flat_len KN.en_len, hm]
  have h1 : ∀ u ∈ xs.flatMap KN.en, u.oneCell' = true := fun u hu => by
    obtain ⟨x, _, hx⟩ := List.mem_flatMap.1 hu
    exact x.en_one u hx
  have hcl : ∀ j v, (xs.flatMap KN.en)[j]? = some v → (w.alloc (.cells #[] 72)).cell? ((⟨g, o, none⟩ : Addr).add j) = some v := fun j v hv => by
    exact Lib.cell?_alloc_some _ (hc j v hv)
  have HC := Lib.hid hcl
  have HO := Lib.hid O0
  have HB := Lib.hid hB
  have H1 := Lib.hid h1
  generalize xs.flatMap KN.en = cs at *
  clear hc hm O0 hB hcl h1
  have hnil : ∀ w, (binOp .eql 64 (.slice (some ⟨g, o, none⟩) m c2) (.slice none 0 0)).run Try.prog w = .ok (.bool false) w := fun w => Lib.run_eql_slice_nil (P := Try.prog) w 64 72 (some ⟨g, o, none⟩) m c2 0 0 Try.underlying64
  go_enter Try.func57, Try.ntmps57
  go_wp2_with (at_builtin; refine wpList_append_lies _ rfl _ _ 64 rfl w.heap.size 72 ii _ 2 24 Try.underlying64 hi hz0 hz1 hz2 rfl (by decide) _ 0 [] rfl HO.out ⟨g, o, none⟩ m c2 cs rfl hl HC.out H1.out h0 (by unfold maxLen; omega) (by omega) HB.out.size _ rfl ?_)
  intro h cp w2 ho hgr hat hlt
  have hb2 : Below w.heap.size w w2 := HB.out.grown hgr HB.out.size (fun q hq => (HO.out.lt q hq).1)
  go_wp2
  go_ret
  exact ⟨h, cp, rfl, ho, hb2⟩
end
end Go.Proofs.Ytejbbojephiifaa
