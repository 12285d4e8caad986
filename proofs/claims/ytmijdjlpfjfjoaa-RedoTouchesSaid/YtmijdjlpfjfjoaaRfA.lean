/- Apply, by the reference. -/
import Derived.Test.YtmijdjlpfjfjoaaRfT
import Derived.Test.YtmijdjlpfjfjoaaRdA
namespace Go.Proofs.Ytmijdjlpfjfjoaa.Rx
open Go.RowKit

/-- What may be appended: so many elements, and where they lie. -/
def Src (w : World) (sv : Value) (m : Nat) (news : List Value) : Prop :=
  (sv = .slice none 0 0 ∧ m = 0 ∧ news = []) ∨ ∃ ad c, sv = .slice (some ad) m c ∧ ∀ j u, news[j]? = some u → w.cell? (ad.add j) = some u
theorem Src.up {w w' : World} {sv : Value} {m : Nat} {news : List Value} (h : Src w sv m news) (hb : Below w.heap.size w w') : Src w' sv m news := by
  rcases h with h | ⟨ad, c, h1, h2⟩
  · exact .inl h
  · exact .inr ⟨ad, c, h1, fun j u hu => (World.cell?_of_block (hb.block _ (World.block_lt_of_cell? w _ (h2 j u hu)))).trans (h2 j u hu)⟩
theorem src_bytes {w : World} {sv : Value} {l : List Int} (h : SlK .u8 w sv l) : Src w sv l.length (byteV l) := by
  obtain ⟨p, cap, rfl, hc, hwf, h0, h1⟩ := h
  cases p with
  | none =>
    obtain ⟨rfl, rfl⟩ := h0 rfl
    exact .inl ⟨rfl, rfl, rfl⟩
  | some a =>
    obtain ⟨h2, h3, h4⟩ := h1 a rfl
    obtain ⟨ab, ao, asp⟩ := a
    cases h2
    refine .inr ⟨_, _, rfl, fun j u hu => ?_⟩
    have hj : j < l.length := by
      have := (List.getElem?_eq_some_iff.1 hu).1
      simpa [byteV] using this
    have h5 := h4 j hj
    rw [add_off]
    rw [h5, ← hu]
    simp [byteV, hj]
theorem grown_refl (w : World) (b : Option Nat) : w.grownBy w b := ⟨rfl, rfl, rfl, Nat.le_refl _, fun _ _ _ => rfl⟩
/-- append, whatever is appended. -/
theorem step_append_src {P : Program} {w : World} {ops : Array Oper} {o : Oper} {a : Act} {K : Act → World → Prop} {Q : Exit → Act → World → Prop} {E : Prop} (hgd : o.guard = none) (s x : Operand) (t : TypeId)
    (ho : o.op = .call { callee := .builtin .append, args := #[s, x], argTypes := #[t, t] })
    (base : Nat) (e : TypeId) (i : TypeInfo) (z : Value) (size bytes : Nat) (ht : P.underlying t = some (.slice e)) (hi : P.info? e = some i) (hz : i.zero = some z)
    (hsize : i.size = size) (hby : i.bytes = bytes) (hzs : z.cells.size = size) (hsz : 0 < size)
    (g0 c0 n : Nat) (xs : List Value) (hs : a.eval s = .slice (some ⟨g0, 0, none⟩) n c0) (hown : w.ownsRow base e size (.slice (some ⟨g0, 0, none⟩) n c0) n xs)
    (sv : Value) (m : Nat) (news : List Value) (hx : a.eval x = sv) (hsrc : Src w sv m news) (hl : news.length = m * size) (h1 : ∀ u ∈ news, u.oneCell' = true)
    (h63 : n + m ≤ maxLen) (hbytes : (n + m) * bytes ≤ 140737488355328) (hbase : base ≤ w.heap.size)
    (h : ∀ g cap w', w'.ownsRow base e size (.slice (some ⟨g, 0, none⟩) (n + m) cap) (n + m) (xs ++ news) → w.grownBy w' (some g0) → K (a.put o.dst (.slice (some ⟨g, 0, none⟩) (n + m) cap)) w') :
    if Region.wanted o (yielded ops a.tmps) = true then Oper.wp P o a w K Q else E := by
  have hw : Region.wanted o (yielded ops a.tmps) = true := by simp [Region.wanted, hgd]
  rw [if_pos hw]
  rcases hsrc with ⟨rfl, rfl, rfl⟩ | ⟨ad, c, rfl, hnews⟩
  · have hrun := run_append_owned_none (P := P) (w := w) base t o.type e i size ht hi _ n xs hown
    unfold Oper.wp execOp
    simp only [ho, resolve, invoke, builtin, Sem.run_bind, Sem.run_pure, Result.andThen_ok, List.map_toArray, List.map_cons, List.map_nil, hs, hx, hrun]
    exact h g0 c0 w (by simpa using hown) (grown_refl _ _)
  · obtain ⟨v', w', hr, h2, h3, h4, h5⟩ := run_append_own_at (P := P) w base t o.type e i z size bytes ht hi hz hsize hby hzs hsz _ n xs hown ad m c news hl hnews h1 h63 hbytes hbase
    rcases id h2.2 with ⟨h6, _⟩ | ⟨g, cap, cur, rfl, _⟩
    · have := (h4.1 h6).1
      cases this
    · unfold Oper.wp execOp
      simp only [ho, resolve, invoke, builtin, Sem.run_bind, Sem.run_pure, Result.andThen_ok, List.map_toArray, List.map_cons, List.map_nil, hs, hx, hr]
      exact h g cap w' h2 h3

theorem tl_max {e : En} (h : e.mv.length ≤ 100000) {xs : List Tx} (hx : tls xs = tl e) : xs.length ≤ 100002 := by
  have h1 : xs.length = (tl e).length := by rw [← hx]; simp [tls]
  rw [h1]
  unfold tl
  split
  · simp
  · split
    · simp
    · split
      · simp; omega
      · simp
theorem ra_end {W : World} {tmps : Array Value} {g : Nat} {P : Nat → Option Addr} {N K : Nat → Nat} {n : Int} {b : Bool} (h8 : tmps.getD 8 undef = .pointer (some ⟨g, 0, none⟩)) (h9 : tmps.getD 9 undef = .bool b) (k : W.heap[g]? = some (pgO P N K n)) : (results Try.f10 tmps).run Try.prog W = .ok (.tuple #[pgV P N K n, .bool b]) W := by
  rw [Array.getD_eq_getD_getElem?] at h8 h9
  have hc := fun i => (cell_of (cs := pgC P N K n) k i).1
  have a0 := hc 0
  have a1 := hc 1
  have a2 := hc 2
  have a3 := hc 3
  have a4 := hc 4
  simp [results, Try.results10, go_sem, h8, h9, a0, a1, a2, a3, a4, pgC, pgV]

set_option maxRecDepth 100000 in
set_option maxHeartbeats 2000000 in
theorem rapply_any (w : World) (P : Nat → Option Addr) (N K : Nat → Nat) (lsn : Int) (c : Nat → List Int) (n : Int) (e : En) (x : Ex) (now : Int) (h : Cs w P N K c) (hE : EnIn w e x) :
    Calls Try.prog 10 #[pgV P N K lsn, .int .i64 n, .agg (enC e x), .int .i64 now] w (ApIs w c lsn n e now) := by
  unfold pgV
  have s1 : (w.alloc (pgO P N K lsn)).heap.size = w.heap.size + 1 := by simp
  have s2 : ((w.alloc (pgO P N K lsn)).alloc (.cells (enC e x) 31)).heap.size = w.heap.size + 2 := by simp
  have hb0 : Below w.heap.size w (((w.alloc (pgO P N K lsn)).alloc (.cells (enC e x) 31)).alloc (pgO P0 N0 N0 0)) := (((Below.refl _ _).alloc (Nat.le_refl _) _).alloc (by simp) _).alloc (by simp; omega) _
  have hk0 : (((w.alloc (pgO P N K lsn)).alloc (.cells (enC e x) 31)).alloc (pgO P0 N0 N0 0)).heap[w.heap.size]? = some (pgO P N K lsn) := (Below.heap_alloc _ _ _ (by omega)).trans ((Below.heap_alloc _ _ _ (by omega)).trans (heap_alloc_new w _))
  have hk1 : (((w.alloc (pgO P N K lsn)).alloc (.cells (enC e x) 31)).alloc (pgO P0 N0 N0 0)).heap[w.heap.size + 1]? = some (.cells (enC e x) 31 (0, 0)) := by
    have h1 := heap_alloc_new (w.alloc (pgO P N K lsn)) (.cells (enC e x) 31)
    rw [s1] at h1
    exact (Below.heap_alloc _ _ _ (by omega)).trans h1
  have hk2 : (((w.alloc (pgO P N K lsn)).alloc (.cells (enC e x) 31)).alloc (pgO P0 N0 N0 0)).heap[w.heap.size + 2]? = some (pgO P0 N0 N0 0) := by
    have h1 := heap_alloc_new ((w.alloc (pgO P N K lsn)).alloc (.cells (enC e x) 31)) (pgO P0 N0 N0 0)
    rwa [s2] at h1
  have hs0 : (((w.alloc (pgO P N K lsn)).alloc (.cells (enC e x) 31)).alloc (pgO P0 N0 N0 0)).heap.size = w.heap.size + 3 := by simp
  have HH := Lib.hid h
  have HE := Lib.hid hE
  have HB0 := Lib.hid hb0
  have HX := Lib.hid hk1
  have HP := Lib.hid hk0
  have HR := Lib.hid hk2
  have HS := Lib.hid hs0
  have HI := Lib.hid (infoE2 e x)
  clear h hE hb0 hk0 hk1 hk2 hs0 s1 s2
  have HT := Lib.hid (rtouches_any _ e x (HE.out.below HB0.out (Nat.le_refl _)))
  go_enter Try.func10, Try.ntmps10
  go_upto_region 1 with (fail)
  show Code.wp _ _ _ _ (((w.alloc (pgO P N K lsn)).alloc (.cells (enC e x) 31)).alloc (pgO P0 N0 N0 0))
  generalize ((w.alloc (pgO P N K lsn)).alloc (.cells (enC e x) 31)).alloc (pgO P0 N0 N0 0) = w1 at *
  go_wp2_with (first
    | ((with_reducible refine wpList_load_row rfl 31 (.tmp 6) rfl (w.heap.size + 1) rfl 31 _ (0, 0) _ HX.out Try.underlying31 rfl HI.out ?_))
    | (go_at_call 21; refine HT.out.mono ?_; rintro r w2 ⟨v, xs, rfl, hxs, htc, hb2⟩; obtain ⟨A, cap, rfl, hcap, -⟩ := id htc.els; rw [List.length_map] at *; clear HT HX HI; have H2 := Lib.hid (And.intro hxs (And.intro htc hb2)); have HP2 := Lib.hid ((hb2.block _ (by have := HS.out; omega)).trans HP.out); have HR2 := Lib.hid ((hb2.block _ (by have := HS.out; omega)).trans HR.out); have HSz := Lib.hid (And.intro HS.out hb2.size); obtain ⟨c0, c1, c2, c3, c4⟩ := pg5 HP2.out; clear hxs htc hb2))
  change Code.wp _ _ _ _ (w2.alloc (pgO P N K lsn))
  have hal := (Below.refl w2.heap.size w2).alloc (Nat.le_refl _) (pgO P N K lsn)
  have hq : (w2.alloc (pgO P N K lsn)).heap[w2.heap.size]? = some (pgO P N K lsn) := heap_alloc_new w2 _
  have hb02 := HB0.out.trans (H2.out.2.2.mono HB0.out.size)
  have HG0 : Hid (PgAt (w2.alloc (pgO P N K lsn)) w2.heap.size lsn c) := ⟨P, N, K, hq, (HH.out.below hb02 (Nat.le_refl _)).below hal (Nat.le_refl _)⟩
  have HTc := Lib.hid (H2.out.2.1)
  have HXs := Lib.hid H2.out.1
  have HB2 := Lib.hid hb02
  have HS3 : Hid ((w2.alloc (pgO P N K lsn)).heap.size = w2.heap.size + 1) := by show _ = _; simp
  have HAl := Lib.hid hal
  have HX0 := Lib.hid (Tn.refl w2.heap.size (w2.alloc (pgO P N K lsn)))
  generalize w2.alloc (pgO P N K lsn) = w3 at *
  have HH2 := HH
  clear c0 c1 c2 c3 c4 hq hb02 hal H2 HB0 HP HR HS HH
  have hmx : xs.length ≤ 100002 := tl_max HE.out.len HXs.out
  go_loopw [10, 13] (fun b i wr => Hid (∃ j : Nat, j ≤ xs.length ∧ i = .int .i64 (j : Int) ∧ b = .bool (tch (tls (xs.take j)) n) ∧ PgAt wr w2.heap.size lsn (giv n c (tls (xs.take j))) ∧ Tn w2.heap.size w3 wr)) (fun _ i _ => xs.length - (RowKit.intOf i).toNat)
  case atStart => exact ⟨0, Nat.zero_le _, rfl, rfl, HG0.out, HX0.out⟩
  case round =>
    obtain ⟨j, hj, rfl, rfl, hp, ht⟩ := hrel.out
    clear hrel HG0 HX0
    by_cases hlt : j < xs.length
    · obtain ⟨tb, tof, rfl, htl, htc⟩ := (HTc.out.els.below (HAl.out.trans ht.b) (Nat.le_refl _)).one (i := j) (by simpa using hlt)
      obtain ⟨t, hxt⟩ : ∃ t, t = xs[j] := ⟨_, rfl⟩
      have k0 : wr.cell? ⟨tb, tof + j * 3, none⟩ = some (.int .i64 t.p) := by simpa [tcV, hxt] using htc 0 (by omega)
      have k1 : wr.cell? ⟨tb, tof + j * 3 + 1, none⟩ = some (.int .i64 t.c) := by simpa [tcV, hxt] using htc 1 (by omega)
      have k2 : wr.cell? ⟨tb, tof + j * 3 + 2, none⟩ = some (.slice t.A t.l.length t.k) := by simpa [tcV, hxt] using htc 2 (by omega)
      have HGd : Hid (Gd t wr) := (HTc.out.rd t (by rw [hxt]; exact List.getElem_mem _)).below (HAl.out.trans ht.b) (Nat.le_refl _)
      have HSn : Hid (tls (xs.take (j + 1)) = tls (xs.take j) ++ [t.t]) := by
        show tls (xs.take (j + 1)) = _
        rw [List.take_succ_eq_append_getElem hlt, ← hxt, tls_snoc]
      have HLn : Hid (t.l.length ≤ 100000) := by show t.l.length ≤ 100000; exact tl_len HE.out.nlen t.t (by rw [← HXs.out, hxt]; exact List.mem_map_of_mem (List.getElem_mem hlt))
      have HI2 := Lib.hid (And.intro hp ht)
      clear htc hxt hp ht
      obtain ⟨p, hpp⟩ : ∃ p : Int, p = t.p := ⟨_, rfl⟩
      obtain ⟨q, hqq⟩ : ∃ q : Int, q = t.c := ⟨_, rfl⟩
      obtain ⟨B, hBB⟩ : ∃ B : Bool, B = tch (tls (xs.take j)) n := ⟨_, rfl⟩
      rw [← hpp] at k0
      rw [← hqq] at k1
      rw [← hBB]
      have HQ := Lib.hid (And.intro hpp (And.intro hqq hBB))
      clear hpp hqq hBB
      have HLT := Lib.hid hlt
      by_cases hpn : p = n
      · subst hpn
        have HTt : Hid (tch (tls (xs.take (j + 1))) p = true) := by show tch (tls (xs.take (j + 1))) p = true; rw [HSn.out, tch_snoc]; show (_ || decide (t.p = p)) = true; rw [← HQ.out.1]; simp
        by_cases hin : 0 ≤ q ∧ q < 4
        · obtain ⟨h0, h4⟩ := hin
          obtain ⟨i, rfl⟩ : ∃ i : Nat, q = (i : Int) := ⟨q.toNat, by omega⟩
          have HGv : Hid (giv p c (tls (xs.take (j + 1))) = fun k => if k = i then t.l else giv p c (tls (xs.take j)) k) := by
            show giv p c (tls (xs.take (j + 1))) = _
            rw [HSn.out, giv_snoc, giv1, if_pos ⟨by show t.p = p; rw [← HQ.out.1], by show inC t.c = true; rw [← HQ.out.2.1]; simp [inC]; omega⟩]
            show (fun k => if k = t.c.toNat then t.l else _) = _
            rw [← HQ.out.2.1, Int.toNat_natCast]
          go_upto_region 10 with (fail)
          --R10
          have D0 := (Below.refl wr.heap.size wr).drew
          have hS0 : (fun Z : World => Z.cell? ⟨tb, tof + j * 3 + 1, none⟩ = some (.int .i64 (i : Int)) ∧ Z.cell? ⟨tb, tof + j * 3 + 2, none⟩ = some (.slice t.A t.l.length t.k) ∧ Below wr.heap.size wr Z) wr.drew := ⟨k1, k2, D0⟩
          have HS : Hid (∀ Z, Below wr.heap.size wr Z → (Z.cell? ⟨tb, tof + j * 3 + 1, none⟩ = some (.int .i64 (i : Int)) ∧ Z.cell? ⟨tb, tof + j * 3 + 2, none⟩ = some (.slice t.A t.l.length t.k) ∧ Below wr.heap.size wr Z)) := fun Z hZ => ⟨(hZ.cell (p := ⟨tb, tof + j * 3 + 1, none⟩) (World.block_lt_of_cell? wr _ k1)).trans k1, (hZ.cell (p := ⟨tb, tof + j * 3 + 2, none⟩) (World.block_lt_of_cell? wr _ k2)).trans k2, hZ⟩
          have HD0 := Lib.hid D0
          have hi4 : i < 4 := by omega
          have HK := Lib.hid (And.intro k0 (And.intro k1 k2))
          obtain ⟨ii, hii, hy0, hy1, hy2⟩ := info_parts infoU8
          have hix : j < xs.length := hlt
          refine wp_region_G (fun Z : World => Z.cell? ⟨tb, tof + j * 3 + 1, none⟩ = some (.int .i64 (i : Int)) ∧ Z.cell? ⟨tb, tof + j * 3 + 2, none⟩ = some (.slice t.A t.l.length t.k) ∧ Below wr.heap.size wr Z) (fun j => j == 15) (by kernel_rfl) ?_
          clear k0 k1 k2 D0
          generalize wr.drew = z0 at *
          refine wpAnyG_take0 (i := 0) (oi := ⟨_, _, _, _, _, _⟩) (v := ?_) rfl (by kernel_rfl) (by kernel_rfl) (by kernel_rfl) (fun _ _ _ h => h) (Or.inl ⟨by rfl, ?_⟩) ?_
          rotate_left
          · intro W _
            go_simp
            try with_reducible rfl
          rotate_left
          try simp only [Act.put, List.setIfInBounds_toArray, List.set_cons_zero, List.set_cons_succ]
          refine wpAnyG_take0 (i := 1) (oi := ⟨_, _, _, _, _, _⟩) (v := ?_) rfl (by kernel_rfl) (by kernel_rfl) (by kernel_rfl) (fun _ _ _ h => h) (Or.inl ⟨by rfl, ?_⟩) ?_
          rotate_left
          · intro W _
            go_simp
            try with_reducible rfl
          rotate_left
          try simp only [Act.put, List.setIfInBounds_toArray, List.set_cons_zero, List.set_cons_succ]
          refine wpAnyG_take0 (i := 2) (oi := ⟨_, _, _, _, _, _⟩) (v := ?_) rfl (by kernel_rfl) (by kernel_rfl) (by kernel_rfl) (fun _ _ _ h => h) (Or.inl ⟨by rfl, ?_⟩) ?_
          rotate_left
          · intro W _
            go_simp
            try with_reducible rfl
          rotate_left
          try simp only [Act.put, List.setIfInBounds_toArray, List.set_cons_zero, List.set_cons_succ]
          refine wpAnyG_take0 (i := 3) (oi := ⟨_, _, _, _, _, _⟩) (v := ?_) rfl (by kernel_rfl) (by kernel_rfl) (by kernel_rfl) (fun _ _ _ h => h) (Or.inl ⟨by rfl, ?_⟩) ?_
          rotate_left
          · intro W _
            go_simp
            try with_reducible rfl
          rotate_left
          try simp only [Act.put, List.setIfInBounds_toArray, List.set_cons_zero, List.set_cons_succ]
          refine wpAnyG_take0 (i := 4) (oi := ⟨_, _, _, _, _, _⟩) (v := ?_) rfl (by kernel_rfl) (by kernel_rfl) (by kernel_rfl) (fun _ _ _ h => h) (Or.inl ⟨by rfl, ?_⟩) ?_
          rotate_left
          · intro W _
            go_simp
            try with_reducible rfl
          rotate_left
          try simp only [Act.put, List.setIfInBounds_toArray, List.set_cons_zero, List.set_cons_succ]
          refine wpAnyG_take (i := 5) (oi := ⟨_, _, _, _, _, _⟩) (v := ?_) rfl (by kernel_rfl) (by kernel_rfl) (by kernel_rfl) (by kernel_rfl) (fun _ _ _ h => h) hS0 (Or.inl ⟨by rfl, ?_⟩) ?_
          rotate_left
          · intro W hSW
            obtain ⟨z1, z2, _⟩ := hSW
            go_simp
            try with_reducible rfl
          rotate_left
          try simp only [Act.put, List.setIfInBounds_toArray, List.set_cons_zero, List.set_cons_succ]
          refine wpAnyG_take0 (i := 7) (oi := ⟨_, _, _, _, _, _⟩) (v := ?_) rfl (by kernel_rfl) (by kernel_rfl) (by kernel_rfl) (fun _ _ _ h => h) (Or.inl ⟨by rfl, ?_⟩) ?_
          rotate_left
          · intro W _
            go_simp
            try with_reducible rfl
          rotate_left
          try simp only [Act.put, List.setIfInBounds_toArray, List.set_cons_zero, List.set_cons_succ]
          refine wpAnyG_take0 (i := 8) (oi := ⟨_, _, _, _, _, _⟩) (v := ?_) rfl (by kernel_rfl) (by kernel_rfl) (by kernel_rfl) (fun _ _ _ h => h) (Or.inl ⟨by rfl, ?_⟩) ?_
          rotate_left
          · intro W _
            go_simp
            try with_reducible rfl
          rotate_left
          try simp only [Act.put, List.setIfInBounds_toArray, List.set_cons_zero, List.set_cons_succ]
          refine wpAnyG_take0 (i := 9) (oi := ⟨_, _, _, _, _, _⟩) (v := ?_) rfl (by kernel_rfl) (by kernel_rfl) (by kernel_rfl) (fun _ _ _ h => h) (Or.inl ⟨by rfl, ?_⟩) ?_
          rotate_left
          · intro W _
            go_simp
            try with_reducible rfl
          rotate_left
          try simp only [Act.put, List.setIfInBounds_toArray, List.set_cons_zero, List.set_cons_succ]
          refine wpAnyG_take0 (i := 10) (oi := ⟨_, _, _, _, _, _⟩) (v := ?_) rfl (by kernel_rfl) (by kernel_rfl) (by kernel_rfl) (fun _ _ _ h => h) (Or.inl ⟨by rfl, ?_⟩) ?_
          rotate_left
          · intro W _
            go_simp
            try with_reducible rfl
          rotate_left
          try simp only [Act.put, List.setIfInBounds_toArray, List.set_cons_zero, List.set_cons_succ]
          refine wpAnyG_take (i := 11) (oi := ⟨_, _, _, _, _, _⟩) (v := ?_) rfl (by kernel_rfl) (by kernel_rfl) (by kernel_rfl) (by kernel_rfl) (fun _ _ _ h => h) hS0 (Or.inl ⟨by rfl, ?_⟩) ?_
          rotate_left
          · intro W hSW
            obtain ⟨z1, z2, _⟩ := hSW
            go_simp
            try with_reducible rfl
          rotate_left
          try simp only [Act.put, List.setIfInBounds_toArray, List.set_cons_zero, List.set_cons_succ]
          refine wpAnyG_take0 (i := 13) (oi := ⟨_, _, _, _, _, _⟩) (v := ?_) rfl (by kernel_rfl) (by kernel_rfl) (by kernel_rfl) (fun _ _ _ h => h) (Or.inl ⟨by rfl, ?_⟩) ?_
          rotate_left
          · intro W _
            go_simp
            try with_reducible rfl
          rotate_left
          try simp only [Act.put, List.setIfInBounds_toArray, List.set_cons_zero, List.set_cons_succ]
          clear hS0
          refine wpAnyG_ready (rs := [6]) (by kernel_rfl) (by simp) ?_
          refine AllReadyG.cons (o := ⟨_, _, _, _, _, _⟩) rfl (fun K hK => ?_) AllReadyG.nil
          go_simp
          have hz0 := HD0.out.size
          have H1 := Lib.hid (HD0.out.alloc hz0 (.cells #[] 5))
          have OA := Lib.hid (World.ownsRow_made (e := 5) (size := 1) z0 #[] 0 (Nat.le_refl z0.heap.size) (by decide) rfl)
          have HZ := Lib.hid hz0
          clear hz0
          refine hK.out _ _ (fun _ _ => HS.out _ H1.out) ?_
          clear hK K
          try simp only [Act.put, List.setIfInBounds_toArray, List.set_cons_zero, List.set_cons_succ]
          refine wpAnyG_ready (rs := [12]) (by kernel_rfl) (by simp) ?_
          refine AllReadyG.cons (o := ⟨_, _, _, _, _, _⟩) rfl (fun K hK => ?_) AllReadyG.nil
          refine step_append_src rfl (.tmp 53) (.tmp 58) 22 rfl z0.heap.size 5 ii (.int .u8 0) 1 1 Try.underlying22 hii hy0 hy1 hy2 rfl (by decide) _ 0 0 [] rfl OA.out _ t.l.length (byteV t.l) rfl ((src_bytes HGd.out).up (H1.out)) (by simp [byteV]) (byteV_one _) (by have := HLn.out; unfold maxLen; omega) (by have := HLn.out; omega) (by simp) ?_
          intro g5 c5 z2 ho5 hg5
          rw [Nat.zero_add] at ho5 ⊢
          rw [List.nil_append] at ho5
          have hb5 : Below wr.heap.size wr z2 := H1.out.grown hg5 H1.out.size (fun b e => by cases e; exact HZ.out)
          have H5 := Lib.hid (And.intro ho5 hb5)
          clear ho5 hg5 hb5
          refine hK.out _ _ (fun _ _ => HS.out _ H5.out.2) ?_
          clear hK K
          try simp only [Act.put, List.setIfInBounds_toArray, List.set_cons_zero, List.set_cons_succ]
          refine wpAnyG_take0 (i := 14) (oi := ⟨_, _, _, _, _, _⟩) (v := ?_) rfl (by kernel_rfl) (by kernel_rfl) (by kernel_rfl) (fun _ _ _ h => h) (Or.inl ⟨by rfl, ?_⟩) ?_
          rotate_left
          · intro W _
            go_simp
            try with_reducible rfl
          rotate_left
          try simp only [Act.put, List.setIfInBounds_toArray, List.set_cons_zero, List.set_cons_succ]
          obtain ⟨P5, N5, K5, h5, hc5⟩ := HI2.out.1.below H5.out.2
          have d5 := (pg_cell h5).1 i hi4
          have f5 := (pg_cell h5).2.2 i
          have HX5 : Hid (PgAt (z2.setCell ⟨w2.heap.size, i, none⟩ (.slice (some ⟨g5, 0, none⟩) t.l.length c5)) w2.heap.size lsn (giv p c (tls (xs.take (j + 1)))) ∧ Tn w2.heap.size w3 (z2.setCell ⟨w2.heap.size, i, none⟩ (.slice (some ⟨g5, 0, none⟩) t.l.length c5))) := by
            refine ⟨?_, (HI2.out.2.trans (Tn.of_below H5.out.2 (by have := HI2.out.2.b.size; have := HS3.out; omega))).trans (Tn.set _ _ _)⟩
            rw [HGv.out]
            exact PgAt.set ⟨P5, N5, K5, h5, hc5⟩ (own_slK H5.out.1 HGd.out.ok) hi4
          clear h5 hc5
          refine wpAnyG_ready (rs := [15]) (by kernel_rfl) (by simp) ?_
          refine AllReadyG.cons (o := ⟨_, _, _, _, _, _⟩) rfl (fun K hK => ?_) AllReadyG.nil
          go_simp
          refine hK.out _ _ (fun h => by cases h) ?_
          clear hK K d5 f5
          try simp only [Act.put, List.setIfInBounds_toArray, List.set_cons_zero, List.set_cons_succ]
          refine wpAnyG_done (by kernel_rfl) ?_ _
          go_wp2
          go_roundw
          case rel => exact ⟨j + 1, HLT.out, by go_num, by rw [HTt.out], HX5.out⟩
          case measure => have := HLT.out; simp [RowKit.intOf]; omega
          --R10E
        · have HGv : Hid (giv p c (tls (xs.take (j + 1))) = giv p c (tls (xs.take j))) := by
            show giv p c (tls (xs.take (j + 1))) = _
            rw [HSn.out, giv_snoc, giv1, if_neg (fun h => hin (by have := h.2; change inC t.c = true at this; rw [← HQ.out.2.1] at this; simpa [inC] using this))]
          have HR2' : Hid (PgAt wr w2.heap.size lsn (giv p c (tls (xs.take (j + 1)))) ∧ Tn w2.heap.size w3 wr) := by rw [HGv.out]; exact HI2.out
          by_cases h0 : 0 ≤ q
          · have h4 : ¬ q < 4 := fun h => hin ⟨h0, h⟩
            clear hin
            go_wp2
            go_roundw
            case rel => exact ⟨j + 1, HLT.out, by go_num, by rw [HTt.out], HR2'.out⟩
            case measure => have := HLT.out; simp [RowKit.intOf]; omega
          · clear hin
            go_wp2
            go_roundw
            case rel => exact ⟨j + 1, HLT.out, by go_num, by rw [HTt.out], HR2'.out⟩
            case measure => have := HLT.out; simp [RowKit.intOf]; omega
      · have HGv : Hid (giv n c (tls (xs.take (j + 1))) = giv n c (tls (xs.take j))) := by
          show giv n c (tls (xs.take (j + 1))) = _
          rw [HSn.out, giv_snoc, giv1, if_neg (fun h => hpn (by have := h.1; change t.p = n at this; rw [HQ.out.1]; exact this))]
        have HTt : Hid (tch (tls (xs.take (j + 1))) n = B) := by show tch (tls (xs.take (j + 1))) n = B; rw [HSn.out, tch_snoc, HQ.out.2.2]; show (_ || decide (t.p = n)) = _; rw [← HQ.out.1]; simp [hpn]
        have HR2' : Hid (PgAt wr w2.heap.size lsn (giv n c (tls (xs.take (j + 1)))) ∧ Tn w2.heap.size w3 wr) := by rw [HGv.out]; exact HI2.out
        go_wp2
        go_roundw
        case rel => exact ⟨j + 1, HLT.out, by go_num, by rw [HTt.out], HR2'.out⟩
        case measure => have := HLT.out; simp [RowKit.intOf]; omega
    · obtain rfl : j = xs.length := by omega
      rw [List.take_length, HXs.out] at hp ⊢
      have hsz := HSz.out
      have hwr := ht.b.size
      have hl := HAl.out.size
      have HPr := Lib.hid ((ht.o (w.heap.size) (by omega) (by omega)).trans ((HAl.out.block _ (by omega)).trans HP2.out))
      have HRr := Lib.hid ((ht.o (w.heap.size + 2) (by omega) (by omega)).trans ((HAl.out.block _ (by omega)).trans HR2.out))
      have HBr := Lib.hid (HB2.out.trans ((HAl.out.trans ht.b).mono HB2.out.size))
      obtain ⟨d0, d1, d2, d3, d4⟩ := pg5 HPr.out
      obtain ⟨e0, e1, e2, e3, e4⟩ := pg5 HRr.out
      have hf := (pg_cell HRr.out).2.2
      have f0 := hf 0
      have f1 := hf 1
      have f2 := hf 2
      have f3 := hf 3
      have f4 := hf 4
      have HPg := Lib.hid hp
      have HNo : Hid (apc lsn n e now = false → ApIs w c lsn n e now (.returned (.tuple #[pgV P N K lsn, .bool false])) (finP wr (w.heap.size + 2) P N K lsn)) := fun hap =>
        ⟨P, N, K, by rw [apN, hap, if_neg (by simp)], by rw [apC, hap, if_neg (by simp)]; exact cs_fin HRr.out (HH2.out.below HBr.out (Nat.le_refl _)), finP_below HBr.out (by omega)⟩
      clear hp hf hsz hwr hl hlt hj hmx
      cases hB : tch (tl e) n with
      | false =>
        have hap : Hid (apc lsn n e now = false) := by show apc lsn n e now = false; unfold apc; rw [hB]; simp
        clear hB
        go_wp2
        change bodyPost _ _ _ _ _ (finP wr (w.heap.size + 2) P N K lsn)
        exact bodyPost_ret (ra_end rfl rfl (finP_heap HRr.out)) rfl (HNo.out hap.out)
      | true =>
        by_cases hlt : lsn < now
        · have hap : Hid (apc lsn n e now = true) := by show apc lsn n e now = true; unfold apc; rw [hB]; simp [hlt]
          have hn : ¬ now ≤ lsn := by omega
          obtain ⟨P5, N5, K5, h5, hc5⟩ := HPg.out
          obtain ⟨x0, x1, x2, x3, x4⟩ := pg5 h5
          have y4 := (pg_cell h5).2.2 4
          have hne : ¬ w2.heap.size = w.heap.size + 2 := by have := HSz.out; omega
          have h6 : (wr.setCell ⟨w2.heap.size, 4, none⟩ (.int .i64 now)).heap[w.heap.size + 2]? = some (pgO P0 N0 N0 0) := (Below.heap_setCell _ _ _ _ (by show w.heap.size + 2 ≠ w2.heap.size; omega)).trans HRr.out
          have hc6 : Cs (wr.setCell ⟨w2.heap.size, 4, none⟩ (.int .i64 now)) P5 N5 K5 (giv n c (tl e)) := fun j hj => ⟨(hc5 j hj).1, SlK.tn (hc5 j hj).2 (Tn.set _ _ _) (slK_off h5 (hc5 j hj).2)⟩
          have HYes : Hid (ApIs w c lsn n e now (.returned (.tuple #[pgV P5 N5 K5 now, .bool true])) (finP (wr.setCell ⟨w2.heap.size, 4, none⟩ (.int .i64 now)) (w.heap.size + 2) P5 N5 K5 now)) :=
            ⟨P5, N5, K5, by rw [apN, hap.out, if_pos rfl], by rw [apC, hap.out, if_pos rfl]; exact cs_fin h6 hc6, finP_below (HBr.out.setCell (p := ⟨w2.heap.size, 4, none⟩) (by have := HB2.out.size; omega) _) (by omega)⟩
          have HE6 := Lib.hid (finP_heap (P := P5) (N := N5) (K := K5) (n := now) h6)
          clear hB h5 hc5 h6 hc6 hlt
          go_wp2
          change bodyPost _ _ _ _ _ (finP (wr.setCell ⟨w2.heap.size, 4, none⟩ (.int .i64 now)) (w.heap.size + 2) P5 N5 K5 now)
          exact bodyPost_ret (ra_end rfl rfl HE6.out) rfl HYes.out
        · have hap : Hid (apc lsn n e now = false) := by show apc lsn n e now = false; unfold apc; simp [hlt]
          have hn : now ≤ lsn := by omega
          clear hB hlt
          go_wp2
          change bodyPost _ _ _ _ _ (finP wr (w.heap.size + 2) P N K lsn)
          exact bodyPost_ret (ra_end rfl rfl (finP_heap HRr.out)) rfl (HNo.out hap.out)
end Go.Proofs.Ytmijdjlpfjfjoaa.Rx
