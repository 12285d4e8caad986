/- What an entry touches, by the reference. -/
import Derived.Test.YtmijdjlpfjfjoaaRdI
import Derived.Test.YtmijdjlpfjfjoaaRdP
namespace Go.Proofs.Ytmijdjlpfjfjoaa.Rx
open Go.RowKit

/-- The cells of an element. -/
def tcV (t : Tx) : List Value := [.int .i64 t.p, .int .i64 t.c, .slice t.A t.l.length t.k]
/-- A row of what is given. -/
structure TcAt (w : World) (v : Value) (xs : List Tx) : Prop where
  els : Els w v 3 (xs.map tcV)
  rd : ∀ t ∈ xs, Gd t w
theorem TcAt.below {B : Nat} {w w' : World} {v : Value} {xs : List Tx} (h : TcAt w v xs) (hb : Below B w w') (hB : w.heap.size ≤ B) : TcAt w' v xs := ⟨h.els.below hb hB, fun t ht => (h.rd t ht).below hb hB⟩

theorem flat_get {k : Nat} {xs : List (List Value)} (h : ∀ x ∈ xs, x.length = k) {i j : Nat} (hi : i < xs.length) (hj : j < k) : xs.flatten[i * k + j]? = xs[i][j]? := by
  induction xs generalizing i with
  | nil => cases hi
  | cons a t ih =>
    have ha := h a (List.mem_cons_self ..)
    cases i with
    | zero =>
      rw [Nat.zero_mul, Nat.zero_add, List.flatten_cons, List.getElem?_append_left (by omega)]
      rfl
    | succ i =>
      rw [List.flatten_cons, List.getElem?_append_right (by rw [Nat.succ_mul, ha]; omega), ha, show (i + 1) * k + j - k = i * k + j by rw [Nat.succ_mul]; omega, ih (fun x hx => h x (List.mem_cons_of_mem _ hx)) (by simpa using hi)]
      rfl
/-- A row of one's own as a slice of structs. -/
theorem own_els {w : World} {B k n : Nat} {e : TypeId} {v : Value} {xs : List (List Value)} (h : w.ownsRow B e k v n xs.flatten) (hn : n = xs.length) (hk : ∀ x ∈ xs, x.length = k) : Els w v k xs := by
  subst hn
  obtain ⟨h1, ⟨rfl, h2⟩ | ⟨g, cap, cur, rfl, hB, hg, hle, hm, hsz, htake⟩⟩ := h
  · exact ⟨none, 0, by rw [h2], by omega, fun _ => List.length_eq_zero_iff.1 h2, fun a e => by cases e⟩
  · refine ⟨some ⟨g, 0, none⟩, cap, rfl, hle, (fun e => by cases e), fun a ha hne => ?_⟩
    cases ha
    refine ⟨rfl, (Array.getElem?_eq_some_iff.1 hg).1, fun i j hi hj => ?_⟩
    show w.cell? ⟨g, 0 + i * k + j, none⟩ = _
    rw [Nat.zero_add, (cell_of hg (i * k + j)).1, List.getElem?_eq_getElem hi]
    show cur[i * k + j]? = xs[i][j]?
    rw [← flat_get hk hi hj, ← htake, List.getElem?_take]
    have : i * k + j < xs.length * k := by
      have := Nat.mul_le_mul_right k (show i + 1 ≤ xs.length from hi)
      rw [Nat.succ_mul] at this; omega
    rw [if_pos (by omega), Array.getElem?_toList]
theorem flat_tcV (xs : List Tx) : (xs.map tcV).flatten.length = xs.length * 3 := by
  induction xs with
  | nil => rfl
  | cons a t ih => rw [List.map_cons, List.flatten_cons, List.length_append, ih, List.length_cons, Nat.succ_mul, Nat.add_comm]; rfl
theorem infoTc : (Try.prog.info? 67).map (fun i => (i.zero, i.size, i.bytes)) = some (some (.agg #[.int .i64 0, .int .i64 0, .slice none 0 0]), 3, 40) := by kernel_rfl
/-- What touches answers. -/
def RtIs (w : World) (e : En) (r : Ending) (w' : World) : Prop := ∃ v xs, r = .returned v ∧ tls xs = tl e ∧ TcAt w' v xs ∧ Below w.heap.size w w'

theorem rstub_any (w : World) (p c : Int) : Calls Try.prog 17 #[.agg #[.int .i64 p, .int .i64 c]] w fun r w' => ∃ A k er, r = .returned (.tuple #[.slice A (stubE p c).length k, .int .i64 er]) ∧ SlK .u8 w' (.slice A (stubE p c).length k) (stubE p c) ∧ Below w.heap.size w w' := by
  cases h : placeB p c with
  | false =>
    refine (rstub_bad w p c h).mono ?_
    rintro r w' ⟨rfl, hb⟩
    have : stubE p c = [] := by unfold stubE; rw [h, if_neg (by simp)]
    exact ⟨none, 0, 1, by rw [this]; rfl, by rw [this]; exact slK_nil _, hb⟩
  | true =>
    refine (rstub_ok w p c h).mono ?_
    rintro r w' ⟨x, rfl, ho, hb⟩
    have : stubE p c = stubL p c := by unfold stubE; rw [h, if_pos rfl]
    rw [this]
    obtain ⟨A, q, rfl⟩ := own_sl ho
    exact ⟨A, q, 0, rfl, own_slK ho (stubL_ok h), hb⟩

set_option maxRecDepth 100000 in
set_option maxHeartbeats 2000000 in
theorem rtouches_any (w : World) (e : En) (x : Ex) (hE : EnIn w e x) : Calls Try.prog 21 #[.agg (enC e x)] w (RtIs w e) := by
  have hb0 : Below w.heap.size w (w.alloc (enO e x)) := (Below.refl _ _).alloc (Nat.le_refl _) _
  have hX : Bx (w.alloc (enO e x)) w.heap.size e x := ⟨heap_alloc_new w _⟩
  have hS : (w.alloc (enO e x)).heap.size = w.heap.size + 1 := by simp
  have c0 : (w.alloc (enO e x)).cell? ⟨w.heap.size, 0, none⟩ = some (.int .i64 e.k) := hX.c 0
  have c6 : (w.alloc (enO e x)).cell? ⟨w.heap.size, 6, none⟩ = some (.int .i64 e.ap) := hX.c 6
  have c7 : (w.alloc (enO e x)).cell? ⟨w.heap.size, 7, none⟩ = some (.int .i64 e.ac) := hX.c 7
  have c8 : (w.alloc (enO e x)).cell? ⟨w.heap.size, 8, none⟩ = some (.int .i64 e.tp) := hX.c 8
  have c9 : (w.alloc (enO e x)).cell? ⟨w.heap.size, 9, none⟩ = some (.int .i64 e.tc) := hX.c 9
  have c11 : (w.alloc (enO e x)).cell? ⟨w.heap.size, 11, none⟩ = some (.slice x.NA e.new.length x.NK) := hX.c 11
  have c12 : (w.alloc (enO e x)).cell? ⟨w.heap.size, 12, none⟩ = some (.slice x.MA e.mv.length x.MK) := hX.c 12
  have HE := Lib.hid hE
  have HX := Lib.hid hX
  have HB := Lib.hid hb0
  have HS := Lib.hid hS
  clear hE hX hb0 hS
  go_enter Try.func21, Try.ntmps21
  go_upto_region 1 with (fail)
  show Code.wp _ _ _ _ (w.alloc (enO e x))
  generalize w.alloc (enO e x) = w1 at *
  obtain ⟨k, hk⟩ : ∃ k, k = e.k := ⟨_, rfl⟩
  rw [← hk] at c0
  have HK := Lib.hid hk
  clear hk
  by_cases h12 : k = 1 ∨ k = 2
  · have HT := Lib.hid (tl_set (e := e) (by rw [← HK.out]; exact h12))
    have HN := Lib.hid (HE.out.new.below HB.out (Nat.le_refl _))
    have HR : Hid (RtIs w e (.returned (.slice (some ⟨w1.heap.size, 0, none⟩) 1 1)) (w1.alloc (.cells #[.int .i64 e.ap, .int .i64 e.ac, .slice x.NA e.new.length x.NK] 67))) := by
      have hal : Below w1.heap.size w1 (w1.alloc (.cells #[.int .i64 e.ap, .int .i64 e.ac, .slice x.NA e.new.length x.NK] 67)) := (Below.refl _ _).alloc (Nat.le_refl _) _
      refine ⟨_, [⟨e.ap, e.ac, x.NA, x.NK, e.new⟩], rfl, HT.out.symm, ⟨own_els (n := 1) (B := w1.heap.size) (k := 3) (e := 67) ?_ rfl (fun y hy => by obtain rfl := List.mem_singleton.1 hy; rfl), fun t ht => by obtain rfl := List.mem_singleton.1 ht; exact HN.out.below hal (Nat.le_refl _)⟩, HB.out.trans (hal.mono HB.out.size)⟩
      exact ⟨rfl, .inr ⟨_, 1, _, rfl, Nat.le_refl _, heap_alloc_new w1 _, Nat.le_refl _, by unfold maxLen; omega, rfl, rfl⟩⟩
    clear c8 c9 c12
    rcases h12 with rfl | rfl
    all_goals
      go_wp2
      go_ret
      exact HR.out
  · by_cases h7 : k = 7
    · subst h7
      have HT := Lib.hid (tl_move (e := e) HK.out.symm)
      have HN := Lib.hid (HE.out.new.below HB.out (Nat.le_refl _))
      have hlt := HX.out.lt
      clear h12 c12
      go_wp2_with (go_at_call 17; refine (rstub_any _ _ _).mono ?_; rintro r W2 ⟨A, q, er, rfl, hs, hb2⟩; have HX2 := Lib.hid (HX.out.below hb2 hlt); have H2 := Lib.hid (And.intro hs hb2); clear hs hb2 c0 c6 c7 c8 c9 c11; have c6 : W2.cell? ⟨w.heap.size, 6, none⟩ = some (.int .i64 e.ap) := HX2.out.c 6; have c7 : W2.cell? ⟨w.heap.size, 7, none⟩ = some (.int .i64 e.ac) := HX2.out.c 7; have c8 : W2.cell? ⟨w.heap.size, 8, none⟩ = some (.int .i64 e.tp) := HX2.out.c 8; have c9 : W2.cell? ⟨w.heap.size, 9, none⟩ = some (.int .i64 e.tc) := HX2.out.c 9; have c11 : W2.cell? ⟨w.heap.size, 11, none⟩ = some (.slice x.NA e.new.length x.NK) := HX2.out.c 11)
      go_ret
      obtain ⟨hs, hb2⟩ := H2.out
      have hal := fun o => (Below.refl W2.heap.size W2).alloc (Nat.le_refl _) o
      refine ⟨_, [⟨e.ap, e.ac, A, q, stubE e.tp e.tc⟩, ⟨e.tp, e.tc, x.NA, x.NK, e.new⟩], rfl, HT.out.symm, ⟨own_els (n := 2) (B := W2.heap.size) (k := 3) (e := 67) ?_ rfl (fun y hy => ?_), fun t ht => ?_⟩, HB.out.trans ((hb2.trans ((hal _).mono hb2.size)).mono HB.out.size)⟩
      · exact ⟨rfl, .inr ⟨_, 2, _, rfl, Nat.le_refl _, heap_alloc_new W2 _, Nat.le_refl _, by unfold maxLen; omega, rfl, rfl⟩⟩
      · rcases List.mem_cons.1 hy with rfl | hy
        · rfl
        · obtain rfl := List.mem_singleton.1 hy; rfl
      · rcases List.mem_cons.1 ht with rfl | ht
        · exact SlK.below hs (hal _) (Nat.le_refl _)
        · obtain rfl := List.mem_singleton.1 ht
          exact HN.out.below (hb2.trans ((hal _).mono hb2.size)) (Nat.le_refl _)
    · by_cases h8 : k = 8
      · subst h8
        obtain ⟨ii, hii, hy0, hy1, hy2⟩ := info_parts infoTc
        have HT := Lib.hid (tl_done (e := e) HK.out.symm)
        have hmax := HE.out.len
        clear h12 h7 c6 c7 c8 c9 c11
        have H0 : Hid (Below w1.heap.size w1 w1) := Below.refl _ _
        go_wp2
        go_loopw [5, 6] (fun v i wr => Hid (∃ (j : Nat) (ys : List Tx), j ≤ e.mv.length ∧ i = .int .i64 (j : Int) ∧ wr.ownsRow w1.heap.size 67 3 v j (ys.map tcV).flatten ∧ ys.length = j ∧ (∀ t ∈ ys, t.A = none ∧ t.k = 0 ∧ t.l = []) ∧ tls ys = (e.mv.take j).map (fun m => (m.1, m.2.1, ([] : List Int))) ∧ Below w1.heap.size w1 wr)) (fun _ i _ => e.mv.length - (RowKit.intOf i).toNat)
        case atStart => exact ⟨0, [], Nat.zero_le _, rfl, World.ownsRow_nil _ _ _ _, rfl, (fun t ht => by cases ht), rfl, H0.out⟩
        case round =>
          obtain ⟨j, ys, hj, rfl, ho, hyl, hyn, hyt, hb⟩ := hrel.out
          clear hrel
          have hX2 := HX.out.below hb HX.out.lt
          have c12' : wr.cell? ⟨w.heap.size, 12, none⟩ = some (.slice x.MA e.mv.length x.MK) := hX2.c 12
          clear c0 c12
          by_cases hlt : j < e.mv.length
          · obtain ⟨A, q, rfl⟩ := own_slG ho
            have HWr := Lib.hid (HB.out.trans (hb.mono HB.out.size))
            obtain ⟨mb, mo, hma, hml, hmc⟩ := (HE.out.mv.below HWr.out (Nat.le_refl _)).one (i := j) (by simpa using hlt)
            rw [hma] at c12'
            have k0 : wr.cell? ⟨mb, mo + j * 4, none⟩ = some (.int .i64 e.mv[j].1) := by simpa [mvV] using hmc 0 (by omega)
            have k1 : wr.cell? ⟨mb, mo + j * 4 + 1, none⟩ = some (.int .i64 e.mv[j].2.1) := by simpa [mvV] using hmc 1 (by omega)
            have H5 := Lib.hid (And.intro ho (And.intro hyl (And.intro hyn (And.intro hyt hb))))
            have HLT := Lib.hid hlt
            have hsz := hb.size
            clear ho hyl hyn hyt hb hmc hma hX2
            go_wp2_with (at_builtin; refine wpList_append_own _ rfl _ _ 64 rfl w1.heap.size 67 ii _ 3 40 Try.underlying64 hii hy0 hy1 hy2 rfl (by decide) _ j _ rfl (H5.out.1.alloc _) ⟨wr.heap.size, 0, none⟩ 1 1 [.int .i64 e.mv[j].1, .int .i64 e.mv[j].2.1, .slice none 0 0] rfl rfl ?c1 ?c2 (by unfold maxLen; omega) (by omega) (by simp; omega) ?_)
            case c1 =>
              intro i u hu
              rw [add_off]
              rw [show (0 + i) = i from Nat.zero_add i, (cell_of (heap_alloc_new wr (.cells #[.int .i64 e.mv[j].1, .int .i64 e.mv[j].2.1, .slice none 0 0] 67)) i).1, ← hu]
              simp
            case c2 =>
              intro u hu
              simp only [List.mem_cons, List.not_mem_nil, or_false] at hu
              rcases hu with rfl | rfl | rfl <;> simp [Value.oneCell']
            intro v' w5 ho5 hg5 _
            obtain ⟨A5, q5, rfl⟩ := own_slG ho5
            have H6 : Hid (∃ (j2 : Nat) (ys : List Tx), j2 ≤ e.mv.length ∧ Value.int .i64 ((j : Int) + 1) = .int .i64 (j2 : Int) ∧ w5.ownsRow w1.heap.size 67 3 (.slice A5 (j + 1) q5) j2 (ys.map tcV).flatten ∧ ys.length = j2 ∧ (∀ t ∈ ys, t.A = none ∧ t.k = 0 ∧ t.l = []) ∧ tls ys = (e.mv.take j2).map (fun m => (m.1, m.2.1, ([] : List Int))) ∧ Below w1.heap.size w1 w5) := by
              obtain ⟨ho, hyl, hyn, hyt, hb⟩ := H5.out
              have hal : Below wr.heap.size wr (wr.alloc (.cells #[.int .i64 e.mv[j].1, .int .i64 e.mv[j].2.1, .slice none 0 0] 67)) := (Below.refl _ _).alloc (Nat.le_refl _) _
              have hg6 : (wr.alloc (.cells #[.int .i64 e.mv[j].1, .int .i64 e.mv[j].2.1, .slice none 0 0] 67)).grownBy w5 (Value.slice A j q).ownBlock := hg5
              have hb2 := (hb.trans (hal.mono hsz)).grown hg6 (Nat.le_trans hsz hal.size) (fun b e => own_blk ho b e)
              refine ⟨j + 1, ys ++ [⟨e.mv[j].1, e.mv[j].2.1, none, 0, []⟩], HLT.out, by simp, ?_, by simp [hyl], fun t ht => ?_, ?_, hb2⟩
              · rw [List.map_append, List.flatten_append]
                simpa [tcV] using ho5
              · rcases List.mem_append.1 ht with h | h
                · exact hyn t h
                · obtain rfl := List.mem_singleton.1 h; exact ⟨rfl, rfl, rfl⟩
              · rw [tls_snoc, hyt, List.take_succ_eq_append_getElem HLT.out, List.map_append]; rfl
            clear ho5 hg5 k0 k1 c12'
            go_wp2
            go_roundw
            case rel => exact H6.out
            case measure => have := HLT.out; simp [RowKit.intOf]; omega
          · obtain rfl : j = e.mv.length := by omega
            have HR : Hid (TcAt wr u5 ys ∧ tls ys = tl e ∧ Below w.heap.size w wr) := by
              refine ⟨⟨own_els ho (by rw [List.length_map, hyl]) (fun y hy => by obtain ⟨t, _, rfl⟩ := List.mem_map.1 hy; rfl), fun t ht => ?_⟩, by rw [hyt, HT.out, List.take_length], HB.out.trans (hb.mono HB.out.size)⟩
              obtain ⟨h1, h2, h3⟩ := hyn t ht
              unfold Gd
              rw [h1, h2, h3]
              exact slK_nil _
            clear ho hyl hyn hyt hb hX2
            go_wp2
            go_ret
            exact ⟨_, ys, rfl, HR.out.2.1, HR.out.1, HR.out.2.2⟩
      · have HT := Lib.hid (tl_none (e := e) (by rw [← HK.out]; omega) (by rw [← HK.out]; omega) (by rw [← HK.out]; exact h7) (by rw [← HK.out]; exact h8))
        have k1 : ¬ k = 1 := by omega
        have k2 : ¬ k = 2 := by omega
        clear h12 c6 c7 c8 c9 c11 c12
        go_wp2
        go_ret
        exact ⟨_, [], rfl, HT.out.symm, ⟨⟨none, 0, rfl, Nat.le_refl _, fun _ => rfl, fun a e => by cases e⟩, fun t ht => by cases ht⟩, HB.out⟩
end Go.Proofs.Ytmijdjlpfjfjoaa.Rx
