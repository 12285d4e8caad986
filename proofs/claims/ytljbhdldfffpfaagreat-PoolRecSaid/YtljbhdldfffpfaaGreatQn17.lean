/- PoolNone, a part. -/
import Derived.Test.YtljbhdldfffpfaaGreatQn14
import Derived.Test.YtljbhdldfffpfaaGreatQn16
import Derived.Deep.CutBlock
import Derived.Deep.DeepCutAuto
namespace Go.Proofs.YtljbhdldfffpfaaGreat
open Go.RowKit

theorem t_i64_numR {l : List Int} (h : bytesOk l) {k : Nat} (hk : k ≤ 3) : I64 (numR l k) := by
  obtain ⟨a, b⟩ := numR_bd h k
  have : (256 : Int) ^ k ≤ 16777216 := by
    obtain rfl | rfl | rfl | rfl : k = 0 ∨ k = 1 ∨ k = 2 ∨ k = 3 := by omega
    all_goals decide
  exact ⟨by omega, by omega⟩
theorem t_nR_all {α : Type} {f : List Int → α × List Int} {P : α → Prop} (hf : ∀ l, bytesOk l → P (f l).1 ∧ bytesOk (f l).2) {l : List Int} (h : bytesOk l) : ∀ k, (∀ x ∈ (nR f k l).1, P x) ∧ bytesOk (nR f k l).2
  | 0 => ⟨(fun x hx => by cases hx), h⟩
  | k + 1 => by
    obtain ⟨a, b⟩ := t_nR_all hf h k
    obtain ⟨c, d⟩ := hf _ b
    refine ⟨fun x hx => ?_, d⟩
    rcases List.mem_append.1 hx with hx | hx
    · exact a x hx
    · obtain rfl : x = _ := by simpa using hx
      exact c
theorem t_lstR_all {α : Type} {f : List Int → α × List Int} {P : α → Prop} (hf : ∀ l, bytesOk l → P (f l).1 ∧ bytesOk (f l).2) {l : List Int} (h : bytesOk l) : (∀ x ∈ (lstR f l).1, P x) ∧ bytesOk (lstR f l).2 := t_nR_all hf (ok_drop h 1) _
theorem t_lstR_len {α : Type} (f : List Int → α × List Int) {l : List Int} (h : bytesOk l) : (lstR f l).1.length ≤ 255 := by
  have := numR_bd h 1
  unfold lstR
  rw [nR_len]
  omega
theorem t_mvR_I (l : List Int) (h : bytesOk l) : mvI (mvR l).1 ∧ bytesOk (mvR l).2 := ⟨⟨t_i64_numR h (by omega), t_i64_numR (ok_drop h _) (by omega), t_i64_numR (ok_drop h _) (by omega), t_i64_numR (ok_drop h _) (by omega)⟩, ok_drop h _⟩
theorem t_lvR_I (l : List Int) (h : bytesOk l) : lvI (lvR l).1 ∧ bytesOk (lvR l).2 := ⟨⟨t_i64_numR h (by omega), t_i64_numR (ok_drop h _) (by omega), t_i64_numR (ok_drop h _) (by omega)⟩, ok_drop h _⟩
theorem t_dtR_I (l : List Int) (h : bytesOk l) : dtI (dtR l).1 ∧ bytesOk (dtR l).2 := ⟨⟨t_i64_numR h (by omega), t_i64_numR (ok_drop h _) (by omega)⟩, ok_drop h _⟩
theorem t_opR_I (l : List Int) (h : bytesOk l) : (opI1 (opR l).1 ∧ (opR l).1.2.2.length ≤ 9223372036854775807) ∧ bytesOk (opR l).2 := by
  obtain ⟨a, b⟩ := t_lstR_all (f := mvR) (P := mvI) t_mvR_I (ok_drop h 3)
  exact ⟨⟨⟨t_i64_numR h (by omega), t_i64_numR (ok_drop h _) (by omega), a⟩, Nat.le_trans (t_lstR_len mvR (ok_drop h 3)) (by omega)⟩, b⟩
theorem t_celR_ok2 {l : List Int} (h : bytesOk l) : bytesOk (celR l).2 := ok_drop (ok_drop h 1) _
theorem t_entR_I {l : List Int} (h : bytesOk l) : EntI (entR l) ∧ bytesOk (entR l).old ∧ bytesOk (entR l).new := by
  have o1 : bytesOk (r1 l).1 := celR_ok (ok_drop h 15)
  have h1 : bytesOk (r1 l).2 := t_celR_ok2 (ok_drop h 15)
  have o2 : bytesOk (r2 l).1 := celR_ok h1
  have h2 : bytesOk (r2 l).2 := t_celR_ok2 h1
  obtain ⟨a3, h3⟩ := t_lstR_all (f := mvR) (P := mvI) t_mvR_I (show bytesOk (r2 l).2 from h2)
  obtain ⟨a4, h4⟩ := t_lstR_all (f := lvR) (P := lvI) t_lvR_I (show bytesOk (r3 l).2 from h3)
  obtain ⟨a5, h5⟩ := t_lstR_all (f := dtR) (P := dtI) t_dtR_I (show bytesOk (r4 l).2 from h4)
  obtain ⟨a6, h6⟩ := t_lstR_all (f := opR) (P := fun o => opI1 o ∧ o.2.2.length ≤ 9223372036854775807) t_opR_I (show bytesOk (r5 l).2 from h5)
  have q0 : I64 (numR l 1) := t_i64_numR h (by decide)
  have q1 : I64 (numR (l.drop 1) 1) := t_i64_numR (ok_drop h 1) (by decide)
  have q2 : I64 (numR (l.drop 2) 2) := t_i64_numR (ok_drop h 2) (by decide)
  have q3 : I64 (numR (l.drop 4) 1) := t_i64_numR (ok_drop h 4) (by decide)
  have q4 : I64 (numR (l.drop 5) 3) := t_i64_numR (ok_drop h 5) (by decide)
  have q5 : I64 (numR (l.drop 8) 3) := t_i64_numR (ok_drop h 8) (by decide)
  have q6 : I64 (numR (l.drop 11) 1) := t_i64_numR (ok_drop h 11) (by decide)
  have q7 : I64 (numR (l.drop 12) 1) := t_i64_numR (ok_drop h 12) (by decide)
  have q8 : I64 (numR (l.drop 13) 1) := t_i64_numR (ok_drop h 13) (by decide)
  have q9 : I64 (numR (l.drop 14) 1) := t_i64_numR (ok_drop h 14) (by decide)
  have m3 : ∀ m ∈ (r3 l).1, mvI m := a3
  have m4 : ∀ m ∈ (r4 l).1, lvI m := a4
  have m5 : ∀ m ∈ (r5 l).1, dtI m := a5
  have m6 : ∀ m ∈ (r6 l).1, opI1 m := fun o ho => (a6 o ho).1
  clear a3 a4 a5 a6 h1 h2 h3 h4 h5 h6
  generalize hE : entR l = E
  unfold entR at hE
  generalize r1 l = R1 at *
  generalize r2 l = R2 at *
  generalize r3 l = R3 at *
  generalize r4 l = R4 at *
  generalize r5 l = R5 at *
  generalize r6 l = R6 at *
  subst hE
  exact ⟨⟨q0, q1, q2, q3, q4, q5, q6, q7, q8, q9, m3, m4, m5, m6⟩, o1, o2⟩

/-- Take, of bytes that are bytes. -/
theorem t_take_ok (w : World) {sv : Value} {l : List Int} (h : SlK .u8 w sv l) : Calls Tryz.prog 93 #[sv] w (TkPost w l) := take_any w h (t_entR_I h.ok).1
end Go.Proofs.YtljbhdldfffpfaaGreat
namespace Go.Proofs.YtljbhdldfffpfaaGreat
open Go.RowKit

def sumS : List Int → Int × Int → Int × Int
  | [], s => s
  | c :: l, s => sumS l ((s.1 + c) % 255, (s.2 + (s.1 + c) % 255) % 255)
theorem sumS_app (a b : List Int) : ∀ s, sumS (a ++ b) s = sumS b (sumS a s) := by
  induction a with
  | nil => exact fun s => rfl
  | cons c a ih => exact fun s => ih _
def sumP (l : List Int) : Int × Int := sumS l (0, 0)
theorem sumS_bd : ∀ (l : List Int) (s : Int × Int), 0 ≤ s.1 ∧ s.1 < 255 → 0 ≤ s.2 ∧ s.2 < 255 → (0 ≤ (sumS l s).1 ∧ (sumS l s).1 < 255) ∧ 0 ≤ (sumS l s).2 ∧ (sumS l s).2 < 255
  | [], s, h1, h2 => ⟨h1, h2⟩
  | c :: l, s, _, _ => sumS_bd l _ ⟨Int.emod_nonneg _ (by decide), Int.emod_lt_of_pos _ (by decide)⟩ ⟨Int.emod_nonneg _ (by decide), Int.emod_lt_of_pos _ (by decide)⟩
theorem sumP_bd (l : List Int) : (0 ≤ (sumP l).1 ∧ (sumP l).1 < 255) ∧ 0 ≤ (sumP l).2 ∧ (sumP l).2 < 255 := sumS_bd l _ ⟨by decide, by decide⟩ ⟨by decide, by decide⟩
theorem sumP_take {l : List Int} {k : Nat} (h : k < l.length) : sumP (l.take (k + 1)) = (((sumP (l.take k)).1 + l[k]) % 255, ((sumP (l.take k)).2 + ((sumP (l.take k)).1 + l[k]) % 255) % 255) := by
  unfold sumP
  rw [List.take_succ_eq_append_getElem h, sumS_app]
  rfl

set_option maxRecDepth 100000 in
set_option maxHeartbeats 1000000 in
theorem sums_any (w : World) {sv : Value} {l : List Int} (h : SlK .u8 w sv l) (hl : l.length ≤ 1000000) : Calls Tryz.prog 76 #[sv] w fun e w' => e = .returned (.tuple #[.int .u8 (sumP l).1, .int .u8 (sumP l).2]) ∧ w' = w := by
  obtain ⟨A, c, rfl, q⟩ := h.form
  have HH := Lib.hid h
  clear h
  go_enter Tryz.func76, Tryz.ntmps76
  go_wp2
  go_loop [4, 5, 10] (fun x y i => ∃ k : Nat, k ≤ l.length ∧ i = .int .i64 k ∧ x = .int .i64 (sumP (l.take k)).1 ∧ y = .int .i64 (sumP (l.take k)).2) (fun _ _ i => l.length - (RowKit.intOf i).toNat)
  case atStart => exact ⟨0, Nat.zero_le _, rfl, rfl, rfl⟩
  case round =>
    obtain ⟨k, hk, rfl, rfl, rfl⟩ := hrel
    by_cases hlt : k < l.length
    · have hpt := HH.out.pt (fun e => by rw [e] at hlt; cases hlt)
      obtain ⟨b, o, c', e, _, _, h3⟩ := id hpt
      injection e with e1 e2 e3
      subst e1 e3
      have c1 := h3 k hlt
      have hx := HH.out.ok l[k] (List.getElem_mem hlt)
      have HT := Lib.hid (sumP_take hlt)
      obtain ⟨z, hz⟩ : ∃ z, z = l[k] := ⟨_, rfl⟩
      rw [← hz] at c1 hx HT
      obtain ⟨⟨b1, b2⟩, b3, b4⟩ := sumP_bd (l.take k)
      obtain ⟨P, hP⟩ : ∃ P, P = (sumP (l.take k)).1 := ⟨_, rfl⟩
      obtain ⟨Q, hQ⟩ : ∃ Q, Q = (sumP (l.take k)).2 := ⟨_, rfl⟩
      rw [← hP] at b1 b2 HT ⊢
      rw [← hQ] at b3 b4 HT ⊢
      have hlt2 : (k : Int) < (l.length : Int) := by omega
      have t1 : IntKind.i64.wrap z = z := IntWalk.i64_in _ (by omega)
      have t2 : IntKind.i64.wrap (P + z) = P + z := IntWalk.i64_in _ (by omega)
      have m1 := Int.emod_nonneg (P + z) (show (255 : Int) ≠ 0 by decide)
      have m2 := Int.emod_lt_of_pos (P + z) (show (0 : Int) < 255 by decide)
      have t3 : (P + z).tmod 255 = (P + z) % 255 := Int.tmod_eq_emod_of_nonneg (by omega)
      obtain ⟨R, hR⟩ : ∃ R, R = (P + z) % 255 := ⟨_, rfl⟩
      rw [← hR] at t3 m1 m2 HT
      have t4 : IntKind.i64.wrap R = R := IntWalk.i64_in _ (by omega)
      have t5 : IntKind.i64.wrap (Q + R) = Q + R := IntWalk.i64_in _ (by omega)
      have t6 : (Q + R).tmod 255 = (Q + R) % 255 := Int.tmod_eq_emod_of_nonneg (by omega)
      have m3 := Int.emod_nonneg (Q + R) (show (255 : Int) ≠ 0 by decide)
      have m4 := Int.emod_lt_of_pos (Q + R) (show (0 : Int) < 255 by decide)
      obtain ⟨S, hS⟩ : ∃ S, S = (Q + R) % 255 := ⟨_, rfl⟩
      rw [← hS] at t6 m3 m4 HT
      have t7 : IntKind.i64.wrap S = S := IntWalk.i64_in _ (by omega)
      have hk2 : (k : Int) ≤ 1000000 := by omega
      clear hP hQ hR hS hz hpt h3
      go_wp2
      go_round
      all_goals first
        | (refine ⟨k + 1, hlt, ?_, ?_, ?_⟩
           · go_num
           · rw [HT.out]
           · rw [HT.out])
        | (simp [RowKit.intOf]; omega)
    · obtain rfl : k = l.length := by omega
      rw [List.take_length]
      obtain ⟨⟨b1, b2⟩, b3, b4⟩ := sumP_bd l
      have t1 : IntKind.u8.wrap (sumP l).1 = (sumP l).1 := IntWalk.u8_in _ (by omega)
      have t2 : IntKind.u8.wrap (sumP l).2 = (sumP l).2 := IntWalk.u8_in _ (by omega)
      go_wp2
      go_ret2
      exact ⟨rfl, rfl⟩
end Go.Proofs.YtljbhdldfffpfaaGreat
namespace Go.Proofs.YtljbhdldfffpfaaGreat
open Go.RowKit

/-- What a tile of a stream has. -/
def partL (S : List Int) (i : Nat) : List Int := (S.drop (63 * i)).take 63
def tileL (S : List Int) (i : Nat) : List Int := ((partL S i).length : Int) :: (partL S i ++ List.replicate (63 - (partL S i).length) 0)
theorem partL_le (S : List Int) (i : Nat) : (partL S i).length ≤ 63 := by unfold partL; rw [List.length_take]; omega
theorem partL_len (S : List Int) (i : Nat) : (partL S i).length = min 63 (S.length - 63 * i) := by unfold partL; rw [List.length_take, List.length_drop]
theorem tileL_len (S : List Int) (i : Nat) : (tileL S i).length = 64 := by
  have := partL_le S i
  unfold tileL
  simp
  omega
theorem ok_part {S : List Int} (h : bytesOk S) (i : Nat) : bytesOk (partL S i) := ok_take (ok_drop h _) _
theorem tileL_ok {S : List Int} (h : bytesOk S) (i : Nat) : bytesOk (tileL S i) := by
  intro x hx
  have := partL_le S i
  rcases List.mem_cons.1 hx with rfl | hx
  · omega
  · rcases List.mem_append.1 hx with hx | hx
    · exact ok_part h i x hx
    · rw [List.eq_of_mem_replicate hx]; omega
/-- A tile that is full is left as it is. -/
theorem part_full {S : List Int} {i : Nat} (h : 63 * (i + 1) ≤ S.length) (b : List Int) : partL (S ++ b) i = partL S i := by
  unfold partL
  rw [List.drop_append_of_le_length (by omega), List.take_append_of_le_length (by rw [List.length_drop]; omega)]
theorem tile_full {S : List Int} {i : Nat} (h : 63 * (i + 1) ≤ S.length) (b : List Int) : tileL (S ++ b) i = tileL S i := by
  unfold tileL; rw [part_full h b]
theorem part_none {S : List Int} {i : Nat} (h : S.length ≤ 63 * i) : partL S i = [] := by
  unfold partL
  rw [List.drop_eq_nil_of_le h]
  rfl
theorem tile_none {S : List Int} {i : Nat} (h : S.length ≤ 63 * i) : tileL S i = List.replicate 64 0 := by
  unfold tileL
  rw [part_none h]
  rfl
/-- The tile that grows. -/
theorem part_grow {S b : List Int} {i : Nat} (h1 : 63 * i ≤ S.length) (h2 : S.length + b.length ≤ 63 * (i + 1)) : partL (S ++ b) i = partL S i ++ b := by
  unfold partL
  rw [List.drop_append_of_le_length h1, List.take_of_length_le (by rw [List.length_append, List.length_drop]; omega), List.take_of_length_le (by rw [List.length_drop]; omega)]

/-- The tiles that a log keeps. -/
def blkM (S : List Int) : Int → Option Value := fun i => if 0 ≤ i ∧ 63 * i < S.length then some (.agg (byteV (tileL S i.toNat)).toArray) else none
theorem blkM_nil : blkM [] = fun _ => none := by
  funext i
  unfold blkM
  rw [if_neg]
  simp
  omega
theorem blkM_get (S : List Int) (i : Nat) : (blkM S i).getD (.agg (byteV (List.replicate 64 0)).toArray) = .agg (byteV (tileL S i)).toArray := by
  unfold blkM
  by_cases h : 63 * (i : Int) < S.length
  · rw [if_pos ⟨by omega, h⟩]
    rfl
  · rw [if_neg (fun e => h e.2), tile_none (by omega)]
    rfl
theorem blkM_add {S b : List Int} {at_ : Nat} (h0 : b ≠ []) (h1 : 63 * at_ ≤ S.length) (h2 : S.length + b.length ≤ 63 * (at_ + 1)) : (fun j : Int => if j = (at_ : Int) then some (Value.agg (byteV (tileL (S ++ b) at_)).toArray) else blkM S j) = blkM (S ++ b) := by
  have hb : 0 < b.length := List.length_pos_iff.2 h0
  funext i
  show (if i = (at_ : Int) then _ else blkM S i) = _
  by_cases e : i = (at_ : Int)
  · subst e
    rw [if_pos rfl]
    unfold blkM
    rw [if_pos ⟨by omega, by rw [List.length_append]; omega⟩]
    rfl
  · rw [if_neg e]
    unfold blkM
    by_cases hi : 0 ≤ i ∧ 63 * i < S.length
    · rw [if_pos hi, if_pos ⟨hi.1, by rw [List.length_append]; omega⟩, tile_full (by omega)]
    · rw [if_neg hi, if_neg]
      rw [List.length_append]
      omega
end Go.Proofs.YtljbhdldfffpfaaGreat
namespace Go.Proofs.YtljbhdldfffpfaaGreat
open Go.RowKit Go.Maps

/-- What a log is, plainly. -/
structure Tr where
  dp : Nat
  first : Int
  tiles : Int
  S : List Int
  count : Int
  stable : Int
structure Tr.Ok (t : Tr) : Prop where
  ok : bytesOk t.S
  f0 : 0 ≤ t.first
  f1 : t.first ≤ 2000
  t0 : 0 ≤ t.tiles
  t1 : t.tiles ≤ 2000
  len : (t.S.length : Int) ≤ 63 * t.tiles
  c0 : 0 ≤ t.count
  c1 : t.count ≤ t.S.length
structure TrAt (w : World) (p bm : Nat) (t : Tr) : Prop where
  bx : w.heap[p]? = some (.cells #[.pointer (some ⟨t.dp, 0, none⟩), .int .i64 t.first, .int .i64 t.tiles, .map (some bm), .int .i64 t.S.length, .int .i64 t.count, .int .i64 t.stable] 88 (0, 0))
  mp : fm w Tryz.prog 3 bm (blkM t.S)
  ok : t.Ok
  ne : p ≠ bm
def Two (p bm : Nat) : Nat → Prop := fun k => k = p ∨ k = bm
section
variable {w w' : World} {p bm : Nat} {t : Tr}
theorem TrAt.c (h : TrAt w p bm t) (i : Nat) : w.cell? ⟨p, i, none⟩ = (#[.pointer (some ⟨t.dp, 0, none⟩), .int .i64 t.first, .int .i64 t.tiles, .map (some bm), .int .i64 t.S.length, .int .i64 t.count, .int .i64 t.stable] : Array Value)[i]? := (cell_of h.bx i).1
theorem TrAt.fz (h : TrAt w p bm t) (i : Nat) : w.frozen? ⟨p, i, none⟩ = false := (cell_of h.bx i).2
theorem TrAt.kept (h : TrAt w p bm t) (hb : ∀ k, k < w.heap.size → w'.heap[k]? = w.heap[k]?) : TrAt w' p bm t :=
  ⟨(hb p (Array.getElem?_eq_some_iff.1 h.bx).1).trans h.bx, h.mp.of_block (hb bm h.mp.lt), h.ok, h.ne⟩
theorem TrAt.lt (h : TrAt w p bm t) : p < w.heap.size ∧ bm < w.heap.size := ⟨(Array.getElem?_eq_some_iff.1 h.bx).1, h.mp.lt⟩
end

theorem stable_any (w : World) {p bm : Nat} {t : Tr} (h : TrAt w p bm t) : Calls Tryz.prog 26 #[.pointer (some ⟨p, 0, none⟩)] w fun e w' => e = .returned (.int .i64 t.stable) ∧ w' = w := by
  have x : w.cell? ⟨p, 6, none⟩ = some (.int .i64 t.stable) := h.c 6
  go_enter Tryz.func26, Tryz.ntmps26
  go_wp2
  go_ret
  exact ⟨rfl, rfl⟩
theorem within_any (w : World) (a f k : Int) (ha : 0 ≤ a ∧ a ≤ 2000) (hf : 0 ≤ f ∧ f ≤ 2000) (hk : 0 ≤ k ∧ k ≤ 2000) (h : f + k ≤ a) : Calls Tryz.prog 33 #[.int .i64 a, .int .i64 f, .int .i64 k] w fun e w' => e = .returned (.bool true) ∧ w' = w := by
  have t1 : IntKind.i64.wrap (a - f) = a - f := IntWalk.i64_in _ (by omega)
  have t2 : k ≤ a - f := by omega
  have h0 := hf.1
  have h1 := hk.1
  go_enter Tryz.func33, Tryz.ntmps33
  go_wp2
  go_ret
  exact ⟨rfl, rfl⟩
end Go.Proofs.YtljbhdldfffpfaaGreat
namespace Go.Proofs.YtljbhdldfffpfaaGreat
open Go.RowKit Go.Maps

theorem zeroT (w : World) : (zeroValue 133).run Tryz.prog w = .ok zb w := by kernel_rfl
theorem infoT : (Tryz.prog.info? 133).map (·.size) = some 64 := by kernel_rfl
theorem st_newT (w : World) (co : Array Value) (hs : co.size = 64) (h1 : co.all (·.oneCell') = true) : (storeCells ⟨w.heap.size, 0, none⟩ co.toList).run Tryz.prog (w.alloc (.cells #[.int .u8 0, .int .u8 0, .int .u8 0, .int .u8 0, .int .u8 0, .int .u8 0, .int .u8 0, .int .u8 0, .int .u8 0, .int .u8 0, .int .u8 0, .int .u8 0, .int .u8 0, .int .u8 0, .int .u8 0, .int .u8 0, .int .u8 0, .int .u8 0, .int .u8 0, .int .u8 0, .int .u8 0, .int .u8 0, .int .u8 0, .int .u8 0, .int .u8 0, .int .u8 0, .int .u8 0, .int .u8 0, .int .u8 0, .int .u8 0, .int .u8 0, .int .u8 0, .int .u8 0, .int .u8 0, .int .u8 0, .int .u8 0, .int .u8 0, .int .u8 0, .int .u8 0, .int .u8 0, .int .u8 0, .int .u8 0, .int .u8 0, .int .u8 0, .int .u8 0, .int .u8 0, .int .u8 0, .int .u8 0, .int .u8 0, .int .u8 0, .int .u8 0, .int .u8 0, .int .u8 0, .int .u8 0, .int .u8 0, .int .u8 0, .int .u8 0, .int .u8 0, .int .u8 0, .int .u8 0, .int .u8 0, .int .u8 0, .int .u8 0, .int .u8 0] 133)) = .ok () (w.alloc (.cells co 133)) := by
  rw [← zlit]
  exact run_storeCells_new w _ zcs co (by rw [infoT, hs]) (by rw [hs]; rfl) h1
theorem zb_eq : zb = .agg (byteV (List.replicate 64 0)).toArray := rfl

/-- What add makes of a tile. -/
theorem tile_splice {S b : List Int} {i : Nat} (h1 : 63 * i ≤ S.length) (h2 : S.length + b.length ≤ 63 * (i + 1)) :
    ∃ R, splice (byteV (tileL S i)) (1 + (S.length - 63 * i)) (byteV b) = .int .u8 ((S.length - 63 * i : Nat) : Int) :: R ∧ byteV (tileL (S ++ b) i) = .int .u8 ((S.length - 63 * i + b.length : Nat) : Int) :: R := by
  have hp : (partL S i).length = S.length - 63 * i := by rw [partL_len]; omega
  refine ⟨byteV (partL S i ++ b ++ List.replicate (63 - (S.length - 63 * i) - b.length) 0), ?_, ?_⟩
  · unfold splice tileL
    rw [hp]
    have e1 : byteV (((S.length - 63 * i : Nat) : Int) :: (partL S i ++ List.replicate (63 - (S.length - 63 * i)) 0)) = Value.int .u8 ((S.length - 63 * i : Nat) : Int) :: (byteV (partL S i) ++ byteV (List.replicate (63 - (S.length - 63 * i)) 0)) := by simp [byteV]
    have hl : (byteV (partL S i)).length = S.length - 63 * i := by simp [byteV, hp]
    have hb : (byteV b).length = b.length := by simp [byteV]
    rw [e1, Nat.add_comm 1, List.take_succ_cons, hb, show S.length - 63 * i + 1 + b.length = (S.length - 63 * i + b.length) + 1 by omega, List.drop_succ_cons]
    rw [List.take_append_of_le_length (by omega), List.take_of_length_le (by omega), List.drop_append, List.drop_eq_nil_of_le (by omega), List.nil_append, hl]
    simp [byteV, List.append_assoc]
  · unfold tileL
    rw [part_grow h1 h2, List.length_append, hp]
    simp [byteV, List.append_assoc]
    omega

theorem slk_set {w : World} {g i : Nat} {u v : Value} {l : List Int} (h : SlK .u8 w v l) (hn : ∀ x, w.cell? ⟨g, i, none⟩ ≠ some (.int .u8 x)) : SlK .u8 (w.setCell ⟨g, i, none⟩ u) v l := by
  obtain ⟨p, cap, rfl, h1, h2, h3, h4⟩ := h
  refine ⟨p, cap, rfl, h1, h2, h3, fun a ha => ?_⟩
  obtain ⟨h5, h6, h7⟩ := h4 a ha
  refine ⟨h5, by simpa using h6, fun j hj => ?_⟩
  rw [World.cell?_setCell_other _ _ _ _ (fun e => hn _ (by rw [e]; exact h7 j hj))]
  exact h7 j hj
theorem slk_turned {w w' : World} {b : Nat} (ht : w.mapTurned w' b) {v : Value} {l : List Int} (h : SlK .u8 w v l) : SlK .u8 w' v l := by
  obtain ⟨p, cap, rfl, h1, h2, h3, h4⟩ := h
  refine ⟨p, cap, rfl, h1, h2, h3, fun a ha => ?_⟩
  obtain ⟨h5, h6, h7⟩ := h4 a ha
  refine ⟨h5, ?_, fun j hj => cell_turned ht (h7 j hj)⟩
  have : w.heap.size ≤ w'.heap.size := by have := ((Fr.refl w.heap.size (fun k => k = b) w).turned (Or.inl rfl) ht).size; exact this
  omega

/-- The tile's new bytes go into the map. -/
theorem add_end {w3 : World} {p bm : Nat} {t : Tr} (h : TrAt w3 p bm t) {i : Nat} (hi : (i : Int) < 2000) (v : Value) :
    ∃ w4, (Instr.mapUpdate 86 (.map (some bm)) (.int .i64 i) v).run Tryz.prog w3 = .ok () w4 ∧ fm w4 Tryz.prog 3 bm (upd (blkM t.S) i (some v)) ∧ w3.mapTurned w4 bm := by
  have wi : (Lit.int .i64 (i : Int)).wf = true := WalkArith.wf_i64 (by omega)
  have h1 := h.ok.t1
  have h2 := h.ok.len
  obtain ⟨w4, r1, r2, r3⟩ := h.mp.store law3 Tryz.underlying86 Tryz.underlying3 (zeroT w3) (N := 2000) (by unfold maxLen; omega) (fun j hj => by
    unfold blkM at hj
    split at hj
    · rename_i hc; omega
    · cases hj) wi v
  exact ⟨w4, r1, r2, r3⟩

def lenN : Value → Nat
  | .slice _ n _ => n
  | _ => 0
def AddRel (w : World) (p bm : Nat) (t : Tr) (l : List Int) (k : Nat) (v : Value) (wr : World) : Prop := SlK .u8 wr v (l.drop k) ∧ TrAt wr p bm { t with S := t.S ++ l.take k } ∧ Fr w.heap.size (Two p bm) w wr

set_option maxRecDepth 100000 in
set_option maxHeartbeats 1000000 in
theorem add_any (w : World) {p bm : Nat} {t : Tr} (h : TrAt w p bm t) {sv : Value} {l : List Int} (hs : SlK .u8 w sv l) (hfit : ((t.S.length + l.length : Nat) : Int) ≤ 63 * t.tiles) : Calls Tryz.prog 37 #[.pointer (some ⟨p, 0, none⟩), sv] w fun e w' => e = .returned (.tuple #[]) ∧ TrAt w' p bm { t with S := t.S ++ l } ∧ Fr w.heap.size (Two p bm) w w' := by
  have H1 : Hid (AddRel w p bm t l 0 sv w) := Lib.hid ⟨hs, by rw [List.take_zero, List.append_nil]; exact h, Fr.refl _ _ _⟩
  obtain ⟨A0, c0, rfl, -⟩ := hs.form
  have HV0 : Hid (Value.slice A0 l.length c0 = .slice A0 (l.length - 0) c0) := Lib.hid (by rw [Nat.sub_zero])
  have HFIT := Lib.hid hfit
  have HOK := Lib.hid h.ok
  clear h hs hfit
  go_enter Tryz.func37, Tryz.ntmps37
  go_wp2
  go_loopw [1] (fun v wr => ∃ (k : Nat) (A : Option Addr) (c : Nat), k ≤ l.length ∧ v = .slice A (l.length - k) c ∧ Hid (AddRel w p bm t l k v wr)) (fun v _ => lenN v)
  case atStart => exact ⟨0, _, _, Nat.zero_le _, HV0.out, H1⟩
  case round =>
    obtain ⟨k, A, c, hk, rfl, HR⟩ := hrel
    by_cases hlt : k < l.length
    · obtain ⟨m, hm⟩ : ∃ m, m = l.length - k := ⟨_, rfl⟩
      rw [← hm] at HR ⊢
      have hm0 : (0 : Int) < (m : Int) := by omega
      obtain ⟨hs, ht, hf⟩ := HR.out
      obtain ⟨N, hN⟩ : ∃ N, N = (t.S ++ l.take k).length := ⟨_, rfl⟩
      have hNb : N + m ≤ 126000 := by
        have h1 := HOK.out.t1
        have h2 := HFIT.out
        rw [hN, List.length_append, List.length_take]
        omega
      have x4 : wr.cell? ⟨p, 4, none⟩ = some (.int .i64 (N : Int)) := by rw [hN]; exact ht.c 4
      have x3 : wr.cell? ⟨p, 3, none⟩ = some (.map (some bm)) := ht.c 3
      have f4 := ht.fz 4
      obtain ⟨at_, ha⟩ : ∃ a, a = N / 63 := ⟨_, rfl⟩
      obtain ⟨off, ho⟩ : ∃ a, a = N % 63 := ⟨_, rfl⟩
      have hno : N = 63 * at_ + off := by omega
      have ho63 : off < 63 := by omega
      have q1 : (N : Int) / 63 = (at_ : Int) := by omega
      have q2 : (N : Int) % 63 = (off : Int) := by omega
      have q6 : (N : Int).tdiv 63 = (at_ : Int) := by rw [Int.tdiv_eq_ediv_of_nonneg (by omega)]; exact q1
      have q7 : (N : Int).tmod 63 = (off : Int) := by rw [Int.tmod_eq_emod_of_nonneg (by omega)]; exact q2
      have q3 : IntKind.i64.wrap (at_ : Int) = (at_ : Int) := IntWalk.i64_in _ (by omega)
      have q4 : IntKind.i64.wrap (off : Int) = (off : Int) := IntWalk.i64_in _ (by omega)
      obtain ⟨o1, ho1⟩ : ∃ o, o = 1 + off := ⟨_, rfl⟩
      have q5 : IntKind.i64.wrap (1 + (off : Int)) = (o1 : Int) := by rw [IntWalk.i64_in _ (by omega)]; omega
      have q8 : (o1 : Int) ≤ 64 := by omega
      have q9 : o1 ≤ 64 := by omega
      have q10 : ¬ o1 = 64 := by omega
      have q11 : o1 < 64 := by omega
      have q12 : ¬ 64 ≤ o1 := by omega
      have q13 : ¬ (o1 : Int) = 64 := by omega
      have HO1 := Lib.hid ho1
      have hat : at_ < 2000 := by omega
      have wi : (Lit.int .i64 (at_ : Int)).wf = true := WalkArith.wf_i64 (by omega)
      have k4 := ht.mp.look law3 Tryz.underlying86 Tryz.underlying3 (zeroT wr) wi
      rw [zb_eq, blkM_get] at k4
      have hsz : (byteV (tileL (t.S ++ l.take k) at_)).toArray.size = 64 := by simp [byteV, tileL_len]
      have k2 := st_newT wr (byteV (tileL (t.S ++ l.take k) at_)).toArray hsz (by simpa using byteV_one (tileL (t.S ++ l.take k) at_))
      obtain ⟨co, hco⟩ : ∃ co, co = (byteV (tileL (t.S ++ l.take k) at_)).toArray := ⟨_, rfl⟩
      rw [← hco] at k4 k2 hsz
      have HCO := Lib.hid hco
      have HS := Lib.hid hs
      have HT := Lib.hid ht
      have HF := Lib.hid hf
      have HNN := Lib.hid hN
      have HNO := Lib.hid hno
      have HM := Lib.hid hm
      clear hco hs ht hf hN HR ha ho H1 hno hm
      go_upto_region 3 with (fail)
      obtain ⟨wv, HWV, hcv, hbv⟩ : ∃ W, Hid (wr.alloc (.cells co 133) = W) ∧ W.heap[wr.heap.size]? = some (.cells co 133 (0, 0)) ∧ Below wr.heap.size wr W := ⟨_, Lib.hid rfl, heap_alloc_new wr _, (Below.refl _ _).alloc (Nat.le_refl _) _⟩
      rw [HWV.out]
      obtain ⟨g, hg⟩ : ∃ g, g = wr.heap.size := ⟨_, rfl⟩
      rw [← hg] at hcv hbv ⊢
      have HTV := Lib.hid (HT.out.kept fun b hb => hbv.block b (by omega))
      have HSV := Lib.hid (HS.out.below hbv (by omega))
      have HBV := Lib.hid hbv
      have HG := Lib.hid hg
      obtain ⟨n, hn⟩ : ∃ n, n = Nat.min m (63 - off) := ⟨_, rfl⟩
      obtain ⟨ch, hch⟩ : ∃ ch, ch = (l.drop k).take n := ⟨_, rfl⟩
      have hchl : ch.length = n := by rw [hch, List.length_take, List.length_drop, ← HM.out, hn]; simp [Nat.min_def]; split <;> omega
      have hnm : n ≤ m := by rw [hn]; exact Nat.min_le_left _ _
      have hno2 : n ≤ 63 - off := by rw [hn]; exact Nat.min_le_right _ _
      have hn1 : 0 < n := by rw [hn]; simp [Nat.min_def]; split <;> omega
      rw [HCO.out] at hcv
      have HCV := Lib.hid hcv
      have HN := Lib.hid hn
      have HCH := Lib.hid hch
      have HCL := Lib.hid hchl
      have y4 : wv.cell? ⟨p, 4, none⟩ = some (.int .i64 (N : Int)) := by rw [HNN.out]; exact HTV.out.c 4
      have y3 : wv.cell? ⟨p, 3, none⟩ = some (.map (some bm)) := HTV.out.c 3
      have z4 := HTV.out.fz 4
      clear ho1 hcv hbv hg hn hch hchl x4 x3 f4 k4 k2 HCO HWV hsz
      go_wp2_with (with_reducible refine wpList_copy_splice (o := ⟨some 29, _, _, _, _, _⟩) rfl (.tmp 27) (.tmp 28) 33 33 rfl 5 Tryz.underlying33 info5 _ _ _ _ _ _ rfl rfl g o1 (byteV (tileL (t.S ++ l.take k) at_)) 133 ?c1 (byteV ch) ?c2 ?c3 ?c4 (byteV_one _) g wv (Below.refl _ _) (Nat.le_refl _) ?_)
      case c1 => exact HCV.out
      case c2 => rw [byteV, List.length_map, HCL.out, HN.out, HO1.out]; congr 1; omega
      case c3 =>
        intro _
        have h1 : l.drop k ≠ [] := fun e => by have := congrArg List.length e; rw [List.length_drop] at this; simp at this; omega
        obtain ⟨b', o', cap', e, -⟩ := id (HSV.out.pt h1)
        injection e with e1
        subst e1
        refine ⟨_, rfl, fun j v hv => (HSV.out.pt h1).news j v ?_⟩
        rw [HCH.out] at hv
        rw [byteV, List.getElem?_map] at hv ⊢
        rw [List.getElem?_take] at hv
        split at hv
        · exact hv
        · cases hv
      case c4 => rw [byteV, byteV, List.length_map, List.length_map, tileL_len, HCL.out, HO1.out]; omega
      intro w5 hF5 hB5
      obtain ⟨R, r1, r2⟩ := tile_splice (S := t.S ++ l.take k) (b := ch) (i := at_) (by rw [← HNN.out, HNO.out]; omega) (by rw [← HNN.out, HCL.out, HNO.out]; omega)
      rw [← HNN.out, show N - 63 * at_ = off by have := HNO.out; omega] at r1 r2
      rw [HCL.out] at r2
      have hF := hF5.out
      rw [HO1.out, r1] at hF
      have d0 : w5.cell? ⟨g, 0, none⟩ = some (.int .u8 (off : Int)) := (cell_of hF 0).1
      have e0 := (cell_of hF 0).2
      have hbl : (byteV ch).length = n := by rw [byteV, List.length_map]; exact HCL.out
      have t1 : IntKind.u8.wrap (n : Int) = (n : Int) := IntWalk.u8_in _ (by omega)
      have t2 : IntKind.u8.wrap ((off : Int) + (n : Int)) = (off : Int) + (n : Int) := IntWalk.u8_in _ (by omega)
      rw [show ((off + n : Nat) : Int) = (off : Int) + (n : Int) from by omega] at r2
      have HB5 := Lib.hid (HBV.out.trans (hB5.mono (Nat.le_refl _)))
      have HFF := Lib.hid hF
      have HR2 := Lib.hid r2
      clear hF hF5 hB5 r1 r2 y4 y3 z4 HCV HTV HBV
      go_upto_region 5 with (fail)
      rw [hbl]
      have hF6 : (w5.setCell ⟨g, 0, none⟩ (.int .u8 ((off : Int) + (n : Int)))).heap[g]? = some (.cells (((Value.int .u8 (off : Int) :: R).toArray).setIfInBounds 0 (.int .u8 ((off : Int) + (n : Int)))) 133 (0, 0)) := heap_setCell_same w5 g 0 _ _ _ HFF.out
      rw [show ((Value.int .u8 (off : Int) :: R).toArray).setIfInBounds 0 (.int .u8 ((off : Int) + (n : Int))) = (Value.int .u8 ((off : Int) + (n : Int)) :: R).toArray from by simp, ← HR2.out] at hF6
      have hB6 : Below g wr (w5.setCell ⟨g, 0, none⟩ (.int .u8 ((off : Int) + (n : Int)))) := HB5.out.trans ⟨rfl, rfl, rfl, by simp, fun k hk => setCell_far _ _ _ _ (by omega)⟩
      generalize w5.setCell ⟨g, 0, none⟩ (.int .u8 ((off : Int) + (n : Int))) = w6 at *
      have h6 : TrAt w6 p bm { t with S := t.S ++ l.take k } := HT.out.kept fun b hb => hB6.block b (by have := HG.out; omega)
      have y3 : w6.drew.cell? ⟨p, 3, none⟩ = some (.map (some bm)) := h6.c 3
      obtain ⟨w7, m1, m2, m3⟩ := add_end (w3 := w6.drew) (h6.kept fun _ _ => rfl) (i := at_) (by omega) (.agg (byteV (tileL (t.S ++ l.take k ++ ch) at_)).toArray)
      have hS6 : SlK .u8 w6 (.slice A m c) (l.drop k) := HS.out.below hB6 (by have := HG.out; omega)
      have hsz : (byteV (tileL (t.S ++ l.take k ++ ch) at_)).toArray.size = 64 := by simp [byteV, tileL_len]
      obtain ⟨bv, hbv⟩ : ∃ bv, bv = (byteV (tileL (t.S ++ l.take k ++ ch) at_)).toArray := ⟨_, rfl⟩
      rw [← hbv] at m1 m2 hF6 hsz
      have HBV2 := Lib.hid hbv
      have HR' := Lib.hid hF6
      have HZ := Lib.hid hsz
      have HM2 := Lib.hid m2
      have HM3 := Lib.hid m3
      have HB6 := Lib.hid hB6
      have HH6 := Lib.hid h6
      have HS6 := Lib.hid hS6
      clear hbv hF6 hsz m2 m3 hB6 h6 hS6 d0 e0 HFF HB5 HR2
      go_wp2
      refine wp_region_still_tail 6 (by kernel_rfl) (by kernel_rfl) ?_
      simp only [List.take_succ_cons, List.take_zero, List.drop_succ_cons, List.drop_zero]
      change wpStill _ _ w6.drew _ _ _
      iterate 5 still_step
      refine wpStill_load_row rfl _ _ rfl g rfl _ bv _ _ HR'.out Tryz.underlying133 rfl (by rw [infoT, HZ.out]) ?_
      refine wpStill_nil ?_
      change wpList _ _ _ _ _ w6.drew
      go_upto_region 6 with (fail)
      have h1 : l.drop k ≠ [] := fun e => by have h2 := congrArg List.length e; rw [List.length_drop, List.length_nil] at h2; omega
      have hS7 : SlK .u8 w7 (.slice A m c) (l.drop k) := slk_turned HM3.out (show SlK .u8 w6.drew (.slice A m c) (l.drop k) from HS6.out.below ((Below.refl w6.heap.size w6).drew) (Nat.le_refl _))
      have hb7 : w7.heap[p]? = some (.cells #[.pointer (some ⟨t.dp, 0, none⟩), .int .i64 t.first, .int .i64 t.tiles, .map (some bm), .int .i64 (N : Int), .int .i64 t.count, .int .i64 t.stable] 88 (0, 0)) := by
        rw [HNN.out]
        exact (block_turned HM3.out HH6.out.ne).trans HH6.out.bx
      have y4 : w7.cell? ⟨p, 4, none⟩ = some (.int .i64 (N : Int)) := (cell_of hb7 4).1
      have z4 := (cell_of hb7 4).2
      have t3 : IntKind.i64.wrap ((N : Int) + (n : Int)) = (N : Int) + (n : Int) := IntWalk.i64_in _ (by omega)
      have hS8 : SlK .u8 (w7.setCell ⟨p, 4, none⟩ (.int .i64 ((N : Int) + (n : Int)))) (.slice A m c) (l.drop k) := slk_set hS7 (fun x e => by rw [y4] at e; cases e)
      have htk : l.take (k + n) = l.take k ++ ch := by rw [HCH.out, List.take_add]
      have hne : ch ≠ [] := fun e => by have := HCL.out; rw [e] at this; simp at this; omega
      have hat2 : upd (blkM (t.S ++ l.take k)) at_ (some (.agg bv)) = blkM (t.S ++ l.take (k + n)) := by
        rw [htk, ← List.append_assoc, HBV2.out]
        exact blkM_add hne (by rw [← HNN.out, HNO.out]; omega) (by rw [← HNN.out, HCL.out, HNO.out]; omega)
      have hl8 : (t.S ++ l.take (k + n)).length = N + n := by rw [htk, ← List.append_assoc, List.length_append, ← HNN.out, HCL.out]
      have h8 : TrAt (w7.setCell ⟨p, 4, none⟩ (.int .i64 ((N : Int) + (n : Int)))) p bm { t with S := t.S ++ l.take (k + n) } := by
        refine ⟨?_, ?_, ?_, HH6.out.ne⟩
        · rw [heap_setCell_same w7 p 4 _ _ _ hb7]
          show _ = some (Obj.cells #[.pointer (some ⟨t.dp, 0, none⟩), .int .i64 t.first, .int .i64 t.tiles, .map (some bm), .int .i64 ((t.S ++ l.take (k + n)).length : Int), .int .i64 t.count, .int .i64 t.stable] _ _)
          rw [hl8, show ((N + n : Nat) : Int) = (N : Int) + (n : Int) by omega]
          rfl
        · show fm _ _ _ _ (blkM (t.S ++ l.take (k + n)))
          rw [← hat2]
          exact HM2.out.of_block (setCell_far _ _ _ _ (fun e => HH6.out.ne e.symm))
        · have hk6 := HH6.out.ok
          have hf := HFIT.out
          refine ⟨?_, hk6.f0, hk6.f1, hk6.t0, hk6.t1, ?_, hk6.c0, ?_⟩
          · show bytesOk (t.S ++ l.take (k + n))
            rw [htk, ← List.append_assoc]
            intro x hx
            rcases List.mem_append.1 hx with hx | hx
            · exact hk6.ok x hx
            · rw [HCH.out] at hx
              exact HS6.out.ok x (List.mem_of_mem_take hx)
          · show ((t.S ++ l.take (k + n)).length : Int) ≤ 63 * t.tiles
            rw [hl8]
            have h1 := HM.out
            have h2 : N = t.S.length + (l.take k).length := by rw [HNN.out, List.length_append]
            rw [List.length_take] at h2
            omega
          · show t.count ≤ ((t.S ++ l.take (k + n)).length : Int)
            rw [hl8]
            have := hk6.c1
            have h2 : t.count ≤ ((t.S ++ l.take k).length : Int) := this
            rw [← HNN.out] at h2
            omega
      have hf8 : Fr w.heap.size (Two p bm) w (w7.setCell ⟨p, 4, none⟩ (.int .i64 ((N : Int) + (n : Int)))) := by
        have hwr := HF.out.size
        have f6 : Fr w.heap.size (Two p bm) w w6 := HF.out.trans (⟨HB6.out.os, HB6.out.tape, HB6.out.output, HB6.out.size, fun b hb _ => HB6.out.block b (by have := HG.out; omega)⟩ : Fr wr.heap.size (fun _ => False) wr w6) hwr (fun _ _ h => h.elim)
        exact (f6.drew.turned (Or.inl (Or.inr rfl)) HM3.out).setCell (Or.inl (Or.inl rfl)) _
      have HS8 := Lib.hid hS8
      have H8 := Lib.hid h8
      have HF8 := Lib.hid hf8
      obtain ⟨b', o', cap', e, -⟩ := id (hS8.pt h1)
      injection e with e1 e2 e3
      have hmc : m ≤ c := by obtain ⟨A', c', e, h⟩ := hS8.form; injection e with _ e2 e3; rw [e2, e3]; exact h
      have hi1 : (n : Int) ≤ (m : Int) := by omega
      have hi2 : (n : Int) ≤ (c : Int) := by omega
      have hi3 : n ≤ c := by omega
      subst e1
      clear h1 hS7 hb7 hS8 htk hne hat2 hl8 h8 hf8 e2 e3 m1 HS HT HF HB6 HH6 HS6 HM3 HM2 HR' HZ HBV2
      by_cases hc : n = c
      · subst hc
        have hmn : m = n := by omega
        go_wp2
        have hd := (HS8.out.rest hnm).2.2 hmn
        rw [List.drop_drop] at hd
        refine ⟨⟨k + n, some ⟨b', o', none⟩, 0, by have := HM.out; omega, ?_, Lib.hid ⟨hd, H8.out, HF8.out⟩⟩, ?_⟩
        · rw [show l.length - (k + n) = 0 by have := HM.out; omega]
        · show 0 < m
          omega
      · have hi4 : ¬ (n : Int) = (c : Int) := by omega
        go_wp2
        have hd := (HS8.out.rest hnm).2.1
        rw [List.drop_drop] at hd
        refine ⟨⟨k + n, some ⟨b', o' + n, none⟩, c - n, by have := HM.out; omega, ?_, Lib.hid ⟨hd, H8.out, HF8.out⟩⟩, ?_⟩
        · rw [show l.length - (k + n) = m - n by have := HM.out; omega]
        · show m - n < m
          omega
    · obtain rfl : k = l.length := by omega
      have HR2 := HR.out
      unfold AddRel at HR2
      rw [List.take_length] at HR2
      have HR3 := Lib.hid HR2
      clear HR HR2 H1
      go_wp2
      go_end0
      exact ⟨rfl, HR3.out.2.1, HR3.out.2.2⟩
end Go.Proofs.YtljbhdldfffpfaaGreat
