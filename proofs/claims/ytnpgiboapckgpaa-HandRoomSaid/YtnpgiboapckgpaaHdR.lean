/- hand: the operations, each as one contract. -/
import Derived.Test.YtnpgiboapckgpaaHdK
namespace Go.Proofs.Ytnpgiboapckgpaa
open Go.RowKit

theorem first_at {n : Nat} {f : Nat → Bool} {i : Nat} (h : i ≤ n) (h1 : ∀ j, j < i → f j = false) (h2 : i < n → f i = true) : First n f i := ⟨h, h1, h2⟩
/-- What the frame of a call makes of what the caller's own frame is. -/
theorem Fr.own {B p g : Nat} {w W W' : World} (hb : Below B w W) (hB : B ≤ W.heap.size) (hf : Fr W.heap.size (Two p g) W W') (hp : B ≤ p) (hg : B ≤ g) : Below B w W' :=
  hb.trans (hf.toBelow (B' := B) hB (by rintro k (rfl | rfl); exact hp; exact hg))

/-- What Put makes of a cache, and what it answers. -/
inductive PutR (s : St) (k : Int) (v : ByteArray) : St → Ending → Prop
  | hit (i : Nat) (hf : First s.n (hit s k) i) (hi : i < s.n) : PutR s k v { s with P := up s.P i { s.P i with v := v, b := true } } (tup4 0 emp false 0)
  | vac (i : Nat) (hf : First s.n (hit s k) s.n) (hv : First s.n (vac s) i) (hi : i < s.n) : PutR s k v { s with P := up s.P i ⟨true, k, v, true, 0⟩ } (tup4 (s.P i).k (s.P i).v (s.P i).u 0)
  | full (hf : First s.n (hit s k) s.n) (hv : First s.n (vac s) s.n) (hl : First s.n (loose s) s.n) : PutR s k v s (tup4 0 emp false 5)
  | turn (i j a f : Nat) (P : Nat → Pl) (hf : First s.n (hit s k) s.n) (hv : First s.n (vac s) s.n) (hl : First s.n (loose s) i) (hi : i < s.n) (ht : turnF s.n f s.P s.a = some (P, a, j)) : PutR s k v { s with P := up P j ⟨true, k, v, true, 0⟩, a := a } (tup4 (P j).k (P j).v (P j).u 0)

theorem put_any (w : World) {p g : Nat} {s s' : St} {k : Int} {v : ByteArray} {e0 : Ending} (hh : HA w p g s) (hr : PutR s k v s' e0) :
    Calls Try.prog 12 #[.pointer (some ⟨p, 0, none⟩), .int .i64 k, .string v] w fun e w' => e = e0 ∧ HA w' p g s' ∧ Fr w.heap.size (Two p g) w w' := by
  cases hr with
  | hit i hf hi => exact put_hit w hh hf hi
  | vac i hf hv hi => exact put_vac w hh hf hv hi
  | full hf hv hl => exact put_full w hh hf hv hl
  | turn i j a f P hf hv hl hi ht => exact put_turn w hh hf hv hl hi ht

inductive GetR (s : St) (k : Int) : St → Ending → Prop
  | hit (i : Nat) (hf : First s.n (hit s k) i) (hi : i < s.n) : GetR s k { s with P := up s.P i { s.P i with b := true } } (.returned (.tuple #[.string (s.P i).v, .bool true]))
  | none (hf : First s.n (hit s k) s.n) : GetR s k s (.returned (.tuple #[.string emp, .bool false]))
theorem get_any (w : World) {p g : Nat} {s s' : St} {k : Int} {e0 : Ending} (hh : HA w p g s) (hr : GetR s k s' e0) :
    Calls Try.prog 14 #[.pointer (some ⟨p, 0, none⟩), .int .i64 k] w fun e w' => e = e0 ∧ HA w' p g s' ∧ Fr w.heap.size (Two p g) w w' := by
  cases hr with
  | hit i hf hi => exact get_one w hh hf hi
  | none hf => exact (get_none w hh hf).mono fun e w' h => ⟨h.1, hh.on h.2, Fr.of_below h.2⟩

inductive PinR (s : St) (k : Int) : St → Bool → Prop
  | hit (i : Nat) (hf : First s.n (hit s k) i) (hi : i < s.n) (hn : (s.P i).n < 1000000) : PinR s k { s with P := up s.P i { s.P i with n := (s.P i).n + 1 } } true
  | none (hf : First s.n (hit s k) s.n) : PinR s k s false
theorem pin_any (w : World) {p g : Nat} {s s' : St} {k : Int} {b : Bool} (hh : HA w p g s) (hr : PinR s k s' b) :
    Calls Try.prog 16 #[.pointer (some ⟨p, 0, none⟩), .int .i64 k] w fun e w' => e = .returned (.bool b) ∧ HA w' p g s' ∧ Fr w.heap.size (Two p g) w w' := by
  cases hr with
  | hit i hf hi hn => exact pin_on w hh hf hi hn
  | none hf => exact (pin_none w hh hf).mono fun e w' h => ⟨h.1, hh.on h.2, Fr.of_below h.2⟩

inductive UnpinR (s : St) (k : Int) : St → Bool → Prop
  | hit (i : Nat) (hf : First s.n (hit s k) i) (hi : i < s.n) (h0 : 0 < (s.P i).n) (hn : (s.P i).n < 1000000) : UnpinR s k { s with P := up s.P i { s.P i with n := (s.P i).n - 1 } } true
  | no (i : Nat) (hf : First s.n (hit s k) i) (hi : i < s.n) (h0 : (s.P i).n = 0) : UnpinR s k s false
  | none (hf : First s.n (hit s k) s.n) : UnpinR s k s false
theorem unpin_any (w : World) {p g : Nat} {s s' : St} {k : Int} {b : Bool} (hh : HA w p g s) (hr : UnpinR s k s' b) :
    Calls Try.prog 18 #[.pointer (some ⟨p, 0, none⟩), .int .i64 k] w fun e w' => e = .returned (.bool b) ∧ HA w' p g s' ∧ Fr w.heap.size (Two p g) w w' := by
  cases hr with
  | hit i hf hi h0 hn => exact unpin_on w hh hf hi h0 hn
  | no i hf hi h0 => exact unpin_no w hh hf hi h0
  | none hf => exact (unpin_none w hh hf).mono fun e w' h => ⟨h.1, hh.on h.2, Fr.of_below h.2⟩

inductive DropR (s : St) (k : Int) : St → Bool → Prop
  | hit (i : Nat) (hf : First s.n (hit s k) i) (hi : i < s.n) (h0 : (s.P i).n = 0) : DropR s k { s with P := up s.P i Pl.zero } true
  | no (i : Nat) (hf : First s.n (hit s k) i) (hi : i < s.n) (h0 : 0 < (s.P i).n) : DropR s k s false
  | none (hf : First s.n (hit s k) s.n) : DropR s k s false
theorem drop_any (w : World) {p g : Nat} {s s' : St} {k : Int} {b : Bool} (hh : HA w p g s) (hr : DropR s k s' b) :
    Calls Try.prog 19 #[.pointer (some ⟨p, 0, none⟩), .int .i64 k] w fun e w' => e = .returned (.bool b) ∧ HA w' p g s' ∧ Fr w.heap.size (Two p g) w w' := by
  cases hr with
  | hit i hf hi h0 => exact drop_on w hh hf hi h0
  | no i hf hi h0 => exact drop_no w hh hf hi h0
  | none hf => exact (drop_none w hh hf).mono fun e w' h => ⟨h.1, hh.on h.2, Fr.of_below h.2⟩

/-- A cache that the call made: it lies above what was there. -/
structure Mine (B : Nat) (w W : World) (p g : Nat) (s : St) : Prop where
  ha : HA W p g s
  be : Below B w W
  bp : B ≤ p
  bg : B ≤ g
theorem Mine.size {B : Nat} {w W : World} {p g : Nat} {s : St} (h : Mine B w W p g s) : B ≤ W.heap.size := Nat.le_trans h.bp (Nat.le_of_lt h.ha.lp)
theorem Mine.step {B : Nat} {w W W' : World} {p g : Nat} {s s' : St} (h : Mine B w W p g s) (h1 : HA W' p g s') (hf : Fr W.heap.size (Two p g) W W') : Mine B w W' p g s' := ⟨h1, Fr.own h.be h.size hf h.bp h.bg, h.bp, h.bg⟩
theorem Mine.on {B : Nat} {w W W' : World} {p g : Nat} {s : St} (h : Mine B w W p g s) (hb : Below W.heap.size W W') : Mine B w W' p g s := ⟨h.ha.on hb, h.be.trans (hb.mono h.size), h.bp, h.bg⟩
theorem new_mine {B : Nat} (w W : World) (n : Int) (hb : Below B w W) (hB : B ≤ W.heap.size) : Calls Try.prog 10 #[.int .i64 n] W fun e w' => ∃ p g, e = .returned (.pointer (some ⟨p, 0, none⟩)) ∧ Mine B w w' p g (newS (roomOf n)) :=
  (new_any W n).mono fun _ _ h => ⟨_, _, h.1, h.2.1, hb.trans (h.2.2.mono hB), hB, hB⟩
end Go.Proofs.Ytnpgiboapckgpaa
