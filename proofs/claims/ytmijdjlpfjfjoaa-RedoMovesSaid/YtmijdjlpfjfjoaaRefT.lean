/- The reference's TakeSheet. -/
import Derived.Test.YtmijdjlpfjfjoaaRefS
namespace Go.Proofs.Ytmijdjlpfjfjoaa
open Go.RowKit

theorem numL_eq {l l' : List Int} (h1 : bytesOk l) (h2 : bytesOk l') (hl : 4 ≤ l.length) (hl' : 4 ≤ l'.length) : numL l = numL l' ↔ l.take 4 = l'.take 4 := by
  match l, hl, l', hl' with
  | a :: b :: c :: d :: r, _, a' :: b' :: c' :: d' :: r', _ =>
    have := h1 a (by simp); have := h1 b (by simp); have := h1 c (by simp); have := h1 d (by simp)
    have := h2 a' (by simp); have := h2 b' (by simp); have := h2 c' (by simp); have := h2 d' (by simp)
    simp only [numL, List.take_succ_cons, List.take_zero, List.cons.injEq, and_true]
    omega

theorem numL_take {l : List Int} (hl : 4 ≤ l.length) : numL (l.take 4) = numL l := by
  match l, hl with
  | a :: b :: c :: d :: r, _ => rfl

theorem numL_high {l : List Int} (h1 : bytesOk l) (hl : 4 ≤ l.length) : 2147483647 < numL l ↔ 127 < l[0] := by
  match l, hl with
  | a :: b :: c :: d :: r, _ =>
    have := h1 a (by simp); have := h1 b (by simp); have := h1 c (by simp); have := h1 d (by simp)
    simp only [numL, List.getElem_cons_zero]
    omega


section

variable (w : World) (a b : Value) (la lb : List Int) (ha : Pt w a la) (hb : Pt w b lb) (la4 : la.length = 64) (lb4 : lb.length = 64) (oka : bytesOk la) (okb : bytesOk lb)

include ha hb la4 lb4 oka okb




end

end Go.Proofs.Ytmijdjlpfjfjoaa
