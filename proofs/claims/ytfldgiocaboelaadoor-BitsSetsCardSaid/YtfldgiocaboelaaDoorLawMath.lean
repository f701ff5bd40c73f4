/- What the laws of layer 2 say of words. -/
import Derived.Test.YtfldgiocaboelaaDoorRefList
import Derived.Test.YtfldgiocaboelaaDoorEither
import Derived.Test.YtfldgiocaboelaaDoorNext
namespace Go.Proofs.YtfldgiocaboelaaDoor
open Go.RowKit Go
theorem plB_iff {N i : Int} : plB N i = true ↔ 0 ≤ i ∧ i < N := by simp [plB]
theorem set_math {N i : Int} {ws ws2 : List Nat} (hr : rightB N ws = true) (hp : plB N i = true) (on : Bool) (h : turnW i (i + 1) on ws = ws2) (_hw : W32 ws) :
    rightB N ws2 = true ∧ hasB N ws2 i = on ∧ ∀ k, ¬ k = i → hasB N ws2 k = hasB N ws k := by
  subst h
  have R := (right_iff N ws).1 hr
  have P := plB_iff.1 hp
  have R2 : rightB N (turnW i (i + 1) on ws) = true := (turn_right on R (by omega)).b
  have hl := R.len
  refine ⟨R2, ?_, fun k hk => ?_⟩
  · unfold hasB
    rw [R2, hp, turn_bit _ _ _ _ (by omega), if_pos (by omega)]
    rfl
  · unfold hasB
    rw [R2, hr]
    rcases hq : plB N k with _ | _
    · rfl
    · have Q := plB_iff.1 hq
      rw [turn_bit _ _ _ _ (by omega), if_neg (by omega)]
end Go.Proofs.YtfldgiocaboelaaDoor
