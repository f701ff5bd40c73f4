/- Rising, step by step: pure. -/
import Derived.Test.YtgmpcinlkiiboaaGreatDoorInts
namespace Go.Proofs.YtgmpcinlkiiboaaGreatDoor
open Go.RowKit Go
/-- the one ahead of the k-th -/
def prevL (l : List Int) : Nat → Int
  | 0 => -1
  | k + 1 => l.getD k 0
theorem ris_step (l : List Int) (size : Int) (k : Nat) (hk : k < l.length) :
    risF size (prevL l k) (l.drop k) = (decide (0 ≤ l.getD k 0) && decide (l.getD k 0 % 4 = 0) && decide (l.getD k 0 < size) && decide (prevL l k < l.getD k 0) && risF size (prevL l (k + 1)) (l.drop (k + 1))) := by
  have e : l.drop k = l.getD k 0 :: l.drop (k + 1) := by
    rw [List.drop_eq_getElem_cons hk, List.getD_eq_getElem?_getD, List.getElem?_eq_getElem hk]; rfl
  rw [e]
  rfl
theorem ris_end (l : List Int) (size : Int) (k : Nat) (hk : l.length ≤ k) : risF size (prevL l k) (l.drop k) = true := by
  rw [List.drop_eq_nil_of_le hk]; rfl
end Go.Proofs.YtgmpcinlkiiboaaGreatDoor
