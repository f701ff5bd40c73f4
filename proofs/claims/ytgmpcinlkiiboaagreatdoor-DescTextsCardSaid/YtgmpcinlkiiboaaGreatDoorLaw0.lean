/- What the laws of layer 4 share: descriptors cut; a box that is set anew. -/
import Derived.Test.YtgmpcinlkiiboaaGreatDoorCutD
import Derived.Test.YtgmpcinlkiiboaaGreatDoorShown
namespace Go.Proofs.YtgmpcinlkiiboaaGreatDoor
open Go.RowKit Go
theorem Il.take {w : World} {A : Option Addr} {n : Nat} {l : List Int} (h : Il w A n l) (k : Nat) : Il w A (min n k) (l.take k) := by
  refine ⟨by rw [List.length_take, h.1]; omega, fun hn => ?_⟩
  obtain ⟨ad, e, hb, hc⟩ := h.2 (by omega)
  refine ⟨ad, e, hb, fun j hj => ?_⟩
  rw [hc j (by omega)]
  have h2 : j < k := by omega
  simp [List.getD_eq_getElem?_getD, h2]
theorem box_set4 {w w2 : World} {R : Nat} {x0 x1 x2 x3 u0 u1 u2 u3 : Value} {t : TypeId} (hB : Blk w2 R #[x0, x1, x2, x3] t) (hE : Ext w w2) (hR : w.heap.size ≤ R) :
    Blk ((((w2.setCell ⟨R, 0, none⟩ u0).setCell ⟨R, 1, none⟩ u1).setCell ⟨R, 2, none⟩ u2).setCell ⟨R, 3, none⟩ u3) R #[u0, u1, u2, u3] t ∧ Ext w ((((w2.setCell ⟨R, 0, none⟩ u0).setCell ⟨R, 1, none⟩ u1).setCell ⟨R, 2, none⟩ u2).setCell ⟨R, 3, none⟩ u3) := by
  have h3 := (((hB.set 0 u0).set 1 u1).set 2 u2).set 3 u3
  simp only [List.setIfInBounds_toArray, List.set_cons_zero, List.set_cons_succ] at h3
  exact ⟨h3, (((hE.setCell (p := ⟨R, 0, none⟩) hR _).setCell (p := ⟨R, 1, none⟩) hR _).setCell (p := ⟨R, 2, none⟩) hR _).setCell (p := ⟨R, 3, none⟩) hR _⟩
/-- A slice of ints, as an argument has it. -/
structure Arg (w : World) (A : Option Addr) (n c : Nat) (l : List Int) : Prop where
  il : Il w A n l
  z : A = none → n = 0 ∧ c = 0
  n : n ≤ c
  c : c ≤ 9223372036854775807
end Go.Proofs.YtgmpcinlkiiboaaGreatDoor
