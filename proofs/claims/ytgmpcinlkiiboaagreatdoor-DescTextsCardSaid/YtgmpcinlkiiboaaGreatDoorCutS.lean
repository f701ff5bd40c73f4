/- selionlaw04: cut. -/
import Derived.Test.YtgmpcinlkiiboaaGreatDoorInts
namespace Go.Proofs.YtgmpcinlkiiboaaGreatDoor
open Go.RowKit Go
section
set_option maxHeartbeats 1000000 in
theorem cuts_is (X : ByteArray) (w : World) :
    Calls Tryz.prog 9 #[.string X] w fun e w' => e = .returned (.string (X.extract 0 (min X.size 200))) ∧ Ext w w' := by
  by_cases h : X.size ≤ 200
  · rw [show min X.size 200 = X.size by omega, show X.extract 0 X.size = X by apply ByteArray.ext; rw [ByteArray.data_extract]; simp]
    have h5 : (X.size : Int) ≤ 200 := by omega
    go_enter Tryz.func9, Tryz.ntmps9
    go_wp2
    go_ret
    exact ⟨rfl, Ext.refl _⟩
  · rw [show min X.size 200 = 200 by omega]
    have h5 : ¬ (X.size : Int) ≤ 200 := by omega
    have h6 : 200 ≤ X.size := by omega
    go_enter Tryz.func9, Tryz.ntmps9
    go_wp2
    go_ret
    exact ⟨rfl, Ext.refl _⟩
end
end Go.Proofs.YtgmpcinlkiiboaaGreatDoor
