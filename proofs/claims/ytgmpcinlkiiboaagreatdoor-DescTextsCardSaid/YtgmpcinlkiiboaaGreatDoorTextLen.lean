/- How long descriptors' texts are; a text's first bytes. -/
import Derived.Test.YtgmpcinlkiiboaaGreatDoorPrintD
import Derived.Test.YtgmpcinlkiiboaaGreatDoorCutS
namespace Go.Proofs.YtgmpcinlkiiboaaGreatDoor
open Go.RowKit Go
theorem textV_len (d : DescR) (hp : d.ptrs.length ≤ 1000) (hq : d.eptrs.length ≤ 1000) : (textV d).length ≤ 100000 := by
  unfold textV
  split
  · rename_i hr
    have hR := right_of hr
    have h1 := wrS_len d.size.toNat d.ptrs (by have := hR.s0; have := hR.s1; omega) (fun x hx => by have := hR.pp x hx; have h2 : x < d.size := this.2.1; have := hR.s1; omega) d.ptrs.length (Nat.le_refl _)
    have h2 := wrS_len d.elem.toNat d.eptrs (by have := hR.e0; have := hR.e1; omega) (fun x hx => by have := hR.qq x hx; have h2 : x < d.elem := this.2.1; have := hR.e1; omega) d.eptrs.length (Nat.le_refl _)
    rw [wrS_end] at h1 h2
    rw [textS, List.length_append, List.length_cons, List.length_cons]
    omega
  · simp
theorem cut_list (l : List UInt8) : (⟨l.toArray⟩ : ByteArray).extract 0 (min (⟨l.toArray⟩ : ByteArray).size 200) = ⟨(l.take 200).toArray⟩ := by
  apply ByteArray.ext
  rw [ByteArray.data_extract]
  apply Array.toList_inj.1
  have e : (⟨l.toArray⟩ : ByteArray).size = l.length := by show l.toArray.size = _; simp
  rw [e]
  simp
  omega
end Go.Proofs.YtgmpcinlkiiboaaGreatDoor
