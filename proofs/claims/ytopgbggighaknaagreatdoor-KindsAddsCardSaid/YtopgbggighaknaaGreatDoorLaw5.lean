/- selionlaw05: the walk of a law (made by gen_laws.py): Law5. -/
import Derived.Test.YtopgbggighaknaaGreatDoorM23
import Derived.Test.YtopgbggighaknaaGreatDoorM14
import Derived.Test.YtopgbggighaknaaGreatDoorM19
namespace Go.Proofs.YtopgbggighaknaaGreatDoor
open Go.RowKit Go
theorem few_len (L : List DescR) (hr : rightK (fewD L) = true) : (textK (fewD L)).length ≤ 100000 := by
  have hall := ((rightK_iff _).1 hr).1
  have h60 := ((rightK_iff _).1 hr).2.2
  have h2 : ∀ M : List DescR, (∀ d ∈ M, (textS d).length ≤ 300) → (textK M).length ≤ 301 * M.length := by
    intro M
    induction M with
    | nil => intro _; simp [textK]
    | cons d M ih =>
      intro hm
      have a1 := hm d (by simp)
      have a2 := ih (fun x hx => hm x (by simp [hx]))
      have e : textK (d :: M) = textS d ++ [10] ++ textK M := by simp [textK]
      rw [e]
      simp only [List.length_append, List.length_cons, List.length_nil]
      omega
  have h3 := h2 (fewD L) (fun d hd => by
    obtain ⟨x, hx, rfl⟩ := List.mem_map.1 hd
    have hrd := hall _ hd
    have hR := right_of hrd
    have h1 := wrS_len (cutD x).size.toNat (cutD x).ptrs (by have := hR.s0; have := hR.s1; omega) (fun y hy => by have := hR.pp y hy; have h2 : y < (cutD x).size := this.2.1; have := hR.s1; omega) (cutD x).ptrs.length (Nat.le_refl _)
    have h2 := wrS_len (cutD x).elem.toNat (cutD x).eptrs (by have := hR.e0; have := hR.e1; omega) (fun y hy => by have := hR.qq y hy; have h2 : y < (cutD x).elem := this.2.1; have := hR.e1; omega) (cutD x).eptrs.length (Nat.le_refl _)
    rw [wrS_end] at h1 h2
    have l1 : (cutD x).ptrs.length ≤ 20 := by show (x.ptrs.take 20).length ≤ 20; simp; omega
    have l2 : (cutD x).eptrs.length ≤ 20 := by show (x.eptrs.take 20).length ≤ 20; simp; omega
    rw [textS, List.length_append, List.length_cons, List.length_cons]
    omega)
  omega
end Go.Proofs.YtopgbggighaknaaGreatDoor
