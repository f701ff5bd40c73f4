/- selionlaw05: one by one to none. -/
import Derived.Test.YtopgbggighaknaaGreatDoorBox5
namespace Go.Proofs.YtopgbggighaknaaGreatDoor
open Go.RowKit Go
theorem right_snoc (X : List DescR) (d : DescR) : rightK (X ++ [d]) = true ↔ (rightK X = true ∧ rightB d = true ∧ d ∉ X ∧ X.length < 60) := by
  rw [rightK_iff, rightK_iff]
  constructor
  · rintro ⟨h1, h2, h3⟩
    have h4 := List.nodup_append.1 h2
    refine ⟨⟨fun x hx => h1 x (by simp [hx]), h4.1, by simp at h3; omega⟩, h1 d (by simp), fun hm => h4.2.2 d hm d (by simp) rfl, by simp at h3; omega⟩
  · rintro ⟨⟨h1, h2, h3⟩, h4, h5, h6⟩
    refine ⟨fun x hx => ?_, List.nodup_append.2 ⟨h2, by simp, fun a ha b hb => ?_⟩, by simp; omega⟩
    · rcases List.mem_append.1 hx with h | h
      · exact h1 x h
      · rw [List.mem_singleton.1 h]; exact h4
    · rw [List.mem_singleton.1 hb]; rintro rfl; exact h5 ha
structure One5 (L : List DescR) (k : Nat) (M : List DescR) (b : Bool) : Prop where
  r : rightK M = true
  f : b = rightK (L.take k)
  e : b = true → M = L.take k
theorem One5.start (L : List DescR) : One5 L 0 [] true := ⟨by decide, by simp; decide, fun _ => by simp⟩
theorem One5.step {L : List DescR} {k : Nat} {M : List DescR} {b : Bool} (h : One5 L k M b) (d : DescR) (hk : L[k]? = some d) :
    (addE M d = 0 ∧ ((b = true ∧ ((addK M d : Nat) : Int) = (k : Int) + 1 ∧ One5 L (k + 1) (addL M d) true) ∨ (b = false ∧ One5 L (k + 1) (addL M d) false) ∨ (b = true ∧ (((addK M d : Nat) : Int) == (k : Int) + 1) = false ∧ One5 L (k + 1) (addL M d) false))) ∨
    ((addE M d == 0) = false ∧ One5 L (k + 1) M false) := by
  have ht : L.take (k + 1) = L.take k ++ [d] := by rw [List.take_add_one, hk]; simp
  have hlen : (L.take k).length = k := by rw [List.length_take]; have := (List.getElem?_eq_some_iff.1 hk).1; omega
  have hsn := right_snoc (L.take k) d
  rw [← ht] at hsn
  cases hb : b with
  | false =>
    have hf : rightK (L.take k) = false := by rw [← h.f, hb]
    have hf1 : false = rightK (L.take (k + 1)) := by
      cases h1 : rightK (L.take (k + 1)) with
      | false => rfl
      | true => exact absurd (hsn.1 h1).1 (by simp [hf])
    by_cases h0 : addE M d = 0
    · exact .inl ⟨h0, .inr (.inl ⟨rfl, (add_right M d h0).1, hf1, fun h => by cases h⟩)⟩
    · exact .inr ⟨by simpa using h0, h.r, hf1, fun h => by cases h⟩
  | true =>
    have hM := h.e hb
    have no : ¬ (rightK (L.take k) = true ∧ rightB d = true ∧ d ∉ L.take k ∧ (L.take k).length < 60) → false = rightK (L.take (k + 1)) := fun hn => by
      cases h1 : rightK (L.take (k + 1)) with
      | false => rfl
      | true => exact absurd (hsn.1 h1) hn
    rcases addE_cases M d with ⟨h1, e, _⟩ | ⟨_, h2, e, _⟩ | ⟨h1, h2, h3, e, e1, e2⟩ | ⟨_, _, _, h4, e, _⟩ | ⟨h1, h2, h3, h4, e, e1, e2⟩
    · rw [h.r] at h1; cases h1
    · refine .inr ⟨by rw [e]; decide, h.r, no (fun hh => ?_), fun h => by cases h⟩
      rw [h2] at hh; exact absurd hh.2.1 (by simp)
    · refine .inl ⟨e, .inr (.inr ⟨rfl, ?_, (add_right M d e).1, no (fun hh => hh.2.2.1 (hM ▸ h3)), fun h => by cases h⟩)⟩
      have hle := findK_le d M
      rw [e2, beq_eq_false_iff_ne]
      rw [hM, hlen] at hle
      rw [hM]
      omega
    · refine .inr ⟨by rw [e]; decide, h.r, no (fun hh => ?_), fun h => by cases h⟩
      have := hh.2.2.2
      rw [← hM] at this
      omega
    · refine .inl ⟨e, .inl ⟨rfl, ?_, (add_right M d e).1, ?_, fun _ => by rw [e1, ht, hM]⟩⟩
      · rw [e2, hM, hlen]; simp
      · exact (hsn.2 ⟨by rw [← hM]; exact h1, h2, by rw [← hM]; exact h3, by rw [← hM]; exact h4⟩).symm
end Go.Proofs.YtopgbggighaknaaGreatDoor
