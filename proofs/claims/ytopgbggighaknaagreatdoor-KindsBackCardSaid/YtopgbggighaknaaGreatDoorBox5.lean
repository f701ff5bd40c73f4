/- selionlaw05: a box that is set anew; two rows compared. -/
import Derived.Test.YtopgbggighaknaaGreatDoorLawTexts
import Derived.Test.YtopgbggighaknaaGreatDoorM23
namespace Go.Proofs.YtopgbggighaknaaGreatDoor
open Go.RowKit Go
theorem box5 {w w2 : World} {R : Nat} {x0 x1 x2 x3 : Value} {t : TypeId} (u0 u1 u2 u3 : Value) (hB : Blk w2 R #[x0, x1, x2, x3] t) (hE : Ext w w2) (hR : w.heap.size ≤ R) :
    Blk ((((w2.setCell ⟨R, 0, none⟩ u0).setCell ⟨R, 1, none⟩ u1).setCell ⟨R, 2, none⟩ u2).setCell ⟨R, 3, none⟩ u3) R #[u0, u1, u2, u3] t ∧ Ext w ((((w2.setCell ⟨R, 0, none⟩ u0).setCell ⟨R, 1, none⟩ u1).setCell ⟨R, 2, none⟩ u2).setCell ⟨R, 3, none⟩ u3) ∧
    ChgU (fun k => k = R) w2 ((((w2.setCell ⟨R, 0, none⟩ u0).setCell ⟨R, 1, none⟩ u1).setCell ⟨R, 2, none⟩ u2).setCell ⟨R, 3, none⟩ u3) := by
  have h3 := (((hB.set 0 u0).set 1 u1).set 2 u2).set 3 u3
  simp only [List.setIfInBounds_toArray, List.set_cons_zero, List.set_cons_succ] at h3
  exact ⟨h3, (((hE.setCell (p := ⟨R, 0, none⟩) hR _).setCell (p := ⟨R, 1, none⟩) hR _).setCell (p := ⟨R, 2, none⟩) hR _).setCell (p := ⟨R, 3, none⟩) hR _,
    (((ChgU.of_set w2 ⟨R, 0, none⟩ u0).trans (ChgU.of_set _ ⟨R, 1, none⟩ u1) (fun _ _ h => h)).trans (ChgU.of_set _ ⟨R, 2, none⟩ u2) (fun _ _ h => h)).trans (ChgU.of_set _ ⟨R, 3, none⟩ u3) (fun _ _ h => h)⟩
theorem dsame_dn (x y : DRow) (a b : DescR) (hn : x.n ≤ 1000000) (hm : x.m ≤ 1000000) (w : World) (h : Dn w x a) (h' : Dn w y b) :
    Calls Tryz.prog 27 #[.agg x.cells, .agg y.cells] w fun e w' => e = .returned (.bool (decide (a = b))) ∧ Ext w w' := by
  obtain ⟨s1, A1, n1, c1, t1, B1, m1, e1⟩ := x
  obtain ⟨s2, A2, n2, c2, t2, B2, m2, e2⟩ := y
  obtain ⟨a1, a2, a3, a4⟩ := a
  obtain ⟨b1, b2, b3, b4⟩ := b
  obtain rfl : s1 = a1 := h.s
  obtain rfl : t1 = a3 := h.t
  obtain rfl : s2 = b1 := h'.s
  obtain rfl : t2 = b3 := h'.t
  exact dsame_is A1 B1 n1 m1 c1 e1 s1 t1 a2 a4 hn hm A2 B2 n2 m2 c2 e2 s2 t2 b2 b4 w h.p h.q h'.p h'.q
theorem keeps_facts (L : List DescR) (d : DescR) (y : Int) : (addL L d = [] ∧ addK L d = 0 ∧ (addE L d = 50 ∨ addE L d = 40 ∨ addE L d = 53)) ∨
    (addE L d = 0 ∧ rightK (addL L d) = true ∧ ofE (addL L d) (addK L d : Nat) = 0 ∧ ofD (addL L d) (addK L d : Nat) = d ∧ addE (addL L d) d = 0 ∧ addK (addL L d) d = addK L d ∧ addL (addL L d) d = addL L d ∧
      ((ofE L y = 0 ∧ ofE (addL L d) y = 0 ∧ ofD (addL L d) y = ofD L y) ∨ ofE L y = 51)) := by
  by_cases h : addE L d = 0
  · obtain ⟨hR, hB, hM⟩ := add_right L d h
    obtain ⟨p1, p2, p3, p4, p5, p6⟩ := add_keeps L d h
    refine .inr ⟨h, hR, p1, p2, p4, p5, p6, ?_⟩
    have hL : rightK L = true := by
      rcases addE_cases L d with ⟨_, e, _⟩ | ⟨_, _, e, _⟩ | ⟨h1, _⟩ | ⟨_, _, _, _, e, _⟩ | ⟨h1, _⟩
      · omega
      · omega
      · exact h1
      · omega
      · exact h1
    by_cases hy : ofE L y = 0
    · exact .inl ⟨hy, (p3 y hy).1, (p3 y hy).2⟩
    · refine .inr ?_
      unfold ofE at hy ⊢
      rw [if_pos hL] at hy ⊢
      split
      · rename_i h1; rw [if_pos h1] at hy; exact absurd rfl hy
      · rfl
  · rcases addE_cases L d with ⟨_, e, e1, e2⟩ | ⟨_, _, e, e1, e2⟩ | ⟨_, _, _, e, _⟩ | ⟨_, _, _, _, e, e1, e2⟩ | ⟨_, _, _, _, e, _⟩
    · exact .inl ⟨e1, e2, .inl e⟩
    · exact .inl ⟨e1, e2, .inr (.inl e)⟩
    · exact absurd e h
    · exact .inl ⟨e1, e2, .inr (.inr e)⟩
    · exact absurd e h
end Go.Proofs.YtopgbggighaknaaGreatDoor
