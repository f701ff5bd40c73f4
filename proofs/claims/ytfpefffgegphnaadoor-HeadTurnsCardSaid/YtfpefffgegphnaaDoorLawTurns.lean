/- selionlaw06.HeadTurns. -/
import Derived.Test.YtfpefffgegphnaaDoorShownH
namespace Go.Proofs.YtfpefffgegphnaaDoor
open Go.RowKit Go
namespace H
open HD
section
variable {a b : Nat → Addr}
theorem turn_0 {x : Int} (h : x < 0 ∨ 255 ≤ x) : turnV x = 0 := by unfold turnV; rw [if_neg (by omega)]
theorem turn_1 {x : Int} (h : 0 ≤ x ∧ x < 255) : turnV x = x + 1 := by unfold turnV; rw [if_pos (by omega)]
theorem turn_in (x : Int) : 0 ≤ turnV x ∧ turnV x ≤ 255 := by unfold turnV; split <;> omega
theorem turn_ne {x : Int} : turnV x ≠ x ∨ ¬ (0 ≤ x ∧ x ≤ 255) := by unfold turnV; split <;> omega
theorem turn_eq {x y : Int} (h : 0 ≤ x ∧ x ≤ 255) (k : 0 ≤ y ∧ y ≤ 255) (e : turnV x = turnV y) : x = y := by unfold turnV at e; split at e <;> split at e <;> omega
set_option maxHeartbeats 4000000 in
theorem turns_walk (x y : Int) (w : World) (hG : G a b w) : Calls Tryd.prog 7 #[.int .i64 x, .int .i64 y] w fun e w' => e = .returned (.bool true) ∧ Ext w w' := by
  have S := Lib.hid (shown_is w hG)
  have TX := Lib.hid (fun W => turn_is x W)
  have TY := Lib.hid (fun W => turn_is y W)
  have ix := turn_in x
  have iy := turn_in y
  clear hG
  by_cases a1 : x < 0
  · rw [turn_0 (.inl a1)] at TX
    by_cases b1 : y < 0
    · rw [turn_0 (.inl b1)] at TY
      clear ix iy
      go_enter Tryd.func7, Tryd.ntmps7
      go_wp2_with (first | (go_at_call 9; refine S.out.mono ?_; rintro e w1 ⟨rfl, h1⟩) | (go_at_call 17; refine (TX.out _).mono ?_; rintro e w2 ⟨rfl, rfl⟩; clear TX) | (go_at_call 17; refine (TY.out _).mono ?_; rintro e w3 ⟨rfl, rfl⟩))
      go_ret
      first | exact ⟨rfl, h1⟩ | exact ⟨ret_bool (by simp [*]), h1⟩
    · by_cases b2 : 255 < y
      · rw [turn_0 (.inr (by omega))] at TY
        clear ix iy
        go_enter Tryd.func7, Tryd.ntmps7
        go_wp2_with (first | (go_at_call 9; refine S.out.mono ?_; rintro e w1 ⟨rfl, h1⟩) | (go_at_call 17; refine (TX.out _).mono ?_; rintro e w2 ⟨rfl, rfl⟩; clear TX) | (go_at_call 17; refine (TY.out _).mono ?_; rintro e w3 ⟨rfl, rfl⟩))
        go_ret
        first | exact ⟨rfl, h1⟩ | exact ⟨ret_bool (by simp [*]), h1⟩
      · have b3 : 0 ≤ y := by omega
        have b4 : y ≤ 255 := by omega
        clear ix iy
        generalize turnV y = Y at *
        go_enter Tryd.func7, Tryd.ntmps7
        go_wp2_with (first | (go_at_call 9; refine S.out.mono ?_; rintro e w1 ⟨rfl, h1⟩) | (go_at_call 17; refine (TX.out _).mono ?_; rintro e w2 ⟨rfl, rfl⟩; clear TX) | (go_at_call 17; refine (TY.out _).mono ?_; rintro e w3 ⟨rfl, rfl⟩))
        go_ret
        first | exact ⟨rfl, h1⟩ | exact ⟨ret_bool (by simp [*]), h1⟩
  · by_cases a2 : 255 < x
    · rw [turn_0 (.inr (by omega))] at TX
      by_cases b1 : y < 0
      · rw [turn_0 (.inl b1)] at TY
        clear ix iy
        go_enter Tryd.func7, Tryd.ntmps7
        go_wp2_with (first | (go_at_call 9; refine S.out.mono ?_; rintro e w1 ⟨rfl, h1⟩) | (go_at_call 17; refine (TX.out _).mono ?_; rintro e w2 ⟨rfl, rfl⟩; clear TX) | (go_at_call 17; refine (TY.out _).mono ?_; rintro e w3 ⟨rfl, rfl⟩))
        go_ret
        first | exact ⟨rfl, h1⟩ | exact ⟨ret_bool (by simp [*]), h1⟩
      · by_cases b2 : 255 < y
        · rw [turn_0 (.inr (by omega))] at TY
          clear ix iy
          go_enter Tryd.func7, Tryd.ntmps7
          go_wp2_with (first | (go_at_call 9; refine S.out.mono ?_; rintro e w1 ⟨rfl, h1⟩) | (go_at_call 17; refine (TX.out _).mono ?_; rintro e w2 ⟨rfl, rfl⟩; clear TX) | (go_at_call 17; refine (TY.out _).mono ?_; rintro e w3 ⟨rfl, rfl⟩))
          go_ret
          first | exact ⟨rfl, h1⟩ | exact ⟨ret_bool (by simp [*]), h1⟩
        · have b3 : 0 ≤ y := by omega
          have b4 : y ≤ 255 := by omega
          clear ix iy
          generalize turnV y = Y at *
          go_enter Tryd.func7, Tryd.ntmps7
          go_wp2_with (first | (go_at_call 9; refine S.out.mono ?_; rintro e w1 ⟨rfl, h1⟩) | (go_at_call 17; refine (TX.out _).mono ?_; rintro e w2 ⟨rfl, rfl⟩; clear TX) | (go_at_call 17; refine (TY.out _).mono ?_; rintro e w3 ⟨rfl, rfl⟩))
          go_ret
          first | exact ⟨rfl, h1⟩ | exact ⟨ret_bool (by simp [*]), h1⟩
    · have a3 : 0 ≤ x := by omega
      have a4 : x ≤ 255 := by omega
      by_cases b1 : y < 0
      · rw [turn_0 (.inl b1)] at TY
        clear ix iy
        generalize turnV x = X at *
        go_enter Tryd.func7, Tryd.ntmps7
        go_wp2_with (first | (go_at_call 9; refine S.out.mono ?_; rintro e w1 ⟨rfl, h1⟩) | (go_at_call 17; refine (TX.out _).mono ?_; rintro e w2 ⟨rfl, rfl⟩; clear TX) | (go_at_call 17; refine (TY.out _).mono ?_; rintro e w3 ⟨rfl, rfl⟩))
        go_ret
        first | exact ⟨rfl, h1⟩ | exact ⟨ret_bool (by simp [*]), h1⟩
      · by_cases b2 : 255 < y
        · rw [turn_0 (.inr (by omega))] at TY
          clear ix iy
          generalize turnV x = X at *
          go_enter Tryd.func7, Tryd.ntmps7
          go_wp2_with (first | (go_at_call 9; refine S.out.mono ?_; rintro e w1 ⟨rfl, h1⟩) | (go_at_call 17; refine (TX.out _).mono ?_; rintro e w2 ⟨rfl, rfl⟩; clear TX) | (go_at_call 17; refine (TY.out _).mono ?_; rintro e w3 ⟨rfl, rfl⟩))
          go_ret
          first | exact ⟨rfl, h1⟩ | exact ⟨ret_bool (by simp [*]), h1⟩
        · have n1 : turnV x ≠ x := (turn_ne (x := x)).resolve_right (fun h => h ⟨a3, a4⟩)
          have e1 := turn_eq (x := x) (y := y) (by omega) (by omega)
          obtain ⟨i1, i2⟩ := ix
          by_cases hxy : x = y
          · subst hxy
            clear iy e1
            generalize turnV x = X at *
            go_enter Tryd.func7, Tryd.ntmps7
            go_wp2_with (first | (go_at_call 9; refine S.out.mono ?_; rintro e w1 ⟨rfl, h1⟩) | (go_at_call 17; refine (TX.out _).mono ?_; rintro e w2 ⟨rfl, rfl⟩; clear TX) | (go_at_call 17; refine (TY.out _).mono ?_; rintro e w3 ⟨rfl, rfl⟩))
            go_ret
            first | exact ⟨rfl, h1⟩ | exact ⟨ret_bool (by simp [*]), h1⟩
          · have n2 : ¬ turnV x = turnV y := fun e => hxy (e1 e)
            clear iy e1
            generalize turnV x = X at *
            generalize turnV y = Y at *
            have n4 : (X == Y) = false := by simpa using n2
            have n5 : (x == y) = false := by simpa using hxy
            go_enter Tryd.func7, Tryd.ntmps7
            go_wp2_with (first | (go_at_call 9; refine S.out.mono ?_; rintro e w1 ⟨rfl, h1⟩) | (go_at_call 17; refine (TX.out _).mono ?_; rintro e w2 ⟨rfl, rfl⟩; clear TX) | (go_at_call 17; refine (TY.out _).mono ?_; rintro e w3 ⟨rfl, rfl⟩))
            go_ret
            first | exact ⟨rfl, h1⟩ | exact ⟨ret_bool (by simp [*]), h1⟩
end
end H
end Go.Proofs.YtfpefffgegphnaaDoor
