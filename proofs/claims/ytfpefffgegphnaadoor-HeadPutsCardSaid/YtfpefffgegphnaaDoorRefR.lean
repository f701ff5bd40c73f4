/- The reference's heads: Right, Turn (made by gen_ref.py). -/
import Derived.Test.YtfpefffgegphnaaDoorRefE
namespace Go.Proofs.YtfpefffgegphnaaDoor
open Go.RowKit Go
namespace H
open HD
section
theorem rright_of (m : MkR) (q : Bool) (hq : rightM m = q) (w : World) :
    Calls Tryd.prog 16 #[mkV m] w fun e w' => e = .returned (.bool q) ∧ Ext w w' := by
  obtain ⟨k, l, c, e⟩ := m
  unfold rightM at hq
  simp only at hq
  by_cases h0 : 1 ≤ k
  case neg =>
    obtain rfl : q = false := by rw [← hq, Bool.eq_false_iff]; simp only [ne_eq, Bool.and_eq_true, decide_eq_true_eq]; omega
    clear hq
    go_enter Tryd.func16, Tryd.ntmps16
    go_wp2
    go_ret
    exact ⟨rfl, ext1 _ _⟩
  by_cases h1 : k ≤ 60
  case neg =>
    obtain rfl : q = false := by rw [← hq, Bool.eq_false_iff]; simp only [ne_eq, Bool.and_eq_true, decide_eq_true_eq]; omega
    clear hq
    go_enter Tryd.func16, Tryd.ntmps16
    go_wp2
    go_ret
    exact ⟨rfl, ext1 _ _⟩
  by_cases h2 : 0 ≤ l
  case neg =>
    obtain rfl : q = false := by rw [← hq, Bool.eq_false_iff]; simp only [ne_eq, Bool.and_eq_true, decide_eq_true_eq]; omega
    clear hq
    go_enter Tryd.func16, Tryd.ntmps16
    go_wp2
    go_ret
    exact ⟨rfl, ext1 _ _⟩
  by_cases h3 : l ≤ 40000
  case neg =>
    obtain rfl : q = false := by rw [← hq, Bool.eq_false_iff]; simp only [ne_eq, Bool.and_eq_true, decide_eq_true_eq]; omega
    clear hq
    go_enter Tryd.func16, Tryd.ntmps16
    go_wp2
    go_ret
    exact ⟨rfl, ext1 _ _⟩
  by_cases h4 : 1 ≤ c
  case neg =>
    obtain rfl : q = false := by rw [← hq, Bool.eq_false_iff]; simp only [ne_eq, Bool.and_eq_true, decide_eq_true_eq]; omega
    clear hq
    go_enter Tryd.func16, Tryd.ntmps16
    go_wp2
    go_ret
    exact ⟨rfl, ext1 _ _⟩
  by_cases h5 : c ≤ 3
  case neg =>
    obtain rfl : q = false := by rw [← hq, Bool.eq_false_iff]; simp only [ne_eq, Bool.and_eq_true, decide_eq_true_eq]; omega
    clear hq
    go_enter Tryd.func16, Tryd.ntmps16
    go_wp2
    go_ret
    exact ⟨rfl, ext1 _ _⟩
  by_cases h6 : 0 ≤ e
  case neg =>
    obtain rfl : q = false := by rw [← hq, Bool.eq_false_iff]; simp only [ne_eq, Bool.and_eq_true, decide_eq_true_eq]; omega
    clear hq
    go_enter Tryd.func16, Tryd.ntmps16
    go_wp2
    go_ret
    exact ⟨rfl, ext1 _ _⟩
  by_cases h7 : e ≤ 255
  case neg =>
    obtain rfl : q = false := by rw [← hq, Bool.eq_false_iff]; simp only [ne_eq, Bool.and_eq_true, decide_eq_true_eq]; omega
    clear hq
    go_enter Tryd.func16, Tryd.ntmps16
    go_wp2
    go_ret
    exact ⟨rfl, ext1 _ _⟩
  obtain rfl : q = true := by rw [← hq]; simp only [Bool.and_eq_true, decide_eq_true_eq]; omega
  clear hq
  go_enter Tryd.func16, Tryd.ntmps16
  go_wp2
  go_ret
  exact ⟨rfl, ext1 _ _⟩
theorem rright_is (m : MkR) (w : World) : Calls Tryd.prog 16 #[mkV m] w fun e w' => e = .returned (.bool (rightM m)) ∧ Ext w w' := rright_of m _ rfl w
theorem rturn_is (x : Int) (w : World) : Calls Tryd.prog 18 #[.int .i64 x] w fun e w' => e = .returned (.int .i64 (turnV x)) ∧ w = w' := by
  by_cases h1 : x < 0
  · rw [show turnV x = 0 by unfold turnV; rw [if_neg (by omega)]]
    go_enter Tryd.func18, Tryd.ntmps18
    go_wp2
    go_ret
    exact ⟨rfl, rfl⟩
  · by_cases h2 : 255 ≤ x
    · rw [show turnV x = 0 by unfold turnV; rw [if_neg (by omega)]]
      go_enter Tryd.func18, Tryd.ntmps18
      go_wp2
      go_ret
      exact ⟨rfl, rfl⟩
    · rw [show turnV x = x + 1 by unfold turnV; rw [if_pos (by omega)]]
      go_enter Tryd.func18, Tryd.ntmps18
      go_wp2
      go_ret
      exact ⟨rfl, rfl⟩
end
end H
end Go.Proofs.YtfpefffgegphnaaDoor
