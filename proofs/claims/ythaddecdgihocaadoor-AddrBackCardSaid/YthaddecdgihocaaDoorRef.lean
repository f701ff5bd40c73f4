/- The document's own functions of layer 1, in the form of the program's contracts. -/
import Derived.Test.YthaddecdgihocaaDoorAddr2
namespace Go.Proofs.YthaddecdgihocaaDoor
open Go.RowKit Go

theorem ret_three {a b c a' b' : Int} (h : a = a') (h' : b = b') : Ending.returned (.tuple #[.int .i64 a, .int .i64 b, .int .i64 c]) = .returned (.tuple #[.int .i64 a', .int .i64 b', .int .i64 c]) := by rw [h, h']
theorem ret_four {a b c d a' b' c' : Int} (h : a = a') (h' : b = b') (h2 : c = c') : Ending.returned (.tuple #[.int .i64 a, .int .i64 b, .int .i64 c, .int .i64 d]) = .returned (.tuple #[.int .i64 a', .int .i64 b', .int .i64 c', .int .i64 d]) := by rw [h, h', h2]

theorem r_right_ok (a : Int) (h0 : 0 ≤ a) (h1 : a < 131072) (w : World) : Calls Tryd.prog 17 #[.int .i64 a] w fun e w' => e = .returned (.bool true) ∧ w = w' := by
  go_enter Tryd.func17, Tryd.ntmps17
  go_wp2
  go_ret
  exact ⟨rfl, rfl⟩
theorem r_right_no (a : Int) (h : a < 0 ∨ 131072 ≤ a) (w : World) : Calls Tryd.prog 17 #[.int .i64 a] w fun e w' => e = .returned (.bool false) ∧ w = w' := by
  rcases h with h | h
  all_goals
    try have hd : decide (a < 131072) = false := by simpa using h
    go_enter Tryd.func17, Tryd.ntmps17
    go_wp2
    go_ret
    exact ⟨rfl, rfl⟩
theorem right_ok (a : Int) (h0 : 0 ≤ a) (h1 : a < 131072) (w : World) : Calls Tryd.prog 16 #[.int .i64 a] w fun e w' => e = .returned (.bool true) ∧ w = w' := by
  have := right_any a w; rwa [show (decide (0 ≤ a) && decide (a < 131072)) = true by simp [h0, h1]] at this
theorem right_no (a : Int) (h : a < 0 ∨ 131072 ≤ a) (w : World) : Calls Tryd.prog 16 #[.int .i64 a] w fun e w' => e = .returned (.bool false) ∧ w = w' := by
  have := right_any a w; rwa [show (decide (0 ≤ a) && decide (a < 131072)) = false by rw [Bool.eq_false_iff]; simp; omega] at this
theorem r_size_ok (n : Int) (h0 : 1 ≤ n) (h1 : n ≤ 131072) (w : World) : Calls Tryd.prog 37 #[.int .i64 n] w fun e w' => e = .returned (.bool true) ∧ w = w' := by
  go_enter Tryd.func37, Tryd.ntmps37
  go_wp2
  go_ret
  exact ⟨rfl, rfl⟩
theorem r_size_no (n : Int) (h : n < 1 ∨ 131072 < n) (w : World) : Calls Tryd.prog 37 #[.int .i64 n] w fun e w' => e = .returned (.bool false) ∧ w = w' := by
  rcases h with h | h
  all_goals
    try have hd : decide (n ≤ 131072) = false := by simpa using h
    go_enter Tryd.func37, Tryd.ntmps37
    go_wp2
    go_ret
    exact ⟨rfl, rfl⟩

set_option maxHeartbeats 1000000 in
theorem r_split_ok (a : Int) (h0 : 0 ≤ a) (h1 : a < 131072) (w : World) : Calls Tryd.prog 13 #[.int .i64 a] w fun e w' => e = .returned (.tuple #[.int .i64 (a / 4096), .int .i64 (a % 4096 / 128), .int .i64 (a % 128), .int .i64 0]) ∧ w = w' := by
  go_enter Tryd.func13, Tryd.ntmps13
  go_wp2_with (go_at_call 17; refine (r_right_ok _ (by omega) (by omega) _).mono ?_; rintro e w' ⟨rfl, rfl⟩)
  refine bodyPost_ret (v := .tuple #[.int .i64 (a / 4096), .int .i64 (a % 4096 / 128), .int .i64 (a % 128), .int .i64 0]) (by simp [results, Tryd.results13, go_sem]) rfl ?_
  exact ⟨rfl, rfl⟩

set_option maxHeartbeats 1000000 in
theorem r_split_no (a : Int) (h : a < 0 ∨ 131072 ≤ a) (w : World) : Calls Tryd.prog 13 #[.int .i64 a] w fun e w' => e = .returned (.tuple #[.int .i64 0, .int .i64 0, .int .i64 0, .int .i64 10]) ∧ w = w' := by
  go_enter Tryd.func13, Tryd.ntmps13
  go_wp2_with (go_at_call 17; refine (r_right_no _ (by omega) _).mono ?_; rintro e w' ⟨rfl, rfl⟩)
  refine bodyPost_ret (v := .tuple #[.int .i64 0, .int .i64 0, .int .i64 0, .int .i64 10]) (by simp [results, Tryd.results13, go_sem]) rfl ?_
  exact ⟨rfl, rfl⟩

set_option maxHeartbeats 1000000 in
theorem r_join_ok (x y z : Int) (hx : 0 ≤ x ∧ x < 32) (hy : 0 ≤ y ∧ y < 32) (hz : 0 ≤ z ∧ z < 128) (w : World) : Calls Tryd.prog 15 #[.int .i64 x, .int .i64 y, .int .i64 z] w fun e w' => e = .returned (.tuple #[.int .i64 (x * 4096 + y * 128 + z), .int .i64 0]) ∧ w = w' := by
  obtain ⟨hx1, hx2⟩ := hx
  obtain ⟨hy1, hy2⟩ := hy
  obtain ⟨hz1, hz2⟩ := hz
  go_enter Tryd.func15, Tryd.ntmps15
  go_wp2_with (fail)
  go_ret2
  exact ⟨ret_two (by omega), rfl⟩

set_option maxHeartbeats 1000000 in
theorem r_join_no (x y z : Int) (h : x < 0 ∨ 32 ≤ x ∨ y < 0 ∨ 32 ≤ y ∨ z < 0 ∨ 128 ≤ z) (w : World) : Calls Tryd.prog 15 #[.int .i64 x, .int .i64 y, .int .i64 z] w fun e w' => e = .returned (.tuple #[.int .i64 0, .int .i64 10]) ∧ w = w' := by
  go_enter Tryd.func15, Tryd.ntmps15
  go_wp2
  all_goals first
    | (go_ret2; exact ⟨rfl, rfl⟩)
    | omega

set_option maxHeartbeats 1000000 in
theorem r_span_ok (a n : Int) (h0 : 1 ≤ n) (h1 : 0 ≤ a) (h2 : a < 131072) (h3 : n ≤ 131072 - a) (w : World) : Calls Tryd.prog 29 #[.int .i64 a, .int .i64 n] w fun e w' => e = .returned (.tuple #[.int .i64 (a / 4096 * 32 + a % 4096 / 128), .int .i64 ((a + n - 1) / 4096 * 32 + (a + n - 1) % 4096 / 128), .int .i64 0]) ∧ w = w' := by
  go_enter Tryd.func29, Tryd.ntmps29
  go_wp2_with (go_at_call 17; refine (r_right_ok _ (by omega) (by omega) _).mono ?_; rintro e w' ⟨rfl, rfl⟩)
  go_ret3
  exact ⟨ret_three (by omega) (by omega), rfl⟩

set_option maxHeartbeats 1000000 in
theorem r_span_no1 (a n : Int) (h : a < 0 ∨ 131072 ≤ a) (w : World) : Calls Tryd.prog 29 #[.int .i64 a, .int .i64 n] w fun e w' => e = .returned (.tuple #[.int .i64 0, .int .i64 0, .int .i64 10]) ∧ w = w' := by
  go_enter Tryd.func29, Tryd.ntmps29
  go_wp2_with (go_at_call 17; refine (r_right_no _ (by omega) _).mono ?_; rintro e w' ⟨rfl, rfl⟩)
  go_ret3
  exact ⟨rfl, rfl⟩

set_option maxHeartbeats 1000000 in
theorem r_span_no2 (a n : Int) (h1 : 0 ≤ a) (h2 : a < 131072) (h : n < 1 ∨ 131072 - a < n) (w : World) : Calls Tryd.prog 29 #[.int .i64 a, .int .i64 n] w fun e w' => e = .returned (.tuple #[.int .i64 0, .int .i64 0, .int .i64 10]) ∧ w = w' := by
  rcases h with h | h
  all_goals
    go_enter Tryd.func29, Tryd.ntmps29
    go_wp2_with (go_at_call 17; refine (r_right_ok _ (by omega) (by omega) _).mono ?_; rintro e w' ⟨rfl, rfl⟩)
    go_ret3
    exact ⟨rfl, rfl⟩

set_option maxHeartbeats 1000000 in
theorem r_round_ok (n : Int) (h0 : 1 ≤ n) (h1 : n ≤ 131072) (w : World) : Calls Tryd.prog 19 #[.int .i64 n] w fun e w' => e = .returned (.tuple #[.int .i64 ((n + 7) / 8 * 8), .int .i64 0]) ∧ w = w' := by
  go_enter Tryd.func19, Tryd.ntmps19
  go_wp2_with (go_at_call 37; refine (r_size_ok _ (by omega) (by omega) _).mono ?_; rintro e w' ⟨rfl, rfl⟩)
  go_ret2
  exact ⟨ret_two (by omega), rfl⟩

set_option maxHeartbeats 1000000 in
theorem r_round_no (n : Int) (h : n < 1 ∨ 131072 < n) (w : World) : Calls Tryd.prog 19 #[.int .i64 n] w fun e w' => e = .returned (.tuple #[.int .i64 0, .int .i64 11]) ∧ w = w' := by
  go_enter Tryd.func19, Tryd.ntmps19
  go_wp2_with (go_at_call 37; refine (r_size_no _ (by omega) _).mono ?_; rintro e w' ⟨rfl, rfl⟩)
  go_ret2
  exact ⟨rfl, rfl⟩

set_option maxHeartbeats 1000000 in
theorem r_blocks_ok (n : Int) (h0 : 1 ≤ n) (h1 : n ≤ 131072) (w : World) : Calls Tryd.prog 23 #[.int .i64 n] w fun e w' => e = .returned (.tuple #[.int .i64 ((n + 4095) / 4096), .int .i64 0]) ∧ w = w' := by
  go_enter Tryd.func23, Tryd.ntmps23
  go_wp2_with (go_at_call 37; refine (r_size_ok _ (by omega) (by omega) _).mono ?_; rintro e w' ⟨rfl, rfl⟩)
  go_ret2
  exact ⟨ret_two (by omega), rfl⟩

set_option maxHeartbeats 1000000 in
theorem r_blocks_no (n : Int) (h : n < 1 ∨ 131072 < n) (w : World) : Calls Tryd.prog 23 #[.int .i64 n] w fun e w' => e = .returned (.tuple #[.int .i64 0, .int .i64 11]) ∧ w = w' := by
  go_enter Tryd.func23, Tryd.ntmps23
  go_wp2_with (go_at_call 37; refine (r_size_no _ (by omega) _).mono ?_; rintro e w' ⟨rfl, rfl⟩)
  go_ret2
  exact ⟨rfl, rfl⟩

set_option maxHeartbeats 1000000 in
theorem r_class_no (n : Int) (h : n < 1 ∨ 131072 < n) (w : World) : Calls Tryd.prog 21 #[.int .i64 n] w fun e w' => e = .returned (.tuple #[.int .i64 0, .int .i64 11]) ∧ w = w' := by
  go_enter Tryd.func21, Tryd.ntmps21
  go_wp2_with (go_at_call 37; refine (r_size_no _ (by omega) _).mono ?_; rintro e w' ⟨rfl, rfl⟩)
  go_ret2
  exact ⟨rfl, rfl⟩

set_option maxHeartbeats 1000000 in
theorem r_class_ok (n : Int) (h0 : 1 ≤ n) (h1 : n ≤ 131072) (w : World) : Calls Tryd.prog 21 #[.int .i64 n] w fun e w' => e = .returned (.tuple #[.int .i64 (cls n), .int .i64 0]) ∧ w = w' := by
  go_enter Tryd.func21, Tryd.ntmps21
  go_wp2_with (go_at_call 37; refine (r_size_ok _ (by omega) (by omega) _).mono ?_; rintro e w' ⟨rfl, rfl⟩)
  all_goals
    go_ret2
    refine ⟨ret_two ?_, rfl⟩
    unfold cls
    first
      | (rw [if_pos (by omega)])
      | (rw [if_neg (by omega), if_pos (by omega)])
      | (rw [if_neg (by omega), if_neg (by omega), if_pos (by omega)])

set_option maxHeartbeats 1000000 in
theorem r_ref_ok (a : Int) (h0 : 0 ≤ a) (h1 : a < 131072) (h2 : a % 8 = 0) (w : World) : Calls Tryd.prog 25 #[.int .i64 a] w fun e w' => e = .returned (.tuple #[.int .i64 (a / 8 + 1), .int .i64 0]) ∧ w = w' := by
  go_enter Tryd.func25, Tryd.ntmps25
  go_wp2_with (go_at_call 17; refine (r_right_ok _ (by omega) (by omega) _).mono ?_; rintro e w' ⟨rfl, rfl⟩)
  go_ret2
  exact ⟨rfl, rfl⟩

set_option maxHeartbeats 1000000 in
theorem r_ref_no1 (a : Int) (h : a < 0 ∨ 131072 ≤ a) (w : World) : Calls Tryd.prog 25 #[.int .i64 a] w fun e w' => e = .returned (.tuple #[.int .i64 0, .int .i64 10]) ∧ w = w' := by
  go_enter Tryd.func25, Tryd.ntmps25
  go_wp2_with (go_at_call 17; refine (r_right_no _ (by omega) _).mono ?_; rintro e w' ⟨rfl, rfl⟩)
  go_ret2
  exact ⟨rfl, rfl⟩

set_option maxHeartbeats 1000000 in
theorem r_ref_no2 (a : Int) (h0 : 0 ≤ a) (h1 : a < 131072) (h2 : ¬ a % 8 = 0) (w : World) : Calls Tryd.prog 25 #[.int .i64 a] w fun e w' => e = .returned (.tuple #[.int .i64 0, .int .i64 10]) ∧ w = w' := by
  go_enter Tryd.func25, Tryd.ntmps25
  go_wp2_with (go_at_call 17; refine (r_right_ok _ (by omega) (by omega) _).mono ?_; rintro e w' ⟨rfl, rfl⟩)
  go_ret2
  exact ⟨rfl, rfl⟩

set_option maxHeartbeats 1000000 in
theorem r_addr_ok (r : Int) (h0 : 1 ≤ r) (h1 : r ≤ 16384) (w : World) : Calls Tryd.prog 27 #[.int .i64 r] w fun e w' => e = .returned (.tuple #[.int .i64 ((r - 1) * 8), .int .i64 0]) ∧ w = w' := by
  go_enter Tryd.func27, Tryd.ntmps27
  go_wp2_with (fail)
  go_ret2
  exact ⟨ret_two (by omega), rfl⟩

set_option maxHeartbeats 1000000 in
theorem r_addr_no (r : Int) (h : r < 1 ∨ 16384 < r) (w : World) : Calls Tryd.prog 27 #[.int .i64 r] w fun e w' => e = .returned (.tuple #[.int .i64 0, .int .i64 12]) ∧ w = w' := by
  rcases h with h | h
  all_goals
    go_enter Tryd.func27, Tryd.ntmps27
    go_wp2_with (fail)
    go_ret2
    exact ⟨rfl, rfl⟩
end Go.Proofs.YthaddecdgihocaaDoor
