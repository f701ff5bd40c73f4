/- The laws of layer 1, walked: each returns true. Written by gen_laws.py. -/
import Derived.Test.YthaddecdgihocaaDoorRef
namespace Go.Proofs.YthaddecdgihocaaDoor
open Go.RowKit Go
section
variable {a0 a2 a3 : Addr}

set_option maxRecDepth 100000 in
set_option maxHeartbeats 2000000 in
theorem shown_any (w : World) (hG : G a0 a2 a3 w) :
    Calls Tryd.prog 11 #[] w fun e w' => e = .returned (.bool true) ∧ Ext w w' := by
  have H := Lib.hid hG
  have hE := Ext.refl w
  have hc : cls 129 = 2 := rfl
  clear hG
  have C0 := Lib.hid (split_ok (a0 := a0) (a2 := a2) (a3 := a3) 8580 (by decide) (by decide))
  have C1 := Lib.hid (join_ok (a0 := a0) (a2 := a2) (a3 := a3) 2 3 4 (by decide) (by decide) (by decide))
  have C2 := Lib.hid (class_ok (a0 := a0) (a2 := a2) (a3 := a3) 129 (by decide) (by decide))
  have C3 := Lib.hid (ref_no (a0 := a0) (a2 := a2) (a3 := a3) 4 (by decide))
  have C4 := Lib.hid (round_no (a0 := a0) (a2 := a2) (a3 := a3) 0 (by decide))
  go_enter Tryd.func11, Tryd.ntmps11
  go_wp2_with (first | (go_at_call 12; first | ((with_reducible refine (C0.out _ (H.out.ext hE)).mono ?_); rintro e w1 ⟨rfl, h1⟩; replace hE := hE.trans h1; clear h1)) | (go_at_call 14; first | ((with_reducible refine (C1.out _ (H.out.ext hE)).mono ?_); rintro e w1 ⟨rfl, h1⟩; replace hE := hE.trans h1; clear h1)) | (go_at_call 20; first | ((with_reducible refine (C2.out _ (H.out.ext hE)).mono ?_); rintro e w1 ⟨rfl, h1⟩; replace hE := hE.trans h1; clear h1)) | (go_at_call 24; first | ((with_reducible refine (C3.out _ (H.out.ext hE)).mono ?_); rintro e w1 ⟨rfl, h1⟩; replace hE := hE.trans h1; clear h1)) | (go_at_call 18; first | ((with_reducible refine (C4.out _ (H.out.ext hE)).mono ?_); rintro e w1 ⟨rfl, h1⟩; replace hE := hE.trans h1; clear h1)))
  go_ret
  exact ⟨rfl, hE⟩

theorem placeB_no (x y z : Int) (h : ¬ ((0 ≤ x ∧ x < 32) ∧ (0 ≤ y ∧ y < 32) ∧ (0 ≤ z ∧ z < 128))) : placeB x y z = false := by
  rw [Bool.eq_false_iff]; intro hp; simp only [placeB, Bool.and_eq_true, decide_eq_true_eq] at hp; omega

/- contracts at particular arguments -/
theorem join_back (a : Int) (h0 : 0 ≤ a) (h1 : a < 131072) (w : World) (hG : G a0 a2 a3 w) :
    Calls Tryd.prog 14 #[.int .i64 (a / 4096), .int .i64 (a % 4096 / 128), .int .i64 (a % 128)] w fun e w' => e = .returned (.tuple #[.int .i64 a, .int .i64 0]) ∧ Ext w w' :=
  (join_ok _ _ _ (by omega) (by omega) (by omega) w hG).mono fun _ _ ⟨he, hw⟩ => ⟨by rw [he]; exact ret_two (by omega), hw⟩
theorem join_zero (w : World) (hG : G a0 a2 a3 w) :
    Calls Tryd.prog 14 #[.int .i64 0, .int .i64 0, .int .i64 0] w fun e w' => e = .returned (.tuple #[.int .i64 0, .int .i64 0]) ∧ Ext w w' :=
  (join_ok _ _ _ (by omega) (by omega) (by omega) w hG).mono fun _ _ ⟨he, hw⟩ => ⟨by rw [he]; exact ret_two (by omega), hw⟩
theorem split_back (x y z : Int) (hx : 0 ≤ x ∧ x < 32) (hy : 0 ≤ y ∧ y < 32) (hz : 0 ≤ z ∧ z < 128) (w : World) (hG : G a0 a2 a3 w) :
    Calls Tryd.prog 12 #[.int .i64 (x * 4096 + y * 128 + z)] w fun e w' => e = .returned (.tuple #[.int .i64 x, .int .i64 y, .int .i64 z, .int .i64 0]) ∧ Ext w w' :=
  (split_ok _ (by omega) (by omega) w hG).mono fun _ _ ⟨he, hw⟩ => ⟨by rw [he]; exact ret_four (by omega) (by omega) (by omega), hw⟩
theorem split_zero (w : World) (hG : G a0 a2 a3 w) :
    Calls Tryd.prog 12 #[.int .i64 0] w fun e w' => e = .returned (.tuple #[.int .i64 0, .int .i64 0, .int .i64 0, .int .i64 0]) ∧ Ext w w' :=
  (split_ok _ (by omega) (by omega) w hG).mono fun _ _ ⟨he, hw⟩ => ⟨by rw [he]; exact ret_four (by omega) (by omega) (by omega), hw⟩
theorem addr_back (a : Int) (h0 : 0 ≤ a) (h1 : a < 131072) (h2 : a % 8 = 0) (w : World) (hG : G a0 a2 a3 w) :
    Calls Tryd.prog 26 #[.int .i64 (a / 8 + 1)] w fun e w' => e = .returned (.tuple #[.int .i64 a, .int .i64 0]) ∧ Ext w w' :=
  (addr_ok _ (by omega) (by omega) w hG).mono fun _ _ ⟨he, hw⟩ => ⟨by rw [he]; exact ret_two (by omega), hw⟩
theorem ref_back (r : Int) (h0 : 1 ≤ r) (h1 : r ≤ 16384) (w : World) (hG : G a0 a2 a3 w) :
    Calls Tryd.prog 24 #[.int .i64 ((r - 1) * 8)] w fun e w' => e = .returned (.tuple #[.int .i64 r, .int .i64 0]) ∧ Ext w w' :=
  (ref_ok _ (by omega) (by omega) (by omega) w hG).mono fun _ _ ⟨he, hw⟩ => ⟨by rw [he]; exact ret_two (by omega), hw⟩
theorem ref_zero (w : World) (hG : G a0 a2 a3 w) :
    Calls Tryd.prog 24 #[.int .i64 0] w fun e w' => e = .returned (.tuple #[.int .i64 1, .int .i64 0]) ∧ Ext w w' :=
  (ref_ok _ (by omega) (by omega) (by omega) w hG).mono fun _ _ ⟨he, hw⟩ => ⟨by rw [he]; exact ret_two (by omega), hw⟩
theorem ref_next (a : Int) (h0 : 0 ≤ a) (h1 : a < 131064) (h2 : a % 8 = 0) (w : World) (hG : G a0 a2 a3 w) :
    Calls Tryd.prog 24 #[.int .i64 (a + 8)] w fun e w' => e = .returned (.tuple #[.int .i64 (a / 8 + 1 + 1), .int .i64 0]) ∧ Ext w w' :=
  (ref_ok _ (by omega) (by omega) (by omega) w hG).mono fun _ _ ⟨he, hw⟩ => ⟨by rw [he]; exact ret_two (by omega), hw⟩
def ln (a : Int) : Int := 32 * (a / 4096) + a % 4096 / 128
theorem span_ln (a n : Int) (g0 : 1 ≤ n) (g1 : 0 ≤ a) (g2 : a < 131072) (g3 : n ≤ 131072 - a) (w : World) (hG : G a0 a2 a3 w) :
    Calls Tryd.prog 28 #[.int .i64 a, .int .i64 n] w fun e w' => e = .returned (.tuple #[.int .i64 (32 * (a / 4096) + a % 4096 / 128), .int .i64 (32 * ((a + n - 1) / 4096) + (a + n - 1) % 4096 / 128), .int .i64 0]) ∧ Ext w w' :=
  (span_ok _ _ g0 g1 g2 g3 w hG).mono fun _ _ ⟨he, hw⟩ => ⟨by rw [he]; exact ret_three (by omega) (by omega), hw⟩
theorem span_one (a : Int) (g1 : 0 ≤ a) (g2 : a < 131072) (w : World) (hG : G a0 a2 a3 w) :
    Calls Tryd.prog 28 #[.int .i64 a, .int .i64 1] w fun e w' => e = .returned (.tuple #[.int .i64 (ln a), .int .i64 (ln a), .int .i64 0]) ∧ Ext w w' :=
  (span_ok _ _ (by omega) g1 g2 (by omega) w hG).mono fun _ _ ⟨he, hw⟩ => ⟨by rw [he]; exact ret_three (by unfold ln; omega) (by unfold ln; omega), hw⟩
theorem round_back (n : Int) (g1 : 1 ≤ n) (g2 : n ≤ 131072) (w : World) (hG : G a0 a2 a3 w) :
    Calls Tryd.prog 18 #[.int .i64 ((n + 7) / 8 * 8)] w fun e w' => e = .returned (.tuple #[.int .i64 ((n + 7) / 8 * 8), .int .i64 0]) ∧ Ext w w' :=
  (round_ok _ (by omega) (by omega) w hG).mono fun _ _ ⟨he, hw⟩ => ⟨by rw [he]; exact ret_two (by omega), hw⟩
theorem cls_is (n c : Int) (h : (1 ≤ n ∧ n ≤ 128 ∧ c = 1) ∨ (129 ≤ n ∧ n ≤ 2048 ∧ c = 2) ∨ (2049 ≤ n ∧ n ≤ 131072 ∧ c = 3)) : cls n = c := by
  unfold cls
  rcases h with ⟨h1, h2, rfl⟩ | ⟨h1, h2, rfl⟩ | ⟨h1, h2, rfl⟩
  · rw [if_pos (by omega)]
  · rw [if_neg (by omega), if_pos (by omega)]
  · rw [if_neg (by omega), if_neg (by omega), if_pos (by omega)]
theorem class_is (n c : Int) (h : (1 ≤ n ∧ n ≤ 128 ∧ c = 1) ∨ (129 ≤ n ∧ n ≤ 2048 ∧ c = 2) ∨ (2049 ≤ n ∧ n ≤ 131072 ∧ c = 3)) (w : World) (hG : G a0 a2 a3 w) :
    Calls Tryd.prog 20 #[.int .i64 n] w fun e w' => e = .returned (.tuple #[.int .i64 c, .int .i64 0]) ∧ Ext w w' :=
  (class_ok n (by omega) (by omega) w hG).mono fun _ _ ⟨he, hw⟩ => ⟨by rw [he]; exact ret_two (cls_is n c h), hw⟩
theorem blocks_is (n c : Int) (g1 : 1 ≤ n) (g2 : n ≤ 131072) (h : (n + 4095) / 4096 = c) (w : World) (hG : G a0 a2 a3 w) :
    Calls Tryd.prog 22 #[.int .i64 n] w fun e w' => e = .returned (.tuple #[.int .i64 c, .int .i64 0]) ∧ Ext w w' :=
  (blocks_ok n g1 g2 w hG).mono fun _ _ ⟨he, hw⟩ => ⟨by rw [he]; exact ret_two h, hw⟩

set_option maxRecDepth 100000 in
set_option maxHeartbeats 4000000 in
theorem places_walk (a x y z : Int) (w : World) (hG : G a0 a2 a3 w) :
    Calls Tryd.prog 3 #[.int .i64 a, .int .i64 x, .int .i64 y, .int .i64 z] w fun e w' => e = .returned (.bool true) ∧ Ext w w' := by
  have S := Lib.hid (fun W h => shown_any (a0 := a0) (a2 := a2) (a3 := a3) W h)
  have H := Lib.hid hG
  have hE := Ext.refl w
  clear hG
  rcases (show (0 ≤ a ∧ a < 131072) ∨ (a < 0 ∨ 131072 ≤ a) by omega) with ⟨h0, h1⟩ | h
  · by_cases hp : (0 ≤ x ∧ x < 32) ∧ (0 ≤ y ∧ y < 32) ∧ (0 ≤ z ∧ z < 128)
    · obtain ⟨hx, hy, hz⟩ := hp
      have C0 := Lib.hid (split_ok (a0 := a0) (a2 := a2) (a3 := a3) a h0 h1)
      have C1 := Lib.hid (r_split_ok a h0 h1)
      have C2 := Lib.hid (right_ok a h0 h1)
      have C3 := Lib.hid (r_right_ok a h0 h1)
      have C4 := Lib.hid (join_ok (a0 := a0) (a2 := a2) (a3 := a3) x y z hx hy hz)
      have C5 := Lib.hid (r_join_ok x y z hx hy hz)
      clear hx hy hz
      go_enter Tryd.func3, Tryd.ntmps3
      go_wp2_with (first | (go_at_call 11; refine (S.out _ (H.out.ext hE)).mono ?_; rintro e w1 ⟨rfl, h1⟩; replace hE := hE.trans h1; clear h1) | (go_at_call 12; first | ((with_reducible refine (C0.out _ (H.out.ext hE)).mono ?_); rintro e w1 ⟨rfl, h1⟩; replace hE := hE.trans h1; clear h1)) | (go_at_call 13; first | ((with_reducible refine (C1.out _).mono ?_); rintro e w1 ⟨rfl, rfl⟩)) | (go_at_call 16; first | ((with_reducible refine (C2.out _).mono ?_); rintro e w1 ⟨rfl, rfl⟩)) | (go_at_call 17; first | ((with_reducible refine (C3.out _).mono ?_); rintro e w1 ⟨rfl, rfl⟩)) | (go_at_call 14; first | ((with_reducible refine (C4.out _ (H.out.ext hE)).mono ?_); rintro e w1 ⟨rfl, h1⟩; replace hE := hE.trans h1; clear h1)) | (go_at_call 15; first | ((with_reducible refine (C5.out _).mono ?_); rintro e w1 ⟨rfl, rfl⟩)))
      go_ret
      exact ⟨rfl, hE⟩
    · have C0 := Lib.hid (split_ok (a0 := a0) (a2 := a2) (a3 := a3) a h0 h1)
      have C1 := Lib.hid (r_split_ok a h0 h1)
      have C2 := Lib.hid (right_ok a h0 h1)
      have C3 := Lib.hid (r_right_ok a h0 h1)
      have C4 := Lib.hid (join_no (a0 := a0) (a2 := a2) (a3 := a3) x y z (placeB_no x y z hp))
      have C5 := Lib.hid (r_join_no x y z (by omega))
      clear hp
      go_enter Tryd.func3, Tryd.ntmps3
      go_wp2_with (first | (go_at_call 11; refine (S.out _ (H.out.ext hE)).mono ?_; rintro e w1 ⟨rfl, h1⟩; replace hE := hE.trans h1; clear h1) | (go_at_call 12; first | ((with_reducible refine (C0.out _ (H.out.ext hE)).mono ?_); rintro e w1 ⟨rfl, h1⟩; replace hE := hE.trans h1; clear h1)) | (go_at_call 13; first | ((with_reducible refine (C1.out _).mono ?_); rintro e w1 ⟨rfl, rfl⟩)) | (go_at_call 16; first | ((with_reducible refine (C2.out _).mono ?_); rintro e w1 ⟨rfl, rfl⟩)) | (go_at_call 17; first | ((with_reducible refine (C3.out _).mono ?_); rintro e w1 ⟨rfl, rfl⟩)) | (go_at_call 14; first | ((with_reducible refine (C4.out _ (H.out.ext hE)).mono ?_); rintro e w1 ⟨rfl, h1⟩; replace hE := hE.trans h1; clear h1)) | (go_at_call 15; first | ((with_reducible refine (C5.out _).mono ?_); rintro e w1 ⟨rfl, rfl⟩)))
      go_ret
      exact ⟨rfl, hE⟩
  · by_cases hp : (0 ≤ x ∧ x < 32) ∧ (0 ≤ y ∧ y < 32) ∧ (0 ≤ z ∧ z < 128)
    · obtain ⟨hx, hy, hz⟩ := hp
      have C0 := Lib.hid (split_no (a0 := a0) (a2 := a2) (a3 := a3) a (by omega))
      have C1 := Lib.hid (r_split_no a h)
      have C2 := Lib.hid (right_no a h)
      have C3 := Lib.hid (r_right_no a h)
      have C4 := Lib.hid (join_ok (a0 := a0) (a2 := a2) (a3 := a3) x y z hx hy hz)
      have C5 := Lib.hid (r_join_ok x y z hx hy hz)
      clear hx hy hz
      go_enter Tryd.func3, Tryd.ntmps3
      go_wp2_with (first | (go_at_call 11; refine (S.out _ (H.out.ext hE)).mono ?_; rintro e w1 ⟨rfl, h1⟩; replace hE := hE.trans h1; clear h1) | (go_at_call 12; first | ((with_reducible refine (C0.out _ (H.out.ext hE)).mono ?_); rintro e w1 ⟨rfl, h1⟩; replace hE := hE.trans h1; clear h1)) | (go_at_call 13; first | ((with_reducible refine (C1.out _).mono ?_); rintro e w1 ⟨rfl, rfl⟩)) | (go_at_call 16; first | ((with_reducible refine (C2.out _).mono ?_); rintro e w1 ⟨rfl, rfl⟩)) | (go_at_call 17; first | ((with_reducible refine (C3.out _).mono ?_); rintro e w1 ⟨rfl, rfl⟩)) | (go_at_call 14; first | ((with_reducible refine (C4.out _ (H.out.ext hE)).mono ?_); rintro e w1 ⟨rfl, h1⟩; replace hE := hE.trans h1; clear h1)) | (go_at_call 15; first | ((with_reducible refine (C5.out _).mono ?_); rintro e w1 ⟨rfl, rfl⟩)))
      go_ret
      exact ⟨rfl, hE⟩
    · have C0 := Lib.hid (split_no (a0 := a0) (a2 := a2) (a3 := a3) a (by omega))
      have C1 := Lib.hid (r_split_no a h)
      have C2 := Lib.hid (right_no a h)
      have C3 := Lib.hid (r_right_no a h)
      have C4 := Lib.hid (join_no (a0 := a0) (a2 := a2) (a3 := a3) x y z (placeB_no x y z hp))
      have C5 := Lib.hid (r_join_no x y z (by omega))
      clear hp
      go_enter Tryd.func3, Tryd.ntmps3
      go_wp2_with (first | (go_at_call 11; refine (S.out _ (H.out.ext hE)).mono ?_; rintro e w1 ⟨rfl, h1⟩; replace hE := hE.trans h1; clear h1) | (go_at_call 12; first | ((with_reducible refine (C0.out _ (H.out.ext hE)).mono ?_); rintro e w1 ⟨rfl, h1⟩; replace hE := hE.trans h1; clear h1)) | (go_at_call 13; first | ((with_reducible refine (C1.out _).mono ?_); rintro e w1 ⟨rfl, rfl⟩)) | (go_at_call 16; first | ((with_reducible refine (C2.out _).mono ?_); rintro e w1 ⟨rfl, rfl⟩)) | (go_at_call 17; first | ((with_reducible refine (C3.out _).mono ?_); rintro e w1 ⟨rfl, rfl⟩)) | (go_at_call 14; first | ((with_reducible refine (C4.out _ (H.out.ext hE)).mono ?_); rintro e w1 ⟨rfl, h1⟩; replace hE := hE.trans h1; clear h1)) | (go_at_call 15; first | ((with_reducible refine (C5.out _).mono ?_); rintro e w1 ⟨rfl, rfl⟩)))
      go_ret
      exact ⟨rfl, hE⟩

set_option maxRecDepth 100000 in
set_option maxHeartbeats 4000000 in
theorem sizes_walk (n : Int) (w : World) (hG : G a0 a2 a3 w) :
    Calls Tryd.prog 4 #[.int .i64 n] w fun e w' => e = .returned (.bool true) ∧ Ext w w' := by
  have S := Lib.hid (fun W h => shown_any (a0 := a0) (a2 := a2) (a3 := a3) W h)
  have H := Lib.hid hG
  have hE := Ext.refl w
  clear hG
  rcases (show (1 ≤ n ∧ n ≤ 131072) ∨ (n < 1 ∨ 131072 < n) by omega) with ⟨h0, h1⟩ | h
  · have C0 := Lib.hid (round_ok (a0 := a0) (a2 := a2) (a3 := a3) n h0 h1)
    have C1 := Lib.hid (r_round_ok n h0 h1)
    have C2 := Lib.hid (class_ok (a0 := a0) (a2 := a2) (a3 := a3) n h0 h1)
    have C3 := Lib.hid (r_class_ok n h0 h1)
    have C4 := Lib.hid (blocks_ok (a0 := a0) (a2 := a2) (a3 := a3) n h0 h1)
    have C5 := Lib.hid (r_blocks_ok n h0 h1)
    go_enter Tryd.func4, Tryd.ntmps4
    go_wp2_with (first | (go_at_call 11; refine (S.out _ (H.out.ext hE)).mono ?_; rintro e w1 ⟨rfl, h1⟩; replace hE := hE.trans h1; clear h1) | (go_at_call 18; first | ((with_reducible refine (C0.out _ (H.out.ext hE)).mono ?_); rintro e w1 ⟨rfl, h1⟩; replace hE := hE.trans h1; clear h1)) | (go_at_call 19; first | ((with_reducible refine (C1.out _).mono ?_); rintro e w1 ⟨rfl, rfl⟩)) | (go_at_call 20; first | ((with_reducible refine (C2.out _ (H.out.ext hE)).mono ?_); rintro e w1 ⟨rfl, h1⟩; replace hE := hE.trans h1; clear h1)) | (go_at_call 21; first | ((with_reducible refine (C3.out _).mono ?_); rintro e w1 ⟨rfl, rfl⟩)) | (go_at_call 22; first | ((with_reducible refine (C4.out _ (H.out.ext hE)).mono ?_); rintro e w1 ⟨rfl, h1⟩; replace hE := hE.trans h1; clear h1)) | (go_at_call 23; first | ((with_reducible refine (C5.out _).mono ?_); rintro e w1 ⟨rfl, rfl⟩)))
    go_ret
    exact ⟨rfl, hE⟩
  · have C0 := Lib.hid (round_no (a0 := a0) (a2 := a2) (a3 := a3) n (by omega))
    have C1 := Lib.hid (r_round_no n h)
    have C2 := Lib.hid (class_no (a0 := a0) (a2 := a2) (a3 := a3) n (by omega))
    have C3 := Lib.hid (r_class_no n h)
    have C4 := Lib.hid (blocks_no (a0 := a0) (a2 := a2) (a3 := a3) n (by omega))
    have C5 := Lib.hid (r_blocks_no n h)
    go_enter Tryd.func4, Tryd.ntmps4
    go_wp2_with (first | (go_at_call 11; refine (S.out _ (H.out.ext hE)).mono ?_; rintro e w1 ⟨rfl, h1⟩; replace hE := hE.trans h1; clear h1) | (go_at_call 18; first | ((with_reducible refine (C0.out _ (H.out.ext hE)).mono ?_); rintro e w1 ⟨rfl, h1⟩; replace hE := hE.trans h1; clear h1)) | (go_at_call 19; first | ((with_reducible refine (C1.out _).mono ?_); rintro e w1 ⟨rfl, rfl⟩)) | (go_at_call 20; first | ((with_reducible refine (C2.out _ (H.out.ext hE)).mono ?_); rintro e w1 ⟨rfl, h1⟩; replace hE := hE.trans h1; clear h1)) | (go_at_call 21; first | ((with_reducible refine (C3.out _).mono ?_); rintro e w1 ⟨rfl, rfl⟩)) | (go_at_call 22; first | ((with_reducible refine (C4.out _ (H.out.ext hE)).mono ?_); rintro e w1 ⟨rfl, h1⟩; replace hE := hE.trans h1; clear h1)) | (go_at_call 23; first | ((with_reducible refine (C5.out _).mono ?_); rintro e w1 ⟨rfl, rfl⟩)))
    go_ret
    exact ⟨rfl, hE⟩

set_option maxRecDepth 100000 in
set_option maxHeartbeats 4000000 in
theorem refs_walk (a r n : Int) (w : World) (hG : G a0 a2 a3 w) :
    Calls Tryd.prog 5 #[.int .i64 a, .int .i64 r, .int .i64 n] w fun e w' => e = .returned (.bool true) ∧ Ext w w' := by
  have S := Lib.hid (fun W h => shown_any (a0 := a0) (a2 := a2) (a3 := a3) W h)
  have H := Lib.hid hG
  have hE := Ext.refl w
  clear hG
  rcases (show (0 ≤ a ∧ a < 131072) ∨ (a < 0 ∨ 131072 ≤ a) by omega) with ⟨h0, h1⟩ | h
  · by_cases h2 : a % 8 = 0
    · rcases (show (1 ≤ n ∧ n ≤ 131072 - a) ∨ (n < 1 ∨ 131072 - a < n) by omega) with ⟨n0, n1⟩ | hn
      · rcases (show (1 ≤ r ∧ r ≤ 16384) ∨ (r < 1 ∨ 16384 < r) by omega) with ⟨k0, k1⟩ | k
        · have C0 := Lib.hid (ref_ok (a0 := a0) (a2 := a2) (a3 := a3) a h0 h1 h2)
          have C1 := Lib.hid (r_ref_ok a h0 h1 h2)
          have C2 := Lib.hid (span_ok (a0 := a0) (a2 := a2) (a3 := a3) a n n0 h0 h1 n1)
          have C3 := Lib.hid (r_span_ok a n n0 h0 h1 n1)
          have C4 := Lib.hid (addr_ok (a0 := a0) (a2 := a2) (a3 := a3) r k0 k1)
          have C5 := Lib.hid (r_addr_ok r k0 k1)
          clear h2
          go_enter Tryd.func5, Tryd.ntmps5
          go_wp2_with (first | (go_at_call 11; refine (S.out _ (H.out.ext hE)).mono ?_; rintro e w1 ⟨rfl, h1⟩; replace hE := hE.trans h1; clear h1) | (go_at_call 24; first | ((with_reducible refine (C0.out _ (H.out.ext hE)).mono ?_); rintro e w1 ⟨rfl, h1⟩; replace hE := hE.trans h1; clear h1)) | (go_at_call 25; first | ((with_reducible refine (C1.out _).mono ?_); rintro e w1 ⟨rfl, rfl⟩)) | (go_at_call 28; first | ((with_reducible refine (C2.out _ (H.out.ext hE)).mono ?_); rintro e w1 ⟨rfl, h1⟩; replace hE := hE.trans h1; clear h1)) | (go_at_call 29; first | ((with_reducible refine (C3.out _).mono ?_); rintro e w1 ⟨rfl, rfl⟩)) | (go_at_call 26; first | ((with_reducible refine (C4.out _ (H.out.ext hE)).mono ?_); rintro e w1 ⟨rfl, h1⟩; replace hE := hE.trans h1; clear h1)) | (go_at_call 27; first | ((with_reducible refine (C5.out _).mono ?_); rintro e w1 ⟨rfl, rfl⟩)))
          go_ret
          exact ⟨rfl, hE⟩
        · have C0 := Lib.hid (ref_ok (a0 := a0) (a2 := a2) (a3 := a3) a h0 h1 h2)
          have C1 := Lib.hid (r_ref_ok a h0 h1 h2)
          have C2 := Lib.hid (span_ok (a0 := a0) (a2 := a2) (a3 := a3) a n n0 h0 h1 n1)
          have C3 := Lib.hid (r_span_ok a n n0 h0 h1 n1)
          have C4 := Lib.hid (addr_no (a0 := a0) (a2 := a2) (a3 := a3) r (by omega))
          have C5 := Lib.hid (r_addr_no r k)
          clear h2
          go_enter Tryd.func5, Tryd.ntmps5
          go_wp2_with (first | (go_at_call 11; refine (S.out _ (H.out.ext hE)).mono ?_; rintro e w1 ⟨rfl, h1⟩; replace hE := hE.trans h1; clear h1) | (go_at_call 24; first | ((with_reducible refine (C0.out _ (H.out.ext hE)).mono ?_); rintro e w1 ⟨rfl, h1⟩; replace hE := hE.trans h1; clear h1)) | (go_at_call 25; first | ((with_reducible refine (C1.out _).mono ?_); rintro e w1 ⟨rfl, rfl⟩)) | (go_at_call 28; first | ((with_reducible refine (C2.out _ (H.out.ext hE)).mono ?_); rintro e w1 ⟨rfl, h1⟩; replace hE := hE.trans h1; clear h1)) | (go_at_call 29; first | ((with_reducible refine (C3.out _).mono ?_); rintro e w1 ⟨rfl, rfl⟩)) | (go_at_call 26; first | ((with_reducible refine (C4.out _ (H.out.ext hE)).mono ?_); rintro e w1 ⟨rfl, h1⟩; replace hE := hE.trans h1; clear h1)) | (go_at_call 27; first | ((with_reducible refine (C5.out _).mono ?_); rintro e w1 ⟨rfl, rfl⟩)))
          go_ret
          exact ⟨rfl, hE⟩
      · rcases (show (1 ≤ r ∧ r ≤ 16384) ∨ (r < 1 ∨ 16384 < r) by omega) with ⟨k0, k1⟩ | k
        · have C0 := Lib.hid (ref_ok (a0 := a0) (a2 := a2) (a3 := a3) a h0 h1 h2)
          have C1 := Lib.hid (r_ref_ok a h0 h1 h2)
          have C2 := Lib.hid (span_no (a0 := a0) (a2 := a2) (a3 := a3) a n (by omega))
          have C3 := Lib.hid (r_span_no2 a n h0 h1 hn)
          have C4 := Lib.hid (addr_ok (a0 := a0) (a2 := a2) (a3 := a3) r k0 k1)
          have C5 := Lib.hid (r_addr_ok r k0 k1)
          clear h2
          go_enter Tryd.func5, Tryd.ntmps5
          go_wp2_with (first | (go_at_call 11; refine (S.out _ (H.out.ext hE)).mono ?_; rintro e w1 ⟨rfl, h1⟩; replace hE := hE.trans h1; clear h1) | (go_at_call 24; first | ((with_reducible refine (C0.out _ (H.out.ext hE)).mono ?_); rintro e w1 ⟨rfl, h1⟩; replace hE := hE.trans h1; clear h1)) | (go_at_call 25; first | ((with_reducible refine (C1.out _).mono ?_); rintro e w1 ⟨rfl, rfl⟩)) | (go_at_call 28; first | ((with_reducible refine (C2.out _ (H.out.ext hE)).mono ?_); rintro e w1 ⟨rfl, h1⟩; replace hE := hE.trans h1; clear h1)) | (go_at_call 29; first | ((with_reducible refine (C3.out _).mono ?_); rintro e w1 ⟨rfl, rfl⟩)) | (go_at_call 26; first | ((with_reducible refine (C4.out _ (H.out.ext hE)).mono ?_); rintro e w1 ⟨rfl, h1⟩; replace hE := hE.trans h1; clear h1)) | (go_at_call 27; first | ((with_reducible refine (C5.out _).mono ?_); rintro e w1 ⟨rfl, rfl⟩)))
          go_ret
          exact ⟨rfl, hE⟩
        · have C0 := Lib.hid (ref_ok (a0 := a0) (a2 := a2) (a3 := a3) a h0 h1 h2)
          have C1 := Lib.hid (r_ref_ok a h0 h1 h2)
          have C2 := Lib.hid (span_no (a0 := a0) (a2 := a2) (a3 := a3) a n (by omega))
          have C3 := Lib.hid (r_span_no2 a n h0 h1 hn)
          have C4 := Lib.hid (addr_no (a0 := a0) (a2 := a2) (a3 := a3) r (by omega))
          have C5 := Lib.hid (r_addr_no r k)
          clear h2
          go_enter Tryd.func5, Tryd.ntmps5
          go_wp2_with (first | (go_at_call 11; refine (S.out _ (H.out.ext hE)).mono ?_; rintro e w1 ⟨rfl, h1⟩; replace hE := hE.trans h1; clear h1) | (go_at_call 24; first | ((with_reducible refine (C0.out _ (H.out.ext hE)).mono ?_); rintro e w1 ⟨rfl, h1⟩; replace hE := hE.trans h1; clear h1)) | (go_at_call 25; first | ((with_reducible refine (C1.out _).mono ?_); rintro e w1 ⟨rfl, rfl⟩)) | (go_at_call 28; first | ((with_reducible refine (C2.out _ (H.out.ext hE)).mono ?_); rintro e w1 ⟨rfl, h1⟩; replace hE := hE.trans h1; clear h1)) | (go_at_call 29; first | ((with_reducible refine (C3.out _).mono ?_); rintro e w1 ⟨rfl, rfl⟩)) | (go_at_call 26; first | ((with_reducible refine (C4.out _ (H.out.ext hE)).mono ?_); rintro e w1 ⟨rfl, h1⟩; replace hE := hE.trans h1; clear h1)) | (go_at_call 27; first | ((with_reducible refine (C5.out _).mono ?_); rintro e w1 ⟨rfl, rfl⟩)))
          go_ret
          exact ⟨rfl, hE⟩
    · rcases (show (1 ≤ n ∧ n ≤ 131072 - a) ∨ (n < 1 ∨ 131072 - a < n) by omega) with ⟨n0, n1⟩ | hn
      · rcases (show (1 ≤ r ∧ r ≤ 16384) ∨ (r < 1 ∨ 16384 < r) by omega) with ⟨k0, k1⟩ | k
        · have C0 := Lib.hid (ref_no (a0 := a0) (a2 := a2) (a3 := a3) a (by omega))
          have C1 := Lib.hid (r_ref_no2 a h0 h1 h2)
          have C2 := Lib.hid (span_ok (a0 := a0) (a2 := a2) (a3 := a3) a n n0 h0 h1 n1)
          have C3 := Lib.hid (r_span_ok a n n0 h0 h1 n1)
          have C4 := Lib.hid (addr_ok (a0 := a0) (a2 := a2) (a3 := a3) r k0 k1)
          have C5 := Lib.hid (r_addr_ok r k0 k1)
          clear h2
          go_enter Tryd.func5, Tryd.ntmps5
          go_wp2_with (first | (go_at_call 11; refine (S.out _ (H.out.ext hE)).mono ?_; rintro e w1 ⟨rfl, h1⟩; replace hE := hE.trans h1; clear h1) | (go_at_call 24; first | ((with_reducible refine (C0.out _ (H.out.ext hE)).mono ?_); rintro e w1 ⟨rfl, h1⟩; replace hE := hE.trans h1; clear h1)) | (go_at_call 25; first | ((with_reducible refine (C1.out _).mono ?_); rintro e w1 ⟨rfl, rfl⟩)) | (go_at_call 28; first | ((with_reducible refine (C2.out _ (H.out.ext hE)).mono ?_); rintro e w1 ⟨rfl, h1⟩; replace hE := hE.trans h1; clear h1)) | (go_at_call 29; first | ((with_reducible refine (C3.out _).mono ?_); rintro e w1 ⟨rfl, rfl⟩)) | (go_at_call 26; first | ((with_reducible refine (C4.out _ (H.out.ext hE)).mono ?_); rintro e w1 ⟨rfl, h1⟩; replace hE := hE.trans h1; clear h1)) | (go_at_call 27; first | ((with_reducible refine (C5.out _).mono ?_); rintro e w1 ⟨rfl, rfl⟩)))
          go_ret
          exact ⟨rfl, hE⟩
        · have C0 := Lib.hid (ref_no (a0 := a0) (a2 := a2) (a3 := a3) a (by omega))
          have C1 := Lib.hid (r_ref_no2 a h0 h1 h2)
          have C2 := Lib.hid (span_ok (a0 := a0) (a2 := a2) (a3 := a3) a n n0 h0 h1 n1)
          have C3 := Lib.hid (r_span_ok a n n0 h0 h1 n1)
          have C4 := Lib.hid (addr_no (a0 := a0) (a2 := a2) (a3 := a3) r (by omega))
          have C5 := Lib.hid (r_addr_no r k)
          clear h2
          go_enter Tryd.func5, Tryd.ntmps5
          go_wp2_with (first | (go_at_call 11; refine (S.out _ (H.out.ext hE)).mono ?_; rintro e w1 ⟨rfl, h1⟩; replace hE := hE.trans h1; clear h1) | (go_at_call 24; first | ((with_reducible refine (C0.out _ (H.out.ext hE)).mono ?_); rintro e w1 ⟨rfl, h1⟩; replace hE := hE.trans h1; clear h1)) | (go_at_call 25; first | ((with_reducible refine (C1.out _).mono ?_); rintro e w1 ⟨rfl, rfl⟩)) | (go_at_call 28; first | ((with_reducible refine (C2.out _ (H.out.ext hE)).mono ?_); rintro e w1 ⟨rfl, h1⟩; replace hE := hE.trans h1; clear h1)) | (go_at_call 29; first | ((with_reducible refine (C3.out _).mono ?_); rintro e w1 ⟨rfl, rfl⟩)) | (go_at_call 26; first | ((with_reducible refine (C4.out _ (H.out.ext hE)).mono ?_); rintro e w1 ⟨rfl, h1⟩; replace hE := hE.trans h1; clear h1)) | (go_at_call 27; first | ((with_reducible refine (C5.out _).mono ?_); rintro e w1 ⟨rfl, rfl⟩)))
          go_ret
          exact ⟨rfl, hE⟩
      · rcases (show (1 ≤ r ∧ r ≤ 16384) ∨ (r < 1 ∨ 16384 < r) by omega) with ⟨k0, k1⟩ | k
        · have C0 := Lib.hid (ref_no (a0 := a0) (a2 := a2) (a3 := a3) a (by omega))
          have C1 := Lib.hid (r_ref_no2 a h0 h1 h2)
          have C2 := Lib.hid (span_no (a0 := a0) (a2 := a2) (a3 := a3) a n (by omega))
          have C3 := Lib.hid (r_span_no2 a n h0 h1 hn)
          have C4 := Lib.hid (addr_ok (a0 := a0) (a2 := a2) (a3 := a3) r k0 k1)
          have C5 := Lib.hid (r_addr_ok r k0 k1)
          clear h2
          go_enter Tryd.func5, Tryd.ntmps5
          go_wp2_with (first | (go_at_call 11; refine (S.out _ (H.out.ext hE)).mono ?_; rintro e w1 ⟨rfl, h1⟩; replace hE := hE.trans h1; clear h1) | (go_at_call 24; first | ((with_reducible refine (C0.out _ (H.out.ext hE)).mono ?_); rintro e w1 ⟨rfl, h1⟩; replace hE := hE.trans h1; clear h1)) | (go_at_call 25; first | ((with_reducible refine (C1.out _).mono ?_); rintro e w1 ⟨rfl, rfl⟩)) | (go_at_call 28; first | ((with_reducible refine (C2.out _ (H.out.ext hE)).mono ?_); rintro e w1 ⟨rfl, h1⟩; replace hE := hE.trans h1; clear h1)) | (go_at_call 29; first | ((with_reducible refine (C3.out _).mono ?_); rintro e w1 ⟨rfl, rfl⟩)) | (go_at_call 26; first | ((with_reducible refine (C4.out _ (H.out.ext hE)).mono ?_); rintro e w1 ⟨rfl, h1⟩; replace hE := hE.trans h1; clear h1)) | (go_at_call 27; first | ((with_reducible refine (C5.out _).mono ?_); rintro e w1 ⟨rfl, rfl⟩)))
          go_ret
          exact ⟨rfl, hE⟩
        · have C0 := Lib.hid (ref_no (a0 := a0) (a2 := a2) (a3 := a3) a (by omega))
          have C1 := Lib.hid (r_ref_no2 a h0 h1 h2)
          have C2 := Lib.hid (span_no (a0 := a0) (a2 := a2) (a3 := a3) a n (by omega))
          have C3 := Lib.hid (r_span_no2 a n h0 h1 hn)
          have C4 := Lib.hid (addr_no (a0 := a0) (a2 := a2) (a3 := a3) r (by omega))
          have C5 := Lib.hid (r_addr_no r k)
          clear h2
          go_enter Tryd.func5, Tryd.ntmps5
          go_wp2_with (first | (go_at_call 11; refine (S.out _ (H.out.ext hE)).mono ?_; rintro e w1 ⟨rfl, h1⟩; replace hE := hE.trans h1; clear h1) | (go_at_call 24; first | ((with_reducible refine (C0.out _ (H.out.ext hE)).mono ?_); rintro e w1 ⟨rfl, h1⟩; replace hE := hE.trans h1; clear h1)) | (go_at_call 25; first | ((with_reducible refine (C1.out _).mono ?_); rintro e w1 ⟨rfl, rfl⟩)) | (go_at_call 28; first | ((with_reducible refine (C2.out _ (H.out.ext hE)).mono ?_); rintro e w1 ⟨rfl, h1⟩; replace hE := hE.trans h1; clear h1)) | (go_at_call 29; first | ((with_reducible refine (C3.out _).mono ?_); rintro e w1 ⟨rfl, rfl⟩)) | (go_at_call 26; first | ((with_reducible refine (C4.out _ (H.out.ext hE)).mono ?_); rintro e w1 ⟨rfl, h1⟩; replace hE := hE.trans h1; clear h1)) | (go_at_call 27; first | ((with_reducible refine (C5.out _).mono ?_); rintro e w1 ⟨rfl, rfl⟩)))
          go_ret
          exact ⟨rfl, hE⟩
  · rcases (show (1 ≤ r ∧ r ≤ 16384) ∨ (r < 1 ∨ 16384 < r) by omega) with ⟨k0, k1⟩ | k
    · have C0 := Lib.hid (ref_no (a0 := a0) (a2 := a2) (a3 := a3) a (by omega))
      have C1 := Lib.hid (r_ref_no1 a h)
      have C2 := Lib.hid (span_no (a0 := a0) (a2 := a2) (a3 := a3) a n (by omega))
      have C3 := Lib.hid (r_span_no1 a n h)
      have C4 := Lib.hid (addr_ok (a0 := a0) (a2 := a2) (a3 := a3) r k0 k1)
      have C5 := Lib.hid (r_addr_ok r k0 k1)
      go_enter Tryd.func5, Tryd.ntmps5
      go_wp2_with (first | (go_at_call 11; refine (S.out _ (H.out.ext hE)).mono ?_; rintro e w1 ⟨rfl, h1⟩; replace hE := hE.trans h1; clear h1) | (go_at_call 24; first | ((with_reducible refine (C0.out _ (H.out.ext hE)).mono ?_); rintro e w1 ⟨rfl, h1⟩; replace hE := hE.trans h1; clear h1)) | (go_at_call 25; first | ((with_reducible refine (C1.out _).mono ?_); rintro e w1 ⟨rfl, rfl⟩)) | (go_at_call 28; first | ((with_reducible refine (C2.out _ (H.out.ext hE)).mono ?_); rintro e w1 ⟨rfl, h1⟩; replace hE := hE.trans h1; clear h1)) | (go_at_call 29; first | ((with_reducible refine (C3.out _).mono ?_); rintro e w1 ⟨rfl, rfl⟩)) | (go_at_call 26; first | ((with_reducible refine (C4.out _ (H.out.ext hE)).mono ?_); rintro e w1 ⟨rfl, h1⟩; replace hE := hE.trans h1; clear h1)) | (go_at_call 27; first | ((with_reducible refine (C5.out _).mono ?_); rintro e w1 ⟨rfl, rfl⟩)))
      go_ret
      exact ⟨rfl, hE⟩
    · have C0 := Lib.hid (ref_no (a0 := a0) (a2 := a2) (a3 := a3) a (by omega))
      have C1 := Lib.hid (r_ref_no1 a h)
      have C2 := Lib.hid (span_no (a0 := a0) (a2 := a2) (a3 := a3) a n (by omega))
      have C3 := Lib.hid (r_span_no1 a n h)
      have C4 := Lib.hid (addr_no (a0 := a0) (a2 := a2) (a3 := a3) r (by omega))
      have C5 := Lib.hid (r_addr_no r k)
      go_enter Tryd.func5, Tryd.ntmps5
      go_wp2_with (first | (go_at_call 11; refine (S.out _ (H.out.ext hE)).mono ?_; rintro e w1 ⟨rfl, h1⟩; replace hE := hE.trans h1; clear h1) | (go_at_call 24; first | ((with_reducible refine (C0.out _ (H.out.ext hE)).mono ?_); rintro e w1 ⟨rfl, h1⟩; replace hE := hE.trans h1; clear h1)) | (go_at_call 25; first | ((with_reducible refine (C1.out _).mono ?_); rintro e w1 ⟨rfl, rfl⟩)) | (go_at_call 28; first | ((with_reducible refine (C2.out _ (H.out.ext hE)).mono ?_); rintro e w1 ⟨rfl, h1⟩; replace hE := hE.trans h1; clear h1)) | (go_at_call 29; first | ((with_reducible refine (C3.out _).mono ?_); rintro e w1 ⟨rfl, rfl⟩)) | (go_at_call 26; first | ((with_reducible refine (C4.out _ (H.out.ext hE)).mono ?_); rintro e w1 ⟨rfl, h1⟩; replace hE := hE.trans h1; clear h1)) | (go_at_call 27; first | ((with_reducible refine (C5.out _).mono ?_); rintro e w1 ⟨rfl, rfl⟩)))
      go_ret
      exact ⟨rfl, hE⟩

set_option maxRecDepth 100000 in
set_option maxHeartbeats 4000000 in
theorem back_walk (a x y z : Int) (w : World) (hG : G a0 a2 a3 w) :
    Calls Tryd.prog 6 #[.int .i64 a, .int .i64 x, .int .i64 y, .int .i64 z] w fun e w' => e = .returned (.bool true) ∧ Ext w w' := by
  have S := Lib.hid (fun W h => shown_any (a0 := a0) (a2 := a2) (a3 := a3) W h)
  have H := Lib.hid hG
  have hE := Ext.refl w
  clear hG
  rcases (show (0 ≤ a ∧ a < 131072) ∨ (a < 0 ∨ 131072 ≤ a) by omega) with ⟨h0, h1⟩ | h
  · by_cases hp : (0 ≤ x ∧ x < 32) ∧ (0 ≤ y ∧ y < 32) ∧ (0 ≤ z ∧ z < 128)
    · obtain ⟨hx, hy, hz⟩ := hp
      have C0 := Lib.hid (split_ok (a0 := a0) (a2 := a2) (a3 := a3) a h0 h1)
      have C1 := Lib.hid (join_back (a0 := a0) (a2 := a2) (a3 := a3) a h0 h1)
      have C2 := Lib.hid (right_ok a h0 h1)
      have C3 := Lib.hid (join_ok (a0 := a0) (a2 := a2) (a3 := a3) x y z hx hy hz)
      have C4 := Lib.hid (split_back (a0 := a0) (a2 := a2) (a3 := a3) x y z hx hy hz)
      clear hx hy hz
      go_enter Tryd.func6, Tryd.ntmps6
      go_wp2_with (first | (go_at_call 11; refine (S.out _ (H.out.ext hE)).mono ?_; rintro e w1 ⟨rfl, h1⟩; replace hE := hE.trans h1; clear h1) | (go_at_call 12; first | ((with_reducible refine (C0.out _ (H.out.ext hE)).mono ?_); rintro e w1 ⟨rfl, h1⟩; replace hE := hE.trans h1; clear h1) | ((with_reducible refine (C4.out _ (H.out.ext hE)).mono ?_); rintro e w1 ⟨rfl, h1⟩; replace hE := hE.trans h1; clear h1)) | (go_at_call 14; first | ((with_reducible refine (C1.out _ (H.out.ext hE)).mono ?_); rintro e w1 ⟨rfl, h1⟩; replace hE := hE.trans h1; clear h1) | ((with_reducible refine (C3.out _ (H.out.ext hE)).mono ?_); rintro e w1 ⟨rfl, h1⟩; replace hE := hE.trans h1; clear h1)) | (go_at_call 16; first | ((with_reducible refine (C2.out _).mono ?_); rintro e w1 ⟨rfl, rfl⟩)))
      go_ret
      exact ⟨rfl, hE⟩
    · have C0 := Lib.hid (split_ok (a0 := a0) (a2 := a2) (a3 := a3) a h0 h1)
      have C1 := Lib.hid (join_back (a0 := a0) (a2 := a2) (a3 := a3) a h0 h1)
      have C2 := Lib.hid (right_ok a h0 h1)
      have C3 := Lib.hid (join_no (a0 := a0) (a2 := a2) (a3 := a3) x y z (placeB_no x y z hp))
      have C4 := Lib.hid (split_zero (a0 := a0) (a2 := a2) (a3 := a3) )
      clear hp
      go_enter Tryd.func6, Tryd.ntmps6
      go_wp2_with (first | (go_at_call 11; refine (S.out _ (H.out.ext hE)).mono ?_; rintro e w1 ⟨rfl, h1⟩; replace hE := hE.trans h1; clear h1) | (go_at_call 12; first | ((with_reducible refine (C0.out _ (H.out.ext hE)).mono ?_); rintro e w1 ⟨rfl, h1⟩; replace hE := hE.trans h1; clear h1) | ((with_reducible refine (C4.out _ (H.out.ext hE)).mono ?_); rintro e w1 ⟨rfl, h1⟩; replace hE := hE.trans h1; clear h1)) | (go_at_call 14; first | ((with_reducible refine (C1.out _ (H.out.ext hE)).mono ?_); rintro e w1 ⟨rfl, h1⟩; replace hE := hE.trans h1; clear h1) | ((with_reducible refine (C3.out _ (H.out.ext hE)).mono ?_); rintro e w1 ⟨rfl, h1⟩; replace hE := hE.trans h1; clear h1)) | (go_at_call 16; first | ((with_reducible refine (C2.out _).mono ?_); rintro e w1 ⟨rfl, rfl⟩)))
      go_ret
      exact ⟨rfl, hE⟩
  · by_cases hp : (0 ≤ x ∧ x < 32) ∧ (0 ≤ y ∧ y < 32) ∧ (0 ≤ z ∧ z < 128)
    · obtain ⟨hx, hy, hz⟩ := hp
      have C0 := Lib.hid (split_no (a0 := a0) (a2 := a2) (a3 := a3) a (by omega))
      have C1 := Lib.hid (join_zero (a0 := a0) (a2 := a2) (a3 := a3) )
      have C2 := Lib.hid (right_no a h)
      have C3 := Lib.hid (join_ok (a0 := a0) (a2 := a2) (a3 := a3) x y z hx hy hz)
      have C4 := Lib.hid (split_back (a0 := a0) (a2 := a2) (a3 := a3) x y z hx hy hz)
      clear hx hy hz
      go_enter Tryd.func6, Tryd.ntmps6
      go_wp2_with (first | (go_at_call 11; refine (S.out _ (H.out.ext hE)).mono ?_; rintro e w1 ⟨rfl, h1⟩; replace hE := hE.trans h1; clear h1) | (go_at_call 12; first | ((with_reducible refine (C0.out _ (H.out.ext hE)).mono ?_); rintro e w1 ⟨rfl, h1⟩; replace hE := hE.trans h1; clear h1) | ((with_reducible refine (C4.out _ (H.out.ext hE)).mono ?_); rintro e w1 ⟨rfl, h1⟩; replace hE := hE.trans h1; clear h1)) | (go_at_call 14; first | ((with_reducible refine (C1.out _ (H.out.ext hE)).mono ?_); rintro e w1 ⟨rfl, h1⟩; replace hE := hE.trans h1; clear h1) | ((with_reducible refine (C3.out _ (H.out.ext hE)).mono ?_); rintro e w1 ⟨rfl, h1⟩; replace hE := hE.trans h1; clear h1)) | (go_at_call 16; first | ((with_reducible refine (C2.out _).mono ?_); rintro e w1 ⟨rfl, rfl⟩)))
      go_ret
      exact ⟨rfl, hE⟩
    · have C0 := Lib.hid (split_no (a0 := a0) (a2 := a2) (a3 := a3) a (by omega))
      have C1 := Lib.hid (join_zero (a0 := a0) (a2 := a2) (a3 := a3) )
      have C2 := Lib.hid (right_no a h)
      have C3 := Lib.hid (join_no (a0 := a0) (a2 := a2) (a3 := a3) x y z (placeB_no x y z hp))
      have C4 := Lib.hid (split_zero (a0 := a0) (a2 := a2) (a3 := a3) )
      clear hp
      go_enter Tryd.func6, Tryd.ntmps6
      go_wp2_with (first | (go_at_call 11; refine (S.out _ (H.out.ext hE)).mono ?_; rintro e w1 ⟨rfl, h1⟩; replace hE := hE.trans h1; clear h1) | (go_at_call 12; first | ((with_reducible refine (C0.out _ (H.out.ext hE)).mono ?_); rintro e w1 ⟨rfl, h1⟩; replace hE := hE.trans h1; clear h1) | ((with_reducible refine (C4.out _ (H.out.ext hE)).mono ?_); rintro e w1 ⟨rfl, h1⟩; replace hE := hE.trans h1; clear h1)) | (go_at_call 14; first | ((with_reducible refine (C1.out _ (H.out.ext hE)).mono ?_); rintro e w1 ⟨rfl, h1⟩; replace hE := hE.trans h1; clear h1) | ((with_reducible refine (C3.out _ (H.out.ext hE)).mono ?_); rintro e w1 ⟨rfl, h1⟩; replace hE := hE.trans h1; clear h1)) | (go_at_call 16; first | ((with_reducible refine (C2.out _).mono ?_); rintro e w1 ⟨rfl, rfl⟩)))
      go_ret
      exact ⟨rfl, hE⟩

set_option maxRecDepth 100000 in
set_option maxHeartbeats 4000000 in
theorem granules_walk (a r : Int) (w : World) (hG : G a0 a2 a3 w) :
    Calls Tryd.prog 7 #[.int .i64 a, .int .i64 r] w fun e w' => e = .returned (.bool true) ∧ Ext w w' := by
  have S := Lib.hid (fun W h => shown_any (a0 := a0) (a2 := a2) (a3 := a3) W h)
  have H := Lib.hid hG
  have hE := Ext.refl w
  clear hG
  by_cases hr : 0 ≤ a ∧ a < 131072 ∧ a % 8 = 0
  · obtain ⟨h0, h1, h2⟩ := hr
    rcases (show (1 ≤ r ∧ r ≤ 16384) ∨ (r < 1 ∨ 16384 < r) by omega) with ⟨k0, k1⟩ | k
    · have C0 := Lib.hid (ref_ok (a0 := a0) (a2 := a2) (a3 := a3) a h0 h1 h2)
      have C1 := Lib.hid (addr_back (a0 := a0) (a2 := a2) (a3 := a3) a h0 h1 h2)
      have C2 := Lib.hid (addr_ok (a0 := a0) (a2 := a2) (a3 := a3) r k0 k1)
      have C3 := Lib.hid (ref_back (a0 := a0) (a2 := a2) (a3 := a3) r k0 k1)
      clear h2
      go_enter Tryd.func7, Tryd.ntmps7
      go_wp2_with (first | (go_at_call 11; refine (S.out _ (H.out.ext hE)).mono ?_; rintro e w1 ⟨rfl, h1⟩; replace hE := hE.trans h1; clear h1) | (go_at_call 24; first | ((with_reducible refine (C0.out _ (H.out.ext hE)).mono ?_); rintro e w1 ⟨rfl, h1⟩; replace hE := hE.trans h1; clear h1) | ((with_reducible refine (C3.out _ (H.out.ext hE)).mono ?_); rintro e w1 ⟨rfl, h1⟩; replace hE := hE.trans h1; clear h1)) | (go_at_call 26; first | ((with_reducible refine (C1.out _ (H.out.ext hE)).mono ?_); rintro e w1 ⟨rfl, h1⟩; replace hE := hE.trans h1; clear h1) | ((with_reducible refine (C2.out _ (H.out.ext hE)).mono ?_); rintro e w1 ⟨rfl, h1⟩; replace hE := hE.trans h1; clear h1)))
      go_ret
      exact ⟨rfl, hE⟩
    · have C0 := Lib.hid (ref_ok (a0 := a0) (a2 := a2) (a3 := a3) a h0 h1 h2)
      have C1 := Lib.hid (addr_back (a0 := a0) (a2 := a2) (a3 := a3) a h0 h1 h2)
      have C2 := Lib.hid (addr_no (a0 := a0) (a2 := a2) (a3 := a3) r (by omega))
      have C3 := Lib.hid (ref_zero (a0 := a0) (a2 := a2) (a3 := a3) )
      clear h2
      go_enter Tryd.func7, Tryd.ntmps7
      go_wp2_with (first | (go_at_call 11; refine (S.out _ (H.out.ext hE)).mono ?_; rintro e w1 ⟨rfl, h1⟩; replace hE := hE.trans h1; clear h1) | (go_at_call 24; first | ((with_reducible refine (C0.out _ (H.out.ext hE)).mono ?_); rintro e w1 ⟨rfl, h1⟩; replace hE := hE.trans h1; clear h1) | ((with_reducible refine (C3.out _ (H.out.ext hE)).mono ?_); rintro e w1 ⟨rfl, h1⟩; replace hE := hE.trans h1; clear h1)) | (go_at_call 26; first | ((with_reducible refine (C1.out _ (H.out.ext hE)).mono ?_); rintro e w1 ⟨rfl, h1⟩; replace hE := hE.trans h1; clear h1) | ((with_reducible refine (C2.out _ (H.out.ext hE)).mono ?_); rintro e w1 ⟨rfl, h1⟩; replace hE := hE.trans h1; clear h1)))
      go_ret
      exact ⟨rfl, hE⟩
  · rcases (show (1 ≤ r ∧ r ≤ 16384) ∨ (r < 1 ∨ 16384 < r) by omega) with ⟨k0, k1⟩ | k
    · have C0 := Lib.hid (ref_no (a0 := a0) (a2 := a2) (a3 := a3) a (by omega))
      have C1 := Lib.hid (addr_no (a0 := a0) (a2 := a2) (a3 := a3) 0 (by omega))
      have C2 := Lib.hid (addr_ok (a0 := a0) (a2 := a2) (a3 := a3) r k0 k1)
      have C3 := Lib.hid (ref_back (a0 := a0) (a2 := a2) (a3 := a3) r k0 k1)
      clear hr
      go_enter Tryd.func7, Tryd.ntmps7
      go_wp2_with (first | (go_at_call 11; refine (S.out _ (H.out.ext hE)).mono ?_; rintro e w1 ⟨rfl, h1⟩; replace hE := hE.trans h1; clear h1) | (go_at_call 24; first | ((with_reducible refine (C0.out _ (H.out.ext hE)).mono ?_); rintro e w1 ⟨rfl, h1⟩; replace hE := hE.trans h1; clear h1) | ((with_reducible refine (C3.out _ (H.out.ext hE)).mono ?_); rintro e w1 ⟨rfl, h1⟩; replace hE := hE.trans h1; clear h1)) | (go_at_call 26; first | ((with_reducible refine (C1.out _ (H.out.ext hE)).mono ?_); rintro e w1 ⟨rfl, h1⟩; replace hE := hE.trans h1; clear h1) | ((with_reducible refine (C2.out _ (H.out.ext hE)).mono ?_); rintro e w1 ⟨rfl, h1⟩; replace hE := hE.trans h1; clear h1)))
      go_ret
      exact ⟨rfl, hE⟩
    · have C0 := Lib.hid (ref_no (a0 := a0) (a2 := a2) (a3 := a3) a (by omega))
      have C1 := Lib.hid (addr_no (a0 := a0) (a2 := a2) (a3 := a3) 0 (by omega))
      have C2 := Lib.hid (addr_no (a0 := a0) (a2 := a2) (a3 := a3) r (by omega))
      have C3 := Lib.hid (ref_zero (a0 := a0) (a2 := a2) (a3 := a3) )
      clear hr
      go_enter Tryd.func7, Tryd.ntmps7
      go_wp2_with (first | (go_at_call 11; refine (S.out _ (H.out.ext hE)).mono ?_; rintro e w1 ⟨rfl, h1⟩; replace hE := hE.trans h1; clear h1) | (go_at_call 24; first | ((with_reducible refine (C0.out _ (H.out.ext hE)).mono ?_); rintro e w1 ⟨rfl, h1⟩; replace hE := hE.trans h1; clear h1) | ((with_reducible refine (C3.out _ (H.out.ext hE)).mono ?_); rintro e w1 ⟨rfl, h1⟩; replace hE := hE.trans h1; clear h1)) | (go_at_call 26; first | ((with_reducible refine (C1.out _ (H.out.ext hE)).mono ?_); rintro e w1 ⟨rfl, h1⟩; replace hE := hE.trans h1; clear h1) | ((with_reducible refine (C2.out _ (H.out.ext hE)).mono ?_); rintro e w1 ⟨rfl, h1⟩; replace hE := hE.trans h1; clear h1)))
      go_ret
      exact ⟨rfl, hE⟩

set_option maxRecDepth 100000 in
set_option maxHeartbeats 4000000 in
theorem spans_walk (a n : Int) (w : World) (hG : G a0 a2 a3 w) :
    Calls Tryd.prog 8 #[.int .i64 a, .int .i64 n] w fun e w' => e = .returned (.bool true) ∧ Ext w w' := by
  have S := Lib.hid (fun W h => shown_any (a0 := a0) (a2 := a2) (a3 := a3) W h)
  have H := Lib.hid hG
  have hE := Ext.refl w
  clear hG
  by_cases hs : 1 ≤ n ∧ 0 ≤ a ∧ a < 131072 ∧ n ≤ 131072 - a
  · obtain ⟨n0, h0, h1, n1⟩ := hs
    have C0 := Lib.hid (span_ln (a0 := a0) (a2 := a2) (a3 := a3) a n n0 h0 h1 n1)
    have C1 := Lib.hid (split_ok (a0 := a0) (a2 := a2) (a3 := a3) a h0 h1)
    have C2 := Lib.hid (split_ok (a0 := a0) (a2 := a2) (a3 := a3) (a + n - 1) (by omega) (by omega))
    have hle : 32 * (a / 4096) + a % 4096 / 128 ≤ 32 * ((a + n - 1) / 4096) + (a + n - 1) % 4096 / 128 := by omega
    go_enter Tryd.func8, Tryd.ntmps8
    go_wp2_with (first | (go_at_call 11; refine (S.out _ (H.out.ext hE)).mono ?_; rintro e w1 ⟨rfl, h1⟩; replace hE := hE.trans h1; clear h1) | (go_at_call 28; first | ((with_reducible refine (C0.out _ (H.out.ext hE)).mono ?_); rintro e w1 ⟨rfl, h1⟩; replace hE := hE.trans h1; clear h1)) | (go_at_call 12; first | ((with_reducible refine (C1.out _ (H.out.ext hE)).mono ?_); rintro e w1 ⟨rfl, h1⟩; replace hE := hE.trans h1; clear h1) | ((with_reducible refine (C2.out _ (H.out.ext hE)).mono ?_); rintro e w1 ⟨rfl, h1⟩; replace hE := hE.trans h1; clear h1)))
    go_ret
    exact ⟨rfl, hE⟩
  · have C0 := Lib.hid (span_no (a0 := a0) (a2 := a2) (a3 := a3) a n hs)
    clear hs
    go_enter Tryd.func8, Tryd.ntmps8
    go_wp2_with (first | (go_at_call 11; refine (S.out _ (H.out.ext hE)).mono ?_; rintro e w1 ⟨rfl, h1⟩; replace hE := hE.trans h1; clear h1) | (go_at_call 28; first | ((with_reducible refine (C0.out _ (H.out.ext hE)).mono ?_); rintro e w1 ⟨rfl, h1⟩; replace hE := hE.trans h1; clear h1)))
    go_ret
    exact ⟨rfl, hE⟩

set_option maxRecDepth 100000 in
set_option maxHeartbeats 4000000 in
theorem rounds_walk (n : Int) (w : World) (hG : G a0 a2 a3 w) :
    Calls Tryd.prog 9 #[.int .i64 n] w fun e w' => e = .returned (.bool true) ∧ Ext w w' := by
  have S := Lib.hid (fun W h => shown_any (a0 := a0) (a2 := a2) (a3 := a3) W h)
  have H := Lib.hid hG
  have hE := Ext.refl w
  clear hG
  rcases (show (1 ≤ n ∧ n ≤ 131072) ∨ (n < 1 ∨ 131072 < n) by omega) with ⟨g0, g1⟩ | h
  · rcases (show n ≤ 128 ∨ (129 ≤ n ∧ n ≤ 2048) ∨ 2049 ≤ n by omega) with g | ⟨g, g'⟩ | g
    · have C0 := Lib.hid (round_ok (a0 := a0) (a2 := a2) (a3 := a3) n g0 g1)
      have C1 := Lib.hid (round_back (a0 := a0) (a2 := a2) (a3 := a3) n g0 g1)
      have C2 := Lib.hid (class_is (a0 := a0) (a2 := a2) (a3 := a3) n 1 (.inl ⟨by omega, by omega, rfl⟩))
      have C3 := Lib.hid (class_is (a0 := a0) (a2 := a2) (a3 := a3) ((n + 7) / 8 * 8) 1 (.inl ⟨by omega, by omega, rfl⟩))
      have C4 := Lib.hid (blocks_is (a0 := a0) (a2 := a2) (a3 := a3) n 1 g0 g1 (by omega))
      have C5 := Lib.hid (blocks_is (a0 := a0) (a2 := a2) (a3 := a3) ((n + 7) / 8 * 8) 1 (by omega) (by omega) (by omega))
      have f1 : n ≤ (n + 7) / 8 * 8 := by omega
      have f2 : (n + 7) / 8 * 8 < n + 8 := by omega
      have f3 : 0 ≤ (n + 7) / 8 * 8 := by omega
      go_enter Tryd.func9, Tryd.ntmps9
      go_wp2_with (first | (go_at_call 11; refine (S.out _ (H.out.ext hE)).mono ?_; rintro e w1 ⟨rfl, h1⟩; replace hE := hE.trans h1; clear h1) | (go_at_call 18; first | ((with_reducible refine (C0.out _ (H.out.ext hE)).mono ?_); rintro e w1 ⟨rfl, h1⟩; replace hE := hE.trans h1; clear h1) | ((with_reducible refine (C1.out _ (H.out.ext hE)).mono ?_); rintro e w1 ⟨rfl, h1⟩; replace hE := hE.trans h1; clear h1)) | (go_at_call 20; first | ((with_reducible refine (C2.out _ (H.out.ext hE)).mono ?_); rintro e w1 ⟨rfl, h1⟩; replace hE := hE.trans h1; clear h1) | ((with_reducible refine (C3.out _ (H.out.ext hE)).mono ?_); rintro e w1 ⟨rfl, h1⟩; replace hE := hE.trans h1; clear h1)) | (go_at_call 22; first | ((with_reducible refine (C4.out _ (H.out.ext hE)).mono ?_); rintro e w1 ⟨rfl, h1⟩; replace hE := hE.trans h1; clear h1) | ((with_reducible refine (C5.out _ (H.out.ext hE)).mono ?_); rintro e w1 ⟨rfl, h1⟩; replace hE := hE.trans h1; clear h1)))
      go_ret
      exact ⟨rfl, hE⟩
    · have C0 := Lib.hid (round_ok (a0 := a0) (a2 := a2) (a3 := a3) n g0 g1)
      have C1 := Lib.hid (round_back (a0 := a0) (a2 := a2) (a3 := a3) n g0 g1)
      have C2 := Lib.hid (class_is (a0 := a0) (a2 := a2) (a3 := a3) n 2 (.inr (.inl ⟨by omega, by omega, rfl⟩)))
      have C3 := Lib.hid (class_is (a0 := a0) (a2 := a2) (a3 := a3) ((n + 7) / 8 * 8) 2 (.inr (.inl ⟨by omega, by omega, rfl⟩)))
      have C4 := Lib.hid (blocks_is (a0 := a0) (a2 := a2) (a3 := a3) n 1 g0 g1 (by omega))
      have C5 := Lib.hid (blocks_is (a0 := a0) (a2 := a2) (a3 := a3) ((n + 7) / 8 * 8) 1 (by omega) (by omega) (by omega))
      have f1 : n ≤ (n + 7) / 8 * 8 := by omega
      have f2 : (n + 7) / 8 * 8 < n + 8 := by omega
      have f3 : 0 ≤ (n + 7) / 8 * 8 := by omega
      go_enter Tryd.func9, Tryd.ntmps9
      go_wp2_with (first | (go_at_call 11; refine (S.out _ (H.out.ext hE)).mono ?_; rintro e w1 ⟨rfl, h1⟩; replace hE := hE.trans h1; clear h1) | (go_at_call 18; first | ((with_reducible refine (C0.out _ (H.out.ext hE)).mono ?_); rintro e w1 ⟨rfl, h1⟩; replace hE := hE.trans h1; clear h1) | ((with_reducible refine (C1.out _ (H.out.ext hE)).mono ?_); rintro e w1 ⟨rfl, h1⟩; replace hE := hE.trans h1; clear h1)) | (go_at_call 20; first | ((with_reducible refine (C2.out _ (H.out.ext hE)).mono ?_); rintro e w1 ⟨rfl, h1⟩; replace hE := hE.trans h1; clear h1) | ((with_reducible refine (C3.out _ (H.out.ext hE)).mono ?_); rintro e w1 ⟨rfl, h1⟩; replace hE := hE.trans h1; clear h1)) | (go_at_call 22; first | ((with_reducible refine (C4.out _ (H.out.ext hE)).mono ?_); rintro e w1 ⟨rfl, h1⟩; replace hE := hE.trans h1; clear h1) | ((with_reducible refine (C5.out _ (H.out.ext hE)).mono ?_); rintro e w1 ⟨rfl, h1⟩; replace hE := hE.trans h1; clear h1)))
      go_ret
      exact ⟨rfl, hE⟩
    · have C0 := Lib.hid (round_ok (a0 := a0) (a2 := a2) (a3 := a3) n g0 g1)
      have C1 := Lib.hid (round_back (a0 := a0) (a2 := a2) (a3 := a3) n g0 g1)
      have C2 := Lib.hid (class_is (a0 := a0) (a2 := a2) (a3 := a3) n 3 (.inr (.inr ⟨by omega, by omega, rfl⟩)))
      have C3 := Lib.hid (class_is (a0 := a0) (a2 := a2) (a3 := a3) ((n + 7) / 8 * 8) 3 (.inr (.inr ⟨by omega, by omega, rfl⟩)))
      have C4 := Lib.hid (blocks_is (a0 := a0) (a2 := a2) (a3 := a3) n ((n + 4095) / 4096) g0 g1 (by omega))
      have C5 := Lib.hid (blocks_is (a0 := a0) (a2 := a2) (a3 := a3) ((n + 7) / 8 * 8) ((n + 4095) / 4096) (by omega) (by omega) (by omega))
      have f1 : n ≤ (n + 7) / 8 * 8 := by omega
      have f2 : (n + 7) / 8 * 8 < n + 8 := by omega
      have f3 : 0 ≤ (n + 7) / 8 * 8 := by omega
      go_enter Tryd.func9, Tryd.ntmps9
      go_wp2_with (first | (go_at_call 11; refine (S.out _ (H.out.ext hE)).mono ?_; rintro e w1 ⟨rfl, h1⟩; replace hE := hE.trans h1; clear h1) | (go_at_call 18; first | ((with_reducible refine (C0.out _ (H.out.ext hE)).mono ?_); rintro e w1 ⟨rfl, h1⟩; replace hE := hE.trans h1; clear h1) | ((with_reducible refine (C1.out _ (H.out.ext hE)).mono ?_); rintro e w1 ⟨rfl, h1⟩; replace hE := hE.trans h1; clear h1)) | (go_at_call 20; first | ((with_reducible refine (C2.out _ (H.out.ext hE)).mono ?_); rintro e w1 ⟨rfl, h1⟩; replace hE := hE.trans h1; clear h1) | ((with_reducible refine (C3.out _ (H.out.ext hE)).mono ?_); rintro e w1 ⟨rfl, h1⟩; replace hE := hE.trans h1; clear h1)) | (go_at_call 22; first | ((with_reducible refine (C4.out _ (H.out.ext hE)).mono ?_); rintro e w1 ⟨rfl, h1⟩; replace hE := hE.trans h1; clear h1) | ((with_reducible refine (C5.out _ (H.out.ext hE)).mono ?_); rintro e w1 ⟨rfl, h1⟩; replace hE := hE.trans h1; clear h1)))
      go_ret
      exact ⟨rfl, hE⟩
  · have C0 := Lib.hid (round_no (a0 := a0) (a2 := a2) (a3 := a3) n (by omega))
    have C1 := Lib.hid (round_no (a0 := a0) (a2 := a2) (a3 := a3) 0 (by omega))
    have C2 := Lib.hid (class_no (a0 := a0) (a2 := a2) (a3 := a3) n (by omega))
    have C3 := Lib.hid (class_no (a0 := a0) (a2 := a2) (a3 := a3) 0 (by omega))
    have C4 := Lib.hid (blocks_no (a0 := a0) (a2 := a2) (a3 := a3) n (by omega))
    have C5 := Lib.hid (blocks_no (a0 := a0) (a2 := a2) (a3 := a3) 0 (by omega))
    go_enter Tryd.func9, Tryd.ntmps9
    go_wp2_with (first | (go_at_call 11; refine (S.out _ (H.out.ext hE)).mono ?_; rintro e w1 ⟨rfl, h1⟩; replace hE := hE.trans h1; clear h1) | (go_at_call 18; first | ((with_reducible refine (C0.out _ (H.out.ext hE)).mono ?_); rintro e w1 ⟨rfl, h1⟩; replace hE := hE.trans h1; clear h1) | ((with_reducible refine (C1.out _ (H.out.ext hE)).mono ?_); rintro e w1 ⟨rfl, h1⟩; replace hE := hE.trans h1; clear h1)) | (go_at_call 20; first | ((with_reducible refine (C2.out _ (H.out.ext hE)).mono ?_); rintro e w1 ⟨rfl, h1⟩; replace hE := hE.trans h1; clear h1) | ((with_reducible refine (C3.out _ (H.out.ext hE)).mono ?_); rintro e w1 ⟨rfl, h1⟩; replace hE := hE.trans h1; clear h1)) | (go_at_call 22; first | ((with_reducible refine (C4.out _ (H.out.ext hE)).mono ?_); rintro e w1 ⟨rfl, h1⟩; replace hE := hE.trans h1; clear h1) | ((with_reducible refine (C5.out _ (H.out.ext hE)).mono ?_); rintro e w1 ⟨rfl, h1⟩; replace hE := hE.trans h1; clear h1)))
    go_ret
    exact ⟨rfl, hE⟩

set_option maxRecDepth 100000 in
set_option maxHeartbeats 4000000 in
theorem next_walk (a b : Int) (w : World) (hG : G a0 a2 a3 w) :
    Calls Tryd.prog 10 #[.int .i64 a, .int .i64 b] w fun e w' => e = .returned (.bool true) ∧ Ext w w' := by
  have S := Lib.hid (fun W h => shown_any (a0 := a0) (a2 := a2) (a3 := a3) W h)
  have H := Lib.hid hG
  have hE := Ext.refl w
  clear hG
  rcases (show (0 ≤ a ∧ a < 131072) ∨ (a < 0 ∨ 131072 ≤ a) by omega) with ⟨h0, h1⟩ | h
  · by_cases h2 : a % 8 = 0
    · by_cases h3 : a < 131064
      · rcases (show (0 ≤ b ∧ b < 131072) ∨ (b < 0 ∨ 131072 ≤ b) by omega) with ⟨b0, b1⟩ | hb
        · by_cases hab : a ≤ b
          · have C0 := Lib.hid (span_one (a0 := a0) (a2 := a2) (a3 := a3) a h0 h1)
            have C1 := Lib.hid (right_ok a h0 h1)
            have C2 := Lib.hid (ref_ok (a0 := a0) (a2 := a2) (a3 := a3) a h0 h1 h2)
            have C3 := Lib.hid (ref_next (a0 := a0) (a2 := a2) (a3 := a3) a h0 h3 h2)
            have C4 := Lib.hid (span_one (a0 := a0) (a2 := a2) (a3 := a3) b b0 b1)
            have hl : ln a ≤ ln b := by unfold ln; omega
            clear h2
            go_enter Tryd.func10, Tryd.ntmps10
            go_wp2_with (first | (go_at_call 11; refine (S.out _ (H.out.ext hE)).mono ?_; rintro e w1 ⟨rfl, h1⟩; replace hE := hE.trans h1; clear h1) | (go_at_call 28; first | ((with_reducible refine (C0.out _ (H.out.ext hE)).mono ?_); rintro e w1 ⟨rfl, h1⟩; replace hE := hE.trans h1; clear h1) | ((with_reducible refine (C4.out _ (H.out.ext hE)).mono ?_); rintro e w1 ⟨rfl, h1⟩; replace hE := hE.trans h1; clear h1)) | (go_at_call 16; first | ((with_reducible refine (C1.out _).mono ?_); rintro e w1 ⟨rfl, rfl⟩)) | (go_at_call 24; first | ((with_reducible refine (C2.out _ (H.out.ext hE)).mono ?_); rintro e w1 ⟨rfl, h1⟩; replace hE := hE.trans h1; clear h1) | ((with_reducible refine (C3.out _ (H.out.ext hE)).mono ?_); rintro e w1 ⟨rfl, h1⟩; replace hE := hE.trans h1; clear h1)))
            go_ret
            exact ⟨rfl, hE⟩
          · have C0 := Lib.hid (span_one (a0 := a0) (a2 := a2) (a3 := a3) a h0 h1)
            have C1 := Lib.hid (right_ok a h0 h1)
            have C2 := Lib.hid (ref_ok (a0 := a0) (a2 := a2) (a3 := a3) a h0 h1 h2)
            have C3 := Lib.hid (ref_next (a0 := a0) (a2 := a2) (a3 := a3) a h0 h3 h2)
            have C4 := Lib.hid (span_one (a0 := a0) (a2 := a2) (a3 := a3) b b0 b1)
            clear h2
            go_enter Tryd.func10, Tryd.ntmps10
            go_wp2_with (first | (go_at_call 11; refine (S.out _ (H.out.ext hE)).mono ?_; rintro e w1 ⟨rfl, h1⟩; replace hE := hE.trans h1; clear h1) | (go_at_call 28; first | ((with_reducible refine (C0.out _ (H.out.ext hE)).mono ?_); rintro e w1 ⟨rfl, h1⟩; replace hE := hE.trans h1; clear h1) | ((with_reducible refine (C4.out _ (H.out.ext hE)).mono ?_); rintro e w1 ⟨rfl, h1⟩; replace hE := hE.trans h1; clear h1)) | (go_at_call 16; first | ((with_reducible refine (C1.out _).mono ?_); rintro e w1 ⟨rfl, rfl⟩)) | (go_at_call 24; first | ((with_reducible refine (C2.out _ (H.out.ext hE)).mono ?_); rintro e w1 ⟨rfl, h1⟩; replace hE := hE.trans h1; clear h1) | ((with_reducible refine (C3.out _ (H.out.ext hE)).mono ?_); rintro e w1 ⟨rfl, h1⟩; replace hE := hE.trans h1; clear h1)))
            go_ret
            exact ⟨rfl, hE⟩
        · have C0 := Lib.hid (span_one (a0 := a0) (a2 := a2) (a3 := a3) a h0 h1)
          have C1 := Lib.hid (right_ok a h0 h1)
          have C2 := Lib.hid (ref_ok (a0 := a0) (a2 := a2) (a3 := a3) a h0 h1 h2)
          have C3 := Lib.hid (ref_next (a0 := a0) (a2 := a2) (a3 := a3) a h0 h3 h2)
          have C4 := Lib.hid (span_no (a0 := a0) (a2 := a2) (a3 := a3) b 1 (by omega))
          clear h2
          go_enter Tryd.func10, Tryd.ntmps10
          go_wp2_with (first | (go_at_call 11; refine (S.out _ (H.out.ext hE)).mono ?_; rintro e w1 ⟨rfl, h1⟩; replace hE := hE.trans h1; clear h1) | (go_at_call 28; first | ((with_reducible refine (C0.out _ (H.out.ext hE)).mono ?_); rintro e w1 ⟨rfl, h1⟩; replace hE := hE.trans h1; clear h1) | ((with_reducible refine (C4.out _ (H.out.ext hE)).mono ?_); rintro e w1 ⟨rfl, h1⟩; replace hE := hE.trans h1; clear h1)) | (go_at_call 16; first | ((with_reducible refine (C1.out _).mono ?_); rintro e w1 ⟨rfl, rfl⟩)) | (go_at_call 24; first | ((with_reducible refine (C2.out _ (H.out.ext hE)).mono ?_); rintro e w1 ⟨rfl, h1⟩; replace hE := hE.trans h1; clear h1) | ((with_reducible refine (C3.out _ (H.out.ext hE)).mono ?_); rintro e w1 ⟨rfl, h1⟩; replace hE := hE.trans h1; clear h1)))
          go_ret
          exact ⟨rfl, hE⟩
      · rcases (show (0 ≤ b ∧ b < 131072) ∨ (b < 0 ∨ 131072 ≤ b) by omega) with ⟨b0, b1⟩ | hb
        · by_cases hab : a ≤ b
          · have C0 := Lib.hid (span_one (a0 := a0) (a2 := a2) (a3 := a3) a h0 h1)
            have C1 := Lib.hid (right_ok a h0 h1)
            have C2 := Lib.hid (ref_ok (a0 := a0) (a2 := a2) (a3 := a3) a h0 h1 h2)
            have C3 := Lib.hid (span_one (a0 := a0) (a2 := a2) (a3 := a3) b b0 b1)
            have hl : ln a ≤ ln b := by unfold ln; omega
            clear h2
            go_enter Tryd.func10, Tryd.ntmps10
            go_wp2_with (first | (go_at_call 11; refine (S.out _ (H.out.ext hE)).mono ?_; rintro e w1 ⟨rfl, h1⟩; replace hE := hE.trans h1; clear h1) | (go_at_call 28; first | ((with_reducible refine (C0.out _ (H.out.ext hE)).mono ?_); rintro e w1 ⟨rfl, h1⟩; replace hE := hE.trans h1; clear h1) | ((with_reducible refine (C3.out _ (H.out.ext hE)).mono ?_); rintro e w1 ⟨rfl, h1⟩; replace hE := hE.trans h1; clear h1)) | (go_at_call 16; first | ((with_reducible refine (C1.out _).mono ?_); rintro e w1 ⟨rfl, rfl⟩)) | (go_at_call 24; first | ((with_reducible refine (C2.out _ (H.out.ext hE)).mono ?_); rintro e w1 ⟨rfl, h1⟩; replace hE := hE.trans h1; clear h1)))
            go_ret
            exact ⟨rfl, hE⟩
          · have C0 := Lib.hid (span_one (a0 := a0) (a2 := a2) (a3 := a3) a h0 h1)
            have C1 := Lib.hid (right_ok a h0 h1)
            have C2 := Lib.hid (ref_ok (a0 := a0) (a2 := a2) (a3 := a3) a h0 h1 h2)
            have C3 := Lib.hid (span_one (a0 := a0) (a2 := a2) (a3 := a3) b b0 b1)
            clear h2
            go_enter Tryd.func10, Tryd.ntmps10
            go_wp2_with (first | (go_at_call 11; refine (S.out _ (H.out.ext hE)).mono ?_; rintro e w1 ⟨rfl, h1⟩; replace hE := hE.trans h1; clear h1) | (go_at_call 28; first | ((with_reducible refine (C0.out _ (H.out.ext hE)).mono ?_); rintro e w1 ⟨rfl, h1⟩; replace hE := hE.trans h1; clear h1) | ((with_reducible refine (C3.out _ (H.out.ext hE)).mono ?_); rintro e w1 ⟨rfl, h1⟩; replace hE := hE.trans h1; clear h1)) | (go_at_call 16; first | ((with_reducible refine (C1.out _).mono ?_); rintro e w1 ⟨rfl, rfl⟩)) | (go_at_call 24; first | ((with_reducible refine (C2.out _ (H.out.ext hE)).mono ?_); rintro e w1 ⟨rfl, h1⟩; replace hE := hE.trans h1; clear h1)))
            go_ret
            exact ⟨rfl, hE⟩
        · have C0 := Lib.hid (span_one (a0 := a0) (a2 := a2) (a3 := a3) a h0 h1)
          have C1 := Lib.hid (right_ok a h0 h1)
          have C2 := Lib.hid (ref_ok (a0 := a0) (a2 := a2) (a3 := a3) a h0 h1 h2)
          have C3 := Lib.hid (span_no (a0 := a0) (a2 := a2) (a3 := a3) b 1 (by omega))
          clear h2
          go_enter Tryd.func10, Tryd.ntmps10
          go_wp2_with (first | (go_at_call 11; refine (S.out _ (H.out.ext hE)).mono ?_; rintro e w1 ⟨rfl, h1⟩; replace hE := hE.trans h1; clear h1) | (go_at_call 28; first | ((with_reducible refine (C0.out _ (H.out.ext hE)).mono ?_); rintro e w1 ⟨rfl, h1⟩; replace hE := hE.trans h1; clear h1) | ((with_reducible refine (C3.out _ (H.out.ext hE)).mono ?_); rintro e w1 ⟨rfl, h1⟩; replace hE := hE.trans h1; clear h1)) | (go_at_call 16; first | ((with_reducible refine (C1.out _).mono ?_); rintro e w1 ⟨rfl, rfl⟩)) | (go_at_call 24; first | ((with_reducible refine (C2.out _ (H.out.ext hE)).mono ?_); rintro e w1 ⟨rfl, h1⟩; replace hE := hE.trans h1; clear h1)))
          go_ret
          exact ⟨rfl, hE⟩
    · rcases (show (0 ≤ b ∧ b < 131072) ∨ (b < 0 ∨ 131072 ≤ b) by omega) with ⟨b0, b1⟩ | hb
      · by_cases hab : a ≤ b
        · have C0 := Lib.hid (span_one (a0 := a0) (a2 := a2) (a3 := a3) a h0 h1)
          have C1 := Lib.hid (right_ok a h0 h1)
          have C2 := Lib.hid (ref_no (a0 := a0) (a2 := a2) (a3 := a3) a (by omega))
          have C3 := Lib.hid (span_one (a0 := a0) (a2 := a2) (a3 := a3) b b0 b1)
          have hl : ln a ≤ ln b := by unfold ln; omega
          clear h2
          go_enter Tryd.func10, Tryd.ntmps10
          go_wp2_with (first | (go_at_call 11; refine (S.out _ (H.out.ext hE)).mono ?_; rintro e w1 ⟨rfl, h1⟩; replace hE := hE.trans h1; clear h1) | (go_at_call 28; first | ((with_reducible refine (C0.out _ (H.out.ext hE)).mono ?_); rintro e w1 ⟨rfl, h1⟩; replace hE := hE.trans h1; clear h1) | ((with_reducible refine (C3.out _ (H.out.ext hE)).mono ?_); rintro e w1 ⟨rfl, h1⟩; replace hE := hE.trans h1; clear h1)) | (go_at_call 16; first | ((with_reducible refine (C1.out _).mono ?_); rintro e w1 ⟨rfl, rfl⟩)) | (go_at_call 24; first | ((with_reducible refine (C2.out _ (H.out.ext hE)).mono ?_); rintro e w1 ⟨rfl, h1⟩; replace hE := hE.trans h1; clear h1)))
          go_ret
          exact ⟨rfl, hE⟩
        · have C0 := Lib.hid (span_one (a0 := a0) (a2 := a2) (a3 := a3) a h0 h1)
          have C1 := Lib.hid (right_ok a h0 h1)
          have C2 := Lib.hid (ref_no (a0 := a0) (a2 := a2) (a3 := a3) a (by omega))
          have C3 := Lib.hid (span_one (a0 := a0) (a2 := a2) (a3 := a3) b b0 b1)
          clear h2
          go_enter Tryd.func10, Tryd.ntmps10
          go_wp2_with (first | (go_at_call 11; refine (S.out _ (H.out.ext hE)).mono ?_; rintro e w1 ⟨rfl, h1⟩; replace hE := hE.trans h1; clear h1) | (go_at_call 28; first | ((with_reducible refine (C0.out _ (H.out.ext hE)).mono ?_); rintro e w1 ⟨rfl, h1⟩; replace hE := hE.trans h1; clear h1) | ((with_reducible refine (C3.out _ (H.out.ext hE)).mono ?_); rintro e w1 ⟨rfl, h1⟩; replace hE := hE.trans h1; clear h1)) | (go_at_call 16; first | ((with_reducible refine (C1.out _).mono ?_); rintro e w1 ⟨rfl, rfl⟩)) | (go_at_call 24; first | ((with_reducible refine (C2.out _ (H.out.ext hE)).mono ?_); rintro e w1 ⟨rfl, h1⟩; replace hE := hE.trans h1; clear h1)))
          go_ret
          exact ⟨rfl, hE⟩
      · have C0 := Lib.hid (span_one (a0 := a0) (a2 := a2) (a3 := a3) a h0 h1)
        have C1 := Lib.hid (right_ok a h0 h1)
        have C2 := Lib.hid (ref_no (a0 := a0) (a2 := a2) (a3 := a3) a (by omega))
        have C3 := Lib.hid (span_no (a0 := a0) (a2 := a2) (a3 := a3) b 1 (by omega))
        clear h2
        go_enter Tryd.func10, Tryd.ntmps10
        go_wp2_with (first | (go_at_call 11; refine (S.out _ (H.out.ext hE)).mono ?_; rintro e w1 ⟨rfl, h1⟩; replace hE := hE.trans h1; clear h1) | (go_at_call 28; first | ((with_reducible refine (C0.out _ (H.out.ext hE)).mono ?_); rintro e w1 ⟨rfl, h1⟩; replace hE := hE.trans h1; clear h1) | ((with_reducible refine (C3.out _ (H.out.ext hE)).mono ?_); rintro e w1 ⟨rfl, h1⟩; replace hE := hE.trans h1; clear h1)) | (go_at_call 16; first | ((with_reducible refine (C1.out _).mono ?_); rintro e w1 ⟨rfl, rfl⟩)) | (go_at_call 24; first | ((with_reducible refine (C2.out _ (H.out.ext hE)).mono ?_); rintro e w1 ⟨rfl, h1⟩; replace hE := hE.trans h1; clear h1)))
        go_ret
        exact ⟨rfl, hE⟩
  · rcases (show (0 ≤ b ∧ b < 131072) ∨ (b < 0 ∨ 131072 ≤ b) by omega) with ⟨b0, b1⟩ | hb
    · have C0 := Lib.hid (span_no (a0 := a0) (a2 := a2) (a3 := a3) a 1 (by omega))
      have C1 := Lib.hid (right_no a h)
      have C2 := Lib.hid (ref_no (a0 := a0) (a2 := a2) (a3 := a3) a (by omega))
      have C3 := Lib.hid (span_one (a0 := a0) (a2 := a2) (a3 := a3) b b0 b1)
      go_enter Tryd.func10, Tryd.ntmps10
      go_wp2_with (first | (go_at_call 11; refine (S.out _ (H.out.ext hE)).mono ?_; rintro e w1 ⟨rfl, h1⟩; replace hE := hE.trans h1; clear h1) | (go_at_call 28; first | ((with_reducible refine (C0.out _ (H.out.ext hE)).mono ?_); rintro e w1 ⟨rfl, h1⟩; replace hE := hE.trans h1; clear h1) | ((with_reducible refine (C3.out _ (H.out.ext hE)).mono ?_); rintro e w1 ⟨rfl, h1⟩; replace hE := hE.trans h1; clear h1)) | (go_at_call 16; first | ((with_reducible refine (C1.out _).mono ?_); rintro e w1 ⟨rfl, rfl⟩)) | (go_at_call 24; first | ((with_reducible refine (C2.out _ (H.out.ext hE)).mono ?_); rintro e w1 ⟨rfl, h1⟩; replace hE := hE.trans h1; clear h1)))
      go_ret
      exact ⟨rfl, hE⟩
    · have C0 := Lib.hid (span_no (a0 := a0) (a2 := a2) (a3 := a3) a 1 (by omega))
      have C1 := Lib.hid (right_no a h)
      have C2 := Lib.hid (ref_no (a0 := a0) (a2 := a2) (a3 := a3) a (by omega))
      have C3 := Lib.hid (span_no (a0 := a0) (a2 := a2) (a3 := a3) b 1 (by omega))
      go_enter Tryd.func10, Tryd.ntmps10
      go_wp2_with (first | (go_at_call 11; refine (S.out _ (H.out.ext hE)).mono ?_; rintro e w1 ⟨rfl, h1⟩; replace hE := hE.trans h1; clear h1) | (go_at_call 28; first | ((with_reducible refine (C0.out _ (H.out.ext hE)).mono ?_); rintro e w1 ⟨rfl, h1⟩; replace hE := hE.trans h1; clear h1) | ((with_reducible refine (C3.out _ (H.out.ext hE)).mono ?_); rintro e w1 ⟨rfl, h1⟩; replace hE := hE.trans h1; clear h1)) | (go_at_call 16; first | ((with_reducible refine (C1.out _).mono ?_); rintro e w1 ⟨rfl, rfl⟩)) | (go_at_call 24; first | ((with_reducible refine (C2.out _ (H.out.ext hE)).mono ?_); rintro e w1 ⟨rfl, h1⟩; replace hE := hE.trans h1; clear h1)))
      go_ret
      exact ⟨rfl, hE⟩
end
end Go.Proofs.YthaddecdgihocaaDoor
