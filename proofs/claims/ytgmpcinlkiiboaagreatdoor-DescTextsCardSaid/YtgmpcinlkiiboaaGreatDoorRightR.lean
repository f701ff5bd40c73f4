/- selionref04: Right. -/
import Derived.Test.YtgmpcinlkiiboaaGreatDoorRis
namespace Go.Proofs.YtgmpcinlkiiboaaGreatDoor
open Go.RowKit Go
section
set_option maxHeartbeats 4000000 in
set_option maxRecDepth 100000 in
theorem right_is (A B : Option Addr) (n m c c' : Nat) (s t : Int) (l r : List Int) (hn : n ≤ 1000000) (hm : m ≤ 1000000) (w : World) (h : Il w A n l) (h' : Il w B m r) :
    Calls Tryz.prog 19 #[.agg #[.int .i64 s, .slice A n c, .int .i64 t, .slice B m c']] w fun e w' => e = .returned (.bool (rightB ⟨s, l, t, r⟩)) ∧ Ext w w' := by
  have E1 := ext1 w (.cells #[.int .i64 s, .slice A n c, .int .i64 t, .slice B m c'] 24)
  have R1 := Lib.hid (fun W (hW : Ext (w.alloc (.cells #[.int .i64 s, .slice A n c, .int .i64 t, .slice B m c'] 24)) W) => rising_is A n c l s hn W (h.ext (Ext.trans E1 hW)))
  have R2 := Lib.hid (fun W (hW : Ext (w.alloc (.cells #[.int .i64 s, .slice A n c, .int .i64 t, .slice B m c'] 24)) W) => rising_is B m c' r t hm W (h'.ext (Ext.trans E1 hW)))
  have HE := Lib.hid E1
  rcases Classical.em (0 ≤ s) with q1 | q1
  rotate_left
  · have dq1 : decide (0 ≤ s) = false := decide_eq_false q1
    have n1 : ¬ (0 : Int) ≤ s := q1
    have HN := Lib.hid (show false = rightB ⟨s, l, t, r⟩ by unfold rightB; rw [dq1]; simp)
    clear h h' E1
    go_enter Tryz.func19, Tryz.ntmps19
    go_wp2
    go_ret
    exact ⟨rb HN.out, HE.out⟩
  have dq1 : decide (0 ≤ s) = true := decide_eq_true q1
  obtain ⟨S, rfl⟩ : ∃ k : Nat, s = k := ⟨s.toNat, by omega⟩
  rcases Classical.em ((S : Int) ≤ 1024) with q2 | q2
  rotate_left
  · have dq2 : decide ((S : Int) ≤ 1024) = false := decide_eq_false q2
    have n2 : decide (S ≤ 1024) = false := decide_eq_false (by omega)
    have HN := Lib.hid (show false = rightB ⟨(S : Int), l, t, r⟩ by unfold rightB; rw [dq2]; simp)
    clear h h' E1
    go_enter Tryz.func19, Tryz.ntmps19
    go_wp2
    go_ret
    exact ⟨rb HN.out, HE.out⟩
  have dq2 : decide ((S : Int) ≤ 1024) = true := decide_eq_true q2
  have e2 : decide (S ≤ 1024) = true := decide_eq_true (by omega)
  rcases Classical.em ((S : Int) % 4 = 0) with q3 | q3
  rotate_left
  · have dq3 : decide ((S : Int) % 4 = 0) = false := decide_eq_false q3
    have n3 : ((S : Int) % 4 == 0) = false := by simpa using q3
    have n3' : ((S : Int).tmod 4 == 0) = false := by rw [Int.tmod_eq_emod_of_nonneg q1]; exact n3
    have HN := Lib.hid (show false = rightB ⟨(S : Int), l, t, r⟩ by unfold rightB; rw [dq3]; simp)
    clear h h' E1
    go_enter Tryz.func19, Tryz.ntmps19
    go_wp2
    go_ret
    exact ⟨rb HN.out, HE.out⟩
  have dq3 : decide ((S : Int) % 4 = 0) = true := decide_eq_true q3
  have e3 : ((S : Int) % 4 == 0) = true := by simpa using q3
  have e3' : ((S : Int).tmod 4 == 0) = true := by rw [Int.tmod_eq_emod_of_nonneg q1]; exact e3
  rcases Classical.em (0 ≤ t) with q4 | q4
  rotate_left
  · have dq4 : decide (0 ≤ t) = false := decide_eq_false q4
    have n4 : ¬ (0 : Int) ≤ t := q4
    have HN := Lib.hid (show false = rightB ⟨(S : Int), l, t, r⟩ by unfold rightB; rw [dq4]; simp)
    clear h h' E1
    go_enter Tryz.func19, Tryz.ntmps19
    go_wp2
    go_ret
    exact ⟨rb HN.out, HE.out⟩
  have dq4 : decide (0 ≤ t) = true := decide_eq_true q4
  obtain ⟨T, rfl⟩ : ∃ k : Nat, t = k := ⟨t.toNat, by omega⟩
  rcases Classical.em ((T : Int) ≤ 256) with q5 | q5
  rotate_left
  · have dq5 : decide ((T : Int) ≤ 256) = false := decide_eq_false q5
    have n5 : decide (T ≤ 256) = false := decide_eq_false (by omega)
    have HN := Lib.hid (show false = rightB ⟨(S : Int), l, (T : Int), r⟩ by unfold rightB; rw [dq5]; simp)
    clear h h' E1
    go_enter Tryz.func19, Tryz.ntmps19
    go_wp2
    go_ret
    exact ⟨rb HN.out, HE.out⟩
  have dq5 : decide ((T : Int) ≤ 256) = true := decide_eq_true q5
  have e5 : decide (T ≤ 256) = true := decide_eq_true (by omega)
  rcases Classical.em ((T : Int) % 4 = 0) with q6 | q6
  rotate_left
  · have dq6 : decide ((T : Int) % 4 = 0) = false := decide_eq_false q6
    have n6 : ((T : Int) % 4 == 0) = false := by simpa using q6
    have n6' : ((T : Int).tmod 4 == 0) = false := by rw [Int.tmod_eq_emod_of_nonneg q4]; exact n6
    have HN := Lib.hid (show false = rightB ⟨(S : Int), l, (T : Int), r⟩ by unfold rightB; rw [dq6]; simp)
    clear h h' E1
    go_enter Tryz.func19, Tryz.ntmps19
    go_wp2
    go_ret
    exact ⟨rb HN.out, HE.out⟩
  have dq6 : decide ((T : Int) % 4 = 0) = true := decide_eq_true q6
  have e6 : ((T : Int) % 4 == 0) = true := by simpa using q6
  have e6' : ((T : Int).tmod 4 == 0) = true := by rw [Int.tmod_eq_emod_of_nonneg q4]; exact e6
  have HQ : rightB ⟨(S : Int), l, (T : Int), r⟩ = (risB l S && risB r T) := by unfold rightB; simp [q1, q2, q3, q4, q5, q6]
  cases hl : risB l S
  · have HN := Lib.hid (show false = rightB ⟨(S : Int), l, (T : Int), r⟩ by rw [HQ, hl]; rfl)
    rw [hl] at R1
    clear HQ hl
    clear h h' E1
    go_enter Tryz.func19, Tryz.ntmps19
    go_wp2_with (first | (go_at_call 33; with_reducible refine (R1.out _ (Ext.refl _)).mono ?_; rintro e w1 ⟨rfl, k1⟩; have p2 := (at_new k1).cell 2; have p3 := (at_new k1).cell 3; simp at p2 p3))
    go_ret
    exact ⟨rb HN.out, Ext.trans HE.out k1⟩
  · cases hr : risB r T
    · have HN := Lib.hid (show false = rightB ⟨(S : Int), l, (T : Int), r⟩ by rw [HQ, hl, hr]; rfl)
      rw [hl] at R1
      rw [hr] at R2
      clear HQ hl hr
      clear h h' E1
      go_enter Tryz.func19, Tryz.ntmps19
      go_wp2_with (first | (go_at_call 33; with_reducible refine (R1.out _ (Ext.refl _)).mono ?_; rintro e w1 ⟨rfl, k1⟩; have p2 := (at_new k1).cell 2; have p3 := (at_new k1).cell 3; simp at p2 p3) | (go_at_call 33; with_reducible refine (R2.out _ k1).mono ?_; rintro e w2 ⟨rfl, k2⟩))
      go_ret
      exact ⟨rb HN.out, Ext.trans HE.out (Ext.trans k1 k2)⟩
    · have HN := Lib.hid (show true = rightB ⟨(S : Int), l, (T : Int), r⟩ by rw [HQ, hl, hr]; rfl)
      rw [hl] at R1
      rw [hr] at R2
      clear HQ hl hr
      clear h h' E1
      go_enter Tryz.func19, Tryz.ntmps19
      go_wp2_with (first | (go_at_call 33; with_reducible refine (R1.out _ (Ext.refl _)).mono ?_; rintro e w1 ⟨rfl, k1⟩; have p2 := (at_new k1).cell 2; have p3 := (at_new k1).cell 3; simp at p2 p3) | (go_at_call 33; with_reducible refine (R2.out _ k1).mono ?_; rintro e w2 ⟨rfl, k2⟩))
      go_ret
      exact ⟨rb HN.out, Ext.trans HE.out (Ext.trans k1 k2)⟩
end
end Go.Proofs.YtgmpcinlkiiboaaGreatDoor
