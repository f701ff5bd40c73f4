/- selionref04: Same. -/
import Derived.Test.YtgmpcinlkiiboaaGreatDoorInts
namespace Go.Proofs.YtgmpcinlkiiboaaGreatDoor
open Go.RowKit Go
section
set_option maxHeartbeats 4000000 in
set_option maxRecDepth 100000 in
theorem same_is (A1 B1 : Option Addr) (n1 m1 c1 e1 : Nat) (s1 t1 : Int) (l1 r1 : List Int) (hn1 : n1 ≤ 1000000) (hm1 : m1 ≤ 1000000) (A2 B2 : Option Addr) (n2 m2 c2 e2 : Nat) (s2 t2 : Int) (l2 r2 : List Int)  (w : World) (h1 : Il w A1 n1 l1) (h1' : Il w B1 m1 r1) (h2 : Il w A2 n2 l2) (h2' : Il w B2 m2 r2) :
    Calls Tryz.prog 11 #[.agg #[.int .i64 s1, .slice A1 n1 c1, .int .i64 t1, .slice B1 m1 e1], .agg #[.int .i64 s2, .slice A2 n2 c2, .int .i64 t2, .slice B2 m2 e2]] w fun e w' => e = .returned (.bool (decide ((⟨s1, l1, t1, r1⟩ : DescR) = ⟨s2, l2, t2, r2⟩))) ∧ Ext w w' := by
  have E2 := ext2 w (.cells #[.int .i64 s1, .slice A1 n1 c1, .int .i64 t1, .slice B1 m1 e1] 24) (.cells #[.int .i64 s2, .slice A2 n2 c2, .int .i64 t2, .slice B2 m2 e2] 24)
  have R1 := Lib.hid (fun W (hW : Ext ((w.alloc (.cells #[.int .i64 s1, .slice A1 n1 c1, .int .i64 t1, .slice B1 m1 e1] 24)).alloc (.cells #[.int .i64 s2, .slice A2 n2 c2, .int .i64 t2, .slice B2 m2 e2] 24)) W) => ints_is A1 A2 n1 n2 c1 c2 l1 l2 hn1 W (h1.ext (Ext.trans E2 hW)) (h2.ext (Ext.trans E2 hW)))
  have R2 := Lib.hid (fun W (hW : Ext ((w.alloc (.cells #[.int .i64 s1, .slice A1 n1 c1, .int .i64 t1, .slice B1 m1 e1] 24)).alloc (.cells #[.int .i64 s2, .slice A2 n2 c2, .int .i64 t2, .slice B2 m2 e2] 24)) W) => ints_is B1 B2 m1 m2 e1 e2 r1 r2 hm1 W (h1'.ext (Ext.trans E2 hW)) (h2'.ext (Ext.trans E2 hW)))
  have HE := Lib.hid E2
  clear h1 h1' h2 h2' E2
  by_cases q1 : s1 = s2
  · subst q1
    by_cases q2 : t1 = t2
    · subst q2
      have HQ : decide ((⟨s1, l1, t1, r1⟩ : DescR) = ⟨s1, l2, t1, r2⟩) = (decide (l1 = l2) && decide (r1 = r2)) := by rw [Bool.eq_iff_iff]; simp
      cases hl : decide (l1 = l2)
      · have HN := Lib.hid (show false = decide ((⟨s1, l1, t1, r1⟩ : DescR) = ⟨s1, l2, t1, r2⟩) by rw [HQ, hl]; rfl)
        rw [hl] at R1
        clear HQ hl
        go_enter Tryz.func11, Tryz.ntmps11
        go_wp2_with (first | (go_at_call 15; with_reducible refine (R1.out _ (Ext.refl _)).mono ?_; rintro e w1 ⟨rfl, k1⟩; have p1 := (at_old k1).cell 1; have p3 := (at_old k1).cell 3; have p5 := (at_new2 k1).cell 1; have p7 := (at_new2 k1).cell 3; simp at p1 p3 p5 p7))
        go_ret
        exact ⟨rb HN.out, Ext.trans HE.out k1⟩
      · skip
        cases hr : decide (r1 = r2)
        · have HN := Lib.hid (show false = decide ((⟨s1, l1, t1, r1⟩ : DescR) = ⟨s1, l2, t1, r2⟩) by rw [HQ, hl, hr]; rfl)
          rw [hl] at R1
          rw [hr] at R2
          clear HQ hl hr
          go_enter Tryz.func11, Tryz.ntmps11
          go_wp2_with (first | (go_at_call 15; with_reducible refine (R1.out _ (Ext.refl _)).mono ?_; rintro e w1 ⟨rfl, k1⟩; have p1 := (at_old k1).cell 1; have p3 := (at_old k1).cell 3; have p5 := (at_new2 k1).cell 1; have p7 := (at_new2 k1).cell 3; simp at p1 p3 p5 p7) | (go_at_call 15; with_reducible refine (R2.out _ k1).mono ?_; rintro e w2 ⟨rfl, k2⟩))
          go_ret
          exact ⟨rb HN.out, Ext.trans HE.out (Ext.trans k1 k2)⟩
        · have HN := Lib.hid (show true = decide ((⟨s1, l1, t1, r1⟩ : DescR) = ⟨s1, l2, t1, r2⟩) by rw [HQ, hl, hr]; rfl)
          rw [hl] at R1
          rw [hr] at R2
          clear HQ hl hr
          go_enter Tryz.func11, Tryz.ntmps11
          go_wp2_with (first | (go_at_call 15; with_reducible refine (R1.out _ (Ext.refl _)).mono ?_; rintro e w1 ⟨rfl, k1⟩; have p1 := (at_old k1).cell 1; have p3 := (at_old k1).cell 3; have p5 := (at_new2 k1).cell 1; have p7 := (at_new2 k1).cell 3; simp at p1 p3 p5 p7) | (go_at_call 15; with_reducible refine (R2.out _ k1).mono ?_; rintro e w2 ⟨rfl, k2⟩))
          go_ret
          exact ⟨rb HN.out, Ext.trans HE.out (Ext.trans k1 k2)⟩
    · have b2 : (t1 == t2) = false := by simpa using q2
      have HN := Lib.hid (show false = decide ((⟨s1, l1, t1, r1⟩ : DescR) = ⟨s1, l2, t2, r2⟩) from (decide_eq_false (fun h => q2 (by cases h; rfl))).symm)
      clear q2
      go_enter Tryz.func11, Tryz.ntmps11
      go_wp2
      go_ret
      exact ⟨rb HN.out, HE.out⟩
  · have b1 : (s1 == s2) = false := by simpa using q1
    have HN := Lib.hid (show false = decide ((⟨s1, l1, t1, r1⟩ : DescR) = ⟨s2, l2, t2, r2⟩) from (decide_eq_false (fun h => q1 (by cases h; rfl))).symm)
    clear q1
    go_enter Tryz.func11, Tryz.ntmps11
    go_wp2
    go_ret
    exact ⟨rb HN.out, HE.out⟩
end
end Go.Proofs.YtgmpcinlkiiboaaGreatDoor
