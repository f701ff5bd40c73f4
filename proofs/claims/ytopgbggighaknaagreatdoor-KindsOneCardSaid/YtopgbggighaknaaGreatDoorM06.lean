/- Joined texts, in their order: Ris, RightR, SameR, CutD, SameD. -/
import Derived.Test.YtopgbggighaknaaGreatDoorM05
/- selionref04: rising, Right, Same, Bytes, in, kind, Kind. -/
namespace Go.Proofs.YtopgbggighaknaaGreatDoor
open Go.RowKit Go
section
set_option maxHeartbeats 4000000 in
set_option maxRecDepth 100000 in
theorem rising_is (A : Option Addr) (n c : Nat) (l : List Int) (size : Int) (hn : n ≤ 1000000) (w : World) (h : Il w A n l) :
    Calls Tryz.prog 51 #[.slice A n c, .int .i64 size] w fun e w' => e = .returned (.bool (risB l size)) ∧ Ext w w' := by
  have H := Lib.hid h
  clear h
  go_enter Tryz.func51, Tryz.ntmps51
  go_wp2
  go_loopg [5] n (fun m i wr => ∃ k : Nat, k + m = n ∧ i = .int .i64 k ∧ risB l size = risF size (prevL l k) (l.drop k) ∧ Ext w wr)
  case atStart => exact ⟨0, by omega, rfl, rfl, Ext.refl _⟩
  case round =>
    obtain ⟨k, hk, rfl, ht, hE⟩ := hrel
    by_cases hlt : k < n
    · obtain ⟨ad, rfl, hb, hcell⟩ := (H.out.ext hE).at_ hlt
      have ck := hcell k hlt
      have h5 : (k : Int) < n := by omega
      have h6 : (k : Int) + 1 ≤ 1000000 := by omega
      rw [ris_step l size k (by rw [H.out.1]; exact hlt)] at ht
      have hpx : ∀ j, k = j + 1 → wr.cell? (ad.add j) = some (.int .i64 (prevL l k)) := by rintro j rfl; exact hcell j (by omega)
      have hp0 : k = 0 → prevL l k = -1 := by rintro rfl; rfl
      have hpn : prevL l (k + 1) = l.getD k 0 := rfl
      have ck' := fun (o : From wr) => (From.cell o (ad.add k) (by rw [ck]; rfl)).trans ck
      have hpx' := fun (j : Nat) (hj : k = j + 1) (o : From wr) => (From.cell o (ad.add j) (by rw [hpx j hj]; rfl)).trans (hpx j hj)
      have HE := Lib.hid (And.intro hE (And.intro hk (And.intro ht (And.intro hpx' (And.intro hp0 hpn)))))
      clear hE hcell hk ht hpx hp0 hpn hpx' ck
      generalize hx : l.getD k 0 = x at *
      generalize hp : prevL l k = p at *
      by_cases h1 : x < 0
      · have d1 : decide (x < 0) = true := decide_eq_true h1
        have HN := Lib.hid (show false = risB l size by rw [HE.out.2.2.1]; rw [show decide (0 ≤ x) = false from decide_eq_false (by omega)]; rfl)
        clear hx hp
        go_wp2
        refine wp_region_on (by kernel_rfl) (by kernel_rfl) ?_
        iterate 10 (try go_big_quiet_step (fail))
        iterate 10 (try go_big_quiet_step (fail))
        iterate 10 (try go_big_quiet_step (fail))
        iterate 10 (try go_big_quiet_step (fail))
        refine wpQuiet_nil ?_
        intro W hW
        go_wp2
        go_ret
        exact ⟨rb HN.out, Ext.trans HE.out.1 hW⟩
      · obtain ⟨y, rfl⟩ : ∃ y : Nat, x = y := ⟨x.toNat, by omega⟩
        have h1' : (0 : Int) ≤ y := by omega
        have d1 : decide ((y : Int) < 0) = false := decide_eq_false h1
        by_cases h2 : (y : Int) % 4 = 0
        · have hb1 : ((y : Int) % 4 != 0) = false := by simp [h2]
          have hb2 : ((y : Int).tmod 4 != 0) = false := by rw [Int.tmod_eq_emod_of_nonneg h1']; exact hb1
          by_cases h3 : size ≤ y
          · have d3 : decide (size ≤ y) = true := decide_eq_true h3
            have HN := Lib.hid (show false = risB l size by rw [HE.out.2.2.1]; rw [show decide ((y : Int) < size) = false from decide_eq_false (by omega), Bool.and_false]; rfl)
            clear hx hp h2
            go_wp2
            refine wp_region_on (by kernel_rfl) (by kernel_rfl) ?_
            iterate 10 (try go_big_quiet_step (fail))
            iterate 10 (try go_big_quiet_step (fail))
            iterate 10 (try go_big_quiet_step (fail))
            iterate 10 (try go_big_quiet_step (fail))
            refine wpQuiet_nil ?_
            intro W hW
            go_wp2
            go_ret
            exact ⟨rb HN.out, Ext.trans HE.out.1 hW⟩
          · have d3 : decide (size ≤ y) = false := decide_eq_false h3
            rcases Nat.eq_zero_or_pos k with hk0 | hk0
            · have hp1 := HE.out.2.2.2.2.1 hk0
              have d4 : decide (0 < k) = false := decide_eq_false (by omega)
              have HN := Lib.hid (show risB l size = risF size (prevL l (k + 1)) (l.drop (k + 1)) by rw [HE.out.2.2.1, hp1, show decide (0 ≤ (y : Int)) = true from decide_eq_true h1', h2, show decide ((y : Int) < size) = true from decide_eq_true (by omega), show decide (-1 < (y : Int)) = true from decide_eq_true (by omega)]; rfl)
              clear hx hp h2 hp1 hk0
              go_wp2
              refine wp_region_on (by kernel_rfl) (by kernel_rfl) ?_
              iterate 10 (try go_big_quiet_step (fail))
              iterate 10 (try go_big_quiet_step (fail))
              iterate 10 (try go_big_quiet_step (fail))
              iterate 10 (try go_big_quiet_step (fail))
              refine wpQuiet_nil ?_
              intro W hW
              go_wp2
              go_roundg (gk - 1)
              case measure => have := HE.out.2.1; omega
              case rel => exact ⟨k + 1, by have := HE.out.2.1; omega, by go_num, HN.out, Ext.trans HE.out.1 hW⟩
            · obtain ⟨j, hj⟩ : ∃ j, k = j + 1 := ⟨k - 1, by omega⟩
              have cj := HE.out.2.2.2.1 j hj
              have e1 : ((k : Int) - 1).toNat = j := by omega
              have d4 : decide (0 < k) = true := decide_eq_true (by omega)
              have g1 : (0 : Int) ≤ (k : Int) - 1 := by omega
              have g2 : (k : Int) - 1 < n := by omega
              by_cases h6 : (y : Int) ≤ p
              · have d6 : decide ((y : Int) ≤ p) = true := decide_eq_true h6
                have HN := Lib.hid (show false = risB l size by rw [HE.out.2.2.1]; rw [show decide (p < (y : Int)) = false from decide_eq_false (by omega), Bool.and_false]; rfl)
                clear hx hp h2 hj hk0
                go_wp2
                refine wp_region_on (by kernel_rfl) (by kernel_rfl) ?_
                iterate 10 (try go_big_quiet_step (fail))
                iterate 10 (try go_big_quiet_step (fail))
                iterate 10 (try go_big_quiet_step (fail))
                iterate 10 (try go_big_quiet_step (fail))
                refine wpQuiet_nil ?_
                intro W hW
                go_wp2
                go_ret
                exact ⟨rb HN.out, Ext.trans HE.out.1 hW⟩
              · have d6 : decide ((y : Int) ≤ p) = false := decide_eq_false h6
                have HN := Lib.hid (show risB l size = risF size (prevL l (k + 1)) (l.drop (k + 1)) by rw [HE.out.2.2.1, show decide (0 ≤ (y : Int)) = true from decide_eq_true h1', h2, show decide ((y : Int) < size) = true from decide_eq_true (by omega), show decide (p < (y : Int)) = true from decide_eq_true (by omega)]; rfl)
                clear hx hp h2 hj hk0
                go_wp2
                refine wp_region_on (by kernel_rfl) (by kernel_rfl) ?_
                iterate 10 (try go_big_quiet_step (fail))
                iterate 10 (try go_big_quiet_step (fail))
                iterate 10 (try go_big_quiet_step (fail))
                iterate 10 (try go_big_quiet_step (fail))
                refine wpQuiet_nil ?_
                intro W hW
                go_wp2
                go_roundg (gk - 1)
                case measure => have := HE.out.2.1; omega
                case rel => exact ⟨k + 1, by have := HE.out.2.1; omega, by go_num, HN.out, Ext.trans HE.out.1 hW⟩
        · have hb1 : ((y : Int) % 4 != 0) = true := by simpa using h2
          have hb2 : ((y : Int).tmod 4 != 0) = true := by rw [Int.tmod_eq_emod_of_nonneg h1']; exact hb1
          have HN := Lib.hid (show false = risB l size by rw [HE.out.2.2.1]; rw [show decide ((y : Int) % 4 = 0) = false from decide_eq_false h2, Bool.and_false]; rfl)
          clear hx hp h2
          go_wp2
          refine wp_region_on (by kernel_rfl) (by kernel_rfl) ?_
          iterate 10 (try go_big_quiet_step (fail))
          iterate 10 (try go_big_quiet_step (fail))
          iterate 10 (try go_big_quiet_step (fail))
          iterate 10 (try go_big_quiet_step (fail))
          refine wpQuiet_nil ?_
          intro W hW
          go_wp2
          go_ret
          exact ⟨rb HN.out, Ext.trans HE.out.1 hW⟩
    · obtain rfl : k = n := by omega
      have h5 : ¬ (k : Int) < k := by omega
      rw [ris_end l size k (by rw [H.out.1]; exact Nat.le_refl _)] at ht
      have HN := Lib.hid ht.symm
      have HE := Lib.hid hE
      clear hE ht hk
      go_wp2
      go_ret
      exact ⟨rb HN.out, HE.out⟩
end
end Go.Proofs.YtopgbggighaknaaGreatDoor
/- selionref04: Right. -/
namespace Go.Proofs.YtopgbggighaknaaGreatDoor
open Go.RowKit Go
section
set_option maxHeartbeats 4000000 in
set_option maxRecDepth 100000 in
theorem right_is (A B : Option Addr) (n m c c' : Nat) (s t : Int) (l r : List Int) (hn : n ≤ 1000000) (hm : m ≤ 1000000) (w : World) (h : Il w A n l) (h' : Il w B m r) :
    Calls Tryz.prog 34 #[.agg #[.int .i64 s, .slice A n c, .int .i64 t, .slice B m c']] w fun e w' => e = .returned (.bool (rightB ⟨s, l, t, r⟩)) ∧ Ext w w' := by
  have E1 := ext1 w (.cells #[.int .i64 s, .slice A n c, .int .i64 t, .slice B m c'] 25)
  have R1 := Lib.hid (fun W (hW : Ext (w.alloc (.cells #[.int .i64 s, .slice A n c, .int .i64 t, .slice B m c'] 25)) W) => rising_is A n c l s hn W (h.ext (Ext.trans E1 hW)))
  have R2 := Lib.hid (fun W (hW : Ext (w.alloc (.cells #[.int .i64 s, .slice A n c, .int .i64 t, .slice B m c'] 25)) W) => rising_is B m c' r t hm W (h'.ext (Ext.trans E1 hW)))
  have HE := Lib.hid E1
  rcases Classical.em (0 ≤ s) with q1 | q1
  rotate_left
  · have dq1 : decide (0 ≤ s) = false := decide_eq_false q1
    have n1 : ¬ (0 : Int) ≤ s := q1
    have HN := Lib.hid (show false = rightB ⟨s, l, t, r⟩ by unfold rightB; rw [dq1]; simp)
    clear h h' E1
    go_enter Tryz.func34, Tryz.ntmps34
    go_wp2
    go_ret
    exact ⟨rb HN.out, HE.out⟩
  have dq1 : decide (0 ≤ s) = true := decide_eq_true q1
  obtain ⟨S, rfl⟩ : ∃ k : Nat, s = k := ⟨s.toNat, by omega⟩
  rcases Classical.em ((S : Int) ≤ 1024) with q2 | q2
  rotate_left
  · have dq2 : decide ((S : Int) ≤ 1024) = false := decide_eq_false q2
    have n2 : decide (S ≤ 1024) = false := decide_eq_false (by omega)
    have HN := Lib.hid (show false = rightB ⟨(S : Int), l, t, r⟩ by unfold rightB; rw [dq2]; simp)
    clear h h' E1
    go_enter Tryz.func34, Tryz.ntmps34
    go_wp2
    go_ret
    exact ⟨rb HN.out, HE.out⟩
  have dq2 : decide ((S : Int) ≤ 1024) = true := decide_eq_true q2
  have e2 : decide (S ≤ 1024) = true := decide_eq_true (by omega)
  rcases Classical.em ((S : Int) % 4 = 0) with q3 | q3
  rotate_left
  · have dq3 : decide ((S : Int) % 4 = 0) = false := decide_eq_false q3
    have n3 : ((S : Int) % 4 == 0) = false := by simpa using q3
    have n3' : ((S : Int).tmod 4 == 0) = false := by rw [Int.tmod_eq_emod_of_nonneg q1]; exact n3
    have HN := Lib.hid (show false = rightB ⟨(S : Int), l, t, r⟩ by unfold rightB; rw [dq3]; simp)
    clear h h' E1
    go_enter Tryz.func34, Tryz.ntmps34
    go_wp2
    go_ret
    exact ⟨rb HN.out, HE.out⟩
  have dq3 : decide ((S : Int) % 4 = 0) = true := decide_eq_true q3
  have e3 : ((S : Int) % 4 == 0) = true := by simpa using q3
  have e3' : ((S : Int).tmod 4 == 0) = true := by rw [Int.tmod_eq_emod_of_nonneg q1]; exact e3
  rcases Classical.em (0 ≤ t) with q4 | q4
  rotate_left
  · have dq4 : decide (0 ≤ t) = false := decide_eq_false q4
    have n4 : ¬ (0 : Int) ≤ t := q4
    have HN := Lib.hid (show false = rightB ⟨(S : Int), l, t, r⟩ by unfold rightB; rw [dq4]; simp)
    clear h h' E1
    go_enter Tryz.func34, Tryz.ntmps34
    go_wp2
    go_ret
    exact ⟨rb HN.out, HE.out⟩
  have dq4 : decide (0 ≤ t) = true := decide_eq_true q4
  obtain ⟨T, rfl⟩ : ∃ k : Nat, t = k := ⟨t.toNat, by omega⟩
  rcases Classical.em ((T : Int) ≤ 256) with q5 | q5
  rotate_left
  · have dq5 : decide ((T : Int) ≤ 256) = false := decide_eq_false q5
    have n5 : decide (T ≤ 256) = false := decide_eq_false (by omega)
    have HN := Lib.hid (show false = rightB ⟨(S : Int), l, (T : Int), r⟩ by unfold rightB; rw [dq5]; simp)
    clear h h' E1
    go_enter Tryz.func34, Tryz.ntmps34
    go_wp2
    go_ret
    exact ⟨rb HN.out, HE.out⟩
  have dq5 : decide ((T : Int) ≤ 256) = true := decide_eq_true q5
  have e5 : decide (T ≤ 256) = true := decide_eq_true (by omega)
  rcases Classical.em ((T : Int) % 4 = 0) with q6 | q6
  rotate_left
  · have dq6 : decide ((T : Int) % 4 = 0) = false := decide_eq_false q6
    have n6 : ((T : Int) % 4 == 0) = false := by simpa using q6
    have n6' : ((T : Int).tmod 4 == 0) = false := by rw [Int.tmod_eq_emod_of_nonneg q4]; exact n6
    have HN := Lib.hid (show false = rightB ⟨(S : Int), l, (T : Int), r⟩ by unfold rightB; rw [dq6]; simp)
    clear h h' E1
    go_enter Tryz.func34, Tryz.ntmps34
    go_wp2
    go_ret
    exact ⟨rb HN.out, HE.out⟩
  have dq6 : decide ((T : Int) % 4 = 0) = true := decide_eq_true q6
  have e6 : ((T : Int) % 4 == 0) = true := by simpa using q6
  have e6' : ((T : Int).tmod 4 == 0) = true := by rw [Int.tmod_eq_emod_of_nonneg q4]; exact e6
  have HQ : rightB ⟨(S : Int), l, (T : Int), r⟩ = (risB l S && risB r T) := by unfold rightB; simp [q1, q2, q3, q4, q5, q6]
  cases hl : risB l S
  · have HN := Lib.hid (show false = rightB ⟨(S : Int), l, (T : Int), r⟩ by rw [HQ, hl]; rfl)
    rw [hl] at R1
    clear HQ hl
    clear h h' E1
    go_enter Tryz.func34, Tryz.ntmps34
    go_wp2_with (first | (go_at_call 51; with_reducible refine (R1.out _ (Ext.refl _)).mono ?_; rintro e w1 ⟨rfl, k1⟩; have p2 := (at_new k1).cell 2; have p3 := (at_new k1).cell 3; simp at p2 p3))
    go_ret
    exact ⟨rb HN.out, Ext.trans HE.out k1⟩
  · cases hr : risB r T
    · have HN := Lib.hid (show false = rightB ⟨(S : Int), l, (T : Int), r⟩ by rw [HQ, hl, hr]; rfl)
      rw [hl] at R1
      rw [hr] at R2
      clear HQ hl hr
      clear h h' E1
      go_enter Tryz.func34, Tryz.ntmps34
      go_wp2_with (first | (go_at_call 51; with_reducible refine (R1.out _ (Ext.refl _)).mono ?_; rintro e w1 ⟨rfl, k1⟩; have p2 := (at_new k1).cell 2; have p3 := (at_new k1).cell 3; simp at p2 p3) | (go_at_call 51; with_reducible refine (R2.out _ k1).mono ?_; rintro e w2 ⟨rfl, k2⟩))
      go_ret
      exact ⟨rb HN.out, Ext.trans HE.out (Ext.trans k1 k2)⟩
    · have HN := Lib.hid (show true = rightB ⟨(S : Int), l, (T : Int), r⟩ by rw [HQ, hl, hr]; rfl)
      rw [hl] at R1
      rw [hr] at R2
      clear HQ hl hr
      clear h h' E1
      go_enter Tryz.func34, Tryz.ntmps34
      go_wp2_with (first | (go_at_call 51; with_reducible refine (R1.out _ (Ext.refl _)).mono ?_; rintro e w1 ⟨rfl, k1⟩; have p2 := (at_new k1).cell 2; have p3 := (at_new k1).cell 3; simp at p2 p3) | (go_at_call 51; with_reducible refine (R2.out _ k1).mono ?_; rintro e w2 ⟨rfl, k2⟩))
      go_ret
      exact ⟨rb HN.out, Ext.trans HE.out (Ext.trans k1 k2)⟩
end
end Go.Proofs.YtopgbggighaknaaGreatDoor
/- selionref04: Same. -/
namespace Go.Proofs.YtopgbggighaknaaGreatDoor
open Go.RowKit Go
section
set_option maxHeartbeats 4000000 in
set_option maxRecDepth 100000 in
theorem same_is (A1 B1 : Option Addr) (n1 m1 c1 e1 : Nat) (s1 t1 : Int) (l1 r1 : List Int) (hn1 : n1 ≤ 1000000) (hm1 : m1 ≤ 1000000) (A2 B2 : Option Addr) (n2 m2 c2 e2 : Nat) (s2 t2 : Int) (l2 r2 : List Int)  (w : World) (h1 : Il w A1 n1 l1) (h1' : Il w B1 m1 r1) (h2 : Il w A2 n2 l2) (h2' : Il w B2 m2 r2) :
    Calls Tryz.prog 20 #[.agg #[.int .i64 s1, .slice A1 n1 c1, .int .i64 t1, .slice B1 m1 e1], .agg #[.int .i64 s2, .slice A2 n2 c2, .int .i64 t2, .slice B2 m2 e2]] w fun e w' => e = .returned (.bool (decide ((⟨s1, l1, t1, r1⟩ : DescR) = ⟨s2, l2, t2, r2⟩))) ∧ Ext w w' := by
  have E2 := ext2 w (.cells #[.int .i64 s1, .slice A1 n1 c1, .int .i64 t1, .slice B1 m1 e1] 25) (.cells #[.int .i64 s2, .slice A2 n2 c2, .int .i64 t2, .slice B2 m2 e2] 25)
  have R1 := Lib.hid (fun W (hW : Ext ((w.alloc (.cells #[.int .i64 s1, .slice A1 n1 c1, .int .i64 t1, .slice B1 m1 e1] 25)).alloc (.cells #[.int .i64 s2, .slice A2 n2 c2, .int .i64 t2, .slice B2 m2 e2] 25)) W) => ints_is A1 A2 n1 n2 c1 c2 l1 l2 hn1 W (h1.ext (Ext.trans E2 hW)) (h2.ext (Ext.trans E2 hW)))
  have R2 := Lib.hid (fun W (hW : Ext ((w.alloc (.cells #[.int .i64 s1, .slice A1 n1 c1, .int .i64 t1, .slice B1 m1 e1] 25)).alloc (.cells #[.int .i64 s2, .slice A2 n2 c2, .int .i64 t2, .slice B2 m2 e2] 25)) W) => ints_is B1 B2 m1 m2 e1 e2 r1 r2 hm1 W (h1'.ext (Ext.trans E2 hW)) (h2'.ext (Ext.trans E2 hW)))
  have HE := Lib.hid E2
  clear h1 h1' h2 h2' E2
  by_cases q1 : s1 = s2
  · subst q1
    by_cases q2 : t1 = t2
    · subst q2
      have HQ : decide ((⟨s1, l1, t1, r1⟩ : DescR) = ⟨s1, l2, t1, r2⟩) = (decide (l1 = l2) && decide (r1 = r2)) := by rw [Bool.eq_iff_iff]; simp
      cases hl : decide (l1 = l2)
      · have HN := Lib.hid (show false = decide ((⟨s1, l1, t1, r1⟩ : DescR) = ⟨s1, l2, t1, r2⟩) by rw [HQ, hl]; rfl)
        rw [hl] at R1
        clear HQ hl
        go_enter Tryz.func20, Tryz.ntmps20
        go_wp2_with (first | (go_at_call 38; with_reducible refine (R1.out _ (Ext.refl _)).mono ?_; rintro e w1 ⟨rfl, k1⟩; have p1 := (at_old k1).cell 1; have p3 := (at_old k1).cell 3; have p5 := (at_new2 k1).cell 1; have p7 := (at_new2 k1).cell 3; simp at p1 p3 p5 p7))
        go_ret
        exact ⟨rb HN.out, Ext.trans HE.out k1⟩
      · skip
        cases hr : decide (r1 = r2)
        · have HN := Lib.hid (show false = decide ((⟨s1, l1, t1, r1⟩ : DescR) = ⟨s1, l2, t1, r2⟩) by rw [HQ, hl, hr]; rfl)
          rw [hl] at R1
          rw [hr] at R2
          clear HQ hl hr
          go_enter Tryz.func20, Tryz.ntmps20
          go_wp2_with (first | (go_at_call 38; with_reducible refine (R1.out _ (Ext.refl _)).mono ?_; rintro e w1 ⟨rfl, k1⟩; have p1 := (at_old k1).cell 1; have p3 := (at_old k1).cell 3; have p5 := (at_new2 k1).cell 1; have p7 := (at_new2 k1).cell 3; simp at p1 p3 p5 p7) | (go_at_call 38; with_reducible refine (R2.out _ k1).mono ?_; rintro e w2 ⟨rfl, k2⟩))
          go_ret
          exact ⟨rb HN.out, Ext.trans HE.out (Ext.trans k1 k2)⟩
        · have HN := Lib.hid (show true = decide ((⟨s1, l1, t1, r1⟩ : DescR) = ⟨s1, l2, t1, r2⟩) by rw [HQ, hl, hr]; rfl)
          rw [hl] at R1
          rw [hr] at R2
          clear HQ hl hr
          go_enter Tryz.func20, Tryz.ntmps20
          go_wp2_with (first | (go_at_call 38; with_reducible refine (R1.out _ (Ext.refl _)).mono ?_; rintro e w1 ⟨rfl, k1⟩; have p1 := (at_old k1).cell 1; have p3 := (at_old k1).cell 3; have p5 := (at_new2 k1).cell 1; have p7 := (at_new2 k1).cell 3; simp at p1 p3 p5 p7) | (go_at_call 38; with_reducible refine (R2.out _ k1).mono ?_; rintro e w2 ⟨rfl, k2⟩))
          go_ret
          exact ⟨rb HN.out, Ext.trans HE.out (Ext.trans k1 k2)⟩
    · have b2 : (t1 == t2) = false := by simpa using q2
      have HN := Lib.hid (show false = decide ((⟨s1, l1, t1, r1⟩ : DescR) = ⟨s1, l2, t2, r2⟩) from (decide_eq_false (fun h => q2 (by cases h; rfl))).symm)
      clear q2
      go_enter Tryz.func20, Tryz.ntmps20
      go_wp2
      go_ret
      exact ⟨rb HN.out, HE.out⟩
  · have b1 : (s1 == s2) = false := by simpa using q1
    have HN := Lib.hid (show false = decide ((⟨s1, l1, t1, r1⟩ : DescR) = ⟨s2, l2, t2, r2⟩) from (decide_eq_false (fun h => q1 (by cases h; rfl))).symm)
    clear q1
    go_enter Tryz.func20, Tryz.ntmps20
    go_wp2
    go_ret
    exact ⟨rb HN.out, HE.out⟩
end
end Go.Proofs.YtopgbggighaknaaGreatDoor
/- selionlaw04: Cut. -/
namespace Go.Proofs.YtopgbggighaknaaGreatDoor
open Go.RowKit Go
/-- A result of four cells, stored. -/
theorem res_store4 {w w2 : World} {R : Nat} {x0 x1 x2 x3 u0 u1 u2 u3 : Value} {t : TypeId} (hB : Blk w2 R #[x0, x1, x2, x3] t) (hE : Ext w w2) (hR : w.heap.size ≤ R) :
    let W := (((w2.setCell ⟨R, 0, none⟩ u0).setCell ⟨R, 1, none⟩ u1).setCell ⟨R, 2, none⟩ u2).setCell ⟨R, 3, none⟩ u3
    W.cell? ⟨R, 0, none⟩ = some u0 ∧ W.cell? ⟨R, 1, none⟩ = some u1 ∧ W.cell? ⟨R, 2, none⟩ = some u2 ∧ W.cell? ⟨R, 3, none⟩ = some u3 ∧ Ext w W := by
  have h3 := (((hB.set 0 u0).set 1 u1).set 2 u2).set 3 u3
  exact ⟨by rw [h3.cell]; rfl, by rw [h3.cell]; rfl, by rw [h3.cell]; rfl, by rw [h3.cell]; rfl, (((hE.setCell (p := ⟨R, 0, none⟩) hR _).setCell (p := ⟨R, 1, none⟩) hR _).setCell (p := ⟨R, 2, none⟩) hR _).setCell (p := ⟨R, 3, none⟩) hR _⟩
section
set_option maxHeartbeats 4000000 in
set_option maxRecDepth 100000 in
theorem cutd_is (A B : Option Addr) (n m c e : Nat) (s t : Int) (hA : A = none → n = 0 ∧ c = 0) (hB : B = none → m = 0 ∧ e = 0) (hn : n ≤ c) (hm : m ≤ e) (hc : c ≤ 9223372036854775807) (he : e ≤ 9223372036854775807) (w : World) :
    Calls Tryz.prog 10 #[.agg #[.int .i64 s, .slice A n c, .int .i64 t, .slice B m e]] w fun e' w' => e' = .returned (.agg #[.int .i64 s, .slice A (min n 20) c, .int .i64 t, .slice B (min m 20) e]) ∧ Ext w w' := by
  rcases A with _ | ad
  · obtain ⟨rfl, rfl⟩ := hA rfl
    rw [show min 0 20 = 0 by omega]
    rcases B with _ | bd
    · obtain ⟨rfl, rfl⟩ := hB rfl
      try rw [show min 0 20 = 0 by omega]
      clear hA hB
      go_enter Tryz.func10, Tryz.ntmps10
      go_wp2
      refine wp_region_tail 20 19 rfl (by kernel_rfl) (by kernel_rfl) (by kernel_rfl) ?_
      apply Exists.intro
      refine ⟨fun c => ?_, fun W hW => ?_⟩
      · have hx := fun (o : From c.w) p h => From.cell2 c.h o p h
        simp only [List.take_succ_cons, List.take_zero]
        repeat (go_big_quiet_step (fail))
        exact wpQuiet_nil rfl
      · simp only [List.drop_succ_cons, List.drop_zero]
        have p0 := (at_new2 hW).cell 0
        have q0 := (at_new2 hW).frozen 0
        have p1 := (at_new2 hW).cell 1
        have q1 := (at_new2 hW).frozen 1
        have p2 := (at_new2 hW).cell 2
        have q2 := (at_new2 hW).frozen 2
        have p3 := (at_new2 hW).cell 3
        have q3 := (at_new2 hW).frozen 3
        simp at p0 p1 p2 p3
        have HW := Lib.hid hW
        clear hW
        go_wp2
        obtain ⟨s0, s1, s2, s3, hE⟩ := res_store4 (w := w) (u0 := .int .i64 s) (u1 := .slice none 0 0) (u2 := .int .i64 t) (u3 := .slice none 0 0) (at_new2 HW.out) (Ext.trans (ext2 _ _ _) HW.out) (by omega)
        exact bodyPost_ret (v := .agg #[.int .i64 s, .slice none 0 0, .int .i64 t, .slice none 0 0]) (by simp [results, Tryz.results10, go_sem, s0, s1, s2, s3]) rfl ⟨rfl, hE⟩
    · skip
      by_cases hm : m ≤ 20
      · rw [show min m 20 = m by omega]
        have hm5 : (m : Int) ≤ 20 := by omega
        clear hA hB
        go_enter Tryz.func10, Tryz.ntmps10
        go_wp2
        refine wp_region_tail 20 19 rfl (by kernel_rfl) (by kernel_rfl) (by kernel_rfl) ?_
        apply Exists.intro
        refine ⟨fun c => ?_, fun W hW => ?_⟩
        · have hx := fun (o : From c.w) p h => From.cell2 c.h o p h
          simp only [List.take_succ_cons, List.take_zero]
          repeat (go_big_quiet_step (fail))
          exact wpQuiet_nil rfl
        · simp only [List.drop_succ_cons, List.drop_zero]
          have p0 := (at_new2 hW).cell 0
          have q0 := (at_new2 hW).frozen 0
          have p1 := (at_new2 hW).cell 1
          have q1 := (at_new2 hW).frozen 1
          have p2 := (at_new2 hW).cell 2
          have q2 := (at_new2 hW).frozen 2
          have p3 := (at_new2 hW).cell 3
          have q3 := (at_new2 hW).frozen 3
          simp at p0 p1 p2 p3
          have HW := Lib.hid hW
          clear hW
          go_wp2
          obtain ⟨s0, s1, s2, s3, hE⟩ := res_store4 (w := w) (u0 := .int .i64 s) (u1 := .slice none 0 0) (u2 := .int .i64 t) (u3 := .slice (some bd) m e) (at_new2 HW.out) (Ext.trans (ext2 _ _ _) HW.out) (by omega)
          exact bodyPost_ret (v := .agg #[.int .i64 s, .slice none 0 0, .int .i64 t, .slice (some bd) m e]) (by simp [results, Tryz.results10, go_sem, s0, s1, s2, s3]) rfl ⟨rfl, hE⟩
      · rw [show min m 20 = 20 by omega]
        have hm5 : ¬ (m : Int) ≤ 20 := by omega
        have hm6 : 20 ≤ e := by omega
        clear hA hB
        go_enter Tryz.func10, Tryz.ntmps10
        go_wp2
        refine wp_region_tail 20 19 rfl (by kernel_rfl) (by kernel_rfl) (by kernel_rfl) ?_
        apply Exists.intro
        refine ⟨fun c => ?_, fun W hW => ?_⟩
        · have hx := fun (o : From c.w) p h => From.cell2 c.h o p h
          simp only [List.take_succ_cons, List.take_zero]
          repeat (go_big_quiet_step (fail))
          exact wpQuiet_nil rfl
        · simp only [List.drop_succ_cons, List.drop_zero]
          have p0 := (at_new2 hW).cell 0
          have q0 := (at_new2 hW).frozen 0
          have p1 := (at_new2 hW).cell 1
          have q1 := (at_new2 hW).frozen 1
          have p2 := (at_new2 hW).cell 2
          have q2 := (at_new2 hW).frozen 2
          have p3 := (at_new2 hW).cell 3
          have q3 := (at_new2 hW).frozen 3
          simp at p0 p1 p2 p3
          have HW := Lib.hid hW
          clear hW
          go_wp2
          obtain ⟨s0, s1, s2, s3, hE⟩ := res_store4 (w := w) (u0 := .int .i64 s) (u1 := .slice none 0 0) (u2 := .int .i64 t) (u3 := .slice (some bd) 20 e) (at_new2 HW.out) (Ext.trans (ext2 _ _ _) HW.out) (by omega)
          exact bodyPost_ret (v := .agg #[.int .i64 s, .slice none 0 0, .int .i64 t, .slice (some bd) 20 e]) (by simp [results, Tryz.results10, go_sem, s0, s1, s2, s3]) rfl ⟨rfl, hE⟩
  · skip
    by_cases hn : n ≤ 20
    · rw [show min n 20 = n by omega]
      have hn5 : (n : Int) ≤ 20 := by omega
      rcases B with _ | bd
      · obtain ⟨rfl, rfl⟩ := hB rfl
        rw [show min 0 20 = 0 by omega]
        clear hA hB
        go_enter Tryz.func10, Tryz.ntmps10
        go_wp2
        refine wp_region_tail 20 19 rfl (by kernel_rfl) (by kernel_rfl) (by kernel_rfl) ?_
        apply Exists.intro
        refine ⟨fun c => ?_, fun W hW => ?_⟩
        · have hx := fun (o : From c.w) p h => From.cell2 c.h o p h
          simp only [List.take_succ_cons, List.take_zero]
          repeat (go_big_quiet_step (fail))
          exact wpQuiet_nil rfl
        · simp only [List.drop_succ_cons, List.drop_zero]
          have p0 := (at_new2 hW).cell 0
          have q0 := (at_new2 hW).frozen 0
          have p1 := (at_new2 hW).cell 1
          have q1 := (at_new2 hW).frozen 1
          have p2 := (at_new2 hW).cell 2
          have q2 := (at_new2 hW).frozen 2
          have p3 := (at_new2 hW).cell 3
          have q3 := (at_new2 hW).frozen 3
          simp at p0 p1 p2 p3
          have HW := Lib.hid hW
          clear hW
          go_wp2
          obtain ⟨s0, s1, s2, s3, hE⟩ := res_store4 (w := w) (u0 := .int .i64 s) (u1 := .slice (some ad) n c) (u2 := .int .i64 t) (u3 := .slice none 0 0) (at_new2 HW.out) (Ext.trans (ext2 _ _ _) HW.out) (by omega)
          exact bodyPost_ret (v := .agg #[.int .i64 s, .slice (some ad) n c, .int .i64 t, .slice none 0 0]) (by simp [results, Tryz.results10, go_sem, s0, s1, s2, s3]) rfl ⟨rfl, hE⟩
      · skip
        by_cases hm : m ≤ 20
        · rw [show min m 20 = m by omega]
          have hm5 : (m : Int) ≤ 20 := by omega
          clear hA hB
          go_enter Tryz.func10, Tryz.ntmps10
          go_wp2
          refine wp_region_tail 20 19 rfl (by kernel_rfl) (by kernel_rfl) (by kernel_rfl) ?_
          apply Exists.intro
          refine ⟨fun c => ?_, fun W hW => ?_⟩
          · have hx := fun (o : From c.w) p h => From.cell2 c.h o p h
            simp only [List.take_succ_cons, List.take_zero]
            repeat (go_big_quiet_step (fail))
            exact wpQuiet_nil rfl
          · simp only [List.drop_succ_cons, List.drop_zero]
            have p0 := (at_new2 hW).cell 0
            have q0 := (at_new2 hW).frozen 0
            have p1 := (at_new2 hW).cell 1
            have q1 := (at_new2 hW).frozen 1
            have p2 := (at_new2 hW).cell 2
            have q2 := (at_new2 hW).frozen 2
            have p3 := (at_new2 hW).cell 3
            have q3 := (at_new2 hW).frozen 3
            simp at p0 p1 p2 p3
            have HW := Lib.hid hW
            clear hW
            go_wp2
            obtain ⟨s0, s1, s2, s3, hE⟩ := res_store4 (w := w) (u0 := .int .i64 s) (u1 := .slice (some ad) n c) (u2 := .int .i64 t) (u3 := .slice (some bd) m e) (at_new2 HW.out) (Ext.trans (ext2 _ _ _) HW.out) (by omega)
            exact bodyPost_ret (v := .agg #[.int .i64 s, .slice (some ad) n c, .int .i64 t, .slice (some bd) m e]) (by simp [results, Tryz.results10, go_sem, s0, s1, s2, s3]) rfl ⟨rfl, hE⟩
        · rw [show min m 20 = 20 by omega]
          have hm5 : ¬ (m : Int) ≤ 20 := by omega
          have hm6 : 20 ≤ e := by omega
          clear hA hB
          go_enter Tryz.func10, Tryz.ntmps10
          go_wp2
          refine wp_region_tail 20 19 rfl (by kernel_rfl) (by kernel_rfl) (by kernel_rfl) ?_
          apply Exists.intro
          refine ⟨fun c => ?_, fun W hW => ?_⟩
          · have hx := fun (o : From c.w) p h => From.cell2 c.h o p h
            simp only [List.take_succ_cons, List.take_zero]
            repeat (go_big_quiet_step (fail))
            exact wpQuiet_nil rfl
          · simp only [List.drop_succ_cons, List.drop_zero]
            have p0 := (at_new2 hW).cell 0
            have q0 := (at_new2 hW).frozen 0
            have p1 := (at_new2 hW).cell 1
            have q1 := (at_new2 hW).frozen 1
            have p2 := (at_new2 hW).cell 2
            have q2 := (at_new2 hW).frozen 2
            have p3 := (at_new2 hW).cell 3
            have q3 := (at_new2 hW).frozen 3
            simp at p0 p1 p2 p3
            have HW := Lib.hid hW
            clear hW
            go_wp2
            obtain ⟨s0, s1, s2, s3, hE⟩ := res_store4 (w := w) (u0 := .int .i64 s) (u1 := .slice (some ad) n c) (u2 := .int .i64 t) (u3 := .slice (some bd) 20 e) (at_new2 HW.out) (Ext.trans (ext2 _ _ _) HW.out) (by omega)
            exact bodyPost_ret (v := .agg #[.int .i64 s, .slice (some ad) n c, .int .i64 t, .slice (some bd) 20 e]) (by simp [results, Tryz.results10, go_sem, s0, s1, s2, s3]) rfl ⟨rfl, hE⟩
    · rw [show min n 20 = 20 by omega]
      have hn5 : ¬ (n : Int) ≤ 20 := by omega
      have hn6 : 20 ≤ c := by omega
      rcases B with _ | bd
      · obtain ⟨rfl, rfl⟩ := hB rfl
        rw [show min 0 20 = 0 by omega]
        clear hA hB
        go_enter Tryz.func10, Tryz.ntmps10
        go_wp2
        refine wp_region_tail 20 19 rfl (by kernel_rfl) (by kernel_rfl) (by kernel_rfl) ?_
        apply Exists.intro
        refine ⟨fun c => ?_, fun W hW => ?_⟩
        · have hx := fun (o : From c.w) p h => From.cell2 c.h o p h
          simp only [List.take_succ_cons, List.take_zero]
          repeat (go_big_quiet_step (fail))
          exact wpQuiet_nil rfl
        · simp only [List.drop_succ_cons, List.drop_zero]
          have p0 := (at_new2 hW).cell 0
          have q0 := (at_new2 hW).frozen 0
          have p1 := (at_new2 hW).cell 1
          have q1 := (at_new2 hW).frozen 1
          have p2 := (at_new2 hW).cell 2
          have q2 := (at_new2 hW).frozen 2
          have p3 := (at_new2 hW).cell 3
          have q3 := (at_new2 hW).frozen 3
          simp at p0 p1 p2 p3
          have HW := Lib.hid hW
          clear hW
          go_wp2
          obtain ⟨s0, s1, s2, s3, hE⟩ := res_store4 (w := w) (u0 := .int .i64 s) (u1 := .slice (some ad) 20 c) (u2 := .int .i64 t) (u3 := .slice none 0 0) (at_new2 HW.out) (Ext.trans (ext2 _ _ _) HW.out) (by omega)
          exact bodyPost_ret (v := .agg #[.int .i64 s, .slice (some ad) 20 c, .int .i64 t, .slice none 0 0]) (by simp [results, Tryz.results10, go_sem, s0, s1, s2, s3]) rfl ⟨rfl, hE⟩
      · skip
        by_cases hm : m ≤ 20
        · rw [show min m 20 = m by omega]
          have hm5 : (m : Int) ≤ 20 := by omega
          clear hA hB
          go_enter Tryz.func10, Tryz.ntmps10
          go_wp2
          refine wp_region_tail 20 19 rfl (by kernel_rfl) (by kernel_rfl) (by kernel_rfl) ?_
          apply Exists.intro
          refine ⟨fun c => ?_, fun W hW => ?_⟩
          · have hx := fun (o : From c.w) p h => From.cell2 c.h o p h
            simp only [List.take_succ_cons, List.take_zero]
            repeat (go_big_quiet_step (fail))
            exact wpQuiet_nil rfl
          · simp only [List.drop_succ_cons, List.drop_zero]
            have p0 := (at_new2 hW).cell 0
            have q0 := (at_new2 hW).frozen 0
            have p1 := (at_new2 hW).cell 1
            have q1 := (at_new2 hW).frozen 1
            have p2 := (at_new2 hW).cell 2
            have q2 := (at_new2 hW).frozen 2
            have p3 := (at_new2 hW).cell 3
            have q3 := (at_new2 hW).frozen 3
            simp at p0 p1 p2 p3
            have HW := Lib.hid hW
            clear hW
            go_wp2
            obtain ⟨s0, s1, s2, s3, hE⟩ := res_store4 (w := w) (u0 := .int .i64 s) (u1 := .slice (some ad) 20 c) (u2 := .int .i64 t) (u3 := .slice (some bd) m e) (at_new2 HW.out) (Ext.trans (ext2 _ _ _) HW.out) (by omega)
            exact bodyPost_ret (v := .agg #[.int .i64 s, .slice (some ad) 20 c, .int .i64 t, .slice (some bd) m e]) (by simp [results, Tryz.results10, go_sem, s0, s1, s2, s3]) rfl ⟨rfl, hE⟩
        · rw [show min m 20 = 20 by omega]
          have hm5 : ¬ (m : Int) ≤ 20 := by omega
          have hm6 : 20 ≤ e := by omega
          clear hA hB
          go_enter Tryz.func10, Tryz.ntmps10
          go_wp2
          refine wp_region_tail 20 19 rfl (by kernel_rfl) (by kernel_rfl) (by kernel_rfl) ?_
          apply Exists.intro
          refine ⟨fun c => ?_, fun W hW => ?_⟩
          · have hx := fun (o : From c.w) p h => From.cell2 c.h o p h
            simp only [List.take_succ_cons, List.take_zero]
            repeat (go_big_quiet_step (fail))
            exact wpQuiet_nil rfl
          · simp only [List.drop_succ_cons, List.drop_zero]
            have p0 := (at_new2 hW).cell 0
            have q0 := (at_new2 hW).frozen 0
            have p1 := (at_new2 hW).cell 1
            have q1 := (at_new2 hW).frozen 1
            have p2 := (at_new2 hW).cell 2
            have q2 := (at_new2 hW).frozen 2
            have p3 := (at_new2 hW).cell 3
            have q3 := (at_new2 hW).frozen 3
            simp at p0 p1 p2 p3
            have HW := Lib.hid hW
            clear hW
            go_wp2
            obtain ⟨s0, s1, s2, s3, hE⟩ := res_store4 (w := w) (u0 := .int .i64 s) (u1 := .slice (some ad) 20 c) (u2 := .int .i64 t) (u3 := .slice (some bd) 20 e) (at_new2 HW.out) (Ext.trans (ext2 _ _ _) HW.out) (by omega)
            exact bodyPost_ret (v := .agg #[.int .i64 s, .slice (some ad) 20 c, .int .i64 t, .slice (some bd) 20 e]) (by simp [results, Tryz.results10, go_sem, s0, s1, s2, s3]) rfl ⟨rfl, hE⟩
end
end Go.Proofs.YtopgbggighaknaaGreatDoor
/- desc: Same, over slices.Equal (made by gen_samed.py). -/
namespace Go.Proofs.YtopgbggighaknaaGreatDoor
open Go.RowKit Go
section
set_option maxHeartbeats 2000000 in
theorem eql_is (A A' : Option Addr) (n n' c c' : Nat) (l l' : List Int) (hn : n ≤ 1000000) (w : World) (h : Il w A n l) (h' : Il w A' n' l') :
    Calls Tryz.prog 46 #[.slice A n c, .slice A' n' c'] w fun e w' => e = .returned (.bool (decide (l = l'))) ∧ Ext w w' := by
  by_cases hl : n = n'
  · subst hl
    have hlen := h.1.trans h'.1.symm
    have H := Lib.hid (And.intro h (And.intro h' hlen))
    clear h h' hlen
    go_enter Tryz.func46, Tryz.ntmps46
    go_wp2
    go_loopg [5, 13] n (fun m j i wr => ∃ k : Nat, k + m = n ∧ i = .int .i64 k ∧ l.take k = l'.take k ∧ Ext w wr)
    case atStart => exact ⟨0, by omega, rfl, rfl, Ext.refl _⟩
    case round =>
      obtain ⟨k, hk, rfl, ht, hE⟩ := hrel
      by_cases hlt : k < n
      · obtain ⟨ad, rfl, hb, hcell⟩ := (H.out.1.ext hE).at_ hlt
        obtain ⟨ad', rfl, hb', hcell'⟩ := (H.out.2.1.ext hE).at_ hlt
        have ck := hcell k hlt
        have ck' := hcell' k hlt
        have h5 : (k : Int) < n := by omega
        have h6 : (k : Int) + 1 ≤ 1000000 := by omega
        have e1 : l.take (k + 1) = l.take k ++ [l.getD k 0] := by rw [List.take_add_one, List.getD, List.getElem?_eq_getElem (by rw [H.out.1.1]; exact hlt)]; rfl
        have e2 : l'.take (k + 1) = l'.take k ++ [l'.getD k 0] := by rw [List.take_add_one, List.getD, List.getElem?_eq_getElem (by rw [H.out.2.1.1]; exact hlt)]; rfl
        have HE := Lib.hid (And.intro hE (And.intro hk (And.intro ht (And.intro e1 e2))))
        clear hE hcell hcell' hk ht e1 e2
        generalize hx : l.getD k 0 = x at *
        generalize hy : l'.getD k 0 = y at *
        by_cases hxy : x = y
        · subst hxy
          have hb1 : (x != x) = false := by simp
          clear hx hy
          go_wp2
          go_quiet (fail)
          go_wp2
          go_roundg (gk - 1)
          case measure => have := HE.out.2.1; omega
          case rel => exact ⟨k + 1, by have := HE.out.2.1; omega, by go_num, by rw [HE.out.2.2.2.1, HE.out.2.2.2.2, HE.out.2.2.1], Ext.trans HE.out.1 (ext_drewD _ _)⟩
        · have hb1 : (x != y) = true := by simpa using hxy
          have HN := Lib.hid (show decide (l = l') = false from decide_eq_false (fun e => hxy (by rw [← hx, ← hy, e])))
          clear hx hy hxy
          go_wp2
          go_quiet (fail)
          go_wp2
          go_ret
          exact ⟨rb (by rw [HN.out]), Ext.trans HE.out.1 (ext_drewD _ _)⟩
      · obtain rfl : k = n := by omega
        have h5 : ¬ (k : Int) < k := by omega
        have HN := Lib.hid (show decide (l = l') = true from decide_eq_true (by rw [← List.take_of_length_le (Nat.le_of_eq H.out.1.1), ← List.take_of_length_le (l := l') (Nat.le_of_eq H.out.2.1.1), ht]))
        have HE := Lib.hid hE
        clear hE ht hk
        go_wp2
        go_ret
        exact ⟨rb (by rw [HN.out]), HE.out⟩
  · have HN := Lib.hid (show decide (l = l') = false from decide_eq_false (fun e => hl (by rw [← h.1, ← h'.1, e])))
    have h5 : ((n : Int) != (n' : Int)) = true := by rw [bne_iff_ne]; omega
    clear h h'
    go_enter Tryz.func46, Tryz.ntmps46
    go_wp2
    go_ret
    exact ⟨rb (by rw [HN.out]), Ext.refl _⟩

set_option maxHeartbeats 4000000 in
set_option maxRecDepth 100000 in
theorem dsame_is (A1 B1 : Option Addr) (n1 m1 c1 e1 : Nat) (s1 t1 : Int) (l1 r1 : List Int) (hn1 : n1 ≤ 1000000) (hm1 : m1 ≤ 1000000) (A2 B2 : Option Addr) (n2 m2 c2 e2 : Nat) (s2 t2 : Int) (l2 r2 : List Int)  (w : World) (h1 : Il w A1 n1 l1) (h1' : Il w B1 m1 r1) (h2 : Il w A2 n2 l2) (h2' : Il w B2 m2 r2) :
    Calls Tryz.prog 27 #[.agg #[.int .i64 s1, .slice A1 n1 c1, .int .i64 t1, .slice B1 m1 e1], .agg #[.int .i64 s2, .slice A2 n2 c2, .int .i64 t2, .slice B2 m2 e2]] w fun e w' => e = .returned (.bool (decide ((⟨s1, l1, t1, r1⟩ : DescR) = ⟨s2, l2, t2, r2⟩))) ∧ Ext w w' := by
  have E2 := ext2 w (.cells #[.int .i64 s1, .slice A1 n1 c1, .int .i64 t1, .slice B1 m1 e1] 25) (.cells #[.int .i64 s2, .slice A2 n2 c2, .int .i64 t2, .slice B2 m2 e2] 25)
  have R1 := Lib.hid (fun W (hW : Ext ((w.alloc (.cells #[.int .i64 s1, .slice A1 n1 c1, .int .i64 t1, .slice B1 m1 e1] 25)).alloc (.cells #[.int .i64 s2, .slice A2 n2 c2, .int .i64 t2, .slice B2 m2 e2] 25)) W) => eql_is A1 A2 n1 n2 c1 c2 l1 l2 hn1 W (h1.ext (Ext.trans E2 hW)) (h2.ext (Ext.trans E2 hW)))
  have R2 := Lib.hid (fun W (hW : Ext ((w.alloc (.cells #[.int .i64 s1, .slice A1 n1 c1, .int .i64 t1, .slice B1 m1 e1] 25)).alloc (.cells #[.int .i64 s2, .slice A2 n2 c2, .int .i64 t2, .slice B2 m2 e2] 25)) W) => eql_is B1 B2 m1 m2 e1 e2 r1 r2 hm1 W (h1'.ext (Ext.trans E2 hW)) (h2'.ext (Ext.trans E2 hW)))
  have HE := Lib.hid E2
  clear h1 h1' h2 h2' E2
  by_cases q1 : s1 = s2
  · subst q1
    by_cases q2 : t1 = t2
    · subst q2
      have HQ : decide ((⟨s1, l1, t1, r1⟩ : DescR) = ⟨s1, l2, t1, r2⟩) = (decide (l1 = l2) && decide (r1 = r2)) := by rw [Bool.eq_iff_iff]; simp
      cases hl : decide (l1 = l2)
      · have HN := Lib.hid (show false = decide ((⟨s1, l1, t1, r1⟩ : DescR) = ⟨s1, l2, t1, r2⟩) by rw [HQ, hl]; rfl)
        rw [hl] at R1
        clear HQ hl
        go_enter Tryz.func27, Tryz.ntmps27
        go_wp2_with (first | (go_at_call 46; with_reducible refine (R1.out _ (Ext.refl _)).mono ?_; rintro e w1 ⟨rfl, k1⟩; have p1 := (at_old k1).cell 1; have p3 := (at_old k1).cell 3; have p5 := (at_new2 k1).cell 1; have p7 := (at_new2 k1).cell 3; simp at p1 p3 p5 p7))
        go_ret
        exact ⟨rb HN.out, Ext.trans HE.out k1⟩
      · skip
        cases hr : decide (r1 = r2)
        · have HN := Lib.hid (show false = decide ((⟨s1, l1, t1, r1⟩ : DescR) = ⟨s1, l2, t1, r2⟩) by rw [HQ, hl, hr]; rfl)
          rw [hl] at R1
          rw [hr] at R2
          clear HQ hl hr
          go_enter Tryz.func27, Tryz.ntmps27
          go_wp2_with (first | (go_at_call 46; with_reducible refine (R1.out _ (Ext.refl _)).mono ?_; rintro e w1 ⟨rfl, k1⟩; have p1 := (at_old k1).cell 1; have p3 := (at_old k1).cell 3; have p5 := (at_new2 k1).cell 1; have p7 := (at_new2 k1).cell 3; simp at p1 p3 p5 p7) | (go_at_call 46; with_reducible refine (R2.out _ k1).mono ?_; rintro e w2 ⟨rfl, k2⟩))
          go_ret
          exact ⟨rb HN.out, Ext.trans HE.out (Ext.trans k1 k2)⟩
        · have HN := Lib.hid (show true = decide ((⟨s1, l1, t1, r1⟩ : DescR) = ⟨s1, l2, t1, r2⟩) by rw [HQ, hl, hr]; rfl)
          rw [hl] at R1
          rw [hr] at R2
          clear HQ hl hr
          go_enter Tryz.func27, Tryz.ntmps27
          go_wp2_with (first | (go_at_call 46; with_reducible refine (R1.out _ (Ext.refl _)).mono ?_; rintro e w1 ⟨rfl, k1⟩; have p1 := (at_old k1).cell 1; have p3 := (at_old k1).cell 3; have p5 := (at_new2 k1).cell 1; have p7 := (at_new2 k1).cell 3; simp at p1 p3 p5 p7) | (go_at_call 46; with_reducible refine (R2.out _ k1).mono ?_; rintro e w2 ⟨rfl, k2⟩))
          go_ret
          exact ⟨rb HN.out, Ext.trans HE.out (Ext.trans k1 k2)⟩
    · have b2 : (t1 == t2) = false := by simpa using q2
      have HN := Lib.hid (show false = decide ((⟨s1, l1, t1, r1⟩ : DescR) = ⟨s1, l2, t2, r2⟩) from (decide_eq_false (fun h => q2 (by cases h; rfl))).symm)
      clear q2
      go_enter Tryz.func27, Tryz.ntmps27
      go_wp2
      go_ret
      exact ⟨rb HN.out, HE.out⟩
  · have b1 : (s1 == s2) = false := by simpa using q1
    have HN := Lib.hid (show false = decide ((⟨s1, l1, t1, r1⟩ : DescR) = ⟨s2, l2, t2, r2⟩) from (decide_eq_false (fun h => q1 (by cases h; rfl))).symm)
    clear q1
    go_enter Tryz.func27, Tryz.ntmps27
    go_wp2
    go_ret
    exact ⟨rb HN.out, HE.out⟩
end
end Go.Proofs.YtopgbggighaknaaGreatDoor
