/- desc: Same, over slices.Equal (made by gen_samed.py). -/
import Derived.Test.YtgmpcinlkiiboaaDoorInts
namespace Go.Proofs.YtgmpcinlkiiboaaDoor
open Go.RowKit Go
section
set_option maxHeartbeats 2000000 in
theorem eql_is (A A' : Option Addr) (n n' c c' : Nat) (l l' : List Int) (hn : n ≤ 1000000) (w : World) (h : Il w A n l) (h' : Il w A' n' l') :
    Calls Tryd.prog 33 #[.slice A n c, .slice A' n' c'] w fun e w' => e = .returned (.bool (decide (l = l'))) ∧ Ext w w' := by
  by_cases hl : n = n'
  · subst hl
    have hlen := h.1.trans h'.1.symm
    have H := Lib.hid (And.intro h (And.intro h' hlen))
    clear h h' hlen
    go_enter Tryd.func33, Tryd.ntmps33
    go_wp2
    go_loopg [5, 13] n (fun m j i wr => ∃ k : Nat, k + m = n ∧ i = .int .i64 k ∧ l.take k = l'.take k ∧ Ext w wr)
    case atStart => exact ⟨0, by omega, rfl, rfl, Ext.refl _⟩
    case round =>
      obtain ⟨k, hk, rfl, ht, hE⟩ := hrel
      by_cases hlt : k < n
      · obtain ⟨ad, rfl, hb, hcell⟩ := (H.out.1.ext hE).at_ hlt
        obtain ⟨ad', rfl, hb', hcell'⟩ := (H.out.2.1.ext hE).at_ hlt
        have ck := hcell k hlt
        have ck' := hcell' k hlt
        have h5 : (k : Int) < n := by omega
        have h6 : (k : Int) + 1 ≤ 1000000 := by omega
        have e1 : l.take (k + 1) = l.take k ++ [l.getD k 0] := by rw [List.take_add_one, List.getD, List.getElem?_eq_getElem (by rw [H.out.1.1]; exact hlt)]; rfl
        have e2 : l'.take (k + 1) = l'.take k ++ [l'.getD k 0] := by rw [List.take_add_one, List.getD, List.getElem?_eq_getElem (by rw [H.out.2.1.1]; exact hlt)]; rfl
        have HE := Lib.hid (And.intro hE (And.intro hk (And.intro ht (And.intro e1 e2))))
        clear hE hcell hcell' hk ht e1 e2
        generalize hx : l.getD k 0 = x at *
        generalize hy : l'.getD k 0 = y at *
        by_cases hxy : x = y
        · subst hxy
          have hb1 : (x != x) = false := by simp
          clear hx hy
          go_wp2
          go_quiet (fail)
          go_wp2
          go_roundg (gk - 1)
          case measure => have := HE.out.2.1; omega
          case rel => exact ⟨k + 1, by have := HE.out.2.1; omega, by go_num, by rw [HE.out.2.2.2.1, HE.out.2.2.2.2, HE.out.2.2.1], Ext.trans HE.out.1 (ext_drewD _ _)⟩
        · have hb1 : (x != y) = true := by simpa using hxy
          have HN := Lib.hid (show decide (l = l') = false from decide_eq_false (fun e => hxy (by rw [← hx, ← hy, e])))
          clear hx hy hxy
          go_wp2
          go_quiet (fail)
          go_wp2
          go_ret
          exact ⟨rb (by rw [HN.out]), Ext.trans HE.out.1 (ext_drewD _ _)⟩
      · obtain rfl : k = n := by omega
        have h5 : ¬ (k : Int) < k := by omega
        have HN := Lib.hid (show decide (l = l') = true from decide_eq_true (by rw [← List.take_of_length_le (Nat.le_of_eq H.out.1.1), ← List.take_of_length_le (l := l') (Nat.le_of_eq H.out.2.1.1), ht]))
        have HE := Lib.hid hE
        clear hE ht hk
        go_wp2
        go_ret
        exact ⟨rb (by rw [HN.out]), HE.out⟩
  · have HN := Lib.hid (show decide (l = l') = false from decide_eq_false (fun e => hl (by rw [← h.1, ← h'.1, e])))
    have h5 : ((n : Int) != (n' : Int)) = true := by rw [bne_iff_ne]; omega
    clear h h'
    go_enter Tryd.func33, Tryd.ntmps33
    go_wp2
    go_ret
    exact ⟨rb (by rw [HN.out]), Ext.refl _⟩

set_option maxHeartbeats 4000000 in
set_option maxRecDepth 100000 in
theorem dsame_is (A1 B1 : Option Addr) (n1 m1 c1 e1 : Nat) (s1 t1 : Int) (l1 r1 : List Int) (hn1 : n1 ≤ 1000000) (hm1 : m1 ≤ 1000000) (A2 B2 : Option Addr) (n2 m2 c2 e2 : Nat) (s2 t2 : Int) (l2 r2 : List Int)  (w : World) (h1 : Il w A1 n1 l1) (h1' : Il w B1 m1 r1) (h2 : Il w A2 n2 l2) (h2' : Il w B2 m2 r2) :
    Calls Tryd.prog 18 #[.agg #[.int .i64 s1, .slice A1 n1 c1, .int .i64 t1, .slice B1 m1 e1], .agg #[.int .i64 s2, .slice A2 n2 c2, .int .i64 t2, .slice B2 m2 e2]] w fun e w' => e = .returned (.bool (decide ((⟨s1, l1, t1, r1⟩ : DescR) = ⟨s2, l2, t2, r2⟩))) ∧ Ext w w' := by
  have E2 := ext2 w (.cells #[.int .i64 s1, .slice A1 n1 c1, .int .i64 t1, .slice B1 m1 e1] 24) (.cells #[.int .i64 s2, .slice A2 n2 c2, .int .i64 t2, .slice B2 m2 e2] 24)
  have R1 := Lib.hid (fun W (hW : Ext ((w.alloc (.cells #[.int .i64 s1, .slice A1 n1 c1, .int .i64 t1, .slice B1 m1 e1] 24)).alloc (.cells #[.int .i64 s2, .slice A2 n2 c2, .int .i64 t2, .slice B2 m2 e2] 24)) W) => eql_is A1 A2 n1 n2 c1 c2 l1 l2 hn1 W (h1.ext (Ext.trans E2 hW)) (h2.ext (Ext.trans E2 hW)))
  have R2 := Lib.hid (fun W (hW : Ext ((w.alloc (.cells #[.int .i64 s1, .slice A1 n1 c1, .int .i64 t1, .slice B1 m1 e1] 24)).alloc (.cells #[.int .i64 s2, .slice A2 n2 c2, .int .i64 t2, .slice B2 m2 e2] 24)) W) => eql_is B1 B2 m1 m2 e1 e2 r1 r2 hm1 W (h1'.ext (Ext.trans E2 hW)) (h2'.ext (Ext.trans E2 hW)))
  have HE := Lib.hid E2
  clear h1 h1' h2 h2' E2
  by_cases q1 : s1 = s2
  · subst q1
    by_cases q2 : t1 = t2
    · subst q2
      have HQ : decide ((⟨s1, l1, t1, r1⟩ : DescR) = ⟨s1, l2, t1, r2⟩) = (decide (l1 = l2) && decide (r1 = r2)) := by rw [Bool.eq_iff_iff]; simp
      cases hl : decide (l1 = l2)
      · have HN := Lib.hid (show false = decide ((⟨s1, l1, t1, r1⟩ : DescR) = ⟨s1, l2, t1, r2⟩) by rw [HQ, hl]; rfl)
        rw [hl] at R1
        clear HQ hl
        go_enter Tryd.func18, Tryd.ntmps18
        go_wp2_with (first | (go_at_call 33; with_reducible refine (R1.out _ (Ext.refl _)).mono ?_; rintro e w1 ⟨rfl, k1⟩; have p1 := (at_old k1).cell 1; have p3 := (at_old k1).cell 3; have p5 := (at_new2 k1).cell 1; have p7 := (at_new2 k1).cell 3; simp at p1 p3 p5 p7))
        go_ret
        exact ⟨rb HN.out, Ext.trans HE.out k1⟩
      · skip
        cases hr : decide (r1 = r2)
        · have HN := Lib.hid (show false = decide ((⟨s1, l1, t1, r1⟩ : DescR) = ⟨s1, l2, t1, r2⟩) by rw [HQ, hl, hr]; rfl)
          rw [hl] at R1
          rw [hr] at R2
          clear HQ hl hr
          go_enter Tryd.func18, Tryd.ntmps18
          go_wp2_with (first | (go_at_call 33; with_reducible refine (R1.out _ (Ext.refl _)).mono ?_; rintro e w1 ⟨rfl, k1⟩; have p1 := (at_old k1).cell 1; have p3 := (at_old k1).cell 3; have p5 := (at_new2 k1).cell 1; have p7 := (at_new2 k1).cell 3; simp at p1 p3 p5 p7) | (go_at_call 33; with_reducible refine (R2.out _ k1).mono ?_; rintro e w2 ⟨rfl, k2⟩))
          go_ret
          exact ⟨rb HN.out, Ext.trans HE.out (Ext.trans k1 k2)⟩
        · have HN := Lib.hid (show true = decide ((⟨s1, l1, t1, r1⟩ : DescR) = ⟨s1, l2, t1, r2⟩) by rw [HQ, hl, hr]; rfl)
          rw [hl] at R1
          rw [hr] at R2
          clear HQ hl hr
          go_enter Tryd.func18, Tryd.ntmps18
          go_wp2_with (first | (go_at_call 33; with_reducible refine (R1.out _ (Ext.refl _)).mono ?_; rintro e w1 ⟨rfl, k1⟩; have p1 := (at_old k1).cell 1; have p3 := (at_old k1).cell 3; have p5 := (at_new2 k1).cell 1; have p7 := (at_new2 k1).cell 3; simp at p1 p3 p5 p7) | (go_at_call 33; with_reducible refine (R2.out _ k1).mono ?_; rintro e w2 ⟨rfl, k2⟩))
          go_ret
          exact ⟨rb HN.out, Ext.trans HE.out (Ext.trans k1 k2)⟩
    · have b2 : (t1 == t2) = false := by simpa using q2
      have HN := Lib.hid (show false = decide ((⟨s1, l1, t1, r1⟩ : DescR) = ⟨s1, l2, t2, r2⟩) from (decide_eq_false (fun h => q2 (by cases h; rfl))).symm)
      clear q2
      go_enter Tryd.func18, Tryd.ntmps18
      go_wp2
      go_ret
      exact ⟨rb HN.out, HE.out⟩
  · have b1 : (s1 == s2) = false := by simpa using q1
    have HN := Lib.hid (show false = decide ((⟨s1, l1, t1, r1⟩ : DescR) = ⟨s2, l2, t2, r2⟩) from (decide_eq_false (fun h => q1 (by cases h; rfl))).symm)
    clear q1
    go_enter Tryd.func18, Tryd.ntmps18
    go_wp2
    go_ret
    exact ⟨rb HN.out, HE.out⟩
end
end Go.Proofs.YtgmpcinlkiiboaaDoor
