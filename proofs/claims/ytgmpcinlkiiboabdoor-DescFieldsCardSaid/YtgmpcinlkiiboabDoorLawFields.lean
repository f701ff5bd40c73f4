/- selionlaw04.DescFields: the walk (made by gen_laws.py). -/
import Derived.Test.YtgmpcinlkiiboabDoorLaw0
import Derived.Test.YtgmpcinlkiiboabDoorKindD2
import Derived.Test.YtgmpcinlkiiboabDoorPartD
namespace Go.Proofs.YtgmpcinlkiiboabDoor
open Go.RowKit Go
theorem bytes_e (d : DescR) (n : Int) : bytesE d n = 0 ∨ bytesE d n = 40 ∨ bytesE d n = 41 := by
  unfold bytesE; split
  · split <;> simp
  · simp
theorem bytes_ok {d : DescR} {n : Int} (h : bytesE d n = 0) : rightB d = true ∧ lenB d n = true := by
  unfold bytesE at h
  split at h
  · rename_i hr; split at h
    · rename_i hl; exact ⟨hr, hl⟩
    · cases h
  · cases h
theorem fields_40 (d : DescR) (n x : Int) (h : bytesE d n = 40) : rightB d = false ∧ kindV d n x = 0 := by
  unfold bytesE at h
  split at h
  · split at h <;> cases h
  · rename_i hr; have hr' : rightB d = false := by simpa using hr
    exact ⟨hr', by simp [kindV, hr']⟩
theorem fields_41 (d : DescR) (n x : Int) (h : bytesE d n = 41) : rightB d = true ∧ kindV d n x = 0 := by
  unfold bytesE at h
  split at h
  · rename_i hr
    split at h
    · cases h
    · rename_i hl; have hl' : lenB d n = false := by simpa using hl
      exact ⟨hr, by simp [kindV, hl']⟩
  · cases h
theorem fields_facts (d : DescR) (n x : Int) (h1 : bytesE d n = 0) : 0 ≤ n * d.elem ∧ n * d.elem ≤ 131072 ∧ 0 ≤ d.size ∧ d.size ≤ 1024 ∧ (kindV d n x = 0 ↔ ¬ (0 ≤ x ∧ x % 4 = 0 ∧ x < d.size + n * d.elem)) := by
  obtain ⟨hr, hl⟩ := bytes_ok h1
  have hR := right_of hr
  have k1 : kindV d n x = kindP d n x := by simp [kindV, hr, hl]
  have hle := lenB_le hl
  have e0 := hR.e0
  have s0 := hR.s0
  have s1 := hR.s1
  have hm0 : 0 ≤ n * d.elem := Int.mul_nonneg hle.1 e0
  have hb : bytesB d n ≤ 131072 := by
    simp only [lenB, Bool.and_eq_true, decide_eq_true_eq] at hl
    exact hl.2
  unfold bytesB at hb
  refine ⟨hm0, by omega, s0, s1, ?_⟩
  rw [k1]
  unfold kindP
  by_cases c1 : x < 0 ∨ x % 4 ≠ 0 ∨ d.size + n * d.elem ≤ x
  · rw [if_pos c1]; simp only [true_iff]; omega
  · rw [if_neg c1]
    constructor
    · intro e; split at e <;> cases e
    · intro e; exact absurd (by omega) e
section
set_option maxHeartbeats 4000000 in
set_option maxRecDepth 100000 in
theorem fields_le40 (A B : Option Addr) (n m c c' : Nat) (s t y x : Int) (l r : List Int) (w : World) (hA : Arg w A n c l) (hB : Arg w B m c' r) (hG : G w) (hy : y ≤ 300) (h1 : bytesE ⟨s, l.take 20, t, r.take 20⟩ y = 40) :
    Calls Tryd.prog 3 #[.agg #[.int .i64 s, .slice A n c, .int .i64 t, .slice B m c'], .int .i64 y, .int .i64 x] w fun e w' => e = .returned (.bool true) ∧ Ext w w' := by
  have E1 := ext1 w (.cells #[.int .i64 s, .slice A n c, .int .i64 t, .slice B m c'] 24)
  have HE := Lib.hid E1
  have SH := Lib.hid (fun W (hW : Ext w W) => shown_is W (hG.ext hW))
  have CU := Lib.hid (fun W => cutd_is A B n m c c' s t hA.z hB.z hA.n hB.n hA.c hB.c W)
  obtain ⟨g1, g2⟩ := fields_40 ⟨s, l.take 20, t, r.take 20⟩ y x h1
  have RT := Lib.hid (fun W (hW : Ext w W) => dright_is A B (min n 20) (min m 20) c c' s t (l.take 20) (r.take 20) (by omega) (by omega) W ((hA.il.take 20).ext hW) ((hB.il.take 20).ext hW))
  have K := Lib.hid (fun W (hW : Ext w W) => dkind_is A B (min n 20) (min m 20) c c' s t y x (l.take 20) (r.take 20) (by omega) (by omega) W (hG.ext hW) ((hA.il.take 20).ext hW) ((hB.il.take 20).ext hW))
  rw [g1] at RT
  rw [h1, g2] at K
  clear hG hA hB h1 g1 g2
  generalize min n 20 = n' at *
  generalize min m 20 = m' at *
  go_enter Tryd.func3, Tryd.ntmps3
  go_wp2_with (first | (go_at_call 4; refine (SH.out _ HE.out).mono ?_; rintro e w1 ⟨rfl, k1⟩; obtain ⟨⟨q0, q1, q2, q3⟩, f0, f1, f2, f3⟩ := cells4 (at_new k1)) | (go_at_call 5; refine (CU.out _).mono ?_; rintro e w2 ⟨rfl, k2⟩; have k3 := Ext.trans k1 k2; clear q0 q1 q2 q3 f0 f1 f2 f3 k1 k2; obtain ⟨⟨q0, q1, q2, q3⟩, f0, f1, f2, f3⟩ := cells4 (at_new k3)) | (go_at_call 6; refine (K.out _ (box_set4 (at_new k3) (Ext.trans HE.out k3) (Nat.le_refl _)).2).mono ?_; rintro e w3 ⟨rfl, k4⟩; have bx := (box_set4 (at_new k3) (Ext.trans HE.out k3) (Nat.le_refl _)).1.ext k4; have kx := Ext.trans (box_set4 (at_new k3) (Ext.trans HE.out k3) (Nat.le_refl _)).2 k4; clear q0 q1 q2 q3 f0 f1 f2 f3 k3 k4; obtain ⟨⟨q0, q1, q2, q3⟩, f0, f1, f2, f3⟩ := cells4 bx; clear K) | (go_at_call 7; refine (RT.out _ kx).mono ?_; rintro e w3 ⟨rfl, k4⟩; replace bx := bx.ext k4; replace kx := Ext.trans kx k4; clear q0 q1 q2 q3 f0 f1 f2 f3 k4; obtain ⟨⟨q0, q1, q2, q3⟩, f0, f1, f2, f3⟩ := cells4 bx))
  all_goals (go_ret; exact ⟨rfl, kx⟩)
end
section
set_option maxHeartbeats 4000000 in
set_option maxRecDepth 100000 in
theorem fields_le41 (A B : Option Addr) (n m c c' : Nat) (s t y x : Int) (l r : List Int) (w : World) (hA : Arg w A n c l) (hB : Arg w B m c' r) (hG : G w) (hy : y ≤ 300) (h1 : bytesE ⟨s, l.take 20, t, r.take 20⟩ y = 41) :
    Calls Tryd.prog 3 #[.agg #[.int .i64 s, .slice A n c, .int .i64 t, .slice B m c'], .int .i64 y, .int .i64 x] w fun e w' => e = .returned (.bool true) ∧ Ext w w' := by
  have E1 := ext1 w (.cells #[.int .i64 s, .slice A n c, .int .i64 t, .slice B m c'] 24)
  have HE := Lib.hid E1
  have SH := Lib.hid (fun W (hW : Ext w W) => shown_is W (hG.ext hW))
  have CU := Lib.hid (fun W => cutd_is A B n m c c' s t hA.z hB.z hA.n hB.n hA.c hB.c W)
  obtain ⟨g1, g2⟩ := fields_41 ⟨s, l.take 20, t, r.take 20⟩ y x h1
  have RT := Lib.hid (fun W (hW : Ext w W) => dright_is A B (min n 20) (min m 20) c c' s t (l.take 20) (r.take 20) (by omega) (by omega) W ((hA.il.take 20).ext hW) ((hB.il.take 20).ext hW))
  have K := Lib.hid (fun W (hW : Ext w W) => dkind_is A B (min n 20) (min m 20) c c' s t y x (l.take 20) (r.take 20) (by omega) (by omega) W (hG.ext hW) ((hA.il.take 20).ext hW) ((hB.il.take 20).ext hW))
  rw [g1] at RT
  rw [h1, g2] at K
  clear hG hA hB h1 g1 g2
  generalize min n 20 = n' at *
  generalize min m 20 = m' at *
  go_enter Tryd.func3, Tryd.ntmps3
  go_wp2_with (first | (go_at_call 4; refine (SH.out _ HE.out).mono ?_; rintro e w1 ⟨rfl, k1⟩; obtain ⟨⟨q0, q1, q2, q3⟩, f0, f1, f2, f3⟩ := cells4 (at_new k1)) | (go_at_call 5; refine (CU.out _).mono ?_; rintro e w2 ⟨rfl, k2⟩; have k3 := Ext.trans k1 k2; clear q0 q1 q2 q3 f0 f1 f2 f3 k1 k2; obtain ⟨⟨q0, q1, q2, q3⟩, f0, f1, f2, f3⟩ := cells4 (at_new k3)) | (go_at_call 6; refine (K.out _ (box_set4 (at_new k3) (Ext.trans HE.out k3) (Nat.le_refl _)).2).mono ?_; rintro e w3 ⟨rfl, k4⟩; have bx := (box_set4 (at_new k3) (Ext.trans HE.out k3) (Nat.le_refl _)).1.ext k4; have kx := Ext.trans (box_set4 (at_new k3) (Ext.trans HE.out k3) (Nat.le_refl _)).2 k4; clear q0 q1 q2 q3 f0 f1 f2 f3 k3 k4; obtain ⟨⟨q0, q1, q2, q3⟩, f0, f1, f2, f3⟩ := cells4 bx; clear K) | (go_at_call 7; refine (RT.out _ kx).mono ?_; rintro e w3 ⟨rfl, k4⟩; replace bx := bx.ext k4; replace kx := Ext.trans kx k4; clear q0 q1 q2 q3 f0 f1 f2 f3 k4; obtain ⟨⟨q0, q1, q2, q3⟩, f0, f1, f2, f3⟩ := cells4 bx))
  all_goals (go_ret; exact ⟨rfl, kx⟩)
end
section
set_option maxHeartbeats 4000000 in
set_option maxRecDepth 100000 in
theorem fields_leneg (A B : Option Addr) (n m c c' : Nat) (s t y x : Int) (l r : List Int) (w : World) (hA : Arg w A n c l) (hB : Arg w B m c' r) (hG : G w) (hy : y ≤ 300) (h1 : bytesE ⟨s, l.take 20, t, r.take 20⟩ y = 0) (hx : x < 0) :
    Calls Tryd.prog 3 #[.agg #[.int .i64 s, .slice A n c, .int .i64 t, .slice B m c'], .int .i64 y, .int .i64 x] w fun e w' => e = .returned (.bool true) ∧ Ext w w' := by
  have E1 := ext1 w (.cells #[.int .i64 s, .slice A n c, .int .i64 t, .slice B m c'] 24)
  have HE := Lib.hid E1
  have SH := Lib.hid (fun W (hW : Ext w W) => shown_is W (hG.ext hW))
  have CU := Lib.hid (fun W => cutd_is A B n m c c' s t hA.z hB.z hA.n hB.n hA.c hB.c W)
  obtain ⟨g1, g2, g3, g4, g5⟩ := fields_facts ⟨s, l.take 20, t, r.take 20⟩ y x h1
  have g6 := g5.2 (by intro hh; simp only at hh; omega)
  have K := Lib.hid (fun W (hW : Ext w W) => dkind_is A B (min n 20) (min m 20) c c' s t y x (l.take 20) (r.take 20) (by omega) (by omega) W (hG.ext hW) ((hA.il.take 20).ext hW) ((hB.il.take 20).ext hW))
  rw [h1, g6] at K
  simp only at g1 g2 g3 g4
  clear hG hA hB h1 g5 g6
  generalize min n 20 = n' at *
  generalize min m 20 = m' at *
  go_enter Tryd.func3, Tryd.ntmps3
  go_wp2_with (first | (go_at_call 4; refine (SH.out _ HE.out).mono ?_; rintro e w1 ⟨rfl, k1⟩; obtain ⟨⟨q0, q1, q2, q3⟩, f0, f1, f2, f3⟩ := cells4 (at_new k1)) | (go_at_call 5; refine (CU.out _).mono ?_; rintro e w2 ⟨rfl, k2⟩; have k3 := Ext.trans k1 k2; clear q0 q1 q2 q3 f0 f1 f2 f3 k1 k2; obtain ⟨⟨q0, q1, q2, q3⟩, f0, f1, f2, f3⟩ := cells4 (at_new k3)) | (go_at_call 6; refine (K.out _ (box_set4 (at_new k3) (Ext.trans HE.out k3) (Nat.le_refl _)).2).mono ?_; rintro e w3 ⟨rfl, k4⟩; have bx := (box_set4 (at_new k3) (Ext.trans HE.out k3) (Nat.le_refl _)).1.ext k4; have kx := Ext.trans (box_set4 (at_new k3) (Ext.trans HE.out k3) (Nat.le_refl _)).2 k4; clear q0 q1 q2 q3 f0 f1 f2 f3 k3 k4; obtain ⟨⟨q0, q1, q2, q3⟩, f0, f1, f2, f3⟩ := cells4 bx; clear K) | (go_at_call 7; refine (RT.out _ kx).mono ?_; rintro e w3 ⟨rfl, k4⟩; replace bx := bx.ext k4; replace kx := Ext.trans kx k4; clear q0 q1 q2 q3 f0 f1 f2 f3 k4; obtain ⟨⟨q0, q1, q2, q3⟩, f0, f1, f2, f3⟩ := cells4 bx))
  all_goals (go_ret; exact ⟨rfl, kx⟩)
end
section
set_option maxHeartbeats 4000000 in
set_option maxRecDepth 100000 in
theorem fields_lemod (A B : Option Addr) (n m c c' : Nat) (s t y x : Int) (l r : List Int) (w : World) (hA : Arg w A n c l) (hB : Arg w B m c' r) (hG : G w) (hy : y ≤ 300) (h1 : bytesE ⟨s, l.take 20, t, r.take 20⟩ y = 0) (h0 : 0 ≤ x) (hx : ¬ x % 4 = 0) :
    Calls Tryd.prog 3 #[.agg #[.int .i64 s, .slice A n c, .int .i64 t, .slice B m c'], .int .i64 y, .int .i64 x] w fun e w' => e = .returned (.bool true) ∧ Ext w w' := by
  have E1 := ext1 w (.cells #[.int .i64 s, .slice A n c, .int .i64 t, .slice B m c'] 24)
  have HE := Lib.hid E1
  have SH := Lib.hid (fun W (hW : Ext w W) => shown_is W (hG.ext hW))
  have CU := Lib.hid (fun W => cutd_is A B n m c c' s t hA.z hB.z hA.n hB.n hA.c hB.c W)
  obtain ⟨g1, g2, g3, g4, g5⟩ := fields_facts ⟨s, l.take 20, t, r.take 20⟩ y x h1
  have g6 := g5.2 (by intro hh; simp only at hh; omega)
  have K := Lib.hid (fun W (hW : Ext w W) => dkind_is A B (min n 20) (min m 20) c c' s t y x (l.take 20) (r.take 20) (by omega) (by omega) W (hG.ext hW) ((hA.il.take 20).ext hW) ((hB.il.take 20).ext hW))
  rw [h1, g6] at K
  simp only at g1 g2 g3 g4
  clear hG hA hB h1 g5 g6
  have xt : (x.tmod 4 == 0) = false := by rw [Int.tmod_eq_emod_of_nonneg h0]; simpa using hx
  have xt' : ¬ x.tmod 4 = 0 := by rw [Int.tmod_eq_emod_of_nonneg h0]; exact hx
  generalize min n 20 = n' at *
  generalize min m 20 = m' at *
  go_enter Tryd.func3, Tryd.ntmps3
  go_wp2_with (first | (go_at_call 4; refine (SH.out _ HE.out).mono ?_; rintro e w1 ⟨rfl, k1⟩; obtain ⟨⟨q0, q1, q2, q3⟩, f0, f1, f2, f3⟩ := cells4 (at_new k1)) | (go_at_call 5; refine (CU.out _).mono ?_; rintro e w2 ⟨rfl, k2⟩; have k3 := Ext.trans k1 k2; clear q0 q1 q2 q3 f0 f1 f2 f3 k1 k2; obtain ⟨⟨q0, q1, q2, q3⟩, f0, f1, f2, f3⟩ := cells4 (at_new k3)) | (go_at_call 6; refine (K.out _ (box_set4 (at_new k3) (Ext.trans HE.out k3) (Nat.le_refl _)).2).mono ?_; rintro e w3 ⟨rfl, k4⟩; have bx := (box_set4 (at_new k3) (Ext.trans HE.out k3) (Nat.le_refl _)).1.ext k4; have kx := Ext.trans (box_set4 (at_new k3) (Ext.trans HE.out k3) (Nat.le_refl _)).2 k4; clear q0 q1 q2 q3 f0 f1 f2 f3 k3 k4; obtain ⟨⟨q0, q1, q2, q3⟩, f0, f1, f2, f3⟩ := cells4 bx; clear K) | (go_at_call 7; refine (RT.out _ kx).mono ?_; rintro e w3 ⟨rfl, k4⟩; replace bx := bx.ext k4; replace kx := Ext.trans kx k4; clear q0 q1 q2 q3 f0 f1 f2 f3 k4; obtain ⟨⟨q0, q1, q2, q3⟩, f0, f1, f2, f3⟩ := cells4 bx))
  all_goals (go_ret; exact ⟨rfl, kx⟩)
end
section
set_option maxHeartbeats 4000000 in
set_option maxRecDepth 100000 in
theorem fields_leout (A B : Option Addr) (n m c c' : Nat) (s t y x : Int) (l r : List Int) (w : World) (hA : Arg w A n c l) (hB : Arg w B m c' r) (hG : G w) (hy : y ≤ 300) (h1 : bytesE ⟨s, l.take 20, t, r.take 20⟩ y = 0) (h0 : 0 ≤ x) (hm : x % 4 = 0) (hx : ¬ x < s + y * t) :
    Calls Tryd.prog 3 #[.agg #[.int .i64 s, .slice A n c, .int .i64 t, .slice B m c'], .int .i64 y, .int .i64 x] w fun e w' => e = .returned (.bool true) ∧ Ext w w' := by
  have E1 := ext1 w (.cells #[.int .i64 s, .slice A n c, .int .i64 t, .slice B m c'] 24)
  have HE := Lib.hid E1
  have SH := Lib.hid (fun W (hW : Ext w W) => shown_is W (hG.ext hW))
  have CU := Lib.hid (fun W => cutd_is A B n m c c' s t hA.z hB.z hA.n hB.n hA.c hB.c W)
  obtain ⟨g1, g2, g3, g4, g5⟩ := fields_facts ⟨s, l.take 20, t, r.take 20⟩ y x h1
  have g6 := g5.2 (by intro hh; simp only at hh; omega)
  have K := Lib.hid (fun W (hW : Ext w W) => dkind_is A B (min n 20) (min m 20) c c' s t y x (l.take 20) (r.take 20) (by omega) (by omega) W (hG.ext hW) ((hA.il.take 20).ext hW) ((hB.il.take 20).ext hW))
  rw [h1, g6] at K
  simp only at g1 g2 g3 g4
  clear hG hA hB h1 g5 g6
  have xt : (x.tmod 4 == 0) = true := by rw [Int.tmod_eq_emod_of_nonneg h0]; simpa using hm
  have xt' : x.tmod 4 = 0 := by rw [Int.tmod_eq_emod_of_nonneg h0]; exact hm
  have hd : decide (x < s + y * t) = false := by simpa using hx
  generalize min n 20 = n' at *
  generalize min m 20 = m' at *
  go_enter Tryd.func3, Tryd.ntmps3
  go_wp2_with (first | (go_at_call 4; refine (SH.out _ HE.out).mono ?_; rintro e w1 ⟨rfl, k1⟩; obtain ⟨⟨q0, q1, q2, q3⟩, f0, f1, f2, f3⟩ := cells4 (at_new k1)) | (go_at_call 5; refine (CU.out _).mono ?_; rintro e w2 ⟨rfl, k2⟩; have k3 := Ext.trans k1 k2; clear q0 q1 q2 q3 f0 f1 f2 f3 k1 k2; obtain ⟨⟨q0, q1, q2, q3⟩, f0, f1, f2, f3⟩ := cells4 (at_new k3)) | (go_at_call 6; refine (K.out _ (box_set4 (at_new k3) (Ext.trans HE.out k3) (Nat.le_refl _)).2).mono ?_; rintro e w3 ⟨rfl, k4⟩; have bx := (box_set4 (at_new k3) (Ext.trans HE.out k3) (Nat.le_refl _)).1.ext k4; have kx := Ext.trans (box_set4 (at_new k3) (Ext.trans HE.out k3) (Nat.le_refl _)).2 k4; clear q0 q1 q2 q3 f0 f1 f2 f3 k3 k4; obtain ⟨⟨q0, q1, q2, q3⟩, f0, f1, f2, f3⟩ := cells4 bx; clear K) | (go_at_call 7; refine (RT.out _ kx).mono ?_; rintro e w3 ⟨rfl, k4⟩; replace bx := bx.ext k4; replace kx := Ext.trans kx k4; clear q0 q1 q2 q3 f0 f1 f2 f3 k4; obtain ⟨⟨q0, q1, q2, q3⟩, f0, f1, f2, f3⟩ := cells4 bx))
  all_goals (go_ret; exact ⟨by first | rfl | (rw [hd]; rfl) | (simp [hd]), kx⟩)
end
section
set_option maxHeartbeats 4000000 in
set_option maxRecDepth 100000 in
theorem fields_lein (A B : Option Addr) (n m c c' : Nat) (s t y x : Int) (l r : List Int) (w : World) (hA : Arg w A n c l) (hB : Arg w B m c' r) (hG : G w) (hy : y ≤ 300) (h1 : bytesE ⟨s, l.take 20, t, r.take 20⟩ y = 0) (h0 : 0 ≤ x) (hm : x % 4 = 0) (hx : x < s + y * t) :
    Calls Tryd.prog 3 #[.agg #[.int .i64 s, .slice A n c, .int .i64 t, .slice B m c'], .int .i64 y, .int .i64 x] w fun e w' => e = .returned (.bool true) ∧ Ext w w' := by
  have E1 := ext1 w (.cells #[.int .i64 s, .slice A n c, .int .i64 t, .slice B m c'] 24)
  have HE := Lib.hid E1
  have SH := Lib.hid (fun W (hW : Ext w W) => shown_is W (hG.ext hW))
  have CU := Lib.hid (fun W => cutd_is A B n m c c' s t hA.z hB.z hA.n hB.n hA.c hB.c W)
  obtain ⟨g1, g2, g3, g4, g5⟩ := fields_facts ⟨s, l.take 20, t, r.take 20⟩ y x h1
  have g6 : ¬ kindV ⟨s, l.take 20, t, r.take 20⟩ y x = 0 := fun e => g5.1 e ⟨h0, hm, hx⟩
  have K := Lib.hid (fun W (hW : Ext w W) => dkind_is A B (min n 20) (min m 20) c c' s t y x (l.take 20) (r.take 20) (by omega) (by omega) W (hG.ext hW) ((hA.il.take 20).ext hW) ((hB.il.take 20).ext hW))
  rw [h1] at K
  generalize kindV ⟨s, l.take 20, t, r.take 20⟩ y x = z at *
  have z1 : (z != 0) = true := by simpa using g6
  have xt : (x.tmod 4 == 0) = true := by rw [Int.tmod_eq_emod_of_nonneg h0]; simpa using hm
  have xt' : x.tmod 4 = 0 := by rw [Int.tmod_eq_emod_of_nonneg h0]; exact hm
  simp only at g1 g2 g3 g4
  clear hG hA hB h1 g5
  generalize min n 20 = n' at *
  generalize min m 20 = m' at *
  go_enter Tryd.func3, Tryd.ntmps3
  go_wp2_with (first | (go_at_call 4; refine (SH.out _ HE.out).mono ?_; rintro e w1 ⟨rfl, k1⟩; obtain ⟨⟨q0, q1, q2, q3⟩, f0, f1, f2, f3⟩ := cells4 (at_new k1)) | (go_at_call 5; refine (CU.out _).mono ?_; rintro e w2 ⟨rfl, k2⟩; have k3 := Ext.trans k1 k2; clear q0 q1 q2 q3 f0 f1 f2 f3 k1 k2; obtain ⟨⟨q0, q1, q2, q3⟩, f0, f1, f2, f3⟩ := cells4 (at_new k3)) | (go_at_call 6; refine (K.out _ (box_set4 (at_new k3) (Ext.trans HE.out k3) (Nat.le_refl _)).2).mono ?_; rintro e w3 ⟨rfl, k4⟩; have bx := (box_set4 (at_new k3) (Ext.trans HE.out k3) (Nat.le_refl _)).1.ext k4; have kx := Ext.trans (box_set4 (at_new k3) (Ext.trans HE.out k3) (Nat.le_refl _)).2 k4; clear q0 q1 q2 q3 f0 f1 f2 f3 k3 k4; obtain ⟨⟨q0, q1, q2, q3⟩, f0, f1, f2, f3⟩ := cells4 bx; clear K) | (go_at_call 7; refine (RT.out _ kx).mono ?_; rintro e w3 ⟨rfl, k4⟩; replace bx := bx.ext k4; replace kx := Ext.trans kx k4; clear q0 q1 q2 q3 f0 f1 f2 f3 k4; obtain ⟨⟨q0, q1, q2, q3⟩, f0, f1, f2, f3⟩ := cells4 bx))
  all_goals (go_ret; exact ⟨rfl, kx⟩)
end
section
set_option maxHeartbeats 4000000 in
set_option maxRecDepth 100000 in
theorem fields_gt40 (A B : Option Addr) (n m c c' : Nat) (s t y x : Int) (l r : List Int) (w : World) (hA : Arg w A n c l) (hB : Arg w B m c' r) (hG : G w) (hy : 300 < y) (h1 : bytesE ⟨s, l.take 20, t, r.take 20⟩ 300 = 40) :
    Calls Tryd.prog 3 #[.agg #[.int .i64 s, .slice A n c, .int .i64 t, .slice B m c'], .int .i64 y, .int .i64 x] w fun e w' => e = .returned (.bool true) ∧ Ext w w' := by
  have E1 := ext1 w (.cells #[.int .i64 s, .slice A n c, .int .i64 t, .slice B m c'] 24)
  have HE := Lib.hid E1
  have SH := Lib.hid (fun W (hW : Ext w W) => shown_is W (hG.ext hW))
  have CU := Lib.hid (fun W => cutd_is A B n m c c' s t hA.z hB.z hA.n hB.n hA.c hB.c W)
  obtain ⟨g1, g2⟩ := fields_40 ⟨s, l.take 20, t, r.take 20⟩ 300 x h1
  have RT := Lib.hid (fun W (hW : Ext w W) => dright_is A B (min n 20) (min m 20) c c' s t (l.take 20) (r.take 20) (by omega) (by omega) W ((hA.il.take 20).ext hW) ((hB.il.take 20).ext hW))
  have K := Lib.hid (fun W (hW : Ext w W) => dkind_is A B (min n 20) (min m 20) c c' s t 300 x (l.take 20) (r.take 20) (by omega) (by omega) W (hG.ext hW) ((hA.il.take 20).ext hW) ((hB.il.take 20).ext hW))
  rw [g1] at RT
  rw [h1, g2] at K
  clear hG hA hB h1 g1 g2
  generalize min n 20 = n' at *
  generalize min m 20 = m' at *
  go_enter Tryd.func3, Tryd.ntmps3
  go_wp2_with (first | (go_at_call 4; refine (SH.out _ HE.out).mono ?_; rintro e w1 ⟨rfl, k1⟩; obtain ⟨⟨q0, q1, q2, q3⟩, f0, f1, f2, f3⟩ := cells4 (at_new k1)) | (go_at_call 5; refine (CU.out _).mono ?_; rintro e w2 ⟨rfl, k2⟩; have k3 := Ext.trans k1 k2; clear q0 q1 q2 q3 f0 f1 f2 f3 k1 k2; obtain ⟨⟨q0, q1, q2, q3⟩, f0, f1, f2, f3⟩ := cells4 (at_new k3)) | (go_at_call 6; refine (K.out _ (box_set4 (at_new k3) (Ext.trans HE.out k3) (Nat.le_refl _)).2).mono ?_; rintro e w3 ⟨rfl, k4⟩; have bx := (box_set4 (at_new k3) (Ext.trans HE.out k3) (Nat.le_refl _)).1.ext k4; have kx := Ext.trans (box_set4 (at_new k3) (Ext.trans HE.out k3) (Nat.le_refl _)).2 k4; clear q0 q1 q2 q3 f0 f1 f2 f3 k3 k4; obtain ⟨⟨q0, q1, q2, q3⟩, f0, f1, f2, f3⟩ := cells4 bx; clear K) | (go_at_call 7; refine (RT.out _ kx).mono ?_; rintro e w3 ⟨rfl, k4⟩; replace bx := bx.ext k4; replace kx := Ext.trans kx k4; clear q0 q1 q2 q3 f0 f1 f2 f3 k4; obtain ⟨⟨q0, q1, q2, q3⟩, f0, f1, f2, f3⟩ := cells4 bx))
  all_goals (go_ret; exact ⟨rfl, kx⟩)
end
section
set_option maxHeartbeats 4000000 in
set_option maxRecDepth 100000 in
theorem fields_gt41 (A B : Option Addr) (n m c c' : Nat) (s t y x : Int) (l r : List Int) (w : World) (hA : Arg w A n c l) (hB : Arg w B m c' r) (hG : G w) (hy : 300 < y) (h1 : bytesE ⟨s, l.take 20, t, r.take 20⟩ 300 = 41) :
    Calls Tryd.prog 3 #[.agg #[.int .i64 s, .slice A n c, .int .i64 t, .slice B m c'], .int .i64 y, .int .i64 x] w fun e w' => e = .returned (.bool true) ∧ Ext w w' := by
  have E1 := ext1 w (.cells #[.int .i64 s, .slice A n c, .int .i64 t, .slice B m c'] 24)
  have HE := Lib.hid E1
  have SH := Lib.hid (fun W (hW : Ext w W) => shown_is W (hG.ext hW))
  have CU := Lib.hid (fun W => cutd_is A B n m c c' s t hA.z hB.z hA.n hB.n hA.c hB.c W)
  obtain ⟨g1, g2⟩ := fields_41 ⟨s, l.take 20, t, r.take 20⟩ 300 x h1
  have RT := Lib.hid (fun W (hW : Ext w W) => dright_is A B (min n 20) (min m 20) c c' s t (l.take 20) (r.take 20) (by omega) (by omega) W ((hA.il.take 20).ext hW) ((hB.il.take 20).ext hW))
  have K := Lib.hid (fun W (hW : Ext w W) => dkind_is A B (min n 20) (min m 20) c c' s t 300 x (l.take 20) (r.take 20) (by omega) (by omega) W (hG.ext hW) ((hA.il.take 20).ext hW) ((hB.il.take 20).ext hW))
  rw [g1] at RT
  rw [h1, g2] at K
  clear hG hA hB h1 g1 g2
  generalize min n 20 = n' at *
  generalize min m 20 = m' at *
  go_enter Tryd.func3, Tryd.ntmps3
  go_wp2_with (first | (go_at_call 4; refine (SH.out _ HE.out).mono ?_; rintro e w1 ⟨rfl, k1⟩; obtain ⟨⟨q0, q1, q2, q3⟩, f0, f1, f2, f3⟩ := cells4 (at_new k1)) | (go_at_call 5; refine (CU.out _).mono ?_; rintro e w2 ⟨rfl, k2⟩; have k3 := Ext.trans k1 k2; clear q0 q1 q2 q3 f0 f1 f2 f3 k1 k2; obtain ⟨⟨q0, q1, q2, q3⟩, f0, f1, f2, f3⟩ := cells4 (at_new k3)) | (go_at_call 6; refine (K.out _ (box_set4 (at_new k3) (Ext.trans HE.out k3) (Nat.le_refl _)).2).mono ?_; rintro e w3 ⟨rfl, k4⟩; have bx := (box_set4 (at_new k3) (Ext.trans HE.out k3) (Nat.le_refl _)).1.ext k4; have kx := Ext.trans (box_set4 (at_new k3) (Ext.trans HE.out k3) (Nat.le_refl _)).2 k4; clear q0 q1 q2 q3 f0 f1 f2 f3 k3 k4; obtain ⟨⟨q0, q1, q2, q3⟩, f0, f1, f2, f3⟩ := cells4 bx; clear K) | (go_at_call 7; refine (RT.out _ kx).mono ?_; rintro e w3 ⟨rfl, k4⟩; replace bx := bx.ext k4; replace kx := Ext.trans kx k4; clear q0 q1 q2 q3 f0 f1 f2 f3 k4; obtain ⟨⟨q0, q1, q2, q3⟩, f0, f1, f2, f3⟩ := cells4 bx))
  all_goals (go_ret; exact ⟨rfl, kx⟩)
end
section
set_option maxHeartbeats 4000000 in
set_option maxRecDepth 100000 in
theorem fields_gtneg (A B : Option Addr) (n m c c' : Nat) (s t y x : Int) (l r : List Int) (w : World) (hA : Arg w A n c l) (hB : Arg w B m c' r) (hG : G w) (hy : 300 < y) (h1 : bytesE ⟨s, l.take 20, t, r.take 20⟩ 300 = 0) (hx : x < 0) :
    Calls Tryd.prog 3 #[.agg #[.int .i64 s, .slice A n c, .int .i64 t, .slice B m c'], .int .i64 y, .int .i64 x] w fun e w' => e = .returned (.bool true) ∧ Ext w w' := by
  have E1 := ext1 w (.cells #[.int .i64 s, .slice A n c, .int .i64 t, .slice B m c'] 24)
  have HE := Lib.hid E1
  have SH := Lib.hid (fun W (hW : Ext w W) => shown_is W (hG.ext hW))
  have CU := Lib.hid (fun W => cutd_is A B n m c c' s t hA.z hB.z hA.n hB.n hA.c hB.c W)
  obtain ⟨g1, g2, g3, g4, g5⟩ := fields_facts ⟨s, l.take 20, t, r.take 20⟩ 300 x h1
  have g6 := g5.2 (by intro hh; simp only at hh; omega)
  have K := Lib.hid (fun W (hW : Ext w W) => dkind_is A B (min n 20) (min m 20) c c' s t 300 x (l.take 20) (r.take 20) (by omega) (by omega) W (hG.ext hW) ((hA.il.take 20).ext hW) ((hB.il.take 20).ext hW))
  rw [h1, g6] at K
  simp only at g1 g2 g3 g4
  clear hG hA hB h1 g5 g6
  generalize min n 20 = n' at *
  generalize min m 20 = m' at *
  go_enter Tryd.func3, Tryd.ntmps3
  go_wp2_with (first | (go_at_call 4; refine (SH.out _ HE.out).mono ?_; rintro e w1 ⟨rfl, k1⟩; obtain ⟨⟨q0, q1, q2, q3⟩, f0, f1, f2, f3⟩ := cells4 (at_new k1)) | (go_at_call 5; refine (CU.out _).mono ?_; rintro e w2 ⟨rfl, k2⟩; have k3 := Ext.trans k1 k2; clear q0 q1 q2 q3 f0 f1 f2 f3 k1 k2; obtain ⟨⟨q0, q1, q2, q3⟩, f0, f1, f2, f3⟩ := cells4 (at_new k3)) | (go_at_call 6; refine (K.out _ (box_set4 (at_new k3) (Ext.trans HE.out k3) (Nat.le_refl _)).2).mono ?_; rintro e w3 ⟨rfl, k4⟩; have bx := (box_set4 (at_new k3) (Ext.trans HE.out k3) (Nat.le_refl _)).1.ext k4; have kx := Ext.trans (box_set4 (at_new k3) (Ext.trans HE.out k3) (Nat.le_refl _)).2 k4; clear q0 q1 q2 q3 f0 f1 f2 f3 k3 k4; obtain ⟨⟨q0, q1, q2, q3⟩, f0, f1, f2, f3⟩ := cells4 bx; clear K) | (go_at_call 7; refine (RT.out _ kx).mono ?_; rintro e w3 ⟨rfl, k4⟩; replace bx := bx.ext k4; replace kx := Ext.trans kx k4; clear q0 q1 q2 q3 f0 f1 f2 f3 k4; obtain ⟨⟨q0, q1, q2, q3⟩, f0, f1, f2, f3⟩ := cells4 bx))
  all_goals (go_ret; exact ⟨rfl, kx⟩)
end
section
set_option maxHeartbeats 4000000 in
set_option maxRecDepth 100000 in
theorem fields_gtmod (A B : Option Addr) (n m c c' : Nat) (s t y x : Int) (l r : List Int) (w : World) (hA : Arg w A n c l) (hB : Arg w B m c' r) (hG : G w) (hy : 300 < y) (h1 : bytesE ⟨s, l.take 20, t, r.take 20⟩ 300 = 0) (h0 : 0 ≤ x) (hx : ¬ x % 4 = 0) :
    Calls Tryd.prog 3 #[.agg #[.int .i64 s, .slice A n c, .int .i64 t, .slice B m c'], .int .i64 y, .int .i64 x] w fun e w' => e = .returned (.bool true) ∧ Ext w w' := by
  have E1 := ext1 w (.cells #[.int .i64 s, .slice A n c, .int .i64 t, .slice B m c'] 24)
  have HE := Lib.hid E1
  have SH := Lib.hid (fun W (hW : Ext w W) => shown_is W (hG.ext hW))
  have CU := Lib.hid (fun W => cutd_is A B n m c c' s t hA.z hB.z hA.n hB.n hA.c hB.c W)
  obtain ⟨g1, g2, g3, g4, g5⟩ := fields_facts ⟨s, l.take 20, t, r.take 20⟩ 300 x h1
  have g6 := g5.2 (by intro hh; simp only at hh; omega)
  have K := Lib.hid (fun W (hW : Ext w W) => dkind_is A B (min n 20) (min m 20) c c' s t 300 x (l.take 20) (r.take 20) (by omega) (by omega) W (hG.ext hW) ((hA.il.take 20).ext hW) ((hB.il.take 20).ext hW))
  rw [h1, g6] at K
  simp only at g1 g2 g3 g4
  clear hG hA hB h1 g5 g6
  have xt : (x.tmod 4 == 0) = false := by rw [Int.tmod_eq_emod_of_nonneg h0]; simpa using hx
  have xt' : ¬ x.tmod 4 = 0 := by rw [Int.tmod_eq_emod_of_nonneg h0]; exact hx
  generalize min n 20 = n' at *
  generalize min m 20 = m' at *
  go_enter Tryd.func3, Tryd.ntmps3
  go_wp2_with (first | (go_at_call 4; refine (SH.out _ HE.out).mono ?_; rintro e w1 ⟨rfl, k1⟩; obtain ⟨⟨q0, q1, q2, q3⟩, f0, f1, f2, f3⟩ := cells4 (at_new k1)) | (go_at_call 5; refine (CU.out _).mono ?_; rintro e w2 ⟨rfl, k2⟩; have k3 := Ext.trans k1 k2; clear q0 q1 q2 q3 f0 f1 f2 f3 k1 k2; obtain ⟨⟨q0, q1, q2, q3⟩, f0, f1, f2, f3⟩ := cells4 (at_new k3)) | (go_at_call 6; refine (K.out _ (box_set4 (at_new k3) (Ext.trans HE.out k3) (Nat.le_refl _)).2).mono ?_; rintro e w3 ⟨rfl, k4⟩; have bx := (box_set4 (at_new k3) (Ext.trans HE.out k3) (Nat.le_refl _)).1.ext k4; have kx := Ext.trans (box_set4 (at_new k3) (Ext.trans HE.out k3) (Nat.le_refl _)).2 k4; clear q0 q1 q2 q3 f0 f1 f2 f3 k3 k4; obtain ⟨⟨q0, q1, q2, q3⟩, f0, f1, f2, f3⟩ := cells4 bx; clear K) | (go_at_call 7; refine (RT.out _ kx).mono ?_; rintro e w3 ⟨rfl, k4⟩; replace bx := bx.ext k4; replace kx := Ext.trans kx k4; clear q0 q1 q2 q3 f0 f1 f2 f3 k4; obtain ⟨⟨q0, q1, q2, q3⟩, f0, f1, f2, f3⟩ := cells4 bx))
  all_goals (go_ret; exact ⟨rfl, kx⟩)
end
section
set_option maxHeartbeats 4000000 in
set_option maxRecDepth 100000 in
theorem fields_gtout (A B : Option Addr) (n m c c' : Nat) (s t y x : Int) (l r : List Int) (w : World) (hA : Arg w A n c l) (hB : Arg w B m c' r) (hG : G w) (hy : 300 < y) (h1 : bytesE ⟨s, l.take 20, t, r.take 20⟩ 300 = 0) (h0 : 0 ≤ x) (hm : x % 4 = 0) (hx : ¬ x < s + 300 * t) :
    Calls Tryd.prog 3 #[.agg #[.int .i64 s, .slice A n c, .int .i64 t, .slice B m c'], .int .i64 y, .int .i64 x] w fun e w' => e = .returned (.bool true) ∧ Ext w w' := by
  have E1 := ext1 w (.cells #[.int .i64 s, .slice A n c, .int .i64 t, .slice B m c'] 24)
  have HE := Lib.hid E1
  have SH := Lib.hid (fun W (hW : Ext w W) => shown_is W (hG.ext hW))
  have CU := Lib.hid (fun W => cutd_is A B n m c c' s t hA.z hB.z hA.n hB.n hA.c hB.c W)
  obtain ⟨g1, g2, g3, g4, g5⟩ := fields_facts ⟨s, l.take 20, t, r.take 20⟩ 300 x h1
  have g6 := g5.2 (by intro hh; simp only at hh; omega)
  have K := Lib.hid (fun W (hW : Ext w W) => dkind_is A B (min n 20) (min m 20) c c' s t 300 x (l.take 20) (r.take 20) (by omega) (by omega) W (hG.ext hW) ((hA.il.take 20).ext hW) ((hB.il.take 20).ext hW))
  rw [h1, g6] at K
  simp only at g1 g2 g3 g4
  clear hG hA hB h1 g5 g6
  have xt : (x.tmod 4 == 0) = true := by rw [Int.tmod_eq_emod_of_nonneg h0]; simpa using hm
  have xt' : x.tmod 4 = 0 := by rw [Int.tmod_eq_emod_of_nonneg h0]; exact hm
  have hd : decide (x < s + 300 * t) = false := by simpa using hx
  generalize min n 20 = n' at *
  generalize min m 20 = m' at *
  go_enter Tryd.func3, Tryd.ntmps3
  go_wp2_with (first | (go_at_call 4; refine (SH.out _ HE.out).mono ?_; rintro e w1 ⟨rfl, k1⟩; obtain ⟨⟨q0, q1, q2, q3⟩, f0, f1, f2, f3⟩ := cells4 (at_new k1)) | (go_at_call 5; refine (CU.out _).mono ?_; rintro e w2 ⟨rfl, k2⟩; have k3 := Ext.trans k1 k2; clear q0 q1 q2 q3 f0 f1 f2 f3 k1 k2; obtain ⟨⟨q0, q1, q2, q3⟩, f0, f1, f2, f3⟩ := cells4 (at_new k3)) | (go_at_call 6; refine (K.out _ (box_set4 (at_new k3) (Ext.trans HE.out k3) (Nat.le_refl _)).2).mono ?_; rintro e w3 ⟨rfl, k4⟩; have bx := (box_set4 (at_new k3) (Ext.trans HE.out k3) (Nat.le_refl _)).1.ext k4; have kx := Ext.trans (box_set4 (at_new k3) (Ext.trans HE.out k3) (Nat.le_refl _)).2 k4; clear q0 q1 q2 q3 f0 f1 f2 f3 k3 k4; obtain ⟨⟨q0, q1, q2, q3⟩, f0, f1, f2, f3⟩ := cells4 bx; clear K) | (go_at_call 7; refine (RT.out _ kx).mono ?_; rintro e w3 ⟨rfl, k4⟩; replace bx := bx.ext k4; replace kx := Ext.trans kx k4; clear q0 q1 q2 q3 f0 f1 f2 f3 k4; obtain ⟨⟨q0, q1, q2, q3⟩, f0, f1, f2, f3⟩ := cells4 bx))
  all_goals (go_ret; exact ⟨by first | rfl | (rw [hd]; rfl) | (simp [hd]), kx⟩)
end
section
set_option maxHeartbeats 4000000 in
set_option maxRecDepth 100000 in
theorem fields_gtin (A B : Option Addr) (n m c c' : Nat) (s t y x : Int) (l r : List Int) (w : World) (hA : Arg w A n c l) (hB : Arg w B m c' r) (hG : G w) (hy : 300 < y) (h1 : bytesE ⟨s, l.take 20, t, r.take 20⟩ 300 = 0) (h0 : 0 ≤ x) (hm : x % 4 = 0) (hx : x < s + 300 * t) :
    Calls Tryd.prog 3 #[.agg #[.int .i64 s, .slice A n c, .int .i64 t, .slice B m c'], .int .i64 y, .int .i64 x] w fun e w' => e = .returned (.bool true) ∧ Ext w w' := by
  have E1 := ext1 w (.cells #[.int .i64 s, .slice A n c, .int .i64 t, .slice B m c'] 24)
  have HE := Lib.hid E1
  have SH := Lib.hid (fun W (hW : Ext w W) => shown_is W (hG.ext hW))
  have CU := Lib.hid (fun W => cutd_is A B n m c c' s t hA.z hB.z hA.n hB.n hA.c hB.c W)
  obtain ⟨g1, g2, g3, g4, g5⟩ := fields_facts ⟨s, l.take 20, t, r.take 20⟩ 300 x h1
  have g6 : ¬ kindV ⟨s, l.take 20, t, r.take 20⟩ 300 x = 0 := fun e => g5.1 e ⟨h0, hm, hx⟩
  have K := Lib.hid (fun W (hW : Ext w W) => dkind_is A B (min n 20) (min m 20) c c' s t 300 x (l.take 20) (r.take 20) (by omega) (by omega) W (hG.ext hW) ((hA.il.take 20).ext hW) ((hB.il.take 20).ext hW))
  rw [h1] at K
  generalize kindV ⟨s, l.take 20, t, r.take 20⟩ 300 x = z at *
  have z1 : (z != 0) = true := by simpa using g6
  have xt : (x.tmod 4 == 0) = true := by rw [Int.tmod_eq_emod_of_nonneg h0]; simpa using hm
  have xt' : x.tmod 4 = 0 := by rw [Int.tmod_eq_emod_of_nonneg h0]; exact hm
  simp only at g1 g2 g3 g4
  clear hG hA hB h1 g5
  generalize min n 20 = n' at *
  generalize min m 20 = m' at *
  go_enter Tryd.func3, Tryd.ntmps3
  go_wp2_with (first | (go_at_call 4; refine (SH.out _ HE.out).mono ?_; rintro e w1 ⟨rfl, k1⟩; obtain ⟨⟨q0, q1, q2, q3⟩, f0, f1, f2, f3⟩ := cells4 (at_new k1)) | (go_at_call 5; refine (CU.out _).mono ?_; rintro e w2 ⟨rfl, k2⟩; have k3 := Ext.trans k1 k2; clear q0 q1 q2 q3 f0 f1 f2 f3 k1 k2; obtain ⟨⟨q0, q1, q2, q3⟩, f0, f1, f2, f3⟩ := cells4 (at_new k3)) | (go_at_call 6; refine (K.out _ (box_set4 (at_new k3) (Ext.trans HE.out k3) (Nat.le_refl _)).2).mono ?_; rintro e w3 ⟨rfl, k4⟩; have bx := (box_set4 (at_new k3) (Ext.trans HE.out k3) (Nat.le_refl _)).1.ext k4; have kx := Ext.trans (box_set4 (at_new k3) (Ext.trans HE.out k3) (Nat.le_refl _)).2 k4; clear q0 q1 q2 q3 f0 f1 f2 f3 k3 k4; obtain ⟨⟨q0, q1, q2, q3⟩, f0, f1, f2, f3⟩ := cells4 bx; clear K) | (go_at_call 7; refine (RT.out _ kx).mono ?_; rintro e w3 ⟨rfl, k4⟩; replace bx := bx.ext k4; replace kx := Ext.trans kx k4; clear q0 q1 q2 q3 f0 f1 f2 f3 k4; obtain ⟨⟨q0, q1, q2, q3⟩, f0, f1, f2, f3⟩ := cells4 bx))
  all_goals (go_ret; exact ⟨rfl, kx⟩)
end
section
set_option maxHeartbeats 4000000 in
set_option maxRecDepth 100000 in
theorem fields_walk (A B : Option Addr) (n m c c' : Nat) (s t y x : Int) (l r : List Int) (w : World) (hA : Arg w A n c l) (hB : Arg w B m c' r) (hG : G w)  :
    Calls Tryd.prog 3 #[.agg #[.int .i64 s, .slice A n c, .int .i64 t, .slice B m c'], .int .i64 y, .int .i64 x] w fun e w' => e = .returned (.bool true) ∧ Ext w w' := by
  by_cases hy : y ≤ 300
  · rcases bytes_e ⟨s, l.take 20, t, r.take 20⟩ y with h1 | h1 | h1
    · by_cases h0 : x < 0
      · exact fields_leneg A B n m c c' s t y x l r w hA hB hG hy h1 h0
      · by_cases hm : x % 4 = 0
        · by_cases hx : x < s + y * t
          · exact fields_lein A B n m c c' s t y x l r w hA hB hG hy h1 (by omega) hm hx
          · exact fields_leout A B n m c c' s t y x l r w hA hB hG hy h1 (by omega) hm hx
        · exact fields_lemod A B n m c c' s t y x l r w hA hB hG hy h1 (by omega) hm
    · exact fields_le40 A B n m c c' s t y x l r w hA hB hG hy h1
    · exact fields_le41 A B n m c c' s t y x l r w hA hB hG hy h1
  · replace hy : 300 < y := by omega
    rcases bytes_e ⟨s, l.take 20, t, r.take 20⟩ 300 with h1 | h1 | h1
    · by_cases h0 : x < 0
      · exact fields_gtneg A B n m c c' s t y x l r w hA hB hG hy h1 h0
      · by_cases hm : x % 4 = 0
        · by_cases hx : x < s + 300 * t
          · exact fields_gtin A B n m c c' s t y x l r w hA hB hG hy h1 (by omega) hm hx
          · exact fields_gtout A B n m c c' s t y x l r w hA hB hG hy h1 (by omega) hm hx
        · exact fields_gtmod A B n m c c' s t y x l r w hA hB hG hy h1 (by omega) hm
    · exact fields_gt40 A B n m c c' s t y x l r w hA hB hG hy h1
    · exact fields_gt41 A B n m c c' s t y x l r w hA hB hG hy h1
end
end Go.Proofs.YtgmpcinlkiiboabDoor
