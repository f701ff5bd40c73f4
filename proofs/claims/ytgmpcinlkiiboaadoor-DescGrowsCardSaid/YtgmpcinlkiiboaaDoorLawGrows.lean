/- selionlaw04.DescGrows: the walk (made by gen_laws.py). -/
import Derived.Test.YtgmpcinlkiiboaaDoorLaw0
import Derived.Test.YtgmpcinlkiiboaaDoorKindD2
namespace Go.Proofs.YtgmpcinlkiiboaaDoor
open Go.RowKit Go
theorem bytes_e (d : DescR) (n : Int) : bytesE d n = 0 ∨ bytesE d n = 40 ∨ bytesE d n = 41 := by
  unfold bytesE; split
  · split <;> simp
  · simp
theorem bytes_ok {d : DescR} {n : Int} (h : bytesE d n = 0) : rightB d = true ∧ lenB d n = true := by
  unfold bytesE at h
  split at h
  · rename_i hr; split at h
    · rename_i hl; exact ⟨hr, hl⟩
    · cases h
  · cases h
theorem grows_facts (d : DescR) (n x : Int) (h1 : bytesE d n = 0) (h2 : bytesE d (n + 1) = 0) :
    (8 + d.size + (n + 1) * d.elem + 7) / 8 * 8 = bytesV d (n + 1) ∧ 1 ≤ 8 + d.size + (n + 1) * d.elem ∧ 8 + d.size + (n + 1) * d.elem ≤ 131072 ∧ bytesV d n ≤ bytesV d (n + 1) ∧ bytesV d (n + 1) % 8 = 0 ∧
    (kindV d n x = 0 ∨ kindV d n x = kindV d (n + 1) x) ∧ 0 ≤ (n + 1) * d.elem ∧ 0 ≤ d.size ∧ d.size ≤ 1024 := by
  obtain ⟨hr, hl⟩ := bytes_ok h1
  obtain ⟨_, hl2⟩ := bytes_ok h2
  have hR := right_of hr
  have b1 : bytesV d n = bytesB d n := by simp [bytesV, hr, hl]
  have b2 : bytesV d (n + 1) = bytesB d (n + 1) := by simp [bytesV, hr, hl2]
  have k1 : kindV d n x = kindP d n x := by simp [kindV, hr, hl]
  have k2 : kindV d (n + 1) x = kindP d (n + 1) x := by simp [kindV, hr, hl2]
  have hle := lenB_le hl
  have e0 := hR.e0
  have s0 := hR.s0
  have hm0 : 0 ≤ n * d.elem := Int.mul_nonneg hle.1 e0
  have e : (n + 1) * d.elem = n * d.elem + d.elem := by rw [Int.add_mul, Int.one_mul]
  have hb : bytesB d (n + 1) ≤ 131072 := by
    simp only [lenB, Bool.and_eq_true, decide_eq_true_eq] at hl2
    exact hl2.2
  rw [b1, b2, k1, k2]
  unfold bytesB at hb ⊢
  refine ⟨rfl, by omega, by omega, by omega, by omega, ?_, by omega, s0, hR.s1⟩
  unfold kindP
  by_cases c1 : x < 0 ∨ x % 4 ≠ 0 ∨ d.size + n * d.elem ≤ x
  · left; rw [if_pos c1]
  · right
    have c2 : ¬ (x < 0 ∨ x % 4 ≠ 0 ∨ d.size + (n + 1) * d.elem ≤ x) := by omega
    rw [if_neg c1, if_neg c2]
section
set_option maxHeartbeats 4000000 in
set_option maxRecDepth 100000 in
theorem grows_le40 (A B : Option Addr) (n m c c' : Nat) (s t y x : Int) (l r : List Int) (w : World) (hA : Arg w A n c l) (hB : Arg w B m c' r) (hG : G w) (hy0 : -9223372036854775808 ≤ y) (hy : y ≤ 300) (h2 : bytesE ⟨s, l.take 20, t, r.take 20⟩ ((y + 1)) = 40) :
    Calls Tryd.prog 7 #[.agg #[.int .i64 s, .slice A n c, .int .i64 t, .slice B m c'], .int .i64 y, .int .i64 x] w fun e w' => e = .returned (.bool true) ∧ Ext w w' := by
  have E1 := ext1 w (.cells #[.int .i64 s, .slice A n c, .int .i64 t, .slice B m c'] 24)
  have HE := Lib.hid E1
  have SH := Lib.hid (fun W (hW : Ext w W) => shown_is W (hG.ext hW))
  have CU := Lib.hid (fun W => cutd_is A B n m c c' s t hA.z hB.z hA.n hB.n hA.c hB.c W)
  have R1 := Lib.hid (fun W (hW : Ext w W) => dbytes_is A B (min n 20) (min m 20) c c' s t y (l.take 20) (r.take 20) (by omega) (by omega) W (hG.ext hW) ((hA.il.take 20).ext hW) ((hB.il.take 20).ext hW))
  have R2 := Lib.hid (fun W (hW : Ext w W) => dbytes_is A B (min n 20) (min m 20) c c' s t (y + 1) (l.take 20) (r.take 20) (by omega) (by omega) W (hG.ext hW) ((hA.il.take 20).ext hW) ((hB.il.take 20).ext hW))
  have K1 := Lib.hid (fun W (hW : Ext w W) => dkind_is A B (min n 20) (min m 20) c c' s t y x (l.take 20) (r.take 20) (by omega) (by omega) W (hG.ext hW) ((hA.il.take 20).ext hW) ((hB.il.take 20).ext hW))
  have K2 := Lib.hid (fun W (hW : Ext w W) => dkind_is A B (min n 20) (min m 20) c c' s t (y + 1) x (l.take 20) (r.take 20) (by omega) (by omega) W (hG.ext hW) ((hA.il.take 20).ext hW) ((hB.il.take 20).ext hW))
  clear hG hA hB
  generalize min n 20 = n' at *
  generalize min m 20 = m' at *
  rw [h2] at R2 K2
  clear h2
  generalize bytesE ⟨s, l.take 20, t, r.take 20⟩ y = e1 at *
  generalize bytesV ⟨s, l.take 20, t, r.take 20⟩ y = z1 at *
  generalize bytesV ⟨s, l.take 20, t, r.take 20⟩ (y + 1) = z2 at *
  generalize kindV ⟨s, l.take 20, t, r.take 20⟩ y x = y1 at *
  generalize kindV ⟨s, l.take 20, t, r.take 20⟩ (y + 1) x = y2 at *
  go_enter Tryd.func7, Tryd.ntmps7
  go_wp2_with (first | (go_at_call 8; refine (SH.out _ HE.out).mono ?_; rintro e w1 ⟨rfl, k1⟩; obtain ⟨⟨q0, q1, q2, q3⟩, f0, f1, f2, f3⟩ := cells4 (at_new k1)) | (go_at_call 9; refine (CU.out _).mono ?_; rintro e w2 ⟨rfl, k2⟩; have k3 := Ext.trans k1 k2; clear q0 q1 q2 q3 f0 f1 f2 f3 k1 k2; obtain ⟨⟨q0, q1, q2, q3⟩, f0, f1, f2, f3⟩ := cells4 (at_new k3)) | (go_at_call 10; refine (R1.out _ (box_set4 (at_new k3) (Ext.trans HE.out k3) (Nat.le_refl _)).2).mono ?_; rintro e w3 ⟨rfl, k4⟩; have bx := (box_set4 (at_new k3) (Ext.trans HE.out k3) (Nat.le_refl _)).1.ext k4; have kx := Ext.trans (box_set4 (at_new k3) (Ext.trans HE.out k3) (Nat.le_refl _)).2 k4; clear q0 q1 q2 q3 f0 f1 f2 f3 k3 k4; obtain ⟨⟨q0, q1, q2, q3⟩, f0, f1, f2, f3⟩ := cells4 bx; clear R1) | (go_at_call 10; refine (R2.out _ kx).mono ?_; rintro e w3 ⟨rfl, k4⟩; replace bx := bx.ext k4; replace kx := Ext.trans kx k4; clear q0 q1 q2 q3 f0 f1 f2 f3 k4; obtain ⟨⟨q0, q1, q2, q3⟩, f0, f1, f2, f3⟩ := cells4 bx; clear R2) | (go_at_call 12; refine (K1.out _ kx).mono ?_; rintro e w3 ⟨rfl, k4⟩; replace bx := bx.ext k4; replace kx := Ext.trans kx k4; clear q0 q1 q2 q3 f0 f1 f2 f3 k4; obtain ⟨⟨q0, q1, q2, q3⟩, f0, f1, f2, f3⟩ := cells4 bx; clear K1) | (go_at_call 12; refine (K2.out _ kx).mono ?_; rintro e w3 ⟨rfl, k4⟩; replace bx := bx.ext k4; replace kx := Ext.trans kx k4; clear q0 q1 q2 q3 f0 f1 f2 f3 k4; obtain ⟨⟨q0, q1, q2, q3⟩, f0, f1, f2, f3⟩ := cells4 bx; clear K2))
  all_goals (go_ret; exact ⟨rfl, kx⟩)
end
section
set_option maxHeartbeats 4000000 in
set_option maxRecDepth 100000 in
theorem grows_le41 (A B : Option Addr) (n m c c' : Nat) (s t y x : Int) (l r : List Int) (w : World) (hA : Arg w A n c l) (hB : Arg w B m c' r) (hG : G w) (hy0 : -9223372036854775808 ≤ y) (hy : y ≤ 300) (h2 : bytesE ⟨s, l.take 20, t, r.take 20⟩ ((y + 1)) = 41) :
    Calls Tryd.prog 7 #[.agg #[.int .i64 s, .slice A n c, .int .i64 t, .slice B m c'], .int .i64 y, .int .i64 x] w fun e w' => e = .returned (.bool true) ∧ Ext w w' := by
  have E1 := ext1 w (.cells #[.int .i64 s, .slice A n c, .int .i64 t, .slice B m c'] 24)
  have HE := Lib.hid E1
  have SH := Lib.hid (fun W (hW : Ext w W) => shown_is W (hG.ext hW))
  have CU := Lib.hid (fun W => cutd_is A B n m c c' s t hA.z hB.z hA.n hB.n hA.c hB.c W)
  have R1 := Lib.hid (fun W (hW : Ext w W) => dbytes_is A B (min n 20) (min m 20) c c' s t y (l.take 20) (r.take 20) (by omega) (by omega) W (hG.ext hW) ((hA.il.take 20).ext hW) ((hB.il.take 20).ext hW))
  have R2 := Lib.hid (fun W (hW : Ext w W) => dbytes_is A B (min n 20) (min m 20) c c' s t (y + 1) (l.take 20) (r.take 20) (by omega) (by omega) W (hG.ext hW) ((hA.il.take 20).ext hW) ((hB.il.take 20).ext hW))
  have K1 := Lib.hid (fun W (hW : Ext w W) => dkind_is A B (min n 20) (min m 20) c c' s t y x (l.take 20) (r.take 20) (by omega) (by omega) W (hG.ext hW) ((hA.il.take 20).ext hW) ((hB.il.take 20).ext hW))
  have K2 := Lib.hid (fun W (hW : Ext w W) => dkind_is A B (min n 20) (min m 20) c c' s t (y + 1) x (l.take 20) (r.take 20) (by omega) (by omega) W (hG.ext hW) ((hA.il.take 20).ext hW) ((hB.il.take 20).ext hW))
  clear hG hA hB
  generalize min n 20 = n' at *
  generalize min m 20 = m' at *
  rw [h2] at R2 K2
  clear h2
  generalize bytesE ⟨s, l.take 20, t, r.take 20⟩ y = e1 at *
  generalize bytesV ⟨s, l.take 20, t, r.take 20⟩ y = z1 at *
  generalize bytesV ⟨s, l.take 20, t, r.take 20⟩ (y + 1) = z2 at *
  generalize kindV ⟨s, l.take 20, t, r.take 20⟩ y x = y1 at *
  generalize kindV ⟨s, l.take 20, t, r.take 20⟩ (y + 1) x = y2 at *
  go_enter Tryd.func7, Tryd.ntmps7
  go_wp2_with (first | (go_at_call 8; refine (SH.out _ HE.out).mono ?_; rintro e w1 ⟨rfl, k1⟩; obtain ⟨⟨q0, q1, q2, q3⟩, f0, f1, f2, f3⟩ := cells4 (at_new k1)) | (go_at_call 9; refine (CU.out _).mono ?_; rintro e w2 ⟨rfl, k2⟩; have k3 := Ext.trans k1 k2; clear q0 q1 q2 q3 f0 f1 f2 f3 k1 k2; obtain ⟨⟨q0, q1, q2, q3⟩, f0, f1, f2, f3⟩ := cells4 (at_new k3)) | (go_at_call 10; refine (R1.out _ (box_set4 (at_new k3) (Ext.trans HE.out k3) (Nat.le_refl _)).2).mono ?_; rintro e w3 ⟨rfl, k4⟩; have bx := (box_set4 (at_new k3) (Ext.trans HE.out k3) (Nat.le_refl _)).1.ext k4; have kx := Ext.trans (box_set4 (at_new k3) (Ext.trans HE.out k3) (Nat.le_refl _)).2 k4; clear q0 q1 q2 q3 f0 f1 f2 f3 k3 k4; obtain ⟨⟨q0, q1, q2, q3⟩, f0, f1, f2, f3⟩ := cells4 bx; clear R1) | (go_at_call 10; refine (R2.out _ kx).mono ?_; rintro e w3 ⟨rfl, k4⟩; replace bx := bx.ext k4; replace kx := Ext.trans kx k4; clear q0 q1 q2 q3 f0 f1 f2 f3 k4; obtain ⟨⟨q0, q1, q2, q3⟩, f0, f1, f2, f3⟩ := cells4 bx; clear R2) | (go_at_call 12; refine (K1.out _ kx).mono ?_; rintro e w3 ⟨rfl, k4⟩; replace bx := bx.ext k4; replace kx := Ext.trans kx k4; clear q0 q1 q2 q3 f0 f1 f2 f3 k4; obtain ⟨⟨q0, q1, q2, q3⟩, f0, f1, f2, f3⟩ := cells4 bx; clear K1) | (go_at_call 12; refine (K2.out _ kx).mono ?_; rintro e w3 ⟨rfl, k4⟩; replace bx := bx.ext k4; replace kx := Ext.trans kx k4; clear q0 q1 q2 q3 f0 f1 f2 f3 k4; obtain ⟨⟨q0, q1, q2, q3⟩, f0, f1, f2, f3⟩ := cells4 bx; clear K2))
  all_goals (go_ret; exact ⟨rfl, kx⟩)
end
section
set_option maxHeartbeats 4000000 in
set_option maxRecDepth 100000 in
theorem grows_le0 (A B : Option Addr) (n m c c' : Nat) (s t y x : Int) (l r : List Int) (w : World) (hA : Arg w A n c l) (hB : Arg w B m c' r) (hG : G w) (hy0 : -9223372036854775808 ≤ y) (hy : y ≤ 300) (h2 : bytesE ⟨s, l.take 20, t, r.take 20⟩ ((y + 1)) = 0) (h1 : bytesE ⟨s, l.take 20, t, r.take 20⟩ y ≠ 0) :
    Calls Tryd.prog 7 #[.agg #[.int .i64 s, .slice A n c, .int .i64 t, .slice B m c'], .int .i64 y, .int .i64 x] w fun e w' => e = .returned (.bool true) ∧ Ext w w' := by
  have E1 := ext1 w (.cells #[.int .i64 s, .slice A n c, .int .i64 t, .slice B m c'] 24)
  have HE := Lib.hid E1
  have SH := Lib.hid (fun W (hW : Ext w W) => shown_is W (hG.ext hW))
  have CU := Lib.hid (fun W => cutd_is A B n m c c' s t hA.z hB.z hA.n hB.n hA.c hB.c W)
  have R1 := Lib.hid (fun W (hW : Ext w W) => dbytes_is A B (min n 20) (min m 20) c c' s t y (l.take 20) (r.take 20) (by omega) (by omega) W (hG.ext hW) ((hA.il.take 20).ext hW) ((hB.il.take 20).ext hW))
  have R2 := Lib.hid (fun W (hW : Ext w W) => dbytes_is A B (min n 20) (min m 20) c c' s t (y + 1) (l.take 20) (r.take 20) (by omega) (by omega) W (hG.ext hW) ((hA.il.take 20).ext hW) ((hB.il.take 20).ext hW))
  have K1 := Lib.hid (fun W (hW : Ext w W) => dkind_is A B (min n 20) (min m 20) c c' s t y x (l.take 20) (r.take 20) (by omega) (by omega) W (hG.ext hW) ((hA.il.take 20).ext hW) ((hB.il.take 20).ext hW))
  have K2 := Lib.hid (fun W (hW : Ext w W) => dkind_is A B (min n 20) (min m 20) c c' s t (y + 1) x (l.take 20) (r.take 20) (by omega) (by omega) W (hG.ext hW) ((hA.il.take 20).ext hW) ((hB.il.take 20).ext hW))
  clear hG hA hB
  generalize min n 20 = n' at *
  generalize min m 20 = m' at *
  rw [h2] at R2 K2
  clear h2
  generalize bytesE ⟨s, l.take 20, t, r.take 20⟩ y = e1 at *
  have h1' : (e1 != 0) = true := by simpa using h1
  generalize bytesV ⟨s, l.take 20, t, r.take 20⟩ y = z1 at *
  generalize bytesV ⟨s, l.take 20, t, r.take 20⟩ (y + 1) = z2 at *
  generalize kindV ⟨s, l.take 20, t, r.take 20⟩ y x = y1 at *
  generalize kindV ⟨s, l.take 20, t, r.take 20⟩ (y + 1) x = y2 at *
  go_enter Tryd.func7, Tryd.ntmps7
  go_wp2_with (first | (go_at_call 8; refine (SH.out _ HE.out).mono ?_; rintro e w1 ⟨rfl, k1⟩; obtain ⟨⟨q0, q1, q2, q3⟩, f0, f1, f2, f3⟩ := cells4 (at_new k1)) | (go_at_call 9; refine (CU.out _).mono ?_; rintro e w2 ⟨rfl, k2⟩; have k3 := Ext.trans k1 k2; clear q0 q1 q2 q3 f0 f1 f2 f3 k1 k2; obtain ⟨⟨q0, q1, q2, q3⟩, f0, f1, f2, f3⟩ := cells4 (at_new k3)) | (go_at_call 10; refine (R1.out _ (box_set4 (at_new k3) (Ext.trans HE.out k3) (Nat.le_refl _)).2).mono ?_; rintro e w3 ⟨rfl, k4⟩; have bx := (box_set4 (at_new k3) (Ext.trans HE.out k3) (Nat.le_refl _)).1.ext k4; have kx := Ext.trans (box_set4 (at_new k3) (Ext.trans HE.out k3) (Nat.le_refl _)).2 k4; clear q0 q1 q2 q3 f0 f1 f2 f3 k3 k4; obtain ⟨⟨q0, q1, q2, q3⟩, f0, f1, f2, f3⟩ := cells4 bx; clear R1) | (go_at_call 10; refine (R2.out _ kx).mono ?_; rintro e w3 ⟨rfl, k4⟩; replace bx := bx.ext k4; replace kx := Ext.trans kx k4; clear q0 q1 q2 q3 f0 f1 f2 f3 k4; obtain ⟨⟨q0, q1, q2, q3⟩, f0, f1, f2, f3⟩ := cells4 bx; clear R2) | (go_at_call 12; refine (K1.out _ kx).mono ?_; rintro e w3 ⟨rfl, k4⟩; replace bx := bx.ext k4; replace kx := Ext.trans kx k4; clear q0 q1 q2 q3 f0 f1 f2 f3 k4; obtain ⟨⟨q0, q1, q2, q3⟩, f0, f1, f2, f3⟩ := cells4 bx; clear K1) | (go_at_call 12; refine (K2.out _ kx).mono ?_; rintro e w3 ⟨rfl, k4⟩; replace bx := bx.ext k4; replace kx := Ext.trans kx k4; clear q0 q1 q2 q3 f0 f1 f2 f3 k4; obtain ⟨⟨q0, q1, q2, q3⟩, f0, f1, f2, f3⟩ := cells4 bx; clear K2))
  all_goals (go_ret; exact ⟨rfl, kx⟩)
end
section
set_option maxHeartbeats 4000000 in
set_option maxRecDepth 100000 in
theorem grows_leok (A B : Option Addr) (n m c c' : Nat) (s t y x : Int) (l r : List Int) (w : World) (hA : Arg w A n c l) (hB : Arg w B m c' r) (hG : G w) (hy0 : -9223372036854775808 ≤ y) (hy : y ≤ 300) (h1 : bytesE ⟨s, l.take 20, t, r.take 20⟩ y = 0) (h2 : bytesE ⟨s, l.take 20, t, r.take 20⟩ (y + 1) = 0) :
    Calls Tryd.prog 7 #[.agg #[.int .i64 s, .slice A n c, .int .i64 t, .slice B m c'], .int .i64 y, .int .i64 x] w fun e w' => e = .returned (.bool true) ∧ Ext w w' := by
  have E1 := ext1 w (.cells #[.int .i64 s, .slice A n c, .int .i64 t, .slice B m c'] 24)
  have HE := Lib.hid E1
  have SH := Lib.hid (fun W (hW : Ext w W) => shown_is W (hG.ext hW))
  have CU := Lib.hid (fun W => cutd_is A B n m c c' s t hA.z hB.z hA.n hB.n hA.c hB.c W)
  obtain ⟨g1, g2, g3, g4, g5, g6, g7, g8, g9⟩ := grows_facts ⟨s, l.take 20, t, r.take 20⟩ y x h1 h2
  have J := Lib.hid (fun W (hW : Ext w W) => hG.j.elim fun a0 h => h.elim fun a2 h => h.elim fun a3 h => g1 ▸ J.round_ok (8 + s + (y + 1) * t) g2 g3 W (h.ext hW))
  have R1 := Lib.hid (fun W (hW : Ext w W) => dbytes_is A B (min n 20) (min m 20) c c' s t y (l.take 20) (r.take 20) (by omega) (by omega) W (hG.ext hW) ((hA.il.take 20).ext hW) ((hB.il.take 20).ext hW))
  have R2 := Lib.hid (fun W (hW : Ext w W) => dbytes_is A B (min n 20) (min m 20) c c' s t (y + 1) (l.take 20) (r.take 20) (by omega) (by omega) W (hG.ext hW) ((hA.il.take 20).ext hW) ((hB.il.take 20).ext hW))
  have K1 := Lib.hid (fun W (hW : Ext w W) => dkind_is A B (min n 20) (min m 20) c c' s t y x (l.take 20) (r.take 20) (by omega) (by omega) W (hG.ext hW) ((hA.il.take 20).ext hW) ((hB.il.take 20).ext hW))
  have K2 := Lib.hid (fun W (hW : Ext w W) => dkind_is A B (min n 20) (min m 20) c c' s t (y + 1) x (l.take 20) (r.take 20) (by omega) (by omega) W (hG.ext hW) ((hA.il.take 20).ext hW) ((hB.il.take 20).ext hW))
  rw [h1] at R1 K1
  rw [h2] at R2 K2
  clear hG hA hB
  generalize min n 20 = n' at *
  generalize min m 20 = m' at *
  generalize bytesV ⟨s, l.take 20, t, r.take 20⟩ y = z1 at *
  generalize bytesV ⟨s, l.take 20, t, r.take 20⟩ (y + 1) = z2 at *
  generalize kindV ⟨s, l.take 20, t, r.take 20⟩ y x = y1 at *
  generalize kindV ⟨s, l.take 20, t, r.take 20⟩ (y + 1) x = y2 at *
  clear h1 h2 g1
  have zt : (z2.tmod 8 == 0) = true := by rw [beq_iff_eq]; exact Int.tmod_eq_zero_of_dvd (Int.dvd_of_emod_eq_zero g5)
  have zt' : z2.tmod 8 = 0 := Int.tmod_eq_zero_of_dvd (Int.dvd_of_emod_eq_zero g5)
  rcases g6 with rfl | rfl
  all_goals
    go_enter Tryd.func7, Tryd.ntmps7
    go_wp2_with (first | (go_at_call 8; refine (SH.out _ HE.out).mono ?_; rintro e w1 ⟨rfl, k1⟩; obtain ⟨⟨q0, q1, q2, q3⟩, f0, f1, f2, f3⟩ := cells4 (at_new k1)) | (go_at_call 9; refine (CU.out _).mono ?_; rintro e w2 ⟨rfl, k2⟩; have k3 := Ext.trans k1 k2; clear q0 q1 q2 q3 f0 f1 f2 f3 k1 k2; obtain ⟨⟨q0, q1, q2, q3⟩, f0, f1, f2, f3⟩ := cells4 (at_new k3)) | (go_at_call 10; refine (R1.out _ (box_set4 (at_new k3) (Ext.trans HE.out k3) (Nat.le_refl _)).2).mono ?_; rintro e w3 ⟨rfl, k4⟩; have bx := (box_set4 (at_new k3) (Ext.trans HE.out k3) (Nat.le_refl _)).1.ext k4; have kx := Ext.trans (box_set4 (at_new k3) (Ext.trans HE.out k3) (Nat.le_refl _)).2 k4; clear q0 q1 q2 q3 f0 f1 f2 f3 k3 k4; obtain ⟨⟨q0, q1, q2, q3⟩, f0, f1, f2, f3⟩ := cells4 bx; clear R1) | (go_at_call 10; refine (R2.out _ kx).mono ?_; rintro e w3 ⟨rfl, k4⟩; replace bx := bx.ext k4; replace kx := Ext.trans kx k4; clear q0 q1 q2 q3 f0 f1 f2 f3 k4; obtain ⟨⟨q0, q1, q2, q3⟩, f0, f1, f2, f3⟩ := cells4 bx; clear R2) | (go_at_call 12; refine (K1.out _ kx).mono ?_; rintro e w3 ⟨rfl, k4⟩; replace bx := bx.ext k4; replace kx := Ext.trans kx k4; clear q0 q1 q2 q3 f0 f1 f2 f3 k4; obtain ⟨⟨q0, q1, q2, q3⟩, f0, f1, f2, f3⟩ := cells4 bx; clear K1) | (go_at_call 12; refine (K2.out _ kx).mono ?_; rintro e w3 ⟨rfl, k4⟩; replace bx := bx.ext k4; replace kx := Ext.trans kx k4; clear q0 q1 q2 q3 f0 f1 f2 f3 k4; obtain ⟨⟨q0, q1, q2, q3⟩, f0, f1, f2, f3⟩ := cells4 bx; clear K2) | (go_at_call 24; refine (J.out _ kx).mono ?_; rintro e w3 ⟨rfl, k4⟩; replace bx := bx.ext k4; replace kx := Ext.trans kx k4; clear q0 q1 q2 q3 f0 f1 f2 f3 k4; obtain ⟨⟨q0, q1, q2, q3⟩, f0, f1, f2, f3⟩ := cells4 bx))
    all_goals (go_ret; exact ⟨rfl, kx⟩)
end
section
set_option maxHeartbeats 4000000 in
set_option maxRecDepth 100000 in
theorem grows_gt40 (A B : Option Addr) (n m c c' : Nat) (s t y x : Int) (l r : List Int) (w : World) (hA : Arg w A n c l) (hB : Arg w B m c' r) (hG : G w) (hy : 300 < y) (h2 : bytesE ⟨s, l.take 20, t, r.take 20⟩ (301) = 40) :
    Calls Tryd.prog 7 #[.agg #[.int .i64 s, .slice A n c, .int .i64 t, .slice B m c'], .int .i64 y, .int .i64 x] w fun e w' => e = .returned (.bool true) ∧ Ext w w' := by
  have E1 := ext1 w (.cells #[.int .i64 s, .slice A n c, .int .i64 t, .slice B m c'] 24)
  have HE := Lib.hid E1
  have SH := Lib.hid (fun W (hW : Ext w W) => shown_is W (hG.ext hW))
  have CU := Lib.hid (fun W => cutd_is A B n m c c' s t hA.z hB.z hA.n hB.n hA.c hB.c W)
  have R1 := Lib.hid (fun W (hW : Ext w W) => dbytes_is A B (min n 20) (min m 20) c c' s t 300 (l.take 20) (r.take 20) (by omega) (by omega) W (hG.ext hW) ((hA.il.take 20).ext hW) ((hB.il.take 20).ext hW))
  have R2 := Lib.hid (fun W (hW : Ext w W) => dbytes_is A B (min n 20) (min m 20) c c' s t 301 (l.take 20) (r.take 20) (by omega) (by omega) W (hG.ext hW) ((hA.il.take 20).ext hW) ((hB.il.take 20).ext hW))
  have K1 := Lib.hid (fun W (hW : Ext w W) => dkind_is A B (min n 20) (min m 20) c c' s t 300 x (l.take 20) (r.take 20) (by omega) (by omega) W (hG.ext hW) ((hA.il.take 20).ext hW) ((hB.il.take 20).ext hW))
  have K2 := Lib.hid (fun W (hW : Ext w W) => dkind_is A B (min n 20) (min m 20) c c' s t 301 x (l.take 20) (r.take 20) (by omega) (by omega) W (hG.ext hW) ((hA.il.take 20).ext hW) ((hB.il.take 20).ext hW))
  clear hG hA hB
  generalize min n 20 = n' at *
  generalize min m 20 = m' at *
  rw [h2] at R2 K2
  clear h2
  generalize bytesE ⟨s, l.take 20, t, r.take 20⟩ 300 = e1 at *
  generalize bytesV ⟨s, l.take 20, t, r.take 20⟩ 300 = z1 at *
  generalize bytesV ⟨s, l.take 20, t, r.take 20⟩ 301 = z2 at *
  generalize kindV ⟨s, l.take 20, t, r.take 20⟩ 300 x = y1 at *
  generalize kindV ⟨s, l.take 20, t, r.take 20⟩ 301 x = y2 at *
  go_enter Tryd.func7, Tryd.ntmps7
  go_wp2_with (first | (go_at_call 8; refine (SH.out _ HE.out).mono ?_; rintro e w1 ⟨rfl, k1⟩; obtain ⟨⟨q0, q1, q2, q3⟩, f0, f1, f2, f3⟩ := cells4 (at_new k1)) | (go_at_call 9; refine (CU.out _).mono ?_; rintro e w2 ⟨rfl, k2⟩; have k3 := Ext.trans k1 k2; clear q0 q1 q2 q3 f0 f1 f2 f3 k1 k2; obtain ⟨⟨q0, q1, q2, q3⟩, f0, f1, f2, f3⟩ := cells4 (at_new k3)) | (go_at_call 10; refine (R1.out _ (box_set4 (at_new k3) (Ext.trans HE.out k3) (Nat.le_refl _)).2).mono ?_; rintro e w3 ⟨rfl, k4⟩; have bx := (box_set4 (at_new k3) (Ext.trans HE.out k3) (Nat.le_refl _)).1.ext k4; have kx := Ext.trans (box_set4 (at_new k3) (Ext.trans HE.out k3) (Nat.le_refl _)).2 k4; clear q0 q1 q2 q3 f0 f1 f2 f3 k3 k4; obtain ⟨⟨q0, q1, q2, q3⟩, f0, f1, f2, f3⟩ := cells4 bx; clear R1) | (go_at_call 10; refine (R2.out _ kx).mono ?_; rintro e w3 ⟨rfl, k4⟩; replace bx := bx.ext k4; replace kx := Ext.trans kx k4; clear q0 q1 q2 q3 f0 f1 f2 f3 k4; obtain ⟨⟨q0, q1, q2, q3⟩, f0, f1, f2, f3⟩ := cells4 bx; clear R2) | (go_at_call 12; refine (K1.out _ kx).mono ?_; rintro e w3 ⟨rfl, k4⟩; replace bx := bx.ext k4; replace kx := Ext.trans kx k4; clear q0 q1 q2 q3 f0 f1 f2 f3 k4; obtain ⟨⟨q0, q1, q2, q3⟩, f0, f1, f2, f3⟩ := cells4 bx; clear K1) | (go_at_call 12; refine (K2.out _ kx).mono ?_; rintro e w3 ⟨rfl, k4⟩; replace bx := bx.ext k4; replace kx := Ext.trans kx k4; clear q0 q1 q2 q3 f0 f1 f2 f3 k4; obtain ⟨⟨q0, q1, q2, q3⟩, f0, f1, f2, f3⟩ := cells4 bx; clear K2))
  all_goals (go_ret; exact ⟨rfl, kx⟩)
end
section
set_option maxHeartbeats 4000000 in
set_option maxRecDepth 100000 in
theorem grows_gt41 (A B : Option Addr) (n m c c' : Nat) (s t y x : Int) (l r : List Int) (w : World) (hA : Arg w A n c l) (hB : Arg w B m c' r) (hG : G w) (hy : 300 < y) (h2 : bytesE ⟨s, l.take 20, t, r.take 20⟩ (301) = 41) :
    Calls Tryd.prog 7 #[.agg #[.int .i64 s, .slice A n c, .int .i64 t, .slice B m c'], .int .i64 y, .int .i64 x] w fun e w' => e = .returned (.bool true) ∧ Ext w w' := by
  have E1 := ext1 w (.cells #[.int .i64 s, .slice A n c, .int .i64 t, .slice B m c'] 24)
  have HE := Lib.hid E1
  have SH := Lib.hid (fun W (hW : Ext w W) => shown_is W (hG.ext hW))
  have CU := Lib.hid (fun W => cutd_is A B n m c c' s t hA.z hB.z hA.n hB.n hA.c hB.c W)
  have R1 := Lib.hid (fun W (hW : Ext w W) => dbytes_is A B (min n 20) (min m 20) c c' s t 300 (l.take 20) (r.take 20) (by omega) (by omega) W (hG.ext hW) ((hA.il.take 20).ext hW) ((hB.il.take 20).ext hW))
  have R2 := Lib.hid (fun W (hW : Ext w W) => dbytes_is A B (min n 20) (min m 20) c c' s t 301 (l.take 20) (r.take 20) (by omega) (by omega) W (hG.ext hW) ((hA.il.take 20).ext hW) ((hB.il.take 20).ext hW))
  have K1 := Lib.hid (fun W (hW : Ext w W) => dkind_is A B (min n 20) (min m 20) c c' s t 300 x (l.take 20) (r.take 20) (by omega) (by omega) W (hG.ext hW) ((hA.il.take 20).ext hW) ((hB.il.take 20).ext hW))
  have K2 := Lib.hid (fun W (hW : Ext w W) => dkind_is A B (min n 20) (min m 20) c c' s t 301 x (l.take 20) (r.take 20) (by omega) (by omega) W (hG.ext hW) ((hA.il.take 20).ext hW) ((hB.il.take 20).ext hW))
  clear hG hA hB
  generalize min n 20 = n' at *
  generalize min m 20 = m' at *
  rw [h2] at R2 K2
  clear h2
  generalize bytesE ⟨s, l.take 20, t, r.take 20⟩ 300 = e1 at *
  generalize bytesV ⟨s, l.take 20, t, r.take 20⟩ 300 = z1 at *
  generalize bytesV ⟨s, l.take 20, t, r.take 20⟩ 301 = z2 at *
  generalize kindV ⟨s, l.take 20, t, r.take 20⟩ 300 x = y1 at *
  generalize kindV ⟨s, l.take 20, t, r.take 20⟩ 301 x = y2 at *
  go_enter Tryd.func7, Tryd.ntmps7
  go_wp2_with (first | (go_at_call 8; refine (SH.out _ HE.out).mono ?_; rintro e w1 ⟨rfl, k1⟩; obtain ⟨⟨q0, q1, q2, q3⟩, f0, f1, f2, f3⟩ := cells4 (at_new k1)) | (go_at_call 9; refine (CU.out _).mono ?_; rintro e w2 ⟨rfl, k2⟩; have k3 := Ext.trans k1 k2; clear q0 q1 q2 q3 f0 f1 f2 f3 k1 k2; obtain ⟨⟨q0, q1, q2, q3⟩, f0, f1, f2, f3⟩ := cells4 (at_new k3)) | (go_at_call 10; refine (R1.out _ (box_set4 (at_new k3) (Ext.trans HE.out k3) (Nat.le_refl _)).2).mono ?_; rintro e w3 ⟨rfl, k4⟩; have bx := (box_set4 (at_new k3) (Ext.trans HE.out k3) (Nat.le_refl _)).1.ext k4; have kx := Ext.trans (box_set4 (at_new k3) (Ext.trans HE.out k3) (Nat.le_refl _)).2 k4; clear q0 q1 q2 q3 f0 f1 f2 f3 k3 k4; obtain ⟨⟨q0, q1, q2, q3⟩, f0, f1, f2, f3⟩ := cells4 bx; clear R1) | (go_at_call 10; refine (R2.out _ kx).mono ?_; rintro e w3 ⟨rfl, k4⟩; replace bx := bx.ext k4; replace kx := Ext.trans kx k4; clear q0 q1 q2 q3 f0 f1 f2 f3 k4; obtain ⟨⟨q0, q1, q2, q3⟩, f0, f1, f2, f3⟩ := cells4 bx; clear R2) | (go_at_call 12; refine (K1.out _ kx).mono ?_; rintro e w3 ⟨rfl, k4⟩; replace bx := bx.ext k4; replace kx := Ext.trans kx k4; clear q0 q1 q2 q3 f0 f1 f2 f3 k4; obtain ⟨⟨q0, q1, q2, q3⟩, f0, f1, f2, f3⟩ := cells4 bx; clear K1) | (go_at_call 12; refine (K2.out _ kx).mono ?_; rintro e w3 ⟨rfl, k4⟩; replace bx := bx.ext k4; replace kx := Ext.trans kx k4; clear q0 q1 q2 q3 f0 f1 f2 f3 k4; obtain ⟨⟨q0, q1, q2, q3⟩, f0, f1, f2, f3⟩ := cells4 bx; clear K2))
  all_goals (go_ret; exact ⟨rfl, kx⟩)
end
section
set_option maxHeartbeats 4000000 in
set_option maxRecDepth 100000 in
theorem grows_gt0 (A B : Option Addr) (n m c c' : Nat) (s t y x : Int) (l r : List Int) (w : World) (hA : Arg w A n c l) (hB : Arg w B m c' r) (hG : G w) (hy : 300 < y) (h2 : bytesE ⟨s, l.take 20, t, r.take 20⟩ (301) = 0) (h1 : bytesE ⟨s, l.take 20, t, r.take 20⟩ 300 ≠ 0) :
    Calls Tryd.prog 7 #[.agg #[.int .i64 s, .slice A n c, .int .i64 t, .slice B m c'], .int .i64 y, .int .i64 x] w fun e w' => e = .returned (.bool true) ∧ Ext w w' := by
  have E1 := ext1 w (.cells #[.int .i64 s, .slice A n c, .int .i64 t, .slice B m c'] 24)
  have HE := Lib.hid E1
  have SH := Lib.hid (fun W (hW : Ext w W) => shown_is W (hG.ext hW))
  have CU := Lib.hid (fun W => cutd_is A B n m c c' s t hA.z hB.z hA.n hB.n hA.c hB.c W)
  have R1 := Lib.hid (fun W (hW : Ext w W) => dbytes_is A B (min n 20) (min m 20) c c' s t 300 (l.take 20) (r.take 20) (by omega) (by omega) W (hG.ext hW) ((hA.il.take 20).ext hW) ((hB.il.take 20).ext hW))
  have R2 := Lib.hid (fun W (hW : Ext w W) => dbytes_is A B (min n 20) (min m 20) c c' s t 301 (l.take 20) (r.take 20) (by omega) (by omega) W (hG.ext hW) ((hA.il.take 20).ext hW) ((hB.il.take 20).ext hW))
  have K1 := Lib.hid (fun W (hW : Ext w W) => dkind_is A B (min n 20) (min m 20) c c' s t 300 x (l.take 20) (r.take 20) (by omega) (by omega) W (hG.ext hW) ((hA.il.take 20).ext hW) ((hB.il.take 20).ext hW))
  have K2 := Lib.hid (fun W (hW : Ext w W) => dkind_is A B (min n 20) (min m 20) c c' s t 301 x (l.take 20) (r.take 20) (by omega) (by omega) W (hG.ext hW) ((hA.il.take 20).ext hW) ((hB.il.take 20).ext hW))
  clear hG hA hB
  generalize min n 20 = n' at *
  generalize min m 20 = m' at *
  rw [h2] at R2 K2
  clear h2
  generalize bytesE ⟨s, l.take 20, t, r.take 20⟩ 300 = e1 at *
  have h1' : (e1 != 0) = true := by simpa using h1
  generalize bytesV ⟨s, l.take 20, t, r.take 20⟩ 300 = z1 at *
  generalize bytesV ⟨s, l.take 20, t, r.take 20⟩ 301 = z2 at *
  generalize kindV ⟨s, l.take 20, t, r.take 20⟩ 300 x = y1 at *
  generalize kindV ⟨s, l.take 20, t, r.take 20⟩ 301 x = y2 at *
  go_enter Tryd.func7, Tryd.ntmps7
  go_wp2_with (first | (go_at_call 8; refine (SH.out _ HE.out).mono ?_; rintro e w1 ⟨rfl, k1⟩; obtain ⟨⟨q0, q1, q2, q3⟩, f0, f1, f2, f3⟩ := cells4 (at_new k1)) | (go_at_call 9; refine (CU.out _).mono ?_; rintro e w2 ⟨rfl, k2⟩; have k3 := Ext.trans k1 k2; clear q0 q1 q2 q3 f0 f1 f2 f3 k1 k2; obtain ⟨⟨q0, q1, q2, q3⟩, f0, f1, f2, f3⟩ := cells4 (at_new k3)) | (go_at_call 10; refine (R1.out _ (box_set4 (at_new k3) (Ext.trans HE.out k3) (Nat.le_refl _)).2).mono ?_; rintro e w3 ⟨rfl, k4⟩; have bx := (box_set4 (at_new k3) (Ext.trans HE.out k3) (Nat.le_refl _)).1.ext k4; have kx := Ext.trans (box_set4 (at_new k3) (Ext.trans HE.out k3) (Nat.le_refl _)).2 k4; clear q0 q1 q2 q3 f0 f1 f2 f3 k3 k4; obtain ⟨⟨q0, q1, q2, q3⟩, f0, f1, f2, f3⟩ := cells4 bx; clear R1) | (go_at_call 10; refine (R2.out _ kx).mono ?_; rintro e w3 ⟨rfl, k4⟩; replace bx := bx.ext k4; replace kx := Ext.trans kx k4; clear q0 q1 q2 q3 f0 f1 f2 f3 k4; obtain ⟨⟨q0, q1, q2, q3⟩, f0, f1, f2, f3⟩ := cells4 bx; clear R2) | (go_at_call 12; refine (K1.out _ kx).mono ?_; rintro e w3 ⟨rfl, k4⟩; replace bx := bx.ext k4; replace kx := Ext.trans kx k4; clear q0 q1 q2 q3 f0 f1 f2 f3 k4; obtain ⟨⟨q0, q1, q2, q3⟩, f0, f1, f2, f3⟩ := cells4 bx; clear K1) | (go_at_call 12; refine (K2.out _ kx).mono ?_; rintro e w3 ⟨rfl, k4⟩; replace bx := bx.ext k4; replace kx := Ext.trans kx k4; clear q0 q1 q2 q3 f0 f1 f2 f3 k4; obtain ⟨⟨q0, q1, q2, q3⟩, f0, f1, f2, f3⟩ := cells4 bx; clear K2))
  all_goals (go_ret; exact ⟨rfl, kx⟩)
end
section
set_option maxHeartbeats 4000000 in
set_option maxRecDepth 100000 in
theorem grows_gtok (A B : Option Addr) (n m c c' : Nat) (s t y x : Int) (l r : List Int) (w : World) (hA : Arg w A n c l) (hB : Arg w B m c' r) (hG : G w) (hy : 300 < y) (h1 : bytesE ⟨s, l.take 20, t, r.take 20⟩ 300 = 0) (h2 : bytesE ⟨s, l.take 20, t, r.take 20⟩ (300 + 1) = 0) :
    Calls Tryd.prog 7 #[.agg #[.int .i64 s, .slice A n c, .int .i64 t, .slice B m c'], .int .i64 y, .int .i64 x] w fun e w' => e = .returned (.bool true) ∧ Ext w w' := by
  have E1 := ext1 w (.cells #[.int .i64 s, .slice A n c, .int .i64 t, .slice B m c'] 24)
  have HE := Lib.hid E1
  have SH := Lib.hid (fun W (hW : Ext w W) => shown_is W (hG.ext hW))
  have CU := Lib.hid (fun W => cutd_is A B n m c c' s t hA.z hB.z hA.n hB.n hA.c hB.c W)
  obtain ⟨g1, g2, g3, g4, g5, g6, g7, g8, g9⟩ := grows_facts ⟨s, l.take 20, t, r.take 20⟩ 300 x h1 h2
  simp only [show (300 : Int) + 1 = 301 from rfl] at g1 g2 g3 g4 g5 g6 g7 g8 g9 h2
  have J := Lib.hid (fun W (hW : Ext w W) => hG.j.elim fun a0 h => h.elim fun a2 h => h.elim fun a3 h => g1 ▸ J.round_ok (8 + s + 301 * t) g2 g3 W (h.ext hW))
  have R1 := Lib.hid (fun W (hW : Ext w W) => dbytes_is A B (min n 20) (min m 20) c c' s t 300 (l.take 20) (r.take 20) (by omega) (by omega) W (hG.ext hW) ((hA.il.take 20).ext hW) ((hB.il.take 20).ext hW))
  have R2 := Lib.hid (fun W (hW : Ext w W) => dbytes_is A B (min n 20) (min m 20) c c' s t 301 (l.take 20) (r.take 20) (by omega) (by omega) W (hG.ext hW) ((hA.il.take 20).ext hW) ((hB.il.take 20).ext hW))
  have K1 := Lib.hid (fun W (hW : Ext w W) => dkind_is A B (min n 20) (min m 20) c c' s t 300 x (l.take 20) (r.take 20) (by omega) (by omega) W (hG.ext hW) ((hA.il.take 20).ext hW) ((hB.il.take 20).ext hW))
  have K2 := Lib.hid (fun W (hW : Ext w W) => dkind_is A B (min n 20) (min m 20) c c' s t 301 x (l.take 20) (r.take 20) (by omega) (by omega) W (hG.ext hW) ((hA.il.take 20).ext hW) ((hB.il.take 20).ext hW))
  rw [h1] at R1 K1
  rw [h2] at R2 K2
  clear hG hA hB
  generalize min n 20 = n' at *
  generalize min m 20 = m' at *
  generalize bytesV ⟨s, l.take 20, t, r.take 20⟩ 300 = z1 at *
  generalize bytesV ⟨s, l.take 20, t, r.take 20⟩ 301 = z2 at *
  generalize kindV ⟨s, l.take 20, t, r.take 20⟩ 300 x = y1 at *
  generalize kindV ⟨s, l.take 20, t, r.take 20⟩ 301 x = y2 at *
  clear h1 h2 g1
  have zt : (z2.tmod 8 == 0) = true := by rw [beq_iff_eq]; exact Int.tmod_eq_zero_of_dvd (Int.dvd_of_emod_eq_zero g5)
  have zt' : z2.tmod 8 = 0 := Int.tmod_eq_zero_of_dvd (Int.dvd_of_emod_eq_zero g5)
  rcases g6 with rfl | rfl
  all_goals
    go_enter Tryd.func7, Tryd.ntmps7
    go_wp2_with (first | (go_at_call 8; refine (SH.out _ HE.out).mono ?_; rintro e w1 ⟨rfl, k1⟩; obtain ⟨⟨q0, q1, q2, q3⟩, f0, f1, f2, f3⟩ := cells4 (at_new k1)) | (go_at_call 9; refine (CU.out _).mono ?_; rintro e w2 ⟨rfl, k2⟩; have k3 := Ext.trans k1 k2; clear q0 q1 q2 q3 f0 f1 f2 f3 k1 k2; obtain ⟨⟨q0, q1, q2, q3⟩, f0, f1, f2, f3⟩ := cells4 (at_new k3)) | (go_at_call 10; refine (R1.out _ (box_set4 (at_new k3) (Ext.trans HE.out k3) (Nat.le_refl _)).2).mono ?_; rintro e w3 ⟨rfl, k4⟩; have bx := (box_set4 (at_new k3) (Ext.trans HE.out k3) (Nat.le_refl _)).1.ext k4; have kx := Ext.trans (box_set4 (at_new k3) (Ext.trans HE.out k3) (Nat.le_refl _)).2 k4; clear q0 q1 q2 q3 f0 f1 f2 f3 k3 k4; obtain ⟨⟨q0, q1, q2, q3⟩, f0, f1, f2, f3⟩ := cells4 bx; clear R1) | (go_at_call 10; refine (R2.out _ kx).mono ?_; rintro e w3 ⟨rfl, k4⟩; replace bx := bx.ext k4; replace kx := Ext.trans kx k4; clear q0 q1 q2 q3 f0 f1 f2 f3 k4; obtain ⟨⟨q0, q1, q2, q3⟩, f0, f1, f2, f3⟩ := cells4 bx; clear R2) | (go_at_call 12; refine (K1.out _ kx).mono ?_; rintro e w3 ⟨rfl, k4⟩; replace bx := bx.ext k4; replace kx := Ext.trans kx k4; clear q0 q1 q2 q3 f0 f1 f2 f3 k4; obtain ⟨⟨q0, q1, q2, q3⟩, f0, f1, f2, f3⟩ := cells4 bx; clear K1) | (go_at_call 12; refine (K2.out _ kx).mono ?_; rintro e w3 ⟨rfl, k4⟩; replace bx := bx.ext k4; replace kx := Ext.trans kx k4; clear q0 q1 q2 q3 f0 f1 f2 f3 k4; obtain ⟨⟨q0, q1, q2, q3⟩, f0, f1, f2, f3⟩ := cells4 bx; clear K2) | (go_at_call 24; refine (J.out _ kx).mono ?_; rintro e w3 ⟨rfl, k4⟩; replace bx := bx.ext k4; replace kx := Ext.trans kx k4; clear q0 q1 q2 q3 f0 f1 f2 f3 k4; obtain ⟨⟨q0, q1, q2, q3⟩, f0, f1, f2, f3⟩ := cells4 bx))
    all_goals (go_ret; exact ⟨rfl, kx⟩)
end
section
set_option maxHeartbeats 4000000 in
set_option maxRecDepth 100000 in
theorem grows_walk (A B : Option Addr) (n m c c' : Nat) (s t y x : Int) (l r : List Int) (w : World) (hA : Arg w A n c l) (hB : Arg w B m c' r) (hG : G w) (hy0 : -9223372036854775808 ≤ y) :
    Calls Tryd.prog 7 #[.agg #[.int .i64 s, .slice A n c, .int .i64 t, .slice B m c'], .int .i64 y, .int .i64 x] w fun e w' => e = .returned (.bool true) ∧ Ext w w' := by
  by_cases hy : y ≤ 300
  · rcases bytes_e ⟨s, l.take 20, t, r.take 20⟩ (y + 1) with h2 | h2 | h2
    · by_cases h1 : bytesE ⟨s, l.take 20, t, r.take 20⟩ y = 0
      · exact grows_leok A B n m c c' s t y x l r w hA hB hG hy0 hy h1 h2
      · exact grows_le0 A B n m c c' s t y x l r w hA hB hG hy0 hy h2 h1
    · exact grows_le40 A B n m c c' s t y x l r w hA hB hG hy0 hy h2
    · exact grows_le41 A B n m c c' s t y x l r w hA hB hG hy0 hy h2
  · replace hy : 300 < y := by omega
    rcases bytes_e ⟨s, l.take 20, t, r.take 20⟩ 301 with h2 | h2 | h2
    · by_cases h1 : bytesE ⟨s, l.take 20, t, r.take 20⟩ 300 = 0
      · exact grows_gtok A B n m c c' s t y x l r w hA hB hG hy h1 h2
      · exact grows_gt0 A B n m c c' s t y x l r w hA hB hG hy h2 h1
    · exact grows_gt40 A B n m c c' s t y x l r w hA hB hG hy h2
    · exact grows_gt41 A B n m c c' s t y x l r w hA hB hG hy h2
end
end Go.Proofs.YtgmpcinlkiiboaaDoor
