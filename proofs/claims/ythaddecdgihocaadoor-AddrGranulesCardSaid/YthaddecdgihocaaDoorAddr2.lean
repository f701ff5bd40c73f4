/- addr's exported functions that ask two or three things. -/
import Derived.Test.YthaddecdgihocaaDoorAddr
namespace Go.Proofs.YthaddecdgihocaaDoor
open Go.RowKit Go
section
variable {a0 a2 a3 : Addr}

set_option maxHeartbeats 1000000 in
theorem join_no (x y z : Int) (h : placeB x y z = false) (w : World) (hG : G a0 a2 a3 w) :
    Calls Tryd.prog 14 #[.int .i64 x, .int .i64 y, .int .i64 z] w fun e w' => e = .returned (.tuple #[.int .i64 0, .int .i64 10]) ∧ Ext w w' := by
  have hT0 := told_place x y z 1 (by rw [h]; rfl) (w.alloc (.cells #[.int .i64 x, .int .i64 y, .int .i64 z] 40)) (hG.ext ((Below.refl _ _).alloc (Nat.le_refl _) _))
  unfold ToldOne at hT0
  simp only [World.size_alloc] at hT0
  have hT := Lib.hid hT0
  clear hT0 h hG
  go_enter Tryd.func14, Tryd.ntmps14
  go_wp2_with (first | (go_at_call 33; refine (noPlace_any _ _ _ _).mono ?_; rintro e w1 ⟨rfl, rfl⟩) | (go_at_call 30; refine hT.out.mono ?_; rintro e w1 ⟨rfl, h1⟩))
  go_ret2
  exact ⟨rfl, Ext.trans ((Below.refl _ _).alloc (Nat.le_refl _) _) h1⟩

set_option maxHeartbeats 1000000 in
theorem join_ok (x y z : Int) (hx : 0 ≤ x ∧ x < 32) (hy : 0 ≤ y ∧ y < 32) (hz : 0 ≤ z ∧ z < 128) (w : World) (hG : G a0 a2 a3 w) :
    Calls Tryd.prog 14 #[.int .i64 x, .int .i64 y, .int .i64 z] w fun e w' => e = .returned (.tuple #[.int .i64 (x * 4096 + y * 128 + z), .int .i64 0]) ∧ Ext w w' := by
  have hT0 := told_place x y z 0 (by rw [show placeB x y z = true by simp [placeB, hx, hy, hz]]; rfl) (w.alloc (.cells #[.int .i64 x, .int .i64 y, .int .i64 z] 40)) (hG.ext ((Below.refl _ _).alloc (Nat.le_refl _) _))
  unfold ToldOne at hT0
  simp only [World.size_alloc] at hT0
  have hT := Lib.hid hT0
  have hS := Lib.hid (fun W (h : Ext w W) => sum_any (a0 := a0) (a2 := a2) (a3 := a3) x y z W (hG.ext h))
  have hq := Lib.hid (psum_in x y z hx hy hz)
  have hsz := hG.sz
  clear hT0 hG hx hy hz
  go_enter Tryd.func14, Tryd.ntmps14
  go_wp2_with (first | (go_at_call 33; refine (noPlace_any _ _ _ _).mono ?_; rintro e w1 ⟨rfl, rfl⟩) | (go_at_call 30; refine hT.out.mono ?_; rintro e w1 ⟨rfl, h1⟩; have hB := (Blk.new w #[.int .i64 x, .int .i64 y, .int .i64 z] 40).ext h1; have c0 := hB.cell 0; have c1 := hB.cell 1; have c2 := hB.cell 2; simp at c0 c1 c2; have h1' := Ext.trans ((Below.refl w.heap.size w).alloc (Nat.le_refl _) _) h1; clear h1 hB) | (go_at_call 34; refine (hS.out _ h1').mono ?_; rintro e w2 ⟨rfl, h2⟩))
  go_ret2
  exact ⟨ret_two hq.out, h1'.trans h2⟩

/-- told over noAddress and noGranule. -/
abbrev ToldRef (a : Int) (k : Nat) (w : World) : Prop :=
    Calls Tryd.prog 30 #[.slice (some ⟨w.heap.size + 1 + 1, 0, none⟩) 2 2] (((w.alloc (.cells #[.int .i64 a] 3)).alloc (.cells #[.int .i64 a] 3)).alloc (.cells #[.func (.func 45) #[] #[.pointer (some ⟨w.heap.size, 0, none⟩)], .func (.func 51) #[] #[.pointer (some ⟨w.heap.size + 1, 0, none⟩)]] 37)) fun e w' => e = .returned (.int .i64 (num k)) ∧ Ext w w'
theorem told_granule (a : Int) (k : Nat) (hk : firstK [codeB (decide (0 ≤ a) && decide (a < 131072)) 1, codeB (a.tmod 8 == 0) 1] = k) (w : World) (hG : G a0 a2 a3 w) : ToldRef a k w := by
  unfold ToldRef
  generalize hv : (#[.func (.func 45) #[] #[.pointer (some ⟨w.heap.size, 0, none⟩)], .func (.func 51) #[] #[.pointer (some ⟨w.heap.size + 1, 0, none⟩)]] : Array Value) = vs
  have hB := Blk.new ((w.alloc (.cells #[.int .i64 a] 3)).alloc (.cells #[.int .i64 a] 3)) vs 37
  have b0 := (((Blk.new w #[.int .i64 a] 3).alloc (.cells #[.int .i64 a] 3)).alloc (.cells vs 37)).cell 0
  have b1 := ((Blk.new (w.alloc (.cells #[.int .i64 a] 3)) #[.int .i64 a] 3).alloc (.cells vs 37)).cell 0
  simp only [World.size_alloc] at hB b0 b1
  have hE := ext3 w (.cells #[.int .i64 a] 3) (.cells #[.int .i64 a] 3) (.cells vs 37)
  have g3 := hG.ext hE
  have hsz : (((w.alloc (.cells #[.int .i64 a] 3)).alloc (.cells #[.int .i64 a] 3)).alloc (.cells vs 37)).heap.size = w.heap.size + 3 := by simp
  generalize ((w.alloc (.cells #[.int .i64 a] 3)).alloc (.cells #[.int .i64 a] 3)).alloc (.cells vs 37) = W at *
  subst hv
  exact (told2 _ _ k hk _ _ _ _ W g3 hB (noAddress_asks a _ g3 _ (by omega) b0) (noGranule_asks a _ g3 _ (by omega) b1)).mono fun e w' ⟨he, hw⟩ => ⟨he, hE.trans hw⟩

set_option maxHeartbeats 1000000 in
theorem ref_no (a : Int) (h : ¬ (0 ≤ a ∧ a < 131072 ∧ a % 8 = 0)) (w : World) (hG : G a0 a2 a3 w) :
    Calls Tryd.prog 24 #[.int .i64 a] w fun e w' => e = .returned (.tuple #[.int .i64 0, .int .i64 10]) ∧ Ext w w' := by
  have hT := Lib.hid (told_granule a 1 (by
    by_cases h0 : 0 ≤ a ∧ a < 131072
    · rw [show (decide (0 ≤ a) && decide (a < 131072)) = true by simp [h0], show (a.tmod 8 == 0) = false by rw [Bool.eq_false_iff, Ne, beq_iff_eq, Int.tmod_eq_emod_of_nonneg h0.1]; omega]; rfl
    · rw [show (decide (0 ≤ a) && decide (a < 131072)) = false by rw [Bool.eq_false_iff]; simpa using h0]; rfl) w hG)
  clear hG h
  go_enter Tryd.func24, Tryd.ntmps24
  go_wp2_with (first | (go_at_call 31; refine (noAddress_any _ _).mono ?_; rintro e w1 ⟨rfl, rfl⟩) | (go_at_call 39; refine (noGranule_any _ _).mono ?_; rintro e w1 ⟨rfl, rfl⟩) | (go_at_call 30; refine hT.out.mono ?_; rintro e w1 ⟨rfl, h1⟩))
  go_ret2
  exact ⟨rfl, h1⟩

set_option maxHeartbeats 1000000 in
theorem ref_ok (a : Int) (g1 : 0 ≤ a) (g2 : a < 131072) (g3 : a % 8 = 0) (w : World) (hG : G a0 a2 a3 w) :
    Calls Tryd.prog 24 #[.int .i64 a] w fun e w' => e = .returned (.tuple #[.int .i64 (a / 8 + 1), .int .i64 0]) ∧ Ext w w' := by
  have hT := Lib.hid (told_granule a 0 (by
    rw [show (decide (0 ≤ a) && decide (a < 131072)) = true by simp [g1, g2], show (a.tmod 8 == 0) = true by rw [beq_iff_eq, Int.tmod_eq_emod_of_nonneg g1]; exact g3]; rfl) w hG)
  clear hG g3
  go_enter Tryd.func24, Tryd.ntmps24
  go_wp2_with (first | (go_at_call 31; refine (noAddress_any _ _).mono ?_; rintro e w1 ⟨rfl, rfl⟩) | (go_at_call 39; refine (noGranule_any _ _).mono ?_; rintro e w1 ⟨rfl, rfl⟩) | (go_at_call 30; refine hT.out.mono ?_; rintro e w1 ⟨rfl, h1⟩))
  go_ret2
  exact ⟨rfl, h1⟩

/-- told over noBytes, noAddress and pastEnd. -/
abbrev SpanVs (w : World) : Array Value := #[.func (.func 53) #[] #[.pointer (some ⟨w.heap.size, 0, none⟩)], .func (.func 45) #[] #[.pointer (some ⟨w.heap.size + 1, 0, none⟩)], .func (.func 54) #[] #[.pointer (some ⟨w.heap.size + 1 + 1 + 1, 0, none⟩), .pointer (some ⟨w.heap.size + 1 + 1, 0, none⟩)]]
abbrev ToldSpan (a n : Int) (k : Nat) (w : World) : Prop :=
    Calls Tryd.prog 30 #[.slice (some ⟨w.heap.size + 1 + 1 + 1 + 1, 0, none⟩) 3 3] (((((w.alloc (.cells #[.int .i64 n] 3)).alloc (.cells #[.int .i64 a] 3)).alloc (.cells #[.int .i64 a] 3)).alloc (.cells #[.int .i64 n] 3)).alloc (.cells (SpanVs w) 37)) fun e w' => e = .returned (.int .i64 (num k)) ∧ Ext w w'
theorem told_span (a n : Int) (k : Nat) (hk : firstK [codeB (decide (1 ≤ n)) 1, codeB (decide (0 ≤ a) && decide (a < 131072)) 1, codeB (decide (n ≤ wrap64 (131072 - a))) 1] = k) (w : World) (hG : G a0 a2 a3 w) : ToldSpan a n k w := by
  unfold ToldSpan
  generalize hv : SpanVs w = vs
  have b0 := (((((Blk.new w #[.int .i64 n] 3).alloc (.cells #[.int .i64 a] 3)).alloc (.cells #[.int .i64 a] 3)).alloc (.cells #[.int .i64 n] 3)).alloc (.cells vs 37)).cell 0
  have b1 := ((((Blk.new (w.alloc (.cells #[.int .i64 n] 3)) #[.int .i64 a] 3).alloc (.cells #[.int .i64 a] 3)).alloc (.cells #[.int .i64 n] 3)).alloc (.cells vs 37)).cell 0
  have b2 := (((Blk.new ((w.alloc (.cells #[.int .i64 n] 3)).alloc (.cells #[.int .i64 a] 3)) #[.int .i64 a] 3).alloc (.cells #[.int .i64 n] 3)).alloc (.cells vs 37)).cell 0
  have b3 := ((Blk.new (((w.alloc (.cells #[.int .i64 n] 3)).alloc (.cells #[.int .i64 a] 3)).alloc (.cells #[.int .i64 a] 3)) #[.int .i64 n] 3).alloc (.cells vs 37)).cell 0
  have hB := Blk.new ((((w.alloc (.cells #[.int .i64 n] 3)).alloc (.cells #[.int .i64 a] 3)).alloc (.cells #[.int .i64 a] 3)).alloc (.cells #[.int .i64 n] 3)) vs 37
  simp only [World.size_alloc] at hB b0 b1 b2 b3
  have hE := ext5 w (.cells #[.int .i64 n] 3) (.cells #[.int .i64 a] 3) (.cells #[.int .i64 a] 3) (.cells #[.int .i64 n] 3) (.cells vs 37)
  have g3 := hG.ext hE
  have hsz : (((((w.alloc (.cells #[.int .i64 n] 3)).alloc (.cells #[.int .i64 a] 3)).alloc (.cells #[.int .i64 a] 3)).alloc (.cells #[.int .i64 n] 3)).alloc (.cells vs 37)).heap.size = w.heap.size + 5 := by simp
  generalize ((((w.alloc (.cells #[.int .i64 n] 3)).alloc (.cells #[.int .i64 a] 3)).alloc (.cells #[.int .i64 a] 3)).alloc (.cells #[.int .i64 n] 3)).alloc (.cells vs 37) = W at *
  subst hv
  exact (told3 _ _ _ k hk _ _ _ _ _ W g3 hB (noBytes_asks n _ g3 _ (by omega) b0) (noAddress_asks a _ g3 _ (by omega) b1) (pastEnd_asks a n _ g3 _ (by omega) b2 b3)).mono fun e w' ⟨he, hw⟩ => ⟨he, hE.trans hw⟩

set_option maxHeartbeats 1000000 in
theorem span_no (a n : Int) (h : ¬ (1 ≤ n ∧ 0 ≤ a ∧ a < 131072 ∧ n ≤ 131072 - a)) (w : World) (hG : G a0 a2 a3 w) :
    Calls Tryd.prog 28 #[.int .i64 a, .int .i64 n] w fun e w' => e = .returned (.tuple #[.int .i64 0, .int .i64 0, .int .i64 10]) ∧ Ext w w' := by
  have hT := Lib.hid (told_span a n 1 (by
    by_cases h0 : 1 ≤ n
    · by_cases h1 : 0 ≤ a ∧ a < 131072
      · rw [show decide (1 ≤ n) = true by simp [h0], show (decide (0 ≤ a) && decide (a < 131072)) = true by simp [h1], show decide (n ≤ wrap64 (131072 - a)) = false by rw [IntWalk.wrap64_in _ (by omega)]; simp; omega]; rfl
      · rw [show decide (1 ≤ n) = true by simp [h0], show (decide (0 ≤ a) && decide (a < 131072)) = false by rw [Bool.eq_false_iff]; simpa using h1]; rfl
    · rw [show decide (1 ≤ n) = false by simpa using h0]; rfl) w hG)
  clear hG h
  go_enter Tryd.func28, Tryd.ntmps28
  go_wp2_with (first | (go_at_call 41; refine (noBytes_any _ _).mono ?_; rintro e w1 ⟨rfl, rfl⟩) | (go_at_call 31; refine (noAddress_any _ _).mono ?_; rintro e w1 ⟨rfl, rfl⟩) | (go_at_call 42; refine (pastEnd_any _ _ _).mono ?_; rintro e w1 ⟨rfl, rfl⟩) | (go_at_call 30; refine hT.out.mono ?_; rintro e w1 ⟨rfl, h1⟩))
  go_ret3
  exact ⟨rfl, h1⟩

set_option maxHeartbeats 1000000 in
theorem span_ok (a n : Int) (g0 : 1 ≤ n) (g1 : 0 ≤ a) (g2 : a < 131072) (g3 : n ≤ 131072 - a) (w : World) (hG : G a0 a2 a3 w) :
    Calls Tryd.prog 28 #[.int .i64 a, .int .i64 n] w fun e w' => e = .returned (.tuple #[.int .i64 (a / 4096 * 32 + a % 4096 / 128), .int .i64 ((a + n - 1) / 4096 * 32 + (a + n - 1) % 4096 / 128), .int .i64 0]) ∧ Ext w w' := by
  have hT := Lib.hid (told_span a n 0 (by
    rw [show decide (1 ≤ n) = true by simp [g0], show (decide (0 ≤ a) && decide (a < 131072)) = true by simp [g1, g2], show decide (n ≤ wrap64 (131072 - a)) = true by rw [IntWalk.wrap64_in _ (by omega)]; simp; omega]; rfl) w hG)
  have hL := Lib.hid (fun W (h : Ext w W) => lineOf_any (a0 := a0) (a2 := a2) (a3 := a3) a g1 g2 W (hG.ext h))
  have hM := Lib.hid (fun W (h : Ext w W) => lineOf_any (a0 := a0) (a2 := a2) (a3 := a3) (a + n - 1) (by omega) (by omega) W (hG.ext h))
  clear hG
  go_enter Tryd.func28, Tryd.ntmps28
  go_wp2_with (first | (go_at_call 41; refine (noBytes_any _ _).mono ?_; rintro e w1 ⟨rfl, rfl⟩) | (go_at_call 31; refine (noAddress_any _ _).mono ?_; rintro e w1 ⟨rfl, rfl⟩) | (go_at_call 42; refine (pastEnd_any _ _ _).mono ?_; rintro e w1 ⟨rfl, rfl⟩) | (go_at_call 30; refine hT.out.mono ?_; rintro e w1 ⟨rfl, h1⟩) | (go_at_call 43; first | ((with_reducible refine (hL.out _ h1).mono ?_); rintro e w2 ⟨rfl, h2⟩) | ((with_reducible refine (hM.out _ (h1.trans h2)).mono ?_); rintro e w3 ⟨rfl, h3⟩)))
  go_ret3
  exact ⟨rfl, (h1.trans h2).trans h3⟩
end
end Go.Proofs.YthaddecdgihocaaDoor
