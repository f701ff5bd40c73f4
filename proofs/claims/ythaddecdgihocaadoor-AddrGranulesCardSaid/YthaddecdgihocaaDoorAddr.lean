/- addr's exported functions. -/
import Derived.Test.YthaddecdgihocaaDoorWrong2
namespace Go.Proofs.YthaddecdgihocaaDoor
open Go.RowKit Go
section
variable {a0 a2 a3 : Addr}

theorem told1 (k : Nat) (v : Value) (b : Nat) (t : TypeId) (w : World) (hG : G a0 a2 a3 w) (hB : Blk w b #[v] t) (hA : Asks a0 a2 a3 w v k) :
    Calls Tryd.prog 30 #[.slice (some ⟨b, 0, none⟩) 1 1] w fun e w' => e = .returned (.int .i64 (num k)) ∧ Ext w w' := by
  have := told_any (a0 := a0) (a2 := a2) (a3 := a3) [k] b 1 [v] w hG hB.lt rfl (by simp) (by
    intro i hi; rw [hB.cell]; rcases i with _ | i <;> simp at hi ⊢) (by intro i hi; rcases i with _ | i <;> simp at hi ⊢; exact hA)
  rw [show firstK [k] = k by rcases k with _ | k <;> rfl] at this
  exact this
theorem told2 (k1 k2 k : Nat) (hk : firstK [k1, k2] = k) (v1 v2 : Value) (b : Nat) (t : TypeId) (w : World) (hG : G a0 a2 a3 w) (hB : Blk w b #[v1, v2] t) (h1 : Asks a0 a2 a3 w v1 k1) (h2 : Asks a0 a2 a3 w v2 k2) :
    Calls Tryd.prog 30 #[.slice (some ⟨b, 0, none⟩) 2 2] w fun e w' => e = .returned (.int .i64 (num k)) ∧ Ext w w' := by
  have := told_any (a0 := a0) (a2 := a2) (a3 := a3) [k1, k2] b 2 [v1, v2] w hG hB.lt rfl (by simp) (by
    intro i hi; rw [hB.cell]; rcases i with _ | _ | i; rfl; rfl; exact absurd hi (by simp)) (by intro i hi; rcases i with _ | _ | i; exact h1; exact h2; exact absurd hi (by simp))
  rw [hk] at this
  exact this
theorem told3 (k1 k2 k3 k : Nat) (hk : firstK [k1, k2, k3] = k) (v1 v2 v3 : Value) (b : Nat) (t : TypeId) (w : World) (hG : G a0 a2 a3 w) (hB : Blk w b #[v1, v2, v3] t) (h1 : Asks a0 a2 a3 w v1 k1) (h2 : Asks a0 a2 a3 w v2 k2) (h3 : Asks a0 a2 a3 w v3 k3) :
    Calls Tryd.prog 30 #[.slice (some ⟨b, 0, none⟩) 3 3] w fun e w' => e = .returned (.int .i64 (num k)) ∧ Ext w w' := by
  have := told_any (a0 := a0) (a2 := a2) (a3 := a3) [k1, k2, k3] b 3 [v1, v2, v3] w hG hB.lt rfl (by simp) (by
    intro i hi; rw [hB.cell]; rcases i with _ | _ | _ | i; rfl; rfl; rfl; exact absurd hi (by simp)) (by intro i hi; rcases i with _ | _ | _ | i; exact h1; exact h2; exact h3; exact absurd hi (by simp))
  rw [hk] at this
  exact this

theorem ext2 (w : World) (o o' : Obj) : Ext w ((w.alloc o).alloc o') := ((Below.refl _ _).alloc (Nat.le_refl _) _).alloc (by simp) _
theorem ext3 (w : World) (o o' o2 : Obj) : Ext w (((w.alloc o).alloc o').alloc o2) := (ext2 w o o').alloc (by simp; omega) _
theorem ext4 (w : World) (o o' o2 o3 : Obj) : Ext w ((((w.alloc o).alloc o').alloc o2).alloc o3) := (ext3 w o o' o2).alloc (by simp; omega) _
theorem ext5 (w : World) (o o' o2 o3 o4 : Obj) : Ext w (((((w.alloc o).alloc o').alloc o2).alloc o3).alloc o4) := (ext4 w o o' o2 o3).alloc (by simp; omega) _

/-- told over one closure, with one captured box laid ahead. -/
abbrev ToldOne (f : FuncId) (k : Nat) (bx : Obj) (w : World) : Prop :=
    Calls Tryd.prog 30 #[.slice (some ⟨w.heap.size + 1, 0, none⟩) 1 1] ((w.alloc bx).alloc (.cells #[.func (.func f) #[] #[.pointer (some ⟨w.heap.size, 0, none⟩)]] 37)) fun e w' => e = .returned (.int .i64 (num k)) ∧ Ext w w'
theorem told_one (f : FuncId) (k : Nat) (bx : Obj) (w : World) (hG : G a0 a2 a3 w)
    (hA : ∀ W, Ext (w.alloc bx) W → G a0 a2 a3 W → Asks a0 a2 a3 W (.func (.func f) #[] #[.pointer (some ⟨w.heap.size, 0, none⟩)]) k) :
    Calls Tryd.prog 30 #[.slice (some ⟨w.heap.size + 1, 0, none⟩) 1 1] ((w.alloc bx).alloc (.cells #[.func (.func f) #[] #[.pointer (some ⟨w.heap.size, 0, none⟩)]] 37)) fun e w' => e = .returned (.int .i64 (num k)) ∧ Ext w w' := by
  have hB := Blk.new (w.alloc bx) #[.func (.func f) #[] #[.pointer (some ⟨w.heap.size, 0, none⟩)]] 37
  rw [World.size_alloc] at hB
  have g2 := hG.ext (ext2 w bx (.cells #[.func (.func f) #[] #[.pointer (some ⟨w.heap.size, 0, none⟩)]] 37))
  exact (told1 k _ _ _ _ g2 hB (hA _ ((Below.refl _ _).alloc (Nat.le_refl _) _) g2)).mono fun e w' ⟨he, hw⟩ => ⟨he, (ext2 w _ _).trans hw⟩

theorem box1 (w : World) (v : Value) (t : TypeId) {W : World} (h : Ext (w.alloc (.cells #[v] t)) W) : W.cell? ⟨w.heap.size, 0, none⟩ = some v := by
  rw [extAt h w.heap.size 0 (by simp)]; exact (Blk.new w #[v] t).cell 0
theorem boxlt (w : World) (o : Obj) {W : World} (h : Ext (w.alloc o) W) : w.heap.size < W.heap.size := by
  have := h.size; simp at this; omega

theorem told_addr (a : Int) (k : Nat) (hk : codeB (decide (0 ≤ a) && decide (a < 131072)) 1 = k) (w : World) (hG : G a0 a2 a3 w) : ToldOne 45 k (.cells #[.int .i64 a] 3) w :=
  told_one (a0 := a0) (a2 := a2) (a3 := a3) 45 k (.cells #[.int .i64 a] 3) w hG (fun _ h g => hk ▸ noAddress_asks a _ g _ (boxlt w _ h) (box1 w _ _ h))
theorem told_size (n : Int) (k : Nat) (hk : codeB (cls n != 0) 2 = k) (w : World) (hG : G a0 a2 a3 w) : ToldOne 49 k (.cells #[.int .i64 n] 3) w :=
  told_one (a0 := a0) (a2 := a2) (a3 := a3) 49 k (.cells #[.int .i64 n] 3) w hG (fun _ h g => hk ▸ noSize_asks n _ g _ (boxlt w _ h) (box1 w _ _ h))
theorem told_ref (r : Int) (k : Nat) (hk : codeB (decide (1 ≤ r) && decide (r ≤ 16384)) 3 = k) (w : World) (hG : G a0 a2 a3 w) : ToldOne 52 k (.cells #[.int .i64 r] 3) w :=
  told_one (a0 := a0) (a2 := a2) (a3 := a3) 52 k (.cells #[.int .i64 r] 3) w hG (fun _ h g => hk ▸ noRef_asks r _ g _ (boxlt w _ h) (box1 w _ _ h))
theorem told_place (x y z : Int) (k : Nat) (hk : codeB (placeB x y z) 1 = k) (w : World) (hG : G a0 a2 a3 w) : ToldOne 48 k (.cells #[.int .i64 x, .int .i64 y, .int .i64 z] 40) w :=
  told_one (a0 := a0) (a2 := a2) (a3 := a3) 48 k (.cells #[.int .i64 x, .int .i64 y, .int .i64 z] 40) w hG (fun W h g => hk ▸ noPlace_asks x y z _ g _ (boxlt w _ h) (fun i => by
    rw [extAt h w.heap.size i (by simp)]; exact (Blk.new w _ _).cell i))

set_option maxHeartbeats 1000000 in
theorem split_no (a : Int) (h : ¬ (0 ≤ a ∧ a < 131072)) (w : World) (hG : G a0 a2 a3 w) :
    Calls Tryd.prog 12 #[.int .i64 a] w fun e w' => e = .returned (.tuple #[.int .i64 0, .int .i64 0, .int .i64 0, .int .i64 10]) ∧ Ext w w' := by
  have hT := Lib.hid (told_addr a 1 (by rw [show (decide (0 ≤ a) && decide (a < 131072)) = false by rw [Bool.eq_false_iff]; simpa using h]; rfl) w hG)
  clear hG h
  go_enter Tryd.func12, Tryd.ntmps12
  go_wp2_with (first | (go_at_call 31; refine (noAddress_any _ _).mono ?_; rintro e w1 ⟨rfl, rfl⟩) | (go_at_call 30; refine hT.out.mono ?_; rintro e w1 ⟨rfl, h1⟩))
  refine bodyPost_ret (v := .tuple #[.int .i64 0, .int .i64 0, .int .i64 0, .int .i64 10]) (by simp [results, Tryd.results12, go_sem, num]) rfl ⟨rfl, h1⟩

set_option maxHeartbeats 1000000 in
theorem split_ok (a : Int) (h0 : 0 ≤ a) (h9 : a < 131072) (w : World) (hG : G a0 a2 a3 w) :
    Calls Tryd.prog 12 #[.int .i64 a] w fun e w' => e = .returned (.tuple #[.int .i64 (a / 4096), .int .i64 (a % 4096 / 128), .int .i64 (a % 128), .int .i64 0]) ∧ Ext w w' := by
  have hT := Lib.hid (told_addr a 0 (by rw [show (decide (0 ≤ a) && decide (a < 131072)) = true by simp [h0, h9]]; rfl) w hG)
  have hP := Lib.hid (fun W (h : Ext w W) => placeOf_any (a0 := a0) (a2 := a2) (a3 := a3) a h0 h9 W (hG.ext h))
  clear hG h0 h9
  go_enter Tryd.func12, Tryd.ntmps12
  go_wp2_with (first | (go_at_call 31; refine (noAddress_any _ _).mono ?_; rintro e w1 ⟨rfl, rfl⟩) | (go_at_call 30; refine hT.out.mono ?_; rintro e w1 ⟨rfl, h1⟩) | (go_at_call 32; refine (hP.out _ h1).mono ?_; rintro e w2 ⟨rfl, h2⟩))
  go_quiet (fail)
  go_wp2
  refine bodyPost_ret (v := .tuple #[.int .i64 (a / 4096), .int .i64 (a % 4096 / 128), .int .i64 (a % 128), .int .i64 0]) (by simp [results, Tryd.results12, go_sem]) rfl ⟨rfl, (h1.trans h2).trans (Ext.trans ((Below.refl _ _).alloc (Nat.le_refl _) _) (ext_drewN _ _))⟩

theorem cls_no (n : Int) (h : ¬ (1 ≤ n ∧ n ≤ 131072)) : (cls n != 0) = false := by
  unfold cls; rw [if_neg (by omega), if_neg (by omega), if_neg (by omega)]; rfl
theorem cls_ok (n : Int) (h1 : 1 ≤ n) (h2 : n ≤ 131072) : (cls n != 0) = true := by
  unfold cls
  split
  · rfl
  · split
    · rfl
    · rw [if_pos (by omega)]; rfl
theorem ret_two {a b c : Int} (h : a = b) : Ending.returned (.tuple #[.int .i64 a, .int .i64 c]) = .returned (.tuple #[.int .i64 b, .int .i64 c]) := by rw [h]
theorem upTo_any (n u : Int) (h1 : 0 ≤ n ∧ n ≤ 200000) (hu : 1 ≤ u ∧ u ≤ 5000) (w : World) :
    Calls Tryd.prog 36 #[.int .i64 n, .int .i64 u] w fun e w' => e = .returned (.int .i64 ((n + u - 1) / u)) ∧ w = w' := by
  obtain ⟨a, b⟩ := h1
  obtain ⟨c, d⟩ := hu
  go_enter Tryd.func36, Tryd.ntmps36
  go_wp2
  go_ret
  exact ⟨rfl, rfl⟩

set_option maxHeartbeats 1000000 in
theorem round_no (n : Int) (h : ¬ (1 ≤ n ∧ n ≤ 131072)) (w : World) (hG : G a0 a2 a3 w) :
    Calls Tryd.prog 18 #[.int .i64 n] w fun e w' => e = .returned (.tuple #[.int .i64 0, .int .i64 11]) ∧ Ext w w' := by
  have hT := Lib.hid (told_size n 2 (by rw [cls_no n h]; rfl) w hG)
  clear hG
  go_enter Tryd.func18, Tryd.ntmps18
  go_wp2_with (first | (go_at_call 35; refine (noSize_any _ _).mono ?_; rintro e w1 ⟨rfl, rfl⟩) | (go_at_call 30; refine hT.out.mono ?_; rintro e w1 ⟨rfl, h1⟩))
  go_ret2
  exact ⟨rfl, h1⟩

set_option maxHeartbeats 1000000 in
theorem round_ok (n : Int) (g1 : 1 ≤ n) (g2 : n ≤ 131072) (w : World) (hG : G a0 a2 a3 w) :
    Calls Tryd.prog 18 #[.int .i64 n] w fun e w' => e = .returned (.tuple #[.int .i64 ((n + 7) / 8 * 8), .int .i64 0]) ∧ Ext w w' := by
  have hT := Lib.hid (told_size n 0 (by rw [cls_ok n g1 g2]; rfl) w hG)
  have hU := upTo_any n 8 ⟨by omega, by omega⟩ (by decide)
  have hU' := Lib.hid hU
  clear hU
  have b1 : 0 ≤ (n + 8 - 1) / 8 := by omega
  have b2 : (n + 8 - 1) / 8 ≤ 20000 := by omega
  clear hG
  go_enter Tryd.func18, Tryd.ntmps18
  go_wp2_with (first | (go_at_call 35; refine (noSize_any _ _).mono ?_; rintro e w1 ⟨rfl, rfl⟩) | (go_at_call 30; refine hT.out.mono ?_; rintro e w1 ⟨rfl, h1⟩) | (go_at_call 36; refine (hU'.out _).mono ?_; rintro e w2 ⟨rfl, rfl⟩))
  go_ret2
  exact ⟨ret_two (by omega), h1⟩

set_option maxHeartbeats 1000000 in
theorem blocks_no (n : Int) (h : ¬ (1 ≤ n ∧ n ≤ 131072)) (w : World) (hG : G a0 a2 a3 w) :
    Calls Tryd.prog 22 #[.int .i64 n] w fun e w' => e = .returned (.tuple #[.int .i64 0, .int .i64 11]) ∧ Ext w w' := by
  have hT := Lib.hid (told_size n 2 (by rw [cls_no n h]; rfl) w hG)
  clear hG
  go_enter Tryd.func22, Tryd.ntmps22
  go_wp2_with (first | (go_at_call 35; refine (noSize_any _ _).mono ?_; rintro e w1 ⟨rfl, rfl⟩) | (go_at_call 30; refine hT.out.mono ?_; rintro e w1 ⟨rfl, h1⟩))
  go_ret2
  exact ⟨rfl, h1⟩

set_option maxHeartbeats 1000000 in
theorem blocks_ok (n : Int) (g1 : 1 ≤ n) (g2 : n ≤ 131072) (w : World) (hG : G a0 a2 a3 w) :
    Calls Tryd.prog 22 #[.int .i64 n] w fun e w' => e = .returned (.tuple #[.int .i64 ((n + 4095) / 4096), .int .i64 0]) ∧ Ext w w' := by
  have hT := Lib.hid (told_size n 0 (by rw [cls_ok n g1 g2]; rfl) w hG)
  have hU := upTo_any n 4096 ⟨by omega, by omega⟩ (by decide)
  have hU' := Lib.hid hU
  clear hU
  clear hG
  go_enter Tryd.func22, Tryd.ntmps22
  go_wp2_with (first | (go_at_call 35; refine (noSize_any _ _).mono ?_; rintro e w1 ⟨rfl, rfl⟩) | (go_at_call 30; refine hT.out.mono ?_; rintro e w1 ⟨rfl, h1⟩) | (go_at_call 36; refine (hU'.out _).mono ?_; rintro e w2 ⟨rfl, rfl⟩))
  go_ret2
  exact ⟨ret_two (by omega), h1⟩

set_option maxHeartbeats 1000000 in
theorem class_no (n : Int) (h : ¬ (1 ≤ n ∧ n ≤ 131072)) (w : World) (hG : G a0 a2 a3 w) :
    Calls Tryd.prog 20 #[.int .i64 n] w fun e w' => e = .returned (.tuple #[.int .i64 0, .int .i64 11]) ∧ Ext w w' := by
  have hT := Lib.hid (told_size n 2 (by rw [cls_no n h]; rfl) w hG)
  clear hG
  go_enter Tryd.func20, Tryd.ntmps20
  go_wp2_with (first | (go_at_call 35; refine (noSize_any _ _).mono ?_; rintro e w1 ⟨rfl, rfl⟩) | (go_at_call 30; refine hT.out.mono ?_; rintro e w1 ⟨rfl, h1⟩))
  go_ret2
  exact ⟨rfl, h1⟩

set_option maxHeartbeats 1000000 in
theorem class_ok (n : Int) (g1 : 1 ≤ n) (g2 : n ≤ 131072) (w : World) (hG : G a0 a2 a3 w) :
    Calls Tryd.prog 20 #[.int .i64 n] w fun e w' => e = .returned (.tuple #[.int .i64 (cls n), .int .i64 0]) ∧ Ext w w' := by
  have hT := Lib.hid (told_size n 0 (by rw [cls_ok n g1 g2]; rfl) w hG)
  have hU' := Lib.hid (fun W (h : Ext w W) => classOf_any (a0 := a0) (a2 := a2) (a3 := a3) n W (hG.ext h))
  clear hG
  go_enter Tryd.func20, Tryd.ntmps20
  go_wp2_with (first | (go_at_call 35; refine (noSize_any _ _).mono ?_; rintro e w1 ⟨rfl, rfl⟩) | (go_at_call 30; refine hT.out.mono ?_; rintro e w1 ⟨rfl, h1⟩) | (go_at_call 38; refine (hU'.out _ h1).mono ?_; rintro e w2 ⟨rfl, h2⟩))
  go_ret2
  exact ⟨rfl, h1.trans h2⟩

set_option maxHeartbeats 1000000 in
theorem addr_no (r : Int) (h : ¬ (1 ≤ r ∧ r ≤ 16384)) (w : World) (hG : G a0 a2 a3 w) :
    Calls Tryd.prog 26 #[.int .i64 r] w fun e w' => e = .returned (.tuple #[.int .i64 0, .int .i64 12]) ∧ Ext w w' := by
  have hT := Lib.hid (told_ref r 3 (by rw [show (decide (1 ≤ r) && decide (r ≤ 16384)) = false by rw [Bool.eq_false_iff]; simpa using h]; rfl) w hG)
  clear hG
  go_enter Tryd.func26, Tryd.ntmps26
  go_wp2_with (first | (go_at_call 40; refine (noRef_any _ _).mono ?_; rintro e w1 ⟨rfl, rfl⟩) | (go_at_call 30; refine hT.out.mono ?_; rintro e w1 ⟨rfl, h1⟩))
  go_ret2
  exact ⟨rfl, h1⟩

set_option maxHeartbeats 1000000 in
theorem addr_ok (r : Int) (g1 : 1 ≤ r) (g2 : r ≤ 16384) (w : World) (hG : G a0 a2 a3 w) :
    Calls Tryd.prog 26 #[.int .i64 r] w fun e w' => e = .returned (.tuple #[.int .i64 ((r - 1) * 8), .int .i64 0]) ∧ Ext w w' := by
  have hT := Lib.hid (told_ref r 0 (by rw [show (decide (1 ≤ r) && decide (r ≤ 16384)) = true by simp [g1, g2]]; rfl) w hG)
  clear hG
  go_enter Tryd.func26, Tryd.ntmps26
  go_wp2_with (first | (go_at_call 40; refine (noRef_any _ _).mono ?_; rintro e w1 ⟨rfl, rfl⟩) | (go_at_call 30; refine hT.out.mono ?_; rintro e w1 ⟨rfl, h1⟩))
  go_ret2
  exact ⟨rfl, h1⟩
end
end Go.Proofs.YthaddecdgihocaaDoor
