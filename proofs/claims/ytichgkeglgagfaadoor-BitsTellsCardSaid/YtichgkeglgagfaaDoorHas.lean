/- Has, twice. -/
import Derived.Test.YtichgkeglgagfaaDoorRef1
namespace Go.Proofs.YtichgkeglgagfaaDoor
open Go.RowKit Go
def plB (N i : Int) : Bool := decide (0 ≤ i) && decide (i < N)
def hasB (N : Int) (ws : List Nat) (i : Int) : Bool := rightB N ws && plB N i && bit ws i.toNat
theorem place_any (N i : Int) (s : Value) (w : World) :
    Calls Tryd.prog 41 #[.agg #[.int .i64 N, s], .int .i64 i] w fun e w' => e = .returned (.bool (plB N i)) ∧ Ext w w' := isPlace_any N i s w
theorem one_bit (y : Nat) (k j : Nat) (hj : j < 32) : ((y &&& dig k ((32 * k + j : Nat) : Int) ((32 * k + j + 1 : Nat) : Int)) != 0) = y.testBit j := by
  have e : y &&& dig k ((32 * k + j : Nat) : Int) ((32 * k + j + 1 : Nat) : Int) = if y.testBit j then 2 ^ j else 0 := by
    apply Nat.eq_of_testBit_eq
    intro i
    rw [Nat.testBit_and, dig_bit]
    by_cases h : i = j
    · subst h
      have : decide (i < 32 ∧ ((32 * k + i : Nat) : Int) ≤ 32 * k + i ∧ 32 * (k : Int) + i < ((32 * k + i + 1 : Nat) : Int)) = true := by rw [decide_eq_true_eq]; omega
      rw [this]
      cases y.testBit i <;> simp [Nat.testBit_two_pow_self]
    · have : decide (i < 32 ∧ ((32 * k + j : Nat) : Int) ≤ 32 * k + i ∧ 32 * (k : Int) + i < ((32 * k + j + 1 : Nat) : Int)) = false := by rw [decide_eq_false_iff_not]; omega
      rw [this, Bool.and_false]
      split
      · rw [Nat.testBit_two_pow_of_ne (fun e => h e.symm)]
      · simp
  rw [e]
  cases hb : y.testBit j
  · simp
  · have := Nat.two_pow_pos j
    simp
section
set_option maxHeartbeats 2000000 in
theorem has_any (N : Int) (A : Option Addr) (n c : Nat) (ws : List Nat) (i : Int) (w : World) (h : Bt w A n ws) :
    Calls Tryd.prog 17 #[.agg #[.int .i64 N, .slice A n c], .int .i64 i] w fun e w' => e = .returned (.bool (hasB N ws i)) ∧ Ext w w' := by
  have E1 : Ext w (w.alloc (.cells #[.int .i64 N, .slice A n c] 24)) := (Ext.refl w).alloc (Nat.le_refl _) _
  have FIN := Lib.hid E1
  have hR := fun W (hW : Ext (w.alloc (.cells #[.int .i64 N, .slice A n c] 24)) W) => right_any N A n c ws W (h.ext (Ext.trans E1 hW))
  have hP := fun W (_ : Ext (w.alloc (.cells #[.int .i64 N, .slice A n c] 24)) W) => place_any N i (.slice A n c) W
  have hx := fun (o : From (w.alloc (.cells #[.int .i64 N, .slice A n c] 24))) p h => From.cell o p h
  by_cases hr : rightB N ws = true
  · have RR := Lib.hid (hr ▸ hR)
    clear hR
    by_cases hp : plB N i = true
    · have PP := Lib.hid (hp ▸ hP)
      have hr' := (right_iff N ws).1 hr
      have hp' := hp
      simp only [plB, Bool.and_eq_true, decide_eq_true_eq] at hp'
      obtain ⟨I, rfl⟩ := Int.eq_ofNat_of_zero_le hp'.1
      have hl := h.len
      have hI : I / 32 < n := by have := hr'.len; have := hr'.n1; omega
      have hn := h.le
      obtain ⟨ad, rfl, hb, hcell⟩ := h.rd (by omega)
      have ha0 : (w.alloc (.cells #[.int .i64 N, .slice (some ad) n c] 24)).cell? (ad.add (I / 32)) = some (.int .u32 (wd ws (I / 32) : Nat)) :=
        (World.cell?_alloc_lt w _ _ (by rw [block_of_add]; exact hb)).trans (hcell _ hI)
      have ha := fun (o : From (w.alloc (.cells #[.int .i64 N, .slice (some ad) n c] 24))) => (hx o (ad.add (I / 32)) (by rw [ha0]; rfl)).trans ha0
      have Dg := Lib.hid (fun w => digits_any ((I : Int) / 32) I ((I : Int) + 1) (by omega) (by omega) (by omega) w)
      have hy := wd_lt h.lt (I / 32)
      have X0 := u32_and_nat (wd ws (I / 32)) (dig ((I : Int) / 32) I ((I : Int) + 1)) hy (dig_lt _ _ _)
      have R0 : hasB N ws I = ((wd ws (I / 32) &&& dig ((I : Int) / 32) I ((I : Int) + 1)) != 0) := by
        have := one_bit (wd ws (I / 32)) (I / 32) (I % 32) (Nat.mod_lt _ (by decide))
        rw [show 32 * (I / 32) + I % 32 = I by omega] at this
        rw [show (I : Int) / 32 = ((I / 32 : Nat) : Int) by omega, show (I : Int) + 1 = ((I + 1 : Nat) : Int) by omega, this, hasB, hr, hp]
        simp [bit]
      generalize dig ((I : Int) / 32) I ((I : Int) + 1) = d at *
      generalize wd ws (I / 32) = y at *
      generalize y &&& d = r at *
      have HR := Lib.hid R0
      have b0 : (0 : Int) ≤ (I : Int) / 32 := by omega
      have b1 : (I : Int) / 32 < n := by omega
      have b2 : ((I : Int) / 32).toNat = I / 32 := by omega
      have b3 : (I : Int) ≤ 20000 := by have := hr'.n1; omega
      clear hP hr hr' hp hp' hl hI hn hcell h ha0 E1 R0 hb
      go_enter Tryd.func17, Tryd.ntmps17
      go_wp2
      refine wp_region_on (by kernel_rfl) (by kernel_rfl) ?_
      repeat (go_big_quiet_step ((first | (go_at_call 15; exact on_call RR.out _) | (go_at_call 41; exact on_call PP.out _) | (go_at_call 39; exact on_same Dg.out _))))
      refine wpQuiet_nil ?_
      intro W hW
      go_wp2
      go_ret
      exact ⟨ret_bool (by rw [HR.out]; cases r <;> rfl), Ext.trans FIN.out hW⟩
    · have hp' : plB N i = false := by simpa using hp
      have PP := Lib.hid (hp' ▸ hP)
      have HR := Lib.hid (show hasB N ws i = false by simp [hasB, hp'])
      clear hP hp hp' hr h E1
      go_enter Tryd.func17, Tryd.ntmps17
      go_wp2
      refine wp_region_on (by kernel_rfl) (by kernel_rfl) ?_
      repeat (go_big_quiet_step ((first | (go_at_call 15; exact on_call RR.out _) | (go_at_call 41; exact on_call PP.out _))))
      refine wpQuiet_nil ?_
      intro W hW
      go_wp2
      go_ret
      exact ⟨ret_bool HR.out.symm, Ext.trans FIN.out hW⟩
  · have hr' : rightB N ws = false := by simpa using hr
    have RR := Lib.hid (hr' ▸ hR)
    have HR := Lib.hid (show hasB N ws i = false by simp [hasB, hr'])
    clear hR hP hr hr' h E1
    go_enter Tryd.func17, Tryd.ntmps17
    go_wp2
    refine wp_region_on (by kernel_rfl) (by kernel_rfl) ?_
    repeat (go_big_quiet_step ((go_at_call 15; exact on_call RR.out _)))
    refine wpQuiet_nil ?_
    intro W hW
    go_wp2
    go_ret
    exact ⟨ret_bool HR.out.symm, Ext.trans FIN.out hW⟩

set_option maxHeartbeats 2000000 in
theorem refHas_any (N : Int) (A : Option Addr) (n c : Nat) (ws : List Nat) (i : Int) (w : World) (h : Bt w A n ws) :
    Calls Tryd.prog 18 #[.agg #[.int .i64 N, .slice A n c], .int .i64 i] w fun e w' => e = .returned (.bool (hasB N ws i)) ∧ Ext w w' := by
  have E1 : Ext w (w.alloc (.cells #[.int .i64 N, .slice A n c] 24)) := (Ext.refl w).alloc (Nat.le_refl _) _
  have FIN := Lib.hid E1
  have hR := fun W (hW : Ext (w.alloc (.cells #[.int .i64 N, .slice A n c] 24)) W) => refRight_any N A n c ws W (h.ext (Ext.trans E1 hW))
  by_cases hr : rightB N ws = true
  · have RR := Lib.hid (hr ▸ hR)
    clear hR
    by_cases h0 : 0 ≤ i
    · by_cases h1 : i < N
      · obtain ⟨I, rfl⟩ := Int.eq_ofNat_of_zero_le h0
        have hr' := (right_iff N ws).1 hr
        have hl := h.len
        have hO := fun W (hW : Ext w W) => on_any N A n c ws I (by have := hr'.len; omega) W (h.ext hW)
        have OO := Lib.hid hO
        have HR := Lib.hid (show hasB N ws I = bit ws I by simp [hasB, hr, plB, h1])
        clear hO hr hr' hl h E1
        go_enter Tryd.func18, Tryd.ntmps18
        go_wp2_with (first | (go_at_call 16; refine (RR.out _ (Ext.refl _)).mono ?_; rintro e w1 ⟨rfl, h1⟩; have c0 := extAt h1 w.heap.size 0 (by simp); have c1 := extAt h1 w.heap.size 1 (by simp)) | (go_at_call 40; refine (OO.out _ (Ext.trans FIN.out h1)).mono ?_; rintro e w2 ⟨rfl, h2⟩))
        go_ret
        exact ⟨ret_bool HR.out.symm, Ext.trans FIN.out (Ext.trans h1 h2)⟩
      · have HR := Lib.hid (show hasB N ws i = false by simp [hasB, plB, h1])
        have h1' : N ≤ i := by omega
        clear hr h E1 h1
        go_enter Tryd.func18, Tryd.ntmps18
        go_wp2_with (first | (go_at_call 16; refine (RR.out _ (Ext.refl _)).mono ?_; rintro e w1 ⟨rfl, h1⟩; have c0 := extAt h1 w.heap.size 0 (by simp); have c1 := extAt h1 w.heap.size 1 (by simp)))
        go_ret
        exact ⟨ret_bool HR.out.symm, Ext.trans FIN.out h1⟩
    · have HR := Lib.hid (show hasB N ws i = false by simp [hasB, plB, h0])
      have h1' : i < 0 := by omega
      clear hr h E1 h0
      go_enter Tryd.func18, Tryd.ntmps18
      go_wp2_with (first | (go_at_call 16; refine (RR.out _ (Ext.refl _)).mono ?_; rintro e w1 ⟨rfl, h1⟩))
      go_ret
      exact ⟨ret_bool HR.out.symm, Ext.trans FIN.out h1⟩
  · have hr' : rightB N ws = false := by simpa using hr
    have RR := Lib.hid (hr' ▸ hR)
    have HR := Lib.hid (show hasB N ws i = false by simp [hasB, hr'])
    clear hR hr hr' h E1
    go_enter Tryd.func18, Tryd.ntmps18
    go_wp2_with (first | (go_at_call 16; refine (RR.out _ (Ext.refl _)).mono ?_; rintro e w1 ⟨rfl, h1⟩))
    go_ret
    exact ⟨ret_bool HR.out.symm, Ext.trans FIN.out h1⟩
end
end Go.Proofs.YtichgkeglgagfaaDoor
