/- bits.Right, and the reference's. -/
import Derived.Test.YtichgkeglgagfaaDoorSmall
import Derived.Test.YtichgkeglgagfaaDoorBt
namespace Go.Proofs.YtichgkeglgagfaaDoor
open Go.RowKit Go
/-- The slice (A, n) holds the words ws. -/
structure Bt (W : World) (A : Option Addr) (n : Nat) (ws : List Nat) : Prop where
  len : ws.length = n
  lt : W32 ws
  le : n ≤ 1000
  rd : Rd W A n fun j => .int .u32 (wd ws j : Nat)
theorem Bt.ext {W W' : World} {A : Option Addr} {n : Nat} {ws : List Nat} (h : Bt W A n ws) (k : Ext W W') : Bt W' A n ws := ⟨h.len, h.lt, h.le, h.rd.ext k⟩
theorem qs {P : Program} {f : FuncId} {args : Array Value} {w : World} {n : Nat} {v : Value}
    (h : Calls P f args (w.drewN n) fun e w' => e = .returned v ∧ w.drewN n = w') : Calls P f args (w.drewN n) fun e w'' => e = .returned v ∧ ∃ m, w'' = w.drewN m :=
  h.mono fun _ _ ⟨he, hm⟩ => ⟨he, n, hm.symm⟩
theorem qs2 {P : Program} {f : FuncId} {args : Array Value} {w : World} {b n : Nat} {v : Value}
    (h : Calls P f args (w.drewN (b + n)) fun e w' => e = .returned v ∧ w.drewN (b + n) = w') : Calls P f args (w.drewN (b + n)) fun e w'' => e = .returned v ∧ ∃ m, w'' = w.drewN (b + m) :=
  h.mono fun _ _ ⟨he, hm⟩ => ⟨he, n, hm.symm⟩
section
variable {a : Nat → Addr}
set_option maxHeartbeats 1000000 in
theorem right_any (N : Int) (A : Option Addr) (n c : Nat) (ws : List Nat) (w : World) (h : Bt w A n ws) :
    Calls Tryd.prog 15 #[.agg #[.int .i64 N, .slice A n c]] w fun e w' => e = .returned (.bool (rightB N ws)) ∧ Ext w w' := by
  obtain ⟨hl, hw, hn, hr⟩ := h
  have fin : ∀ m, Ext w ((w.alloc (.cells #[.int .i64 N, .slice A n c] 24)).drewN m) := fun m => Ext.trans ((Ext.refl w).alloc (Nat.le_refl _) _) (ext_drewN _ m)
  have FIN := Lib.hid fin
  clear fin
  by_cases h0 : 0 ≤ N ∧ N ≤ 20000
  · obtain ⟨h0, h1⟩ := h0
    have hc : cntB N = true := by simp [cntB, h0, h1]
    have C := Lib.hid (fun w => hc ▸ isCount_any N w)
    have D := Lib.hid (fun w => wordsOf_any N h0 h1 w)
    by_cases he : (n : Int) = (N + 31) / 32
    · have e1 : ((n : Int) != (N + 31) / 32) = false := by simp [he]
      by_cases hz : n = 0
      · have R := Lib.hid (show rightB N ws = true from Right.b ⟨h0, h1, by rw [hl]; exact he, fun i hi => by omega⟩)
        subst hz
        clear he hr hl
        go_enter Tryd.func15, Tryd.ntmps15
        go_wp2
        go_quiet ((first | (go_at_call 37; exact qs (C.out _)) | (go_at_call 38; exact qs (D.out _))))
        go_wp2
        go_quiet (fail)
        go_wp2
        go_ret
        exact ⟨ret_bool R.out.symm, Ext.trans (FIN.out _) (ext_drewN _ _)⟩
      · obtain ⟨m, rfl⟩ : ∃ m, n = m + 1 := ⟨n - 1, by omega⟩
        obtain ⟨ad, rfl, hb, hcell⟩ := hr (by omega)
        have hlast : w.cell? (ad.add m) = some (.int .u32 (wd ws m : Nat)) := hcell m (by omega)
        have R0 := right_last h0 h1 (by rw [hl]; exact he) (by omega : 0 < ws.length)
        rw [hl, show m + 1 - 1 = m by omega, show (((m + 1 : Nat) : Int) - 1) = m by omega] at R0
        have Dg := Lib.hid (fun w => digits_any (m : Int) 0 N (by omega) (by omega) (by omega) w)
        have hx : (wd ws m) < 4294967296 := wd_lt hw _
        have X0 := u32_andNot_nat (wd ws m) (dig (m : Int) 0 N) hx (dig_lt _ _ _)
        have e1 : ((m : Int) + 1 != (N + 31) / 32) = false := by rw [← he]; simp
        change bits .andNot .u32 _ _ = ((ndiff _ _ : Nat) : Int) at X0
        generalize dig (m : Int) 0 N = d at *
        generalize wd ws m = y at *
        generalize ndiff y d = r at *
        have R := Lib.hid R0
        have ha : (w.alloc (.cells #[.int .i64 N, .slice (some ad) (m + 1) c] 24)).cell? (ad.add m) = some (.int .u32 (y : Nat)) :=
          (World.cell?_alloc_lt w _ _ (by rw [block_of_add]; exact hb)).trans hlast
        have h4 : (m : Int) < m + 1 := by omega
        have h5 : decide ((m : Int) < 0) = false := by simp
        clear he hcell hr hl hw hlast R0 hx
        go_enter Tryd.func15, Tryd.ntmps15
        go_wp2
        go_quiet ((first | (go_at_call 37; exact qs (C.out _)) | (go_at_call 38; exact qs (D.out _))))
        go_wp2
        go_quiet ((go_at_call 39; exact qs2 (Dg.out _)))
        go_wp2
        go_ret
        exact ⟨ret_bool (by rw [R.out]; cases r <;> rfl), Ext.trans (FIN.out _) (ext_drewN _ _)⟩
    · have e1 : ((n : Int) != (N + 31) / 32) = true := by simp [he]
      have R := Lib.hid (show rightB N ws = false from not_right fun h => he (by have := h.len; rw [hl] at this; exact this))
      clear he hr hl
      go_enter Tryd.func15, Tryd.ntmps15
      go_wp2
      go_quiet ((first | (go_at_call 37; exact qs (C.out _)) | (go_at_call 38; exact qs (D.out _))))
      go_wp2
      go_ret
      exact ⟨ret_bool R.out.symm, FIN.out _⟩
  · have hc : cntB N = false := by rw [Bool.eq_false_iff]; intro h; simp only [cntB, Bool.and_eq_true, decide_eq_true_eq] at h; exact h0 h
    have C := Lib.hid (fun w => hc ▸ isCount_any N w)
    have R := Lib.hid (show rightB N ws = false from not_right fun h => h0 ⟨h.n0, h.n1⟩)
    clear h0 hr hl
    go_enter Tryd.func15, Tryd.ntmps15
    go_wp2
    go_quiet ((go_at_call 37; exact qs (C.out _)))
    go_wp2
    go_ret
    exact ⟨ret_bool R.out.symm, FIN.out _⟩

/-! ### the reference -/
theorem worth_nat (k : Nat) : k < 32 → (2 : Nat) ^ k < 4294967296 := fun h => Nat.pow_lt_pow_right (a := 2) (by decide) h
set_option maxHeartbeats 1000000 in
theorem worth_any (i : Int) (h0 : 0 ≤ i) (h1 : i ≤ 100000) (w : World) :
    Calls Tryd.prog 50 #[.int .i64 i] w fun e w' => e = .returned (.int .u32 ((2 ^ (i % 32).toNat : Nat))) ∧ w = w' := by
  obtain ⟨m, hm⟩ : ∃ m : Nat, i % 32 = m := ⟨(i % 32).toNat, by omega⟩
  have hm32 : m < 32 := by omega
  rw [hm, Int.toNat_natCast]
  go_enter Tryd.func50, Tryd.ntmps50
  go_wp2
  go_loop [3, 4] (fun v j => ∃ k p : Nat, k ≤ m ∧ j = .int .i64 k ∧ v = .int .u32 p ∧ p = 2 ^ k) (fun _ j => m - (intOf j).toNat)
  case atStart => exact ⟨0, 1, by omega, rfl, rfl, rfl⟩
  case round =>
    obtain ⟨k, p, hk, rfl, rfl, hp⟩ := hrel
    by_cases hlt : k < m
    · have hb : p ≤ 2 ^ 30 := by rw [hp]; exact Nat.pow_le_pow_right (by decide) (by omega)
      have hb' : p ≤ 1073741824 := hb
      have HP := Lib.hid hp
      have h5 : (k : Int) < m := by omega
      clear hp hb
      go_wp2
      go_round
      case rel => exact ⟨k + 1, 2 * p, by omega, by go_num, by go_num, by rw [HP.out]; omega⟩
      case measure => simp [intOf]; omega
    · have : k = m := by omega
      subst this
      have HP := Lib.hid hp
      clear hp
      go_wp2
      go_ret
      exact ⟨ret_int (by rw [HP.out]; norm_cast), rfl⟩

theorem bit_div (x j : Nat) : ((x / 2 ^ j % 2 == 1) : Bool) = x.testBit j := by
  rw [Nat.testBit_eq_decide_div_mod_eq, Bool.eq_iff_iff]; simp
set_option maxHeartbeats 1000000 in
theorem on_any (N : Int) (A : Option Addr) (n c : Nat) (ws : List Nat) (i : Nat) (h1 : i < 32 * n) (w : World) (h : Bt w A n ws) :
    Calls Tryd.prog 40 #[.agg #[.int .i64 N, .slice A n c], .int .i64 i] w fun e w' => e = .returned (.bool (bit ws i)) ∧ Ext w w' := by
  obtain ⟨hl, hw, hn, hr⟩ := h
  obtain ⟨ad, rfl, hb, hcell⟩ := hr (by omega)
  have hk : w.cell? (ad.add (i / 32)) = some (.int .u32 (wd ws (i / 32) : Nat)) := hcell _ (by omega)
  have ha : (w.alloc (.cells #[.int .i64 N, .slice (some ad) n c] 24)).cell? (ad.add (i / 32)) = some (.int .u32 (wd ws (i / 32) : Nat)) :=
    (World.cell?_alloc_lt w _ _ (by rw [block_of_add]; exact hb)).trans hk
  have FIN := Lib.hid (fun m => Ext.trans (show Ext w (w.alloc (.cells #[.int .i64 N, .slice (some ad) n c] 24)) from (Ext.refl w).alloc (Nat.le_refl _) _) (ext_drewN _ m))
  have hx := wd_lt hw (i / 32)
  have R0 := bit_div (wd ws (i / 32)) (i % 32)
  have W0 := fun w => worth_any i (by omega) (by omega) w
  rw [show ((i : Int) % 32).toNat = i % 32 by omega] at W0
  have hp : 0 < 2 ^ (i % 32) := Nat.two_pow_pos _
  have hp2 : 2 ^ (i % 32) < 4294967296 := worth_nat _ (by omega)
  change _ = bit ws i at R0
  generalize wd ws (i / 32) = y at *
  generalize 2 ^ (i % 32) = p at *
  have R := Lib.hid R0
  have WO := Lib.hid W0
  have b0 : (0 : Int) ≤ (i : Int) / 32 := by omega
  have b1 : (i : Int) / 32 < n := by omega
  have b2 : ((i : Int) / 32).toNat = i / 32 := by omega
  have b3 : ((p : Int) == 0) = false := by rw [beq_eq_false_iff_ne]; omega
  have b4 : 0 < (p : Int) := by omega
  clear W0 R0 hcell hk hr hl hw
  go_enter Tryd.func40, Tryd.ntmps40
  go_wp2
  go_quiet ((go_at_call 50; exact qs (WO.out _)))
  go_wp2
  go_ret
  refine ⟨ret_bool ?_, FIN.out _⟩
  rw [← R.out, Bool.eq_iff_iff, beq_iff_eq, beq_iff_eq]
  have : (y : Int) / (p : Int) % 2 = ((y / p % 2 : Nat) : Int) := by push_cast; rfl
  omega
end
end Go.Proofs.YtichgkeglgagfaaDoor
