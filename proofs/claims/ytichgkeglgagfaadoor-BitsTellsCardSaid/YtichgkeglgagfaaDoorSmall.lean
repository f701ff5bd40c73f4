/- bits: below, digits, so, isPlace; math/bits' two functions; told. -/
import Derived.Test.YtichgkeglgagfaaDoorEnv
import Derived.Laws.BitsAllLaws
import Derived.Shelf.Spec.TrailingZeros
namespace Go.Proofs.YtichgkeglgagfaaDoor
open Go.RowKit Go
section
variable {a : Nat → Addr}

theorem low_form' (n : Int) : ((2 : Int) ^ min n.toNat 32 % 4294967296 - 1) % 4294967296 = (low n : Int) := by
  unfold low
  have h0 := Nat.two_pow_pos (min n.toNat 32)
  have h1 : 2 ^ (min n.toNat 32) ≤ 2 ^ 32 := Nat.pow_le_pow_right (by decide) (Nat.min_le_right _ _)
  have e : (2 : Int) ^ (min n.toNat 32) = ((2 ^ (min n.toNat 32) : Nat) : Int) := by norm_cast
  rw [e]
  generalize 2 ^ (min n.toNat 32) = p at *
  omega
theorem below_any (n : Int) (w : World) :
    Calls Tryd.prog 55 #[.int .i64 n] w fun e w' => e = .returned (.int .u32 (low n)) ∧ w = w' := by
  by_cases h : 0 ≤ n
  · go_enter Tryd.func55, Tryd.ntmps55
    go_wp2
    go_ret
    exact ⟨ret_int (low_form' n), rfl⟩
  · go_enter Tryd.func55, Tryd.ntmps55
    go_wp2
    go_ret
    exact ⟨ret_int (by unfold low; rw [show n.toNat = 0 by omega]; rfl), rfl⟩
theorem compl_form (x : Nat) (hx : x < 4294967296) : bits .xor .u32 IntKind.u32.max (x : Int) = ((4294967295 - x : Nat) : Int) := by
  rw [show IntKind.u32.max = ((4294967295 : Nat) : Int) from rfl, u32_xor_nat _ _ (by decide) hx]
  congr 1
  apply Nat.eq_of_testBit_eq
  intro j
  rw [Nat.testBit_xor, comp_bit _ _ hx, show (4294967295 : Nat) = 2 ^ 32 - 1 from rfl, Nat.testBit_two_pow_sub_one]
  by_cases hj : j < 32
  · simp [hj]
  · rw [ge32 hx (by omega)]; simp [hj]
theorem so_any (x : Nat) (hx : x < 4294967296) (on : Bool) (w : World) :
    Calls Tryd.prog 58 #[.int .u32 x, .bool on] w fun e w' => e = .returned (.int .u32 (so x on)) ∧ w = w' := by
  cases on
  · go_enter Tryd.func58, Tryd.ntmps58
    go_wp2
    go_ret
    exact ⟨ret_int (compl_form x hx), rfl⟩
  · go_enter Tryd.func58, Tryd.ntmps58
    go_wp2
    go_ret
    exact ⟨rfl, rfl⟩
theorem isPlace_any (N i : Int) (s : Value) (w : World) :
    Calls Tryd.prog 41 #[.agg #[.int .i64 N, s], .int .i64 i] w fun e w' => e = .returned (.bool (decide (0 ≤ i) && decide (i < N))) ∧ Ext w w' := by
  by_cases h : 0 ≤ i
  · go_enter Tryd.func41, Tryd.ntmps41
    go_wp2
    go_ret
    exact ⟨by simp [h], (Ext.refl _).alloc (Nat.le_refl _) _⟩
  · go_enter Tryd.func41, Tryd.ntmps41
    go_wp2
    go_ret
    exact ⟨by simp; omega, (Ext.refl _).alloc (Nat.le_refl _) _⟩
theorem digits_any (k f t : Int) (hk : 0 ≤ k ∧ k ≤ 100000) (hf : -1000000000 ≤ f ∧ f ≤ 1000000000) (ht : -1000000000 ≤ t ∧ t ≤ 1000000000) (w : World) :
    Calls Tryd.prog 39 #[.int .i64 k, .int .i64 f, .int .i64 t] w fun e w' => e = .returned (.int .u32 (dig k f t)) ∧ w = w' := by
  obtain ⟨k0, k1⟩ := hk
  obtain ⟨f0, f1⟩ := hf
  obtain ⟨t0, t1⟩ := ht
  go_enter Tryd.func39, Tryd.ntmps39
  go_wp2_with (go_at_call 55; refine (below_any _ _).mono ?_; rintro e w' ⟨rfl, rfl⟩)
  go_ret
  exact ⟨ret_int (u32_andNot_nat _ _ (low_lt _) (low_lt _)), rfl⟩

set_option maxHeartbeats 1000000 in
theorem tz_core (x k idx : Nat) (w : World) (hx0 : ((x : Int) == 0) = false)
    (key : bits BinOp.and IntKind.u32 (x : Int) (-(x : Int) % 4294967296) * 125613361 % 4294967296 / 134217728 = (idx : Int))
    (hi : idx < 32) (hk : k < 32) (hcell : w.cell? ⟨3, idx, none⟩ = some (.int .u8 k)) :
    Calls Tryd.prog 65 #[.int .u32 x] w fun e w' => e = .returned (.int .i64 k) ∧ w = w' := by
  go_enter Tryd.func65, Tryd.ntmps65
  go_wp2_with (simp only [key])
  go_ret
  exact ⟨rfl, rfl⟩
theorem tz_any (x : Nat) (hx : x < 4294967296) (hx0 : x ≠ 0) (w : World) (hG : G a w) :
    Calls Tryd.prog 65 #[.int .u32 x] w fun e w' => e = .returned (.int .i64 (Lib.ctz 32 x : Nat)) ∧ w = w' := by
  obtain ⟨hlow, hk⟩ := Lib.lowest_bit 32 x hx0 hx
  obtain ⟨hi, htab⟩ := Lib.deBruijn32_at _ hk
  have hcell := hG.t _ hi
  rw [htab] at hcell
  exact tz_core x _ _ w (by simp; omega) (tz32_key x _ hx hx0 hlow) hi hk hcell

set_option maxHeartbeats 4000000 in
theorem pop8_le (b : Nat) : pop8 b ≤ 8 := by have := List.length_filter_le (fun i => b.testBit i) (List.range 8); simpa [pop8] using this
theorem ones_fin {T : ByteArray} (hs : T.size = 256) (hT : ∀ n (h : n < 256), (T[n]'(by rw [hs]; exact h)).toNat = pop8 n) (x : Nat) (hx : x < 4294967296)
    (p0 : x / 16777216 < T.size) (p1 : x / 65536 % 256 < T.size) (p2 : x / 256 % 256 < T.size) (p3 : x % 256 < T.size) :
    (((T[x / 16777216]'p0).toNat : Int) + ((T[x / 65536 % 256]'p1).toNat : Int) + ((T[x / 256 % 256]'p2).toNat : Int) + ((T[x % 256]'p3).toNat : Int)) % 256 = (pop x : Nat) := by
  rw [hT _ (by omega), hT _ (by omega), hT _ (by omega), hT _ (by omega), pop_bytes, show x / 16777216 % 256 = x / 16777216 by omega]
  have := pop8_le (x / 16777216)
  have := pop8_le (x / 65536 % 256)
  have := pop8_le (x / 256 % 256)
  have := pop8_le (x % 256)
  omega
set_option maxRecDepth 1000000 in
theorem ones_any (x : Nat) (hx : x < 4294967296) (w : World) :
    Calls Tryd.prog 42 #[.int .u32 x] w fun e w' => e = .returned (.int .i64 (pop x : Nat)) ∧ ∃ n, w' = w.drewN n := by
  have k1 : bits .and .u32 ((x : Int) / 65536) 255 = ((x / 65536 % 256 : Nat) : Int) := by
    rw [show (x : Int) / 65536 = ((x / 65536 : Nat) : Int) by omega, show (255 : Int) = ((255 : Nat) : Int) from rfl, u32_and_nat _ _ (by omega) (by decide)]
    congr 1
    exact Nat.and_two_pow_sub_one_eq_mod _ 8
  have k2 : bits .and .u32 ((x : Int) / 256) 255 = ((x / 256 % 256 : Nat) : Int) := by
    rw [show (x : Int) / 256 = ((x / 256 : Nat) : Int) by omega, show (255 : Int) = ((255 : Nat) : Int) from rfl, u32_and_nat _ _ (by omega) (by decide)]
    congr 1
    exact Nat.and_two_pow_sub_one_eq_mod _ 8
  have k3 : bits .and .u32 (x : Int) 255 = ((x % 256 : Nat) : Int) := by
    rw [show (255 : Int) = ((255 : Nat) : Int) from rfl, u32_and_nat _ _ (by omega) (by decide)]
    congr 1
    exact Nat.and_two_pow_sub_one_eq_mod _ 8
  have b0 : (x : Int) / 16777216 < 256 := by omega
  have b00 : 0 ≤ (x : Int) / 16777216 := by omega
  have b1 : (x : Int) / 65536 % 256 < 256 := by omega
  have b10 : 0 ≤ (x : Int) / 65536 % 256 := by omega
  have b2 : (x : Int) / 256 % 256 < 256 := by omega
  have b20 : 0 ≤ (x : Int) / 256 % 256 := by omega
  have b3 : (x : Int) % 256 < 256 := by omega
  have b30 : 0 ≤ (x : Int) % 256 := by omega
  go_enter Tryd.func42, Tryd.ntmps42
  go_wp2
  go_quiet (fail)
  go_wp2
  go_ret
  exact ⟨ret_int (ones_fin rfl (by decide +kernel) x hx _ _ _ _), nq, rfl⟩
end
end Go.Proofs.YtichgkeglgagfaaDoor
