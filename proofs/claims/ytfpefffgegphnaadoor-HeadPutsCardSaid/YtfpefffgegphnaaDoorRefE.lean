/- The reference's heads: even. -/
import Derived.Test.YtfpefffgegphnaaDoorEvenH
import Derived.Test.YtfpefffgegphnaaDoorReadH
import Derived.Deep.LoopGhost
namespace Go.Proofs.YtfpefffgegphnaaDoor
open Go.RowKit Go
namespace H
open HD
/-- how many of l's bytes have the digit d -/
def cntD (d : Nat) (l : List UInt8) : Nat := (l.map fun b => b.toNat / d % 2).sum
def outS (l : List UInt8) : Nat → Nat
  | 0 => 0
  | j + 1 => outS l j + cntD (2 ^ j) l % 2 * 2 ^ j
theorem bit_xor (x y i : Nat) : (x ^^^ y) / 2 ^ i % 2 = (x / 2 ^ i % 2 + y / 2 ^ i % 2) % 2 := by
  have h := Nat.testBit_xor x y i
  simp only [Nat.testBit_eq_decide_div_mod_eq] at h
  have h1 := Nat.mod_two_eq_zero_or_one (x / 2 ^ i)
  have h2 := Nat.mod_two_eq_zero_or_one (y / 2 ^ i)
  have h3 := Nat.mod_two_eq_zero_or_one ((x ^^^ y) / 2 ^ i)
  rcases h1 with h1 | h1 <;> rcases h2 with h2 | h2 <;> rcases h3 with h3 | h3 <;> simp [h1, h2, h3] at h ⊢
theorem cnt_xor (i : Nat) : ∀ l : List UInt8, cntD (2 ^ i) l % 2 = (xorL l).toNat / 2 ^ i % 2
  | [] => by simp [cntD, xorL]
  | b :: r => by
    have ih := cnt_xor i r
    rw [xor_cons, UInt8.toNat_xor, bit_xor, ← ih]
    simp only [cntD, List.map_cons, List.sum_cons]
    omega
theorem out_xor (l : List UInt8) : outS l 8 = (xorL l).toNat := by
  have h := (xorL l).toNat_lt
  have c0 := cnt_xor 0 l
  have c1 := cnt_xor 1 l
  have c2 := cnt_xor 2 l
  have c3 := cnt_xor 3 l
  have c4 := cnt_xor 4 l
  have c5 := cnt_xor 5 l
  have c6 := cnt_xor 6 l
  have c7 := cnt_xor 7 l
  simp only [outS]
  rw [c0, c1, c2, c3, c4, c5, c6, c7]
  omega
theorem cnt_snoc (d : Nat) (l : List UInt8) (k : Nat) (h : k < l.length) : cntD d (l.take (k + 1)) = cntD d (l.take k) + (l.getD k 0).toNat / d % 2 := by
  rw [List.take_add_one, List.getElem?_eq_getElem h]
  unfold cntD
  rw [List.map_append, List.sum_append]
  simp only [Option.toList_some, List.map_cons, List.map_nil, List.sum_cons, List.sum_nil, Nat.add_zero, List.getD_eq_getElem?_getD, List.getElem?_eq_getElem h, Option.getD_some]
theorem cnt_le (d : Nat) (l : List UInt8) : cntD d l ≤ l.length := by
  induction l with
  | nil => simp [cntD]
  | cons b r ih => simp only [cntD, List.map_cons, List.sum_cons, List.length_cons] at *; omega
theorem out_le (l : List UInt8) (j : Nat) : outS l j ≤ 2 ^ j - 1 := by
  induction j with
  | zero => simp [outS]
  | succ j ih =>
    have h1 := Nat.mod_two_eq_zero_or_one (cntD (2 ^ j) l)
    have hp : 0 < 2 ^ j := Nat.two_pow_pos j
    simp only [outS]
    rw [Nat.pow_succ]
    rcases h1 with h1 | h1 <;> rw [h1] <;> omega
theorem m_step (n : Nat) : ((n : Int).tmod 2) = ((n % 2 : Nat) : Int) := by
  rw [Int.tmod_eq_emod_of_nonneg (by omega)]
  omega
theorem q_step (y p : Nat) : (((y : Int) / (p : Int)).tmod 2) = ((y / p % 2 : Nat) : Int) := by
  have e : ((y : Int) / (p : Int)) = ((y / p : Nat) : Int) := (Int.natCast_ediv y p).symm
  rw [e]
  exact m_step (y / p)
theorem wrap_small (x : Int) (h : 0 ≤ x ∧ x ≤ 1000000) : wrap64 x = x := by unfold wrap64; omega
theorem idx_at {s : List UInt8} {S : ByteArray} (hS : ⟨s.toArray⟩ = S) {k : Nat} (h : k < s.length) (W : World) : (Instr.index 9 (.string S) (.int .i64 (k : Int))).run Tryd.prog W = .ok (.int .u8 (bAt s k)) W := by
  subst hS
  have hsz : (⟨s.toArray⟩ : ByteArray).size = s.length := by show s.toArray.size = _; simp
  rw [run_index_string W 9 _ .i64 (k : Int) Tryd.underlying9, dif_pos ⟨by omega, by rw [hsz]; omega⟩]
  have h8 : (k : Int).toNat = k := by omega
  simp only [h8]
  show Result.ok (Value.int .u8 ((s.toArray[k]'(by simpa using h)).toNat : Int)) W = _
  simp [bAt, List.getD_eq_getElem?_getD, h]
section
set_option maxHeartbeats 4000000 in
theorem reven_is (s : List UInt8) (hl : s.length ≤ 100) (w : World) :
    Calls Tryd.prog 33 #[.string ⟨s.toArray⟩] w fun e w' => e = .returned (.int .u8 ((xorL s).toNat : Int)) ∧ w = w' := by
  obtain ⟨S, hS⟩ : ∃ S : ByteArray, ⟨s.toArray⟩ = S := ⟨_, rfl⟩
  have hsz : S.size = s.length := by rw [← hS]; show s.toArray.size = _; simp
  have HS := Lib.hid hS
  rw [hS]
  clear hS
  go_enter Tryd.func33, Tryd.ntmps33
  go_wp2
  go_loopg [3, 4, 5, 6] 9 (fun m o d n i wr => ∃ j : Nat, j + m = 9 ∧ j ≤ 8 ∧ d = .int .i64 ((2 ^ j : Nat) : Int) ∧ o = .int .i64 (outS s j : Nat) ∧ wr = w)
  case atStart => exact ⟨0, by omega, by omega, rfl, rfl, rfl⟩
  case round =>
    obtain ⟨j, hj, hj8, rfl, rfl, rfl⟩ := hrel
    obtain ⟨O, hO⟩ : ∃ O : Int, ((outS s j : Nat) : Int) = O := ⟨_, rfl⟩
    obtain ⟨D, hD⟩ : ∃ D : Int, ((2 ^ j : Nat) : Int) = D := ⟨_, rfl⟩
    have hp : 0 < 2 ^ j := Nat.two_pow_pos j
    have hpl : 2 ^ j ≤ 2 ^ 8 := Nat.pow_le_pow_right (by decide) hj8
    have ho := out_le s j
    rw [hO, hD]
    by_cases hlt : j < 8
    · have hp7 : 2 ^ j ≤ 2 ^ 7 := Nat.pow_le_pow_right (by decide) (by omega)
      have d1 : D < 256 := by omega
      have d0 : 0 < D := by omega
      have dn : ¬ D = 0 := by omega
      have o0 : 0 ≤ O := by omega
      have o1 : O < 256 := by omega
      have HD := Lib.hid (And.intro hD (And.intro hO (And.intro hj hj8)))
      clear hD hO hj hj8 hp hpl ho hp7
      go_wp2
      go_loopg [5, 6] s.length (fun m n i wr2 => ∃ k : Nat, k + m = s.length ∧ i = .int .i64 (k : Int) ∧ n = .int .i64 (cntD (2 ^ j) (s.take k) : Nat) ∧ wr2 = wr)
      case atStart => exact ⟨0, by omega, rfl, rfl, rfl⟩
      case round =>
        obtain ⟨k, hk, rfl, rfl, rfl⟩ := hrel
        by_cases hk2 : k < s.length
        · have hidx := fun W => idx_at HS.out hk2 W
          have hcl := cnt_le (2 ^ j) (s.take k)
          rw [List.length_take] at hcl
          obtain ⟨z, hz⟩ : ∃ z, bAt s k = z := ⟨_, rfl⟩
          obtain ⟨N, hN⟩ : ∃ N : Int, ((cntD (2 ^ j) (s.take k) : Nat) : Int) = N := ⟨_, rfl⟩
          have z0 : 0 ≤ z := hz ▸ bAt_lo s k
          have z1 : z ≤ 255 := hz ▸ bAt_hi s k
          have n0 : 0 ≤ N := by omega
          have n1 : N ≤ 100 := by omega
          rw [hz] at hidx
          rw [hN]
          have w0 : wrap64 z = z := by unfold wrap64; omega
          have hc : (k : Int) < s.length := by omega
          have HZ := Lib.hid (And.intro hz (And.intro hN hk))
          clear hz hN hk hcl
          go_wp2
          go_roundg (gk - 1)
          case measure => have := HZ.out.2.2; omega
          case rel =>
            obtain ⟨hz, hN, hk⟩ := HZ.out
            refine ⟨k + 1, by omega, by go_num, ?_, rfl⟩
            have hs := cnt_snoc (2 ^ j) s k hk2
            have hb : z = ((s.getD k 0).toNat : Int) := hz.symm
            rw [hb, ← HD.out.1, q_step, hs, ← hN, wrap_small _ ⟨by omega, by omega⟩]
            push_cast
            rfl
        · obtain rfl : k = s.length := by omega
          have hcl := cnt_le (2 ^ j) s
          rw [List.take_length]
          obtain ⟨N, hN⟩ : ∃ N : Int, ((cntD (2 ^ j) s : Nat) : Int) = N := ⟨_, rfl⟩
          have n0 : 0 ≤ N := by omega
          rw [hN]
          have hc : ¬ (s.length : Int) < s.length := by omega
          have HN := Lib.hid hN
          clear hN hk hcl
          go_wp2
          go_roundg (8 - j)
          case measure => have := HD.out.2.2; omega
          case rel =>
            obtain ⟨hD, hO, hj, hj8⟩ := HD.out
            have hN := HN.out
            have hm : N % 2 * D ≤ 255 ∧ 0 ≤ N % 2 * D := by
              rcases Int.emod_two_eq N with h | h <;> rw [h] <;> omega
            refine ⟨j + 1, by omega, by omega, ?_, ?_, rfl⟩
            · rw [← hD, Nat.pow_succ]; congr 1; push_cast; omega
            · rw [wrap_small (N % 2 * D) ⟨by omega, by omega⟩, wrap_small _ ⟨by omega, by omega⟩]
              show _ = Value.int .i64 ((outS s j + cntD (2 ^ j) s % 2 * 2 ^ j : Nat) : Int)
              push_cast
              rw [← hO, ← hN, ← hD]
              push_cast
              rfl
    · obtain rfl : j = 8 := by omega
      have d1 : ¬ D < 256 := by omega
      have hx := out_xor s
      have hlt8 := (xorL s).toNat_lt
      have hu : IntKind.u8.wrap O = O := by
        simp only [IntKind.wrap, IntKind.signed, IntKind.bits]; simp; omega
      have HO := Lib.hid (show O = ((xorL s).toNat : Int) by rw [← hO, hx])
      clear hO hD hp hpl ho hj hj8 hx hlt8
      go_wp2
      go_ret
      exact ⟨ret_int HO.out, rfl⟩
end
end H
end Go.Proofs.YtfpefffgegphnaaDoor
