/- head: the byte that makes each binary digit 1 an even number of times. -/
import Derived.Test.YtfpefffgegphnaaDoorHeads
import Derived.Test.YtfpefffgegphnaaDoorEnv
import Derived.Laws.BitsAllLaws
import Derived.Deep.LoopGhost
namespace Go.Proofs.YtfpefffgegphnaaDoor
open Go.RowKit Go
namespace H
open HD
theorem xor8 (a b : UInt8) : bits .xor .u8 (a.toNat : Int) (b.toNat : Int) = ((a ^^^ b).toNat : Int) := by rw [u8_xor_nat _ _ a.toNat_lt b.toNat_lt, UInt8.toNat_xor]
theorem xor_snoc (l : List UInt8) (k : Nat) (h : k < l.length) : xorL (l.take (k + 1)) = xorL (l.take k) ^^^ l.getD k 0 := by
  rw [List.take_add_one, List.getElem?_eq_getElem h]
  simp only [Option.toList_some]
  rw [xor_app, xor_cons]
  simp [xorL, List.getD_eq_getElem?_getD, h]
section
set_option maxHeartbeats 1000000 in
theorem even_is (A : Option Addr) (c : Nat) (l : List UInt8) (hl : l.length ≤ 100) (w : World) (h : Rd w A l.length (fun j => bv (l.getD j 0))) :
    Calls Tryd.prog 50 #[.slice A l.length c] w fun e w' => e = .returned (.int .u8 ((xorL l).toNat : Int)) ∧ w = w' := by
  have H := Lib.hid h
  clear h
  go_enter Tryd.func50, Tryd.ntmps50
  go_wp2
  go_loopg [3, 5, 8] l.length (fun d s b i wr => ∃ k : Nat, k + d = l.length ∧ i = .int .i64 k ∧ s = .int .u8 ((xorL (l.take k)).toNat : Int) ∧ wr = w)
  case atStart => exact ⟨0, by omega, rfl, rfl, rfl⟩
  case round =>
    obtain ⟨k, hk, rfl, rfl, rfl⟩ := hrel
    by_cases hlt : k < l.length
    · obtain ⟨ad, rfl, hb, hc⟩ := H.out (by omega)
      obtain ⟨y, hy⟩ : ∃ y, l.getD k 0 = y := ⟨_, rfl⟩
      obtain ⟨z, hz⟩ : ∃ z, xorL (l.take k) = z := ⟨_, rfl⟩
      have c0 : wr.cell? (ad.add k) = some (.int .u8 (y.toNat : Int)) := by rw [← hy]; exact hc k hlt
      have hx := xor_snoc l k hlt
      have h8 := xor8 z y
      have h5 : (k : Int) < l.length := by omega
      rw [hy, hz] at hx
      rw [hz]
      have HX := Lib.hid (And.intro hx (And.intro h8 hk))
      clear hx h8 hc hk hy hz
      go_wp2
      go_roundg (gk - 1)
      case measure => have := HX.out.2.2; omega
      case rel =>
        obtain ⟨hx, h8, hk⟩ := HX.out
        exact ⟨k + 1, by omega, by go_num, by rw [hx, h8], rfl⟩
    · obtain rfl : k = l.length := by omega
      have h5 : ¬ (l.length : Int) < l.length := by omega
      rw [List.take_length]
      obtain ⟨z, hz⟩ : ∃ z, ((xorL l).toNat : Int) = z := ⟨_, rfl⟩
      rw [hz]
      have HZ := Lib.hid hz
      clear hk hz
      go_wp2
      go_ret
      exact ⟨ret_int HZ.out.symm, rfl⟩
end
end H
end Go.Proofs.YtfpefffgegphnaaDoor
