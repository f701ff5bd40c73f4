/- bits: what the package variables hold; small calls; told. -/
import Derived.Test.YtichgkeglgagfaaDoorErr
import Derived.Test.YtichgkeglgagfaaDoorDraw
import Derived.Test.YtichgkeglgagfaaDoorMath2
import Derived.BigQuiet
import Derived.Deep.QuietTactic
import Derived.Deep.LoopGhost
namespace Go.Proofs.YtichgkeglgagfaaDoor
open Go.RowKit Go

abbrev esB : List Nat := [0, 1, 2]
structure G (a : Nat → Addr) (w : World) : Prop where
  e : Errs esB a w
  tz : 3 < w.heap.size
  t : ∀ j, j < 32 → w.cell? ⟨3, j, none⟩ = some (.int .u8 (Lib.deBruijn32tab.getD j 0))
theorem G.ext {a : Nat → Addr} {w w' : World} (h : G a w) (k : Ext w w') : G a w' :=
  ⟨h.e.ext k, Nat.lt_of_lt_of_le h.tz k.size, fun j hj => (k.cell (p := ⟨_, j, none⟩) h.tz).trans (h.t j hj)⟩
def num : Nat → Int
  | 0 => 0
  | 1 => 2
  | 2 => 20
  | _ => 21
section
variable {a : Nat → Addr}

theorem unless_any (b : Bool) (v : Value) (w : World) :
    Calls Tryd.prog 54 #[.bool b, v] w fun e w' => e = .returned (unlessV b v) ∧ w = w' := by
  cases b
  · go_enter Tryd.func54, Tryd.ntmps54
    go_wp2
    go_ret
    exact ⟨rfl, rfl⟩
  · go_enter Tryd.func54, Tryd.ntmps54
    go_wp2
    go_ret
    exact ⟨rfl, rfl⟩

def cntB (n : Int) : Bool := decide (0 ≤ n) && decide (n ≤ 20000)
theorem isCount_any (n : Int) (w : World) :
    Calls Tryd.prog 37 #[.int .i64 n] w fun e w' => e = .returned (.bool (cntB n)) ∧ w = w' := by
  by_cases h : 0 ≤ n
  · go_enter Tryd.func37, Tryd.ntmps37
    go_wp2
    go_ret
    exact ⟨by simp [cntB, h], rfl⟩
  · go_enter Tryd.func37, Tryd.ntmps37
    go_wp2
    go_ret
    exact ⟨by simp [cntB]; omega, rfl⟩
theorem wordsOf_any (n : Int) (h0 : 0 ≤ n) (h1 : n ≤ 20000) (w : World) :
    Calls Tryd.prog 38 #[.int .i64 n] w fun e w' => e = .returned (.int .i64 ((n + 31) / 32)) ∧ w = w' := by
  go_enter Tryd.func38, Tryd.ntmps38
  go_wp2
  go_ret
  exact ⟨ret_int (by omega), rfl⟩

theorem low_form (n : Int) : IntKind.u32.wrap (IntKind.u32.wrap (1 * 2 ^ min n.toNat 32) - 1) = (low n : Int) := by
  unfold low
  have h0 := Nat.two_pow_pos (min n.toNat 32)
  have h1 : 2 ^ (min n.toNat 32) ≤ 2 ^ 32 := Nat.pow_le_pow_right (by decide) (Nat.min_le_right _ _)
  have e : (2 : Int) ^ (min n.toNat 32) = ((2 ^ (min n.toNat 32) : Nat) : Int) := by norm_cast
  rw [Int.one_mul, e]
  generalize 2 ^ (min n.toNat 32) = p at *
  simp only [IntKind.wrap, IntKind.signed, IntKind.bits]
  simp
  omega
end
end Go.Proofs.YtichgkeglgagfaaDoor
