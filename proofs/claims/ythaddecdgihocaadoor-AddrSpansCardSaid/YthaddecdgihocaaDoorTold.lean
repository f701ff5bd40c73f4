/- addr.unless, numberOf, told, as contracts. -/
import Derived.Test.YthaddecdgihocaaDoorEnv
import Derived.BigQuiet
import Derived.Deep.QuietTactic
import Derived.Deep.LoopGhost
namespace Go.Proofs.YthaddecdgihocaaDoor
open Go.RowKit
section
variable {a0 a2 a3 : Addr}

theorem right_any (a : Int) (w : World) :
    Calls Tryd.prog 16 #[.int .i64 a] w fun e w' => e = .returned (.bool (decide (0 ≤ a) && decide (a < 131072))) ∧ w = w' := by
  by_cases h : 0 ≤ a
  · go_enter Tryd.func16, Tryd.ntmps16
    go_wp2
    go_ret
    exact ⟨by simp [h], rfl⟩
  · go_enter Tryd.func16, Tryd.ntmps16
    go_wp2
    go_ret
    exact ⟨by simp; omega, rfl⟩

def unlessV (b : Bool) (v : Value) : Value := if b then .nilIface else v

theorem unless_any (b : Bool) (v : Value) (w : World) :
    Calls Tryd.prog 46 #[.bool b, v] w fun e w' => e = .returned (unlessV b v) ∧ w = w' := by
  cases b
  · go_enter Tryd.func46, Tryd.ntmps46
    go_wp2
    go_ret
    exact ⟨rfl, rfl⟩
  · go_enter Tryd.func46, Tryd.ntmps46
    go_wp2
    go_ret
    exact ⟨rfl, rfl⟩

theorem numberOf_any (k : Nat) (hk : k ≤ 3) (w : World) (hG : G a0 a2 a3 w) :
    Calls Tryd.prog 44 #[errV a0 a2 a3 k] w fun e w' => e = .returned (.int .i64 (num k)) ∧ w = w' := by
  have c0 := hG.c0
  have c2 := hG.c2
  have c3 := hG.c3
  obtain ⟨ca0, ta0, r0⟩ := hG.r0
  obtain ⟨ca2, ta2, r2⟩ := hG.r2
  obtain ⟨ca3, ta3, r3⟩ := hG.r3
  have i20 := is_other a2 a0 _ _ _ _ w hG.n02.symm r2 r0
  have i30 := is_other a3 a0 _ _ _ _ w hG.n03.symm r3 r0
  have i32 := is_other a3 a2 _ _ _ _ w hG.n23.symm r3 r2
  clear r0 r2 r3 hG
  match k, hk with
  | 0, _ =>
    clear i20 i30 i32
    show Calls Tryd.prog 44 #[.nilIface] w _
    go_enter Tryd.func44, Tryd.ntmps44
    go_wp2_with (go_at_call 55; ((with_reducible refine (is_nil _ w).mono ?_); rintro e w' ⟨rfl, rfl⟩))
    go_ret
    exact ⟨rfl, rfl⟩
  | 1, _ =>
    clear i20 i30 i32
    show Calls Tryd.prog 44 #[.iface 75 (.pointer (some a0))] w _
    go_enter Tryd.func44, Tryd.ntmps44
    go_wp2_with (go_at_call 55; ((with_reducible refine (is_same _ w).mono ?_); rintro e w' ⟨rfl, rfl⟩))
    go_ret
    exact ⟨rfl, rfl⟩
  | 2, _ =>
    clear i30 i32
    have I := Lib.hid i20
    clear i20
    show Calls Tryd.prog 44 #[.iface 75 (.pointer (some a2))] w _
    go_enter Tryd.func44, Tryd.ntmps44
    go_wp2_with (go_at_call 55; first | ((with_reducible refine (is_same _ w).mono ?_); rintro e w' ⟨rfl, rfl⟩) | ((with_reducible refine I.out.mono ?_); rintro e w' ⟨rfl, rfl⟩))
    go_ret
    exact ⟨rfl, rfl⟩
  | 3, _ =>
    clear i20
    have I := Lib.hid i30
    have J := Lib.hid i32
    clear i30 i32
    show Calls Tryd.prog 44 #[.iface 75 (.pointer (some a3))] w _
    go_enter Tryd.func44, Tryd.ntmps44
    go_wp2_with (go_at_call 55; first | ((with_reducible refine (is_same _ w).mono ?_); rintro e w' ⟨rfl, rfl⟩) | ((with_reducible refine I.out.mono ?_); rintro e w' ⟨rfl, rfl⟩) | ((with_reducible refine J.out.mono ?_); rintro e w' ⟨rfl, rfl⟩))
    go_ret
    exact ⟨rfl, rfl⟩
end
end Go.Proofs.YthaddecdgihocaaDoor
