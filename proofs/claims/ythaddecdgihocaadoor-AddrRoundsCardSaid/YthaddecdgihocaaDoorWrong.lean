/- addr's wrongs: each closure, and what it asks. -/
import Derived.Test.YthaddecdgihocaaDoorSizes
import Derived.BigQuiet
import Derived.Deep.QuietTactic
import Derived.Deep.RegionWith
import Derived.Deep.RegionHeld3
namespace Go.Proofs.YthaddecdgihocaaDoor
open Go.RowKit Go
section
variable {a0 a2 a3 : Addr}

theorem ret_val {a b : Value} (h : a = b) : Ending.returned a = .returned b := by rw [h]
theorem unless_eq {b c : Bool} {v : Value} (h : b = c) : unlessV b v = unlessV c v := by rw [h]
theorem qs {P : Program} {f : FuncId} {args : Array Value} {w : World} {n : Nat} {v : Value}
    (h : Calls P f args (w.drewN n) fun e w' => e = .returned v ∧ w.drewN n = w') : Calls P f args (w.drewN n) fun e w'' => e = .returned v ∧ ∃ m, w'' = w.drewN m :=
  h.mono fun _ _ ⟨he, hm⟩ => ⟨he, n, hm.symm⟩
theorem ext_drewN (w : World) (n : Nat) : Ext w (w.drewN n) := by
  induction n with
  | zero => exact Ext.refl _
  | succ n ih => exact ih.drew

theorem noAddress_any (a : Int) (w : World) :
    Calls Tryd.prog 31 #[.int .i64 a] w fun e w' => e = .returned (.func (.func 45) #[] #[.pointer (some ⟨w.heap.size, 0, none⟩)]) ∧ w' = w.alloc (.cells #[.int .i64 a] 3) := by
  go_enter Tryd.func31, Tryd.ntmps31
  go_wp2
  go_ret
  exact ⟨rfl, rfl⟩

theorem noGranule_any (a : Int) (w : World) :
    Calls Tryd.prog 39 #[.int .i64 a] w fun e w' => e = .returned (.func (.func 51) #[] #[.pointer (some ⟨w.heap.size, 0, none⟩)]) ∧ w' = w.alloc (.cells #[.int .i64 a] 3) := by
  go_enter Tryd.func39, Tryd.ntmps39
  go_wp2
  go_ret
  exact ⟨rfl, rfl⟩

theorem noBytes_any (n : Int) (w : World) :
    Calls Tryd.prog 41 #[.int .i64 n] w fun e w' => e = .returned (.func (.func 53) #[] #[.pointer (some ⟨w.heap.size, 0, none⟩)]) ∧ w' = w.alloc (.cells #[.int .i64 n] 3) := by
  go_enter Tryd.func41, Tryd.ntmps41
  go_wp2
  go_ret
  exact ⟨rfl, rfl⟩

theorem noSize_any (n : Int) (w : World) :
    Calls Tryd.prog 35 #[.int .i64 n] w fun e w' => e = .returned (.func (.func 49) #[] #[.pointer (some ⟨w.heap.size, 0, none⟩)]) ∧ w' = w.alloc (.cells #[.int .i64 n] 3) := by
  go_enter Tryd.func35, Tryd.ntmps35
  go_wp2
  go_ret
  exact ⟨rfl, rfl⟩

theorem noRef_any (r : Int) (w : World) :
    Calls Tryd.prog 40 #[.int .i64 r] w fun e w' => e = .returned (.func (.func 52) #[] #[.pointer (some ⟨w.heap.size, 0, none⟩)]) ∧ w' = w.alloc (.cells #[.int .i64 r] 3) := by
  go_enter Tryd.func40, Tryd.ntmps40
  go_wp2
  go_ret
  exact ⟨rfl, rfl⟩

theorem noPlace_any (x y z : Int) (w : World) :
    Calls Tryd.prog 33 #[.agg #[.int .i64 x, .int .i64 y, .int .i64 z]] w fun e w' => e = .returned (.func (.func 48) #[] #[.pointer (some ⟨w.heap.size, 0, none⟩)]) ∧ w' = w.alloc (.cells #[.int .i64 x, .int .i64 y, .int .i64 z] 40) := by
  go_enter Tryd.func33, Tryd.ntmps33
  go_wp2
  go_ret
  exact ⟨rfl, rfl⟩

theorem pastEnd_any (a n : Int) (w : World) :
    Calls Tryd.prog 42 #[.int .i64 a, .int .i64 n] w fun e w' => e = .returned (.func (.func 54) #[] #[.pointer (some ⟨w.heap.size + 1, 0, none⟩), .pointer (some ⟨w.heap.size, 0, none⟩)]) ∧ w' = (w.alloc (.cells #[.int .i64 a] 3)).alloc (.cells #[.int .i64 n] 3) := by
  go_enter Tryd.func42, Tryd.ntmps42
  go_wp2
  go_ret
  exact ⟨rfl, rfl⟩

def codeB (c : Bool) (j : Nat) : Nat := if c then 0 else j
theorem errV1 (c : Bool) : unlessV c (.iface 75 (.pointer (some a0))) = errV a0 a2 a3 (codeB c 1) := by cases c <;> rfl
theorem errV2 (c : Bool) : unlessV c (.iface 75 (.pointer (some a2))) = errV a0 a2 a3 (codeB c 2) := by cases c <;> rfl
theorem errV3 (c : Bool) : unlessV c (.iface 75 (.pointer (some a3))) = errV a0 a2 a3 (codeB c 3) := by cases c <;> rfl
theorem k_le (c : Bool) (j : Nat) (h : j ≤ 3) : codeB c j ≤ 3 := by cases c <;> simp [codeB, h]


set_option maxHeartbeats 1000000 in
theorem noAddress_asks (a : Int) (w : World) (hG : G a0 a2 a3 w) (b : Nat) (hb : b < w.heap.size) (hc : w.cell? ⟨b, 0, none⟩ = some (.int .i64 a)) :
    Asks a0 a2 a3 w (.func (.func 45) #[] #[.pointer (some ⟨b, 0, none⟩)]) (codeB (decide (0 ≤ a) && decide (a < 131072)) 1) := by
  refine ⟨_, _, rfl, k_le _ _ (by decide), enters_of Tryd.func45 (by kernel_rfl) rfl, fun W hW => ?_⟩
  have g0 := (hG.ext hW).c0
  rw [← errV1 (a0 := a0) (a2 := a2) (a3 := a3)]
  have c := (extAt hW b 0 hb).trans hc
  clear hc hb hG hW
  go_enter Tryd.func45, Tryd.ntmps45
  go_wp2
  go_quiet ((first | (go_at_call 16; exact qs (right_any _ _)) | (go_at_call 46; exact qs (unless_any _ _ _))))
  go_wp2
  go_ret
  exact ⟨rfl, ext_drewN _ _⟩

set_option maxHeartbeats 1000000 in
theorem noGranule_asks (a : Int) (w : World) (hG : G a0 a2 a3 w) (b : Nat) (hb : b < w.heap.size) (hc : w.cell? ⟨b, 0, none⟩ = some (.int .i64 a)) :
    Asks a0 a2 a3 w (.func (.func 51) #[] #[.pointer (some ⟨b, 0, none⟩)]) (codeB (a.tmod 8 == 0) 1) := by
  refine ⟨_, _, rfl, k_le _ _ (by decide), enters_of Tryd.func51 (by kernel_rfl) rfl, fun W hW => ?_⟩
  have g0 := (hG.ext hW).c0
  rw [← errV1 (a0 := a0) (a2 := a2) (a3 := a3)]
  have c := (extAt hW b 0 hb).trans hc
  clear hc hb hG hW
  go_enter Tryd.func51, Tryd.ntmps51
  go_wp2_with (go_at_call 46; refine (unless_any _ _ _).mono ?_; rintro e w' ⟨rfl, rfl⟩)
  go_ret
  exact ⟨rfl, Ext.refl _⟩

set_option maxHeartbeats 1000000 in
theorem noBytes_asks (n : Int) (w : World) (hG : G a0 a2 a3 w) (b : Nat) (hb : b < w.heap.size) (hc : w.cell? ⟨b, 0, none⟩ = some (.int .i64 n)) :
    Asks a0 a2 a3 w (.func (.func 53) #[] #[.pointer (some ⟨b, 0, none⟩)]) (codeB (decide (1 ≤ n)) 1) := by
  refine ⟨_, _, rfl, k_le _ _ (by decide), enters_of Tryd.func53 (by kernel_rfl) rfl, fun W hW => ?_⟩
  have g0 := (hG.ext hW).c0
  rw [← errV1 (a0 := a0) (a2 := a2) (a3 := a3)]
  have c := (extAt hW b 0 hb).trans hc
  clear hc hb hG hW
  go_enter Tryd.func53, Tryd.ntmps53
  go_wp2_with (go_at_call 46; refine (unless_any _ _ _).mono ?_; rintro e w' ⟨rfl, rfl⟩)
  go_ret
  exact ⟨rfl, Ext.refl _⟩

set_option maxHeartbeats 1000000 in
theorem noRef_asks (r : Int) (w : World) (hG : G a0 a2 a3 w) (b : Nat) (hb : b < w.heap.size) (hc : w.cell? ⟨b, 0, none⟩ = some (.int .i64 r)) :
    Asks a0 a2 a3 w (.func (.func 52) #[] #[.pointer (some ⟨b, 0, none⟩)]) (codeB (decide (1 ≤ r) && decide (r ≤ 16384)) 3) := by
  refine ⟨_, _, rfl, k_le _ _ (by decide), enters_of Tryd.func52 (by kernel_rfl) rfl, fun W hW => ?_⟩
  have g0 := (hG.ext hW).c3
  rw [← errV3 (a0 := a0) (a2 := a2) (a3 := a3)]
  have c := (extAt hW b 0 hb).trans hc
  clear hc hb hG hW
  have E : ∀ q, q = (decide (1 ≤ r) && decide (r ≤ 16384)) → Calls Tryd.prog 52 #[.pointer (some ⟨b, 0, none⟩)] W fun e w' => e = .returned (unlessV q (.iface 75 (.pointer (some a3)))) ∧ Ext W w' := by
    intro q hq
    by_cases h1 : 1 ≤ r
    · by_cases h2 : r ≤ 16384
      · obtain rfl : q = true := by rw [hq]; simp [h1, h2]
        clear hq
        go_enter Tryd.func52, Tryd.ntmps52
        go_wp2_with (go_at_call 46; refine (unless_any _ _ _).mono ?_; rintro e w' ⟨rfl, rfl⟩)
        go_ret
        exact ⟨rfl, Ext.refl _⟩
      · obtain rfl : q = false := by rw [hq]; simp [h2]
        clear hq
        go_enter Tryd.func52, Tryd.ntmps52
        go_wp2_with (go_at_call 46; refine (unless_any _ _ _).mono ?_; rintro e w' ⟨rfl, rfl⟩)
        go_ret
        exact ⟨rfl, Ext.refl _⟩
    · obtain rfl : q = false := by rw [hq]; simp [h1]
      clear hq
      go_enter Tryd.func52, Tryd.ntmps52
      go_wp2_with (go_at_call 46; refine (unless_any _ _ _).mono ?_; rintro e w' ⟨rfl, rfl⟩)
      go_ret
      exact ⟨rfl, Ext.refl _⟩
  exact E _ rfl

set_option maxHeartbeats 1000000 in
theorem pastEnd_asks (a n : Int) (w : World) (hG : G a0 a2 a3 w) (b : Nat) (hb : b + 1 < w.heap.size) (hc : w.cell? ⟨b, 0, none⟩ = some (.int .i64 a)) (hd : w.cell? ⟨b + 1, 0, none⟩ = some (.int .i64 n)) :
    Asks a0 a2 a3 w (.func (.func 54) #[] #[.pointer (some ⟨b + 1, 0, none⟩), .pointer (some ⟨b, 0, none⟩)]) (codeB (decide (n ≤ wrap64 (131072 - a))) 1) := by
  refine ⟨_, _, rfl, k_le _ _ (by decide), enters_of Tryd.func54 (by kernel_rfl) rfl, fun W hW => ?_⟩
  have g0 := (hG.ext hW).c0
  rw [← errV1 (a0 := a0) (a2 := a2) (a3 := a3)]
  have c := (extAt hW b 0 (by omega)).trans hc
  have d := (extAt hW (b + 1) 0 hb).trans hd
  clear hc hd hb hG hW
  go_enter Tryd.func54, Tryd.ntmps54
  go_wp2_with (go_at_call 46; refine (unless_any _ _ _).mono ?_; rintro e w' ⟨rfl, rfl⟩)
  go_ret
  exact ⟨rfl, Ext.refl _⟩

set_option maxHeartbeats 1000000 in
theorem noSize_asks (n : Int) (w : World) (hG : G a0 a2 a3 w) (b : Nat) (hb : b < w.heap.size) (hc : w.cell? ⟨b, 0, none⟩ = some (.int .i64 n)) :
    Asks a0 a2 a3 w (.func (.func 49) #[] #[.pointer (some ⟨b, 0, none⟩)]) (codeB (cls n != 0) 2) := by
  refine ⟨_, _, rfl, k_le _ _ (by decide), enters_of Tryd.func49 (by kernel_rfl) rfl, fun W hW => ?_⟩
  have hg := hG.ext hW
  have g0 := hg.c2
  have gs := hg.sz
  have hL := Lib.hid (fun W' => classOf_any (a0 := a0) (a2 := a2) (a3 := a3) n W')
  have H := Lib.hid hg
  rw [← errV2 (a0 := a0) (a2 := a2) (a3 := a3)]
  have c := (extAt hW b 0 hb).trans hc
  clear hc hb hG hW hg
  go_enter Tryd.func49, Tryd.ntmps49
  go_wp2
  go_region_with (first | (go_at_call 38; go_loud (refine (hL.out _ ?_).mono ?_; exact H.out.ext (Ext.refl _).drew; rintro e w1 ⟨rfl, h1⟩; have g1 := (extAt h1 2 0 (by show 2 < W.heap.size; omega)).trans g0)) | (go_at_call 46; refine (unless_any _ _ _).mono ?_; rintro e w2 ⟨rfl, rfl⟩))
  all_goals
    go_wp2
    go_ret
    exact ⟨rfl, (Ext.refl W).drew.trans h1⟩

theorem psum_in (x y z : Int) (hx : 0 ≤ x ∧ x < 32) (hy : 0 ≤ y ∧ y < 32) (hz : 0 ≤ z ∧ z < 128) : psum x y z = x * 4096 + y * 128 + z := by
  unfold psum wrap64; omega
/-- is it a place, as the program asks it? -/
def placeB (x y z : Int) : Bool := decide (0 ≤ x) && decide (x < 32) && decide (0 ≤ y) && decide (y < 32) && decide (0 ≤ z) && decide (z < 128)

end
end Go.Proofs.YthaddecdgihocaaDoor
