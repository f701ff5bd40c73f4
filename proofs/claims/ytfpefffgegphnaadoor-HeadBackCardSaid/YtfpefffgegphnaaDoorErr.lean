/- Sentinel errors of a package, by their codes: 0 is nil, i + 1 the i-th of a list of package variables; errors.Is over codes. -/
import Derived.Test.YtfpefffgegphnaaDoorIs
import Derived.Test.YtfpefffgegphnaaDoorRF
import Derived.Lib.Hide
namespace Go.Proofs.YtfpefffgegphnaaDoor
open Go.RowKit

structure Errs (es : List Nat) (a : Nat → Addr) (w : World) : Prop where
  sz : ∀ i, i < es.length → es.getD i 0 < w.heap.size
  c : ∀ i, i < es.length → w.cell? ⟨es.getD i 0, 0, none⟩ = some (.iface 124 (.pointer (some (a i))))
  ne : ∀ i j, i < es.length → j < es.length → i ≠ j → a i ≠ a j
  r : ∀ i, i < es.length → ∃ ca ta, w.heap[(a i).block]? = some (.cells ca ta (0, 0))
theorem Errs.ext {es : List Nat} {a : Nat → Addr} {w w' : World} (h : Errs es a w) (k : Ext w w') : Errs es a w' :=
  ⟨fun i hi => Nat.lt_of_lt_of_le (h.sz i hi) k.size, fun i hi => (k.cell (p := ⟨_, 0, none⟩) (h.sz i hi)).trans (h.c i hi), h.ne, fun i hi => by
    obtain ⟨ca, ta, hr⟩ := h.r i hi
    exact ⟨ca, ta, (k.block _ (Array.getElem?_eq_some_iff.1 hr).1).trans hr⟩⟩
def errV (a : Nat → Addr) : Nat → Value
  | 0 => .nilIface
  | i + 1 => .iface 124 (.pointer (some (a i)))
@[go_sem] theorem errV_cells (a : Nat → Addr) (k : Nat) : (errV a k).cells = #[errV a k] := by cases k <;> rfl
@[go_sem] theorem errV_size (a : Nat → Addr) (k : Nat) : (errV a k).cells.size = 1 := by cases k <;> rfl
/-- errors.Is over codes. -/
theorem is_any {es : List Nat} {a : Nat → Addr} (k j : Nat) (hk : k ≤ es.length) (hj : j < es.length) (w : World) (hG : Errs es a w) :
    Calls Tryd.prog 46 #[errV a k, .iface 124 (.pointer (some (a j)))] w fun e w' => e = .returned (.bool (k == j + 1)) ∧ w = w' := by
  rcases k with _ | k
  · exact is_nil _ w
  · by_cases h : k = j
    · subst h
      simp only [BEq.rfl]
      exact is_same _ w
    · obtain ⟨ca, ta, hr⟩ := hG.r k (by omega)
      obtain ⟨cb, tb, hs⟩ := hG.r j hj
      rw [show (k + 1 == j + 1) = false by simp [h]]
      exact is_other _ _ _ _ _ _ w (hG.ne k j (by omega) hj h) hr hs
def firstK : List Nat → Nat
  | [] => 0
  | 0 :: r => firstK r
  | k :: _ => k
theorem firstK_le {n : Nat} : ∀ (l : List Nat), (∀ k ∈ l, k ≤ n) → firstK l ≤ n
  | [], _ => Nat.zero_le _
  | 0 :: r, h => firstK_le r (fun k hk => h k (by simp [hk]))
  | (k+1) :: r, h => h (k+1) (by simp)
def codeB (b : Bool) (k : Nat) : Nat := if b then 0 else k
def unlessV (b : Bool) (v : Value) : Value := if b then .nilIface else v
theorem unless_code (a : Nat → Addr) (b : Bool) (j : Nat) : unlessV b (.iface 124 (.pointer (some (a j)))) = errV a (codeB b (j + 1)) := by cases b <;> rfl
theorem ret_val {a b : Value} (h : a = b) : Ending.returned a = .returned b := by rw [h]
theorem ret_int {k : IntKind} {a b : Int} (h : a = b) : Ending.returned (.int k a) = .returned (.int k b) := by rw [h]
theorem ret_bool {a b : Bool} (h : a = b) : Ending.returned (.bool a) = .returned (.bool b) := by rw [h]
theorem ext_drewN (w : World) (n : Nat) : Ext w (w.drewN n) := by
  induction n with
  | zero => exact Ext.refl _
  | succ n ih => exact ih.drew
end Go.Proofs.YtfpefffgegphnaaDoor
