/- What the package variables of addr hold, in every later world. -/
import Derived.Test.YthaddecdgihocaaDoorIs
import Derived.Test.YthaddecdgihocaaDoorRF
import Derived.Lib.Hide
namespace Go.Proofs.YthaddecdgihocaaDoor
open Go.RowKit

structure G (a0 a2 a3 : Addr) (w : World) : Prop where
  sz : 5 ≤ w.heap.size
  c0 : w.cell? ⟨0, 0, none⟩ = some (.iface 75 (.pointer (some a0)))
  c2 : w.cell? ⟨2, 0, none⟩ = some (.iface 75 (.pointer (some a2)))
  c3 : w.cell? ⟨3, 0, none⟩ = some (.iface 75 (.pointer (some a3)))
  n02 : a0 ≠ a2
  n03 : a0 ≠ a3
  n23 : a2 ≠ a3
  s0 : a0.block < w.heap.size
  s2 : a2.block < w.heap.size
  s3 : a3.block < w.heap.size
  r0 : ∃ ca ta, w.heap[a0.block]? = some (.cells ca ta (0, 0))
  r2 : ∃ ca ta, w.heap[a2.block]? = some (.cells ca ta (0, 0))
  r3 : ∃ ca ta, w.heap[a3.block]? = some (.cells ca ta (0, 0))
  u0 : w.cell? ⟨1, 0, none⟩ = some (.int .i64 4096)
  u1 : w.cell? ⟨1, 1, none⟩ = some (.int .i64 128)
  u2 : w.cell? ⟨1, 2, none⟩ = some (.int .i64 1)
  k0 : w.cell? ⟨4, 0, none⟩ = some (.int .i64 1)
  k1 : w.cell? ⟨4, 1, none⟩ = some (.int .i64 1)
  k2 : w.cell? ⟨4, 2, none⟩ = some (.int .i64 128)
  k3 : w.cell? ⟨4, 3, none⟩ = some (.int .i64 2)
  k4 : w.cell? ⟨4, 4, none⟩ = some (.int .i64 129)
  k5 : w.cell? ⟨4, 5, none⟩ = some (.int .i64 2048)
  k6 : w.cell? ⟨4, 6, none⟩ = some (.int .i64 3)
  k7 : w.cell? ⟨4, 7, none⟩ = some (.int .i64 2049)
  k8 : w.cell? ⟨4, 8, none⟩ = some (.int .i64 131072)

theorem G.ext {a0 a2 a3 : Addr} {w w' : World} (h : G a0 a2 a3 w) (k : Ext w w') : G a0 a2 a3 w' := by
  have hs := h.sz
  have e : ∀ b o, b < 5 → w'.cell? ⟨b, o, none⟩ = w.cell? ⟨b, o, none⟩ := fun b o hb => k.cell (p := ⟨b, o, none⟩) (by show b < w.heap.size; omega)
  have sz := k.size
  constructor
  · omega
  · rw [e _ _ (by decide)]; exact h.c0
  · rw [e _ _ (by decide)]; exact h.c2
  · rw [e _ _ (by decide)]; exact h.c3
  · exact h.n02
  · exact h.n03
  · exact h.n23
  · have := h.s0; omega
  · have := h.s2; omega
  · have := h.s3; omega
  · rw [k.block _ h.s0]; exact h.r0
  · rw [k.block _ h.s2]; exact h.r2
  · rw [k.block _ h.s3]; exact h.r3
  · rw [e _ _ (by decide)]; exact h.u0
  · rw [e _ _ (by decide)]; exact h.u1
  · rw [e _ _ (by decide)]; exact h.u2
  · rw [e _ _ (by decide)]; exact h.k0
  · rw [e _ _ (by decide)]; exact h.k1
  · rw [e _ _ (by decide)]; exact h.k2
  · rw [e _ _ (by decide)]; exact h.k3
  · rw [e _ _ (by decide)]; exact h.k4
  · rw [e _ _ (by decide)]; exact h.k5
  · rw [e _ _ (by decide)]; exact h.k6
  · rw [e _ _ (by decide)]; exact h.k7
  · rw [e _ _ (by decide)]; exact h.k8

/-- The error values, by their codes: nil, errAddr, errSize, errRef. -/
def errV (a0 a2 a3 : Addr) : Nat → Value
  | 0 => .nilIface
  | 1 => .iface 75 (.pointer (some a0))
  | 2 => .iface 75 (.pointer (some a2))
  | _ => .iface 75 (.pointer (some a3))
def num : Nat → Int
  | 0 => 0
  | 1 => 10
  | 2 => 11
  | _ => 12

section
variable {a0 a2 a3 : Addr}
/-- errors.Is by codes. -/
theorem is_any (k j : Nat) (hk : k ≤ 3) (h1 : 1 ≤ j) (h3 : j ≤ 3) (w : World) (hG : G a0 a2 a3 w) :
    Calls Tryd.prog 55 #[errV a0 a2 a3 k, errV a0 a2 a3 j] w fun e w' => e = .returned (.bool (k == j)) ∧ w = w' := by
  obtain ⟨ca0, ta0, r0⟩ := hG.r0
  obtain ⟨ca2, ta2, r2⟩ := hG.r2
  obtain ⟨ca3, ta3, r3⟩ := hG.r3
  have n02 := hG.n02
  have n03 := hG.n03
  have n23 := hG.n23
  match k, j, hk, h1, h3 with
  | 0, 1, _, _, _ => exact is_nil _ w
  | 0, 2, _, _, _ => exact is_nil _ w
  | 0, 3, _, _, _ => exact is_nil _ w
  | 1, 1, _, _, _ => exact is_same _ w
  | 2, 2, _, _, _ => exact is_same _ w
  | 3, 3, _, _, _ => exact is_same _ w
  | 1, 2, _, _, _ => exact is_other _ _ _ _ _ _ w n02 r0 r2
  | 1, 3, _, _, _ => exact is_other _ _ _ _ _ _ w n03 r0 r3
  | 2, 3, _, _, _ => exact is_other _ _ _ _ _ _ w n23 r2 r3
  | 2, 1, _, _, _ => exact is_other _ _ _ _ _ _ w n02.symm r2 r0
  | 3, 1, _, _, _ => exact is_other _ _ _ _ _ _ w n03.symm r3 r0
  | 3, 2, _, _, _ => exact is_other _ _ _ _ _ _ w n23.symm r3 r2
end
end Go.Proofs.YthaddecdgihocaaDoor
