/- Slices of one-cell values that read as lists. -/
import Derived.Test.YtfpefffgegphnaaDoorRF
import Derived.Below
namespace Go.Proofs.YtfpefffgegphnaaDoor
open Go Go.RowKit

theorem block_of_add (a : Addr) (n : Nat) : (a.add n).block = a.block := by unfold Addr.add; split <;> rfl
theorem add_of_add (a : Addr) (i j : Nat) : (a.add i).add j = a.add (i + j) := by
  unfold Addr.add
  by_cases hi : i = 0 <;> by_cases hj : j = 0 <;> simp [hi, hj, Nat.add_assoc]
/-- The slice (A, n) reads as the values f 0 .. f (n - 1). -/
def Rd (W : World) (A : Option Addr) (n : Nat) (f : Nat → Value) : Prop :=
  0 < n → ∃ ad, A = some ad ∧ ad.block < W.heap.size ∧ ∀ j, j < n → W.cell? (ad.add j) = some (f j)
theorem Rd.ext {W W' : World} {A : Option Addr} {n : Nat} {f : Nat → Value} (h : Rd W A n f) (k : Ext W W') : Rd W' A n f := fun hn => by
  obtain ⟨ad, e, hb, hc⟩ := h hn
  exact ⟨ad, e, Nat.lt_of_lt_of_le hb k.size, fun j hj => (k.cell (p := ad.add j) (by rw [block_of_add]; exact hb)).trans (hc j hj)⟩
/-- .. kept by whatever leaves the blocks below S. -/
theorem Rd.keep {W W' : World} {A : Option Addr} {n : Nat} {f : Nat → Value} (h : Rd W A n f) (hs : W.heap.size ≤ W'.heap.size) (hk : ∀ ad, A = some ad → ad.block < W.heap.size → W'.heap[ad.block]? = W.heap[ad.block]?) : Rd W' A n f := fun hn => by
  obtain ⟨ad, e, hb, hc⟩ := h hn
  exact ⟨ad, e, Nat.lt_of_lt_of_le hb hs, fun j hj => (World.cell?_of_block (w := W) (by rw [block_of_add]; exact hk ad e hb)).trans (hc j hj)⟩
theorem Rd.take {W : World} {A : Option Addr} {n m : Nat} {f : Nat → Value} (h : Rd W A n f) (hm : m ≤ n) : Rd W A m f := fun hn => by
  obtain ⟨ad, e, hb, hc⟩ := h (by omega)
  exact ⟨ad, e, hb, fun j hj => hc j (by omega)⟩
theorem Rd.blk {W : World} {B : Nat} {cs : Array Value} {t : TypeId} (h : Blk W B cs t) (n : Nat) (f : Nat → Value) (hf : ∀ j, j < n → cs[j]? = some (f j)) : Rd W (some ⟨B, 0, none⟩) n f := fun _ =>
  ⟨_, rfl, h.lt, fun j hj => by
    have e : (⟨B, 0, none⟩ : Addr).add j = ⟨B, j, none⟩ := by unfold Addr.add; by_cases h0 : j = 0 <;> simp [h0]
    rw [e, h.cell, hf j hj]⟩
theorem ext1 (w : World) (o : Obj) : Ext w (w.alloc o) := (Ext.refl w).alloc (Nat.le_refl _) _
theorem ext2 (w : World) (o o' : Obj) : Ext w ((w.alloc o).alloc o') := (ext1 w o).alloc (by simp) _
theorem ext3 (w : World) (o o' o2 : Obj) : Ext w (((w.alloc o).alloc o').alloc o2) := (ext2 w o o').alloc (by simp; omega) _
/-- A cell of a block that was made at w, in a later world. -/
theorem at_new {w W : World} {cs : Array Value} {t : TypeId} (h : Ext (w.alloc (.cells cs t)) W) : Blk W w.heap.size cs t := (Blk.new w cs t).ext h
theorem at_new2 {w W : World} {o : Obj} {cs : Array Value} {t : TypeId} (h : Ext ((w.alloc o).alloc (.cells cs t)) W) : Blk W (w.heap.size + 1) cs t := by
  have := at_new (w := w.alloc o) h
  rwa [World.size_alloc] at this
theorem at_old {w W : World} {o : Obj} {cs : Array Value} {t : TypeId} (h : Ext ((w.alloc (.cells cs t)).alloc o) W) : Blk W w.heap.size cs t := ((Blk.new w cs t).alloc o).ext h
/-- A result of two cells, stored. -/
theorem res_store {w w2 : World} {R : Nat} {x y u v : Value} {t : TypeId} (hB : Blk w2 R #[x, y] t) (hE : Ext w w2) (hR : w.heap.size ≤ R) :
    ((w2.setCell ⟨R, 0, none⟩ u).setCell ⟨R, 1, none⟩ v).cell? ⟨R, 0, none⟩ = some u ∧ ((w2.setCell ⟨R, 0, none⟩ u).setCell ⟨R, 1, none⟩ v).cell? ⟨R, 1, none⟩ = some v ∧ Ext w ((w2.setCell ⟨R, 0, none⟩ u).setCell ⟨R, 1, none⟩ v) := by
  have h3 := (hB.set 0 u).set 1 v
  refine ⟨by rw [h3.cell]; rfl, by rw [h3.cell]; rfl, (hE.setCell (p := ⟨R, 0, none⟩) hR _).setCell (p := ⟨R, 1, none⟩) hR _⟩
end Go.Proofs.YtfpefffgegphnaaDoor
