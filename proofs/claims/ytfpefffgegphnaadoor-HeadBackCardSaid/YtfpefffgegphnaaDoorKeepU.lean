/- KeepU, one behind the other (as in L04's XPtrs). -/
import Derived.Test.YtfpefffgegphnaaDoorRU
namespace Go.Proofs.YtfpefffgegphnaaDoor
open Go.RowKit Go
theorem KeepU.trans {D u u' : Nat → Prop} {S : Nat} {A B C : World} (h : KeepU D u S A B) (k : KeepU D u' S B C) (hu : ∀ b, u' b → u b ∨ A.heap.size ≤ b) : KeepU D u S A C :=
  ⟨Nat.le_trans h.size k.size, fun i hi hd => (k.same i (Nat.lt_of_lt_of_le hi h.size) (hd.imp id (fun ⟨a, b⟩ => ⟨a, fun h' => by rcases hu i h' with h' | h'; exact b h'; omega⟩))).trans (h.same i hi hd)⟩
theorem KeepU.blk {D u : Nat → Prop} {S : Nat} {A B : World} (h : KeepU D u S A B) {b : Nat} {cs : Array Value} {t : TypeId} (hb : Blk A b cs t) (hd : D b ∨ (S ≤ b ∧ ¬ u b)) : Blk B b cs t := (h.same b hb.lt hd).trans hb
theorem KeepU.cell {D u : Nat → Prop} {S : Nat} {A B : World} (h : KeepU D u S A B) {p : Addr} (hp : p.block < A.heap.size) (hd : D p.block) : B.cell? p = A.cell? p := World.cell?_of_block (w := A) (h.same p.block hp (.inl hd))
theorem KeepU.up {D u : Nat → Prop} {S S' : Nat} {A B : World} (h : KeepU D u S A B) (hS : S ≤ S') : KeepU D u S' A B := ⟨h.size, fun k hk hd => h.same k hk (hd.imp id (fun ⟨a, b⟩ => ⟨by omega, b⟩))⟩
theorem KeepU.own {D u u' : Nat → Prop} {S : Nat} {A B : World} (h : KeepU D u S A B) (hu : ∀ b, u b → u' b) : KeepU D u' S A B := ⟨h.size, fun k hk hd => h.same k hk (hd.imp id (fun ⟨a, b⟩ => ⟨a, fun x => b (hu _ x)⟩))⟩
theorem KeepU.under {D u : Nat → Prop} {S : Nat} {A B C : World} (h : KeepU D u S A B) (k : Below A.heap.size B C) : KeepU D u S A C := ⟨Nat.le_trans h.size k.size, fun i hi hd => (k.block i hi).trans (h.same i hi hd)⟩
theorem KeepU.setLow {D u : Nat → Prop} {S : Nat} {A B : World} (h : KeepU D u S A B) (p : Addr) (v : Value) (hp : p.block < S) (hd : ¬ D p.block) : KeepU D u S A (B.setCell p v) :=
  ⟨by have := h.size; simpa [World.setCell] using this, fun i hi hk => by
    rw [Below.heap_setCell _ _ _ _ (by rintro rfl; rcases hk with hk | hk; exact hd hk; omega)]
    exact h.same i hi hk⟩
theorem KeepU.drew {D u : Nat → Prop} {S : Nat} {A B : World} (h : KeepU D u S A B) : KeepU D u S A B.drew := ⟨h.size, h.same⟩
variable {P : Program}
/-- Behind the assignment, where it made blocks. -/
theorem to_bodyU1 {D u : Nat → Prop} {S l : Nat} {W W1 : World} {F : Fence} {n : Nat} {c : Go.Code} {I : Nat → (Nat → Prop) → World → Prop} {Ix : Go.Code → Nat → (Nat → Prop) → World → Prop} {k : Nat} {a : Act} (hS : S ≤ l) (hul : ¬ u l) (hr : ∃ r, W.heap[l]? = some (.loop r)) (hk : KeepU D u S W W1)
    (h : ∀ W', Off l W1 W' → Below S W1 W' → (∀ b, u b → W'.heap[b]? = W1.heap[b]?) → l < W.heap.size → (∃ r, W'.heap[l]? = some (.loop r)) → c.wpIn F n P (rpostU D u S I Ix k W') a W') :
    KeepU D u S W W1 ∧ ∀ r, c.wpIn F n P (rpostU D u S I Ix k (W1.putObj l (.loop r))) a (W1.putObj l (.loop r)) := by
  obtain ⟨r1, h1⟩ := hr
  have hlt := (Array.getElem?_eq_some_iff.1 h1).1
  have hs := hk.size
  exact ⟨hk, fun r => h _ ⟨by simp, fun j hj => World.putObj_heap_other hj⟩ (below_putObj _ _ _ _ hS) (fun b hb => World.putObj_heap_other (fun e => hul (e ▸ hb))) hlt ⟨_, World.putObj_heap_same (by omega)⟩⟩
end Go.Proofs.YtfpefffgegphnaaDoor
