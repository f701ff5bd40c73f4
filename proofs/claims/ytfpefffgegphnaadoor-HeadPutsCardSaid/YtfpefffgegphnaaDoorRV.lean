/- Iterators that are method values: a function that is bound to a receiver, as XRU. -/
import Derived.Test.YtfpefffgegphnaaDoorRU
namespace Go.Proofs.YtfpefffgegphnaaDoor
open Go Go.RowKit
attribute [local go_sem] Oper.semAt_some
section
variable {P : Program}
/-- The function gf, bound to pre, over the captured lb, yields xs one by one. -/
def IterV (P : Program) (D : Nat → Prop) (gf : Nat) (pre lb : Array Value) (xs : List (Array Value)) (w : World) : Prop :=
  ∀ (l : Nat) (J Jx : Nat → (Nat → Prop) → World → Prop) (u0 : Nat → Prop) (W : World), Keep D w.heap.size w W →
    (∀ k u A B, J k u A → Below W.heap.size A B → (∀ b, u b → B.heap[b]? = A.heap[b]?) → J k u B) →
    (∀ k u A B, Jx k u A → Below W.heap.size A B → (∀ b, u b → B.heap[b]? = A.heap[b]?) → Jx k u B) →
    (∀ k u A, J k u A → ∀ b, u b → b < A.heap.size) →
    (∀ k u A, Jx k u A → ∀ b, u b → b < A.heap.size) →
    (∀ k u x W1, xs[k]? = some x → J k u W1 → YieldAt Fence.wide 0 P l x W1 fun e W' => ∃ u', (∀ b, u' b → u b ∨ W1.heap.size ≤ b) ∧
      ((e = .returned (.bool true) ∧ J (k + 1) u' W' ∧ KeepU D u W.heap.size W1 W') ∨ (e = .returned (.bool false) ∧ Jx (k + 1) u' W' ∧ KeepU D u W.heap.size W1 W'))) →
    J 0 u0 W →
    CallsIn Fence.wide 0 P gf (pre ++ #[.func (.yield l) #[] #[]] ++ lb) W fun e W' => (∃ v, e = .returned v) ∧ ((∃ u, J xs.length u W') ∨ ∃ k u, k ≤ xs.length ∧ Jx k u W')

/-- 'for .. := range g { body }', outermost in its function. -/
theorem range_outerInV {D : Nat → Prop} {gf : Nat} {pre lb : Array Value} {xs : List (Array Value)} {w0 w : World} {g : Operand} {ps : Array Tmp} {assign body : Code} {Q : Exit → Act → World → Prop} {a : Act}
    (hg : a.eval g = .func (.func gf) pre lb) (eg : ∀ args w, (callFunc gf args).run P w = .ok (.enter gf args) w)
    (hit : IterV P D gf pre lb xs w0) (hD : ∀ k, D k → k < w.heap.size) (hb0 : Keep D w0.heap.size w0 w) (hps : ∀ x ∈ xs, x.size = ps.size)
    (I : Nat → (Nat → Prop) → World → Prop) (Ix : Code → Nat → (Nat → Prop) → World → Prop)
    (hI : ∀ k u A B, I k u A → Below w.heap.size A B → (∀ b, u b → B.heap[b]? = A.heap[b]?) → I k u B) (hIx : ∀ c k u A B, Ix c k u A → Below w.heap.size A B → (∀ b, u b → B.heap[b]? = A.heap[b]?) → Ix c k u B)
    (hIb : ∀ k u A, I k u A → ∀ b, u b → b < A.heap.size) (hIxb : ∀ c k u A, Ix c k u A → ∀ b, u b → b < A.heap.size) {u0 : Nat → Prop} (h0 : I 0 u0 w)
    (hround : ∀ l k u x W, xs[k]? = some x → w.heap.size ≤ l → (∃ r, W.heap[l]? = some (.loop r)) → ¬ u l → I k u W →
      assign.wpIn (Fence.wide.inRound l) 0 P (Exit.then (fun a' W1 => KeepU D u w.heap.size W W1 ∧ ∀ r, body.wpIn (Fence.wide.inRound l) 0 P (rpostU D u w.heap.size I Ix k (W1.putObj l (.loop r))) a' (W1.putObj l (.loop r))) (fun _ _ _ => False))
        { tmps := (ps.zip x).foldl (fun t (p, v) => t.setIfInBounds p v) a.tmps, defers := [] } W)
    (hdone : ∀ K u W, w.heap.size ≤ K → ¬ u K → I xs.length u W → W.heap[K]? = some (.deferred (some [])) → Q .normal { a with defers := { target := .collected K, args := #[] } :: a.defers } W)
    (hstop : ∀ K c k u W, w.heap.size ≤ K → ¬ u K → k ≤ xs.length → Ix c k u W → W.heap[K]? = some (.deferred (some [])) → c.wpIn Fence.wide 0 P Q { a with defers := { target := .collected K, args := #[] } :: a.defers } W) :
    (Code.rangeFunc g ps assign body).wpIn Fence.wide 0 P Q a w := by
  refine wpIn_rangeFunc ?_
  intro fn hfn
  rw [show Fence.wide.round = none from rfl]
  obtain ⟨rec, hrec⟩ : ∃ rec : LoopState → Option Code → Loop, rec = fun st pe => { state := st, pending := pe, fn, tmps := a.tmps, params := ps, assign, body, defers := w.heap.size } := ⟨_, rfl⟩
  obtain ⟨W1, hW1⟩ : ∃ W1, (w.alloc (.deferred (some []))).alloc (.loop (rec .ready none)) = W1 := ⟨_, rfl⟩
  have hs1 : W1.heap.size = w.heap.size + 2 := by rw [← hW1]; simp
  have hL1 : W1.heap[w.heap.size + 1]? = some (.loop (rec .ready none)) := by
    rw [← hW1]; have := World.alloc_heap_new (w.alloc (.deferred (some []))) (.loop (rec .ready none)); rwa [World.size_alloc] at this
  have hK1 : W1.heap[w.heap.size]? = some (.deferred (some [])) := by
    rw [← hW1]; exact (Below.heap_alloc _ _ _ (by simp)).trans (World.alloc_heap_new w _)
  have hE1 : Ext w W1 := by rw [← hW1]; exact ((Below.refl _ w).alloc (Nat.le_refl _) _).alloc (by simp) _
  have hDl : ¬ D (w.heap.size + 1) := fun h => by have := hD _ h; omega
  refine ⟨w.heap.size + 1, [{ target := .collected w.heap.size, args := #[] }], W1, { target := .fn (.func gf) lb, args := pre ++ #[.func (.yield (w.heap.size + 1)) #[] #[]] }, W1, gf,
    pre ++ #[.func (.yield (w.heap.size + 1)) #[] #[]] ++ lb, W1, ?_, ?_, ?_, ?_, (fun h => by cases h), ?_⟩
  · rw [← hW1, hrec]; exact run_enterLoop_outer _ _ _ _ _
  · simp only [resolve, hg]
    simp [go_sem]
  · exact fun _ _ => trivial
  · simp [invoke, go_sem, eg]
  · refine (hit (w.heap.size + 1)
      (fun k u W => I k u W ∧ W.heap[w.heap.size + 1]? = some (.loop (rec .ready none)) ∧ W.heap[w.heap.size]? = some (.deferred (some [])) ∧ ¬ u (w.heap.size + 1) ∧ ¬ u w.heap.size)
      (fun k u W => ∃ c, Ix c k u W ∧ W.heap[w.heap.size + 1]? = some (.loop (rec .done (some c))) ∧ W.heap[w.heap.size]? = some (.deferred (some [])) ∧ ¬ u (w.heap.size + 1) ∧ ¬ u w.heap.size)
      u0 W1 (hb0.trans (.of_ext hE1)) ?_ ?_ ?_ ?_ ?_ ⟨hI _ _ _ _ h0 hE1 (fun b hb => hE1.block b (hIb _ _ _ h0 b hb)), hL1, hK1, (fun h => by have := hIb _ _ _ h0 _ h; omega), (fun h => by have := hIb _ _ _ h0 _ h; omega)⟩).mono ?_
    · rintro k u A B ⟨h1, h2, h3, h4, h5⟩ hb hu
      exact ⟨hI _ _ _ _ h1 (hb.mono (by omega)) hu, (hb.block _ (by omega)).trans h2, (hb.block _ (by omega)).trans h3, h4, h5⟩
    · rintro k u A B ⟨c, h1, h2, h3, h4, h5⟩ hb hu
      exact ⟨c, hIx _ _ _ _ _ h1 (hb.mono (by omega)) hu, (hb.block _ (by omega)).trans h2, (hb.block _ (by omega)).trans h3, h4, h5⟩
    · rintro k u A ⟨h1, _⟩; exact hIb _ _ _ h1
    · rintro k u A ⟨c, h1, _⟩; exact hIxb _ _ _ _ h1
    · rintro k u x W hx ⟨hi, hl, hk, hul, huk⟩
      have hlt := (Array.getElem?_eq_some_iff.1 hl).1
      refine YieldAt.mono (yield_of_roundU (S := w.heap.size) (l := w.heap.size + 1) (by omega) hul hI hIx rec hrec k x (hps x (List.mem_of_getElem? hx)) W hl (hround _ k u x W hx (by omega) ⟨_, hl⟩ hul hi)) ?_
      rintro e W' ⟨u', hu', hc, h3, hz⟩
      have n1 : ¬ u' (w.heap.size + 1) := fun h => by rcases hu' _ h with h | h; exact hul h; omega
      have n2 : ¬ u' w.heap.size := fun h => by rcases hu' _ h with h | h; exact huk h; omega
      refine ⟨u', hu', ?_⟩
      rcases hc with ⟨rfl, h1, h2⟩ | ⟨rfl, c, h1, h2⟩
      · exact .inl ⟨rfl, ⟨h1, h2, (h3 _ (by omega) (by omega) (.inr ⟨Nat.le_refl _, huk⟩)).trans hk, n1, n2⟩, yield_keepU hz (by omega) (by omega) h3 hDl⟩
      · exact .inr ⟨rfl, ⟨c, h1, h2, (h3 _ (by omega) (by omega) (.inr ⟨Nat.le_refl _, huk⟩)).trans hk, n1, n2⟩, yield_keepU hz (by omega) (by omega) h3 hDl⟩
    · rintro e W2 ⟨⟨v, rfl⟩, (⟨u, hi, hl, hk, hul, huk⟩ | ⟨k, u, hkl, c, hi, hl, hk, hul, huk⟩)⟩
      · exact ⟨none, _, by have := run_endLoop (P := P) hl (by rw [hrec]; simp); rw [hrec] at this; exact this, hdone _ u _ (Nat.le_refl _) huk (hI _ _ _ _ hi (below_putObj _ _ _ _ (by omega)) (fun b hb => World.putObj_heap_other (by rintro rfl; exact hul hb))) ((World.putObj_heap_other (by omega)).trans hk)⟩
      · exact ⟨some c, _, by have := run_endLoop (P := P) hl (by rw [hrec]; simp); rw [hrec] at this; exact this, hstop _ c k u _ (Nat.le_refl _) huk hkl (hIx _ _ _ _ _ hi (below_putObj _ _ _ _ (by omega)) (fun b hb => World.putObj_heap_other (by rintro rfl; exact hul hb))) ((World.putObj_heap_other (by omega)).trans hk)⟩
/-- The same, in the plain walk. -/
theorem range_outerV {D : Nat → Prop} {gf : Nat} {pre lb : Array Value} {xs : List (Array Value)} {w0 w : World} {g : Operand} {ps : Array Tmp} {assign body : Code} {Q : Exit → Act → World → Prop} {a : Act}
    (hg : a.eval g = .func (.func gf) pre lb) (eg : ∀ args w, (callFunc gf args).run P w = .ok (.enter gf args) w)
    (hit : IterV P D gf pre lb xs w0) (hD : ∀ k, D k → k < w.heap.size) (hb0 : Keep D w0.heap.size w0 w) (hps : ∀ x ∈ xs, x.size = ps.size)
    (I : Nat → (Nat → Prop) → World → Prop) (Ix : Code → Nat → (Nat → Prop) → World → Prop)
    (hI : ∀ k u A B, I k u A → Below w.heap.size A B → (∀ b, u b → B.heap[b]? = A.heap[b]?) → I k u B) (hIx : ∀ c k u A B, Ix c k u A → Below w.heap.size A B → (∀ b, u b → B.heap[b]? = A.heap[b]?) → Ix c k u B)
    (hIb : ∀ k u A, I k u A → ∀ b, u b → b < A.heap.size) (hIxb : ∀ c k u A, Ix c k u A → ∀ b, u b → b < A.heap.size) {u0 : Nat → Prop} (h0 : I 0 u0 w)
    (hround : ∀ l k u x W, xs[k]? = some x → w.heap.size ≤ l → (∃ r, W.heap[l]? = some (.loop r)) → ¬ u l → I k u W →
      assign.wpIn (Fence.wide.inRound l) 0 P (Exit.then (fun a' W1 => KeepU D u w.heap.size W W1 ∧ ∀ r, body.wpIn (Fence.wide.inRound l) 0 P (rpostU D u w.heap.size I Ix k (W1.putObj l (.loop r))) a' (W1.putObj l (.loop r))) (fun _ _ _ => False))
        { tmps := (ps.zip x).foldl (fun t (p, v) => t.setIfInBounds p v) a.tmps, defers := [] } W)
    (hdone : ∀ K u W, w.heap.size ≤ K → ¬ u K → I xs.length u W → W.heap[K]? = some (.deferred (some [])) → Q .normal { a with defers := { target := .collected K, args := #[] } :: a.defers } W)
    (hstop : ∀ K c k u W, w.heap.size ≤ K → ¬ u K → k ≤ xs.length → Ix c k u W → W.heap[K]? = some (.deferred (some [])) → c.wp P Q { a with defers := { target := .collected K, args := #[] } :: a.defers } W) :
    (Code.rangeFunc g ps assign body).wp P Q a w :=
  wpIn_wide.1 (range_outerInV hg eg hit hD hb0 hps I Ix hI hIx hIb hIxb h0 hround hdone (fun K c k u W h1 h2 h3 h4 h5 => wpIn_wide.2 (hstop K c k u W h1 h2 h3 h4 h5)))
end
end Go.Proofs.YtfpefffgegphnaaDoor
