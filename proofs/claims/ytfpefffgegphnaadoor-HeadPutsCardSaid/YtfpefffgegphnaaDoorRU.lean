/- Iterators whose loop body owns blocks: a list that is appended to in the round. As XRF; u: the blocks that the body owns. -/
import Derived.Test.YtfpefffgegphnaaDoorRF
namespace Go.Proofs.YtfpefffgegphnaaDoor
open Go Go.RowKit
attribute [local go_sem] Oper.semAt_some
/-- Of the blocks that were there, those in D, and those from S on that are none of u's, lie as they lay. -/
structure KeepU (D u : Nat → Prop) (S : Nat) (W W' : World) : Prop where
  size : W.heap.size ≤ W'.heap.size
  same : ∀ k, k < W.heap.size → (D k ∨ (S ≤ k ∧ ¬ u k)) → W'.heap[k]? = W.heap[k]?
theorem KeepU.refl (D u : Nat → Prop) (S : Nat) (W : World) : KeepU D u S W W := ⟨Nat.le_refl _, fun _ _ _ => rfl⟩
theorem KeepU.of_ext {D u : Nat → Prop} {S : Nat} {A B : World} (h : Ext A B) : KeepU D u S A B := ⟨h.size, fun i hi _ => h.block i hi⟩
section
variable {P : Program}
def IterU (P : Program) (D : Nat → Prop) (gf : Nat) (lb : Array Value) (xs : List (Array Value)) (w : World) : Prop :=
  ∀ (l : Nat) (J Jx : Nat → (Nat → Prop) → World → Prop) (u0 : Nat → Prop) (W : World), Keep D w.heap.size w W →
    (∀ k u A B, J k u A → Below W.heap.size A B → (∀ b, u b → B.heap[b]? = A.heap[b]?) → J k u B) →
    (∀ k u A B, Jx k u A → Below W.heap.size A B → (∀ b, u b → B.heap[b]? = A.heap[b]?) → Jx k u B) →
    (∀ k u A, J k u A → ∀ b, u b → b < A.heap.size) →
    (∀ k u A, Jx k u A → ∀ b, u b → b < A.heap.size) →
    (∀ k u x W1, xs[k]? = some x → J k u W1 → YieldAt Fence.wide 0 P l x W1 fun e W' => ∃ u', (∀ b, u' b → u b ∨ W1.heap.size ≤ b) ∧
      ((e = .returned (.bool true) ∧ J (k + 1) u' W' ∧ KeepU D u W.heap.size W1 W') ∨ (e = .returned (.bool false) ∧ Jx (k + 1) u' W' ∧ KeepU D u W.heap.size W1 W'))) →
    J 0 u0 W →
    CallsIn Fence.wide 0 P gf (#[.func (.yield l) #[] #[]] ++ lb) W fun e W' => (∃ v, e = .returned v) ∧ ((∃ u, J xs.length u W') ∨ ∃ k u, k ≤ xs.length ∧ Jx k u W')

/-- How a round's body may be left. -/
def rpostU (D u : Nat → Prop) (S : Nat) (I : Nat → (Nat → Prop) → World → Prop) (Ix : Code → Nat → (Nat → Prop) → World → Prop) (k : Nat) (W : World) : Exit → Act → World → Prop
  | .normal, _, W' => KeepU D u S W W' ∧ ∃ u', (∀ b, u' b → u b ∨ W.heap.size ≤ b) ∧ I (k + 1) u' W'
  | .ret, _, W' => KeepU D u S W W' ∧ ∃ u', (∀ b, u' b → u b ∨ W.heap.size ≤ b) ∧ Ix .ret (k + 1) u' W'
  | .exit id, _, W' => KeepU D u S W W' ∧ ∃ u', (∀ b, u' b → u b ∨ W.heap.size ≤ b) ∧ Ix (.exit id) (k + 1) u' W'
  | .goto t, _, W' => KeepU D u S W W' ∧ ∃ u', (∀ b, u' b → u b ∨ W.heap.size ≤ b) ∧ Ix (.goto t) (k + 1) u' W'
  | .panic _, _, _ => False
  | .outgrown, _, _ => False

/-- What the rounds are: from the walk of assign and body to yield's promise. -/
theorem yield_of_roundU {D u : Nat → Prop} {S l : Nat} {I : Nat → (Nat → Prop) → World → Prop} {Ix : Code → Nat → (Nat → Prop) → World → Prop} {fn : FuncId} {tmps : Array Value} {ps : Array Tmp} {assign body : Code} {defers : Nat}
    (hSl : S ≤ l) (hul : ¬ u l) (hI : ∀ k u A B, I k u A → Below S A B → (∀ b, u b → B.heap[b]? = A.heap[b]?) → I k u B) (hIx : ∀ c k u A B, Ix c k u A → Below S A B → (∀ b, u b → B.heap[b]? = A.heap[b]?) → Ix c k u B)
    (rec : LoopState → Option Code → Loop) (hrec : rec = fun st pe => { state := st, pending := pe, fn, tmps, params := ps, assign, body, defers }) (k : Nat) (x : Array Value) (hps : x.size = ps.size) (W : World)
    (hl : W.heap[l]? = some (.loop (rec .ready none)))
    (hr : assign.wpIn (Fence.wide.inRound l) 0 P (Exit.then (fun a' W1 => KeepU D u S W W1 ∧ ∀ r, body.wpIn (Fence.wide.inRound l) 0 P (rpostU D u S I Ix k (W1.putObj l (.loop r))) a' (W1.putObj l (.loop r))) (fun _ _ _ => False))
      { tmps := (ps.zip x).foldl (fun t (p, v) => t.setIfInBounds p v) tmps, defers := [] } W) :
    YieldAt Fence.wide 0 P l x W fun e W' => ∃ u', (∀ b, u' b → u b ∨ W.heap.size ≤ b) ∧ ((e = .returned (.bool true) ∧ I (k + 1) u' W' ∧ W'.heap[l]? = some (.loop (rec .ready none))) ∨
      (e = .returned (.bool false) ∧ ∃ c, Ix c (k + 1) u' W' ∧ W'.heap[l]? = some (.loop (rec .done (some c))))) ∧
      (∀ j, j < W.heap.size → j ≠ l → (D j ∨ (S ≤ j ∧ ¬ u j)) → W'.heap[j]? = W.heap[j]?) ∧ W.heap.size ≤ W'.heap.size := by
  have hy := run_yield (P := P) (args := x) hl (by rw [hrec]; exact hps)
  rw [hrec] at hy
  refine ⟨fn, _, assign, body, hy, roundIn_of_wpIn (F := Fence.wide) trivial (wpIn_mono hr ?_)⟩
  rintro e a1 W1 hq
  cases e with
  | normal =>
    obtain ⟨hk1, hb⟩ := hq
    have hlt := (Array.getElem?_eq_some_iff.1 hl).1
    have hl1 : W1.heap[l]? = some (.loop (rec .ready none)) := (hk1.same l hlt (.inr ⟨hSl, hul⟩)).trans hl
    have hlt1 := (Array.getElem?_eq_some_iff.1 hl1).1
    refine ⟨_, run_beginRound hl1 (by rw [hrec]), wpIn_mono (hb _) ?_⟩
    have fin : ∀ (jump : Option Code) (W3 : World), KeepU D u S (W1.putObj l (.loop { rec .ready none with state := .busy })) W3 →
        (Instr.endRound l jump).run P W3 = .ok (.bool jump.isNone) (W3.putObj l (.loop (rec (if jump.isNone then .ready else .done) jump))) ∧
        (W3.putObj l (.loop (rec (if jump.isNone then .ready else .done) jump))).heap[l]? = some (.loop (rec (if jump.isNone then .ready else .done) jump)) ∧
        (∀ j, j < W.heap.size → j ≠ l → (D j ∨ (S ≤ j ∧ ¬ u j)) → (W3.putObj l (.loop (rec (if jump.isNone then .ready else .done) jump))).heap[j]? = W.heap[j]?) ∧ W.heap.size ≤ W3.heap.size := fun jump W3 hk3 => by
      have hl3 := (hk3.same l (by simpa using hlt1) (.inr ⟨hSl, hul⟩)).trans (World.putObj_heap_same hlt1)
      have := run_endRound (P := P) jump hl3
      have hs3 := hk3.size
      simp at hs3
      have hs1 := hk1.size
      refine ⟨by rw [this]; subst hrec; rfl, World.putObj_heap_same (by omega), fun j hj hne hd => ?_, by omega⟩
      rw [World.putObj_heap_other hne, hk3.same j (by simp; omega) hd, World.putObj_heap_other hne, hk1.same j hj hd]
    have low : ∀ u' : Nat → Prop, (∀ b, u' b → u b ∨ (W1.putObj l (.loop { rec .ready none with state := .busy })).heap.size ≤ b) → (∀ b, u' b → u b ∨ W.heap.size ≤ b) ∧ ¬ u' l := fun u' hu => by
      have hs1 := hk1.size
      refine ⟨fun b hb => (hu b hb).imp id (fun h => by simp at h; omega), fun h => ?_⟩
      rcases hu l h with h | h
      · exact hul h
      · simp at h; omega
    rintro e a3 W3 hp
    cases e with
    | normal =>
      obtain ⟨hk3, u', hu, hi3⟩ := hp
      obtain ⟨hr, hl4, hs, hz⟩ := fin none W3 hk3
      obtain ⟨hu1, hu2⟩ := low u' hu
      exact ⟨_, _, hr, u', hu1, .inl ⟨rfl, hI _ _ _ _ hi3 (below_putObj _ _ _ _ hSl) (fun b hbu => World.putObj_heap_other (fun e => hu2 (e ▸ hbu))), hl4⟩, hs, by simpa using hz⟩
    | ret =>
      obtain ⟨hk3, u', hu, hi3⟩ := hp
      obtain ⟨hr, hl4, hs, hz⟩ := fin (some .ret) W3 hk3
      obtain ⟨hu1, hu2⟩ := low u' hu
      exact ⟨_, _, hr, u', hu1, .inr ⟨rfl, .ret, hIx _ _ _ _ _ hi3 (below_putObj _ _ _ _ hSl) (fun b hbu => World.putObj_heap_other (fun e => hu2 (e ▸ hbu))), hl4⟩, hs, by simpa using hz⟩
    | exit id =>
      obtain ⟨hk3, u', hu, hi3⟩ := hp
      obtain ⟨hr, hl4, hs, hz⟩ := fin (some (.exit id)) W3 hk3
      obtain ⟨hu1, hu2⟩ := low u' hu
      exact ⟨_, _, hr, u', hu1, .inr ⟨rfl, .exit id, hIx _ _ _ _ _ hi3 (below_putObj _ _ _ _ hSl) (fun b hbu => World.putObj_heap_other (fun e => hu2 (e ▸ hbu))), hl4⟩, hs, by simpa using hz⟩
    | goto t =>
      obtain ⟨hk3, u', hu, hi3⟩ := hp
      obtain ⟨hr, hl4, hs, hz⟩ := fin (some (.goto t)) W3 hk3
      obtain ⟨hu1, hu2⟩ := low u' hu
      exact ⟨_, _, hr, u', hu1, .inr ⟨rfl, .goto t, hIx _ _ _ _ _ hi3 (below_putObj _ _ _ _ hSl) (fun b hbu => World.putObj_heap_other (fun e => hu2 (e ▸ hbu))), hl4⟩, hs, by simpa using hz⟩
    | panic ch => exact hp.elim
    | outgrown => exact hp.elim
  | exit id => exact hq.elim
  | goto t => exact hq.elim
  | ret => exact hq.elim
  | panic chain => exact hq.elim
  | outgrown => exact hq.elim

theorem yield_keepU {D u : Nat → Prop} {S S' l : Nat} {W W' : World} (hz : W.heap.size ≤ W'.heap.size) (hl : l < S') (hS : S ≤ S') (h : ∀ j, j < W.heap.size → j ≠ l → (D j ∨ (S ≤ j ∧ ¬ u j)) → W'.heap[j]? = W.heap[j]?) (hD : ¬ D l) : KeepU D u S' W W' :=
  ⟨hz, fun j hj hd => h j hj (by rintro rfl; rcases hd with hd | hd; exact hD hd; omega) (hd.imp id (fun x => ⟨by omega, x.2⟩))⟩

/-- 'for .. := range g { body }', outermost in its function. -/
theorem range_outerInU {D : Nat → Prop} {gf : Nat} {lb : Array Value} {xs : List (Array Value)} {w0 w : World} {g : Operand} {ps : Array Tmp} {assign body : Code} {Q : Exit → Act → World → Prop} {a : Act}
    (hg : a.eval g = .func (.func gf) #[] lb) (eg : ∀ args w, (callFunc gf args).run P w = .ok (.enter gf args) w)
    (hit : IterU P D gf lb xs w0) (hD : ∀ k, D k → k < w.heap.size) (hb0 : Keep D w0.heap.size w0 w) (hps : ∀ x ∈ xs, x.size = ps.size)
    (I : Nat → (Nat → Prop) → World → Prop) (Ix : Code → Nat → (Nat → Prop) → World → Prop)
    (hI : ∀ k u A B, I k u A → Below w.heap.size A B → (∀ b, u b → B.heap[b]? = A.heap[b]?) → I k u B) (hIx : ∀ c k u A B, Ix c k u A → Below w.heap.size A B → (∀ b, u b → B.heap[b]? = A.heap[b]?) → Ix c k u B)
    (hIb : ∀ k u A, I k u A → ∀ b, u b → b < A.heap.size) (hIxb : ∀ c k u A, Ix c k u A → ∀ b, u b → b < A.heap.size) {u0 : Nat → Prop} (h0 : I 0 u0 w)
    (hround : ∀ l k u x W, xs[k]? = some x → w.heap.size ≤ l → (∃ r, W.heap[l]? = some (.loop r)) → ¬ u l → I k u W →
      assign.wpIn (Fence.wide.inRound l) 0 P (Exit.then (fun a' W1 => KeepU D u w.heap.size W W1 ∧ ∀ r, body.wpIn (Fence.wide.inRound l) 0 P (rpostU D u w.heap.size I Ix k (W1.putObj l (.loop r))) a' (W1.putObj l (.loop r))) (fun _ _ _ => False))
        { tmps := (ps.zip x).foldl (fun t (p, v) => t.setIfInBounds p v) a.tmps, defers := [] } W)
    (hdone : ∀ K u W, w.heap.size ≤ K → ¬ u K → I xs.length u W → W.heap[K]? = some (.deferred (some [])) → Q .normal { a with defers := { target := .collected K, args := #[] } :: a.defers } W)
    (hstop : ∀ K c k u W, w.heap.size ≤ K → ¬ u K → k ≤ xs.length → Ix c k u W → W.heap[K]? = some (.deferred (some [])) → c.wpIn Fence.wide 0 P Q { a with defers := { target := .collected K, args := #[] } :: a.defers } W) :
    (Code.rangeFunc g ps assign body).wpIn Fence.wide 0 P Q a w := by
  refine wpIn_rangeFunc ?_
  intro fn hfn
  rw [show Fence.wide.round = none from rfl]
  obtain ⟨rec, hrec⟩ : ∃ rec : LoopState → Option Code → Loop, rec = fun st pe => { state := st, pending := pe, fn, tmps := a.tmps, params := ps, assign, body, defers := w.heap.size } := ⟨_, rfl⟩
  obtain ⟨W1, hW1⟩ : ∃ W1, (w.alloc (.deferred (some []))).alloc (.loop (rec .ready none)) = W1 := ⟨_, rfl⟩
  have hs1 : W1.heap.size = w.heap.size + 2 := by rw [← hW1]; simp
  have hL1 : W1.heap[w.heap.size + 1]? = some (.loop (rec .ready none)) := by
    rw [← hW1]; have := World.alloc_heap_new (w.alloc (.deferred (some []))) (.loop (rec .ready none)); rwa [World.size_alloc] at this
  have hK1 : W1.heap[w.heap.size]? = some (.deferred (some [])) := by
    rw [← hW1]; exact (Below.heap_alloc _ _ _ (by simp)).trans (World.alloc_heap_new w _)
  have hE1 : Ext w W1 := by rw [← hW1]; exact ((Below.refl _ w).alloc (Nat.le_refl _) _).alloc (by simp) _
  have hDl : ¬ D (w.heap.size + 1) := fun h => by have := hD _ h; omega
  refine ⟨w.heap.size + 1, [{ target := .collected w.heap.size, args := #[] }], W1, { target := .fn (.func gf) lb, args := #[.func (.yield (w.heap.size + 1)) #[] #[]] }, W1, gf,
    #[.func (.yield (w.heap.size + 1)) #[] #[]] ++ lb, W1, ?_, ?_, ?_, ?_, (fun h => by cases h), ?_⟩
  · rw [← hW1, hrec]; exact run_enterLoop_outer _ _ _ _ _
  · simp only [resolve, hg]
    simp [go_sem]
  · exact fun _ _ => trivial
  · simp [invoke, go_sem, eg]
  · refine (hit (w.heap.size + 1)
      (fun k u W => I k u W ∧ W.heap[w.heap.size + 1]? = some (.loop (rec .ready none)) ∧ W.heap[w.heap.size]? = some (.deferred (some [])) ∧ ¬ u (w.heap.size + 1) ∧ ¬ u w.heap.size)
      (fun k u W => ∃ c, Ix c k u W ∧ W.heap[w.heap.size + 1]? = some (.loop (rec .done (some c))) ∧ W.heap[w.heap.size]? = some (.deferred (some [])) ∧ ¬ u (w.heap.size + 1) ∧ ¬ u w.heap.size)
      u0 W1 (hb0.trans (.of_ext hE1)) ?_ ?_ ?_ ?_ ?_ ⟨hI _ _ _ _ h0 hE1 (fun b hb => hE1.block b (hIb _ _ _ h0 b hb)), hL1, hK1, (fun h => by have := hIb _ _ _ h0 _ h; omega), (fun h => by have := hIb _ _ _ h0 _ h; omega)⟩).mono ?_
    · rintro k u A B ⟨h1, h2, h3, h4, h5⟩ hb hu
      exact ⟨hI _ _ _ _ h1 (hb.mono (by omega)) hu, (hb.block _ (by omega)).trans h2, (hb.block _ (by omega)).trans h3, h4, h5⟩
    · rintro k u A B ⟨c, h1, h2, h3, h4, h5⟩ hb hu
      exact ⟨c, hIx _ _ _ _ _ h1 (hb.mono (by omega)) hu, (hb.block _ (by omega)).trans h2, (hb.block _ (by omega)).trans h3, h4, h5⟩
    · rintro k u A ⟨h1, _⟩; exact hIb _ _ _ h1
    · rintro k u A ⟨c, h1, _⟩; exact hIxb _ _ _ _ h1
    · rintro k u x W hx ⟨hi, hl, hk, hul, huk⟩
      have hlt := (Array.getElem?_eq_some_iff.1 hl).1
      refine YieldAt.mono (yield_of_roundU (S := w.heap.size) (l := w.heap.size + 1) (by omega) hul hI hIx rec hrec k x (hps x (List.mem_of_getElem? hx)) W hl (hround _ k u x W hx (by omega) ⟨_, hl⟩ hul hi)) ?_
      rintro e W' ⟨u', hu', hc, h3, hz⟩
      have n1 : ¬ u' (w.heap.size + 1) := fun h => by rcases hu' _ h with h | h; exact hul h; omega
      have n2 : ¬ u' w.heap.size := fun h => by rcases hu' _ h with h | h; exact huk h; omega
      refine ⟨u', hu', ?_⟩
      rcases hc with ⟨rfl, h1, h2⟩ | ⟨rfl, c, h1, h2⟩
      · exact .inl ⟨rfl, ⟨h1, h2, (h3 _ (by omega) (by omega) (.inr ⟨Nat.le_refl _, huk⟩)).trans hk, n1, n2⟩, yield_keepU hz (by omega) (by omega) h3 hDl⟩
      · exact .inr ⟨rfl, ⟨c, h1, h2, (h3 _ (by omega) (by omega) (.inr ⟨Nat.le_refl _, huk⟩)).trans hk, n1, n2⟩, yield_keepU hz (by omega) (by omega) h3 hDl⟩
    · rintro e W2 ⟨⟨v, rfl⟩, (⟨u, hi, hl, hk, hul, huk⟩ | ⟨k, u, hkl, c, hi, hl, hk, hul, huk⟩)⟩
      · exact ⟨none, _, by have := run_endLoop (P := P) hl (by rw [hrec]; simp); rw [hrec] at this; exact this, hdone _ u _ (Nat.le_refl _) huk (hI _ _ _ _ hi (below_putObj _ _ _ _ (by omega)) (fun b hb => World.putObj_heap_other (by rintro rfl; exact hul hb))) ((World.putObj_heap_other (by omega)).trans hk)⟩
      · exact ⟨some c, _, by have := run_endLoop (P := P) hl (by rw [hrec]; simp); rw [hrec] at this; exact this, hstop _ c k u _ (Nat.le_refl _) huk hkl (hIx _ _ _ _ _ hi (below_putObj _ _ _ _ (by omega)) (fun b hb => World.putObj_heap_other (by rintro rfl; exact hul hb))) ((World.putObj_heap_other (by omega)).trans hk)⟩
/-- The same, in the plain walk. -/
theorem range_outerU {D : Nat → Prop} {gf : Nat} {lb : Array Value} {xs : List (Array Value)} {w0 w : World} {g : Operand} {ps : Array Tmp} {assign body : Code} {Q : Exit → Act → World → Prop} {a : Act}
    (hg : a.eval g = .func (.func gf) #[] lb) (eg : ∀ args w, (callFunc gf args).run P w = .ok (.enter gf args) w)
    (hit : IterU P D gf lb xs w0) (hD : ∀ k, D k → k < w.heap.size) (hb0 : Keep D w0.heap.size w0 w) (hps : ∀ x ∈ xs, x.size = ps.size)
    (I : Nat → (Nat → Prop) → World → Prop) (Ix : Code → Nat → (Nat → Prop) → World → Prop)
    (hI : ∀ k u A B, I k u A → Below w.heap.size A B → (∀ b, u b → B.heap[b]? = A.heap[b]?) → I k u B) (hIx : ∀ c k u A B, Ix c k u A → Below w.heap.size A B → (∀ b, u b → B.heap[b]? = A.heap[b]?) → Ix c k u B)
    (hIb : ∀ k u A, I k u A → ∀ b, u b → b < A.heap.size) (hIxb : ∀ c k u A, Ix c k u A → ∀ b, u b → b < A.heap.size) {u0 : Nat → Prop} (h0 : I 0 u0 w)
    (hround : ∀ l k u x W, xs[k]? = some x → w.heap.size ≤ l → (∃ r, W.heap[l]? = some (.loop r)) → ¬ u l → I k u W →
      assign.wpIn (Fence.wide.inRound l) 0 P (Exit.then (fun a' W1 => KeepU D u w.heap.size W W1 ∧ ∀ r, body.wpIn (Fence.wide.inRound l) 0 P (rpostU D u w.heap.size I Ix k (W1.putObj l (.loop r))) a' (W1.putObj l (.loop r))) (fun _ _ _ => False))
        { tmps := (ps.zip x).foldl (fun t (p, v) => t.setIfInBounds p v) a.tmps, defers := [] } W)
    (hdone : ∀ K u W, w.heap.size ≤ K → ¬ u K → I xs.length u W → W.heap[K]? = some (.deferred (some [])) → Q .normal { a with defers := { target := .collected K, args := #[] } :: a.defers } W)
    (hstop : ∀ K c k u W, w.heap.size ≤ K → ¬ u K → k ≤ xs.length → Ix c k u W → W.heap[K]? = some (.deferred (some [])) → c.wp P Q { a with defers := { target := .collected K, args := #[] } :: a.defers } W) :
    (Code.rangeFunc g ps assign body).wp P Q a w :=
  wpIn_wide.1 (range_outerInU hg eg hit hD hb0 hps I Ix hI hIx hIb hIxb h0 hround hdone (fun K c k u W h1 h2 h3 h4 h5 => wpIn_wide.2 (hstop K c k u W h1 h2 h3 h4 h5)))
/-- Behind the assignment, where it made nothing: on to the body. -/
theorem to_bodyU {D u : Nat → Prop} {S l : Nat} {W : World} {F : Fence} {n : Nat} {c : Code} {I : Nat → (Nat → Prop) → World → Prop} {Ix : Code → Nat → (Nat → Prop) → World → Prop} {k : Nat} {a : Act} (hS : S ≤ l) (hul : ¬ u l) (hr : ∃ r, W.heap[l]? = some (.loop r))
    (h : ∀ W', Below S W W' → (∀ b, u b → W'.heap[b]? = W.heap[b]?) → Off l W W' → (∃ r, W'.heap[l]? = some (.loop r)) → c.wpIn F n P (rpostU D u S I Ix k W') a W') :
    KeepU D u S W W ∧ ∀ r, c.wpIn F n P (rpostU D u S I Ix k (W.putObj l (.loop r))) a (W.putObj l (.loop r)) := by
  obtain ⟨r1, h1⟩ := hr
  exact ⟨KeepU.refl _ _ _ _, fun r => h _ (below_putObj _ _ _ _ hS) (fun b hb => World.putObj_heap_other (fun e => hul (e ▸ hb))) ⟨by simp, fun j hj => World.putObj_heap_other hj⟩ ⟨_, World.putObj_heap_same (Array.getElem?_eq_some_iff.1 h1).1⟩⟩
/-- The blocks in D lie as they lay. -/
structure KeepD (D : Nat → Prop) (W W' : World) : Prop where
  size : W.heap.size ≤ W'.heap.size
  same : ∀ k, k < W.heap.size → D k → W'.heap[k]? = W.heap[k]?
theorem KeepD.refl (D : Nat → Prop) (W : World) : KeepD D W W := ⟨Nat.le_refl _, fun _ _ _ => rfl⟩
theorem KeepD.trans {D : Nat → Prop} {A B C : World} (h : KeepD D A B) (k : KeepD D B C) : KeepD D A C :=
  ⟨Nat.le_trans h.size k.size, fun i hi hd => (k.same i (Nat.lt_of_lt_of_le hi h.size) hd).trans (h.same i hi hd)⟩
theorem KeepD.of_ext {D : Nat → Prop} {A B : World} (h : Ext A B) : KeepD D A B := ⟨h.size, fun i hi _ => h.block i hi⟩
theorem KeepD.ext {D : Nat → Prop} {A B C : World} (h : KeepD D A B) (k : Ext B C) : KeepD D A C := h.trans (.of_ext k)
theorem KeepD.under {D : Nat → Prop} {A B C : World} (h : KeepD D A B) (k : Below A.heap.size B C) : KeepD D A C := ⟨Nat.le_trans h.size k.size, fun i hi hd => (k.block i hi).trans (h.same i hi hd)⟩
theorem KeepD.at {D : Nat → Prop} {A B : World} (h : KeepD D A B) (b o : Nat) (hb : b < A.heap.size) (hd : D b) : B.cell? ⟨b, o, none⟩ = A.cell? ⟨b, o, none⟩ := World.cell?_of_block (w := A) (h.same b hb hd)
theorem KeepD.cell {D : Nat → Prop} {A B : World} (h : KeepD D A B) {p : Addr} (hp : p.block < A.heap.size) (hd : D p.block) : B.cell? p = A.cell? p := World.cell?_of_block (w := A) (h.same p.block hp hd)
theorem KeepD.mono {D D' : Nat → Prop} {A B : World} (h : KeepD D A B) (k : ∀ b, D' b → D b) : KeepD D' A B := ⟨h.size, fun i hi hd => h.same i hi (k i hd)⟩
end
end Go.Proofs.YtfpefffgegphnaaDoor
