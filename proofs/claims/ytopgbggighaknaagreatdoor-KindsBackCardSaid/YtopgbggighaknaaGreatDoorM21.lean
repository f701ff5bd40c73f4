/- Joined texts, in their order: RO, PtrsK, LinesI, KLines. -/
import Derived.Test.YtopgbggighaknaaGreatDoorM03
import Derived.Test.YtopgbggighaknaaGreatDoorM13
import Derived.Test.YtopgbggighaknaaGreatDoorShelf
import Derived.Test.YtopgbggighaknaaGreatDoorM02
import Derived.Test.YtopgbggighaknaaGreatDoorM05
/- Iterators that own blocks of their own, older than the loop (a captured variable that they write): as XRU; o: the blocks that the iterator writes. -/
namespace Go.Proofs.YtopgbggighaknaaGreatDoor
open Go Go.RowKit
attribute [local go_sem] Oper.semAt_some
/-- Of the blocks below S all but o's lie as they lay. -/
structure BelowO (o : Nat → Prop) (S : Nat) (W W' : World) : Prop where
  os : W'.os = W.os
  tape : W'.tape = W.tape
  output : W'.output = W.output
  size : W.heap.size ≤ W'.heap.size
  block : ∀ k, k < S → ¬ o k → W'.heap[k]? = W.heap[k]?
theorem BelowO.of_below {o : Nat → Prop} {S : Nat} {W W' : World} (h : Below S W W') : BelowO o S W W' := ⟨h.os, h.tape, h.output, h.size, fun k hk _ => h.block k hk⟩
theorem BelowO.mono {o o' : Nat → Prop} {S S' : Nat} {W W' : World} (h : BelowO o S W W') (hS : S' ≤ S) (ho : ∀ k, k < S' → o k → o' k) : BelowO o' S' W W' := ⟨h.os, h.tape, h.output, h.size, fun k hk hn => h.block k (by omega) (fun h' => hn (ho k hk h'))⟩
theorem BelowO.below {o : Nat → Prop} {S : Nat} {W W' : World} (h : BelowO o S W W') {B : Nat} (hB : B ≤ S) (ho : ∀ k, o k → B ≤ k) : Below B W W' := ⟨h.os, h.tape, h.output, h.size, fun k hk => h.block k (by omega) (fun h' => by have := ho k h'; omega)⟩
theorem BelowO.setCell {o : Nat → Prop} {S : Nat} (W : World) (p : Addr) (v : Value) (hp : o p.block ∨ S ≤ p.block) : BelowO o S W (W.setCell p v) :=
  ⟨rfl, rfl, rfl, by simp, fun k hk hn => Below.heap_setCell _ _ _ _ (by rintro rfl; rcases hp with h | h; exact hn h; omega)⟩
theorem BelowO.trans {o : Nat → Prop} {S : Nat} {A B C : World} (h : BelowO o S A B) (k : BelowO o S B C) : BelowO o S A C :=
  ⟨k.os.trans h.os, k.tape.trans h.tape, k.output.trans h.output, Nat.le_trans h.size k.size, fun i hi hn => (k.block i hi hn).trans (h.block i hi hn)⟩
section
variable {P : Program}
def IterO (P : Program) (D o : Nat → Prop) (gf : Nat) (lb : Array Value) (xs : List (Array Value)) (w : World) : Prop :=
  ∀ (l : Nat) (J Jx : Nat → (Nat → Prop) → World → Prop) (u0 : Nat → Prop) (W : World), Keep D w.heap.size w W →
    (∀ k u A B, J k u A → BelowO o W.heap.size A B → (∀ b, u b → B.heap[b]? = A.heap[b]?) → J k u B) →
    (∀ k u A B, Jx k u A → BelowO o W.heap.size A B → (∀ b, u b → B.heap[b]? = A.heap[b]?) → Jx k u B) →
    (∀ k u A, J k u A → ∀ b, u b → b < A.heap.size) →
    (∀ k u A, Jx k u A → ∀ b, u b → b < A.heap.size) →
    (∀ k u x W1, xs[k]? = some x → J k u W1 → YieldAt Fence.wide 0 P l x W1 fun e W' => ∃ u', (∀ b, u' b → u b ∨ W1.heap.size ≤ b) ∧
      ((e = .returned (.bool true) ∧ J (k + 1) u' W' ∧ KeepU D u W.heap.size W1 W') ∨ (e = .returned (.bool false) ∧ Jx (k + 1) u' W' ∧ KeepU D u W.heap.size W1 W'))) →
    (∀ b, o b → ¬ u0 b) →
    J 0 u0 W →
    CallsIn Fence.wide 0 P gf (#[.func (.yield l) #[] #[]] ++ lb) W fun e W' => (∃ v, e = .returned v) ∧ ((∃ u, J xs.length u W') ∨ ∃ k u, k ≤ xs.length ∧ Jx k u W')
/-- 'for .. := range g { body }', outermost in its function. -/
theorem range_outerInO {D o : Nat → Prop} {gf : Nat} {lb : Array Value} {xs : List (Array Value)} {w0 w : World} {g : Operand} {ps : Array Tmp} {assign body : Go.Code} {Q : Exit → Act → World → Prop} {a : Act}
    (hg : a.eval g = .func (.func gf) #[] lb) (eg : ∀ args w, (callFunc gf args).run P w = .ok (.enter gf args) w)
    (hit : IterO P D o gf lb xs w0) (hD : ∀ k, D k → k < w.heap.size) (ho : ∀ k, o k → k < w.heap.size) (hb0 : Keep D w0.heap.size w0 w) (hps : ∀ x ∈ xs, x.size = ps.size)
    (I : Nat → (Nat → Prop) → World → Prop) (Ix : Go.Code → Nat → (Nat → Prop) → World → Prop)
    (hI : ∀ k u A B, I k u A → BelowO o w.heap.size A B → (∀ b, u b → B.heap[b]? = A.heap[b]?) → I k u B) (hIx : ∀ c k u A B, Ix c k u A → BelowO o w.heap.size A B → (∀ b, u b → B.heap[b]? = A.heap[b]?) → Ix c k u B)
    (hIb : ∀ k u A, I k u A → ∀ b, u b → b < A.heap.size) (hIxb : ∀ c k u A, Ix c k u A → ∀ b, u b → b < A.heap.size) {u0 : Nat → Prop} (hou : ∀ b, o b → ¬ u0 b) (h0 : I 0 u0 w)
    (hround : ∀ l k u x W, xs[k]? = some x → w.heap.size ≤ l → (∃ r, W.heap[l]? = some (.loop r)) → ¬ u l → I k u W →
      assign.wpIn (Fence.wide.inRound l) 0 P (Exit.then (fun a' W1 => KeepU D u w.heap.size W W1 ∧ ∀ r, body.wpIn (Fence.wide.inRound l) 0 P (rpostU D u w.heap.size I Ix k (W1.putObj l (.loop r))) a' (W1.putObj l (.loop r))) (fun _ _ _ => False))
        { tmps := (ps.zip x).foldl (fun t (p, v) => t.setIfInBounds p v) a.tmps, defers := [] } W)
    (hdone : ∀ K u W, w.heap.size ≤ K → ¬ u K → I xs.length u W → W.heap[K]? = some (.deferred (some [])) → Q .normal { a with defers := { target := .collected K, args := #[] } :: a.defers } W)
    (hstop : ∀ K c k u W, w.heap.size ≤ K → ¬ u K → k ≤ xs.length → Ix c k u W → W.heap[K]? = some (.deferred (some [])) → c.wpIn Fence.wide 0 P Q { a with defers := { target := .collected K, args := #[] } :: a.defers } W) :
    (Go.Code.rangeFunc g ps assign body).wpIn Fence.wide 0 P Q a w := by
  refine wpIn_rangeFunc ?_
  intro fn hfn
  rw [show Fence.wide.round = none from rfl]
  obtain ⟨rec, hrec⟩ : ∃ rec : LoopState → Option Go.Code → Loop, rec = fun st pe => { state := st, pending := pe, fn, tmps := a.tmps, params := ps, assign, body, defers := w.heap.size } := ⟨_, rfl⟩
  obtain ⟨W1, hW1⟩ : ∃ W1, (w.alloc (.deferred (some []))).alloc (.loop (rec .ready none)) = W1 := ⟨_, rfl⟩
  have hs1 : W1.heap.size = w.heap.size + 2 := by rw [← hW1]; simp
  have hL1 : W1.heap[w.heap.size + 1]? = some (.loop (rec .ready none)) := by
    rw [← hW1]; have := World.alloc_heap_new (w.alloc (.deferred (some []))) (.loop (rec .ready none)); rwa [World.size_alloc] at this
  have hK1 : W1.heap[w.heap.size]? = some (.deferred (some [])) := by
    rw [← hW1]; exact (Below.heap_alloc _ _ _ (by simp)).trans (World.alloc_heap_new w _)
  have hE1 : Ext w W1 := by rw [← hW1]; exact ((Below.refl _ w).alloc (Nat.le_refl _) _).alloc (by simp) _
  have hDl : ¬ D (w.heap.size + 1) := fun h => by have := hD _ h; omega
  refine ⟨w.heap.size + 1, [{ target := .collected w.heap.size, args := #[] }], W1, { target := .fn (.func gf) lb, args := #[.func (.yield (w.heap.size + 1)) #[] #[]] }, W1, gf,
    #[.func (.yield (w.heap.size + 1)) #[] #[]] ++ lb, W1, ?_, ?_, ?_, ?_, (fun h => by cases h), ?_⟩
  · rw [← hW1, hrec]; exact run_enterLoop_outer _ _ _ _ _
  · simp only [resolve, hg]
    simp [go_sem]
  · exact fun _ _ => trivial
  · simp [invoke, go_sem, eg]
  · refine (hit (w.heap.size + 1)
      (fun k u W => I k u W ∧ W.heap[w.heap.size + 1]? = some (.loop (rec .ready none)) ∧ W.heap[w.heap.size]? = some (.deferred (some [])) ∧ ¬ u (w.heap.size + 1) ∧ ¬ u w.heap.size)
      (fun k u W => ∃ c, Ix c k u W ∧ W.heap[w.heap.size + 1]? = some (.loop (rec .done (some c))) ∧ W.heap[w.heap.size]? = some (.deferred (some [])) ∧ ¬ u (w.heap.size + 1) ∧ ¬ u w.heap.size)
      u0 W1 (hb0.trans (.of_ext hE1)) ?_ ?_ ?_ ?_ ?_ hou ⟨hI _ _ _ _ h0 (.of_below hE1) (fun b hb => hE1.block b (hIb _ _ _ h0 b hb)), hL1, hK1, (fun h => by have := hIb _ _ _ h0 _ h; omega), (fun h => by have := hIb _ _ _ h0 _ h; omega)⟩).mono ?_
    · rintro k u A B ⟨h1, h2, h3, h4, h5⟩ hb hu
      exact ⟨hI _ _ _ _ h1 (hb.mono (by omega) (fun _ _ h => h)) hu, (hb.block _ (by omega) (fun h => by have := ho _ h; omega)).trans h2, (hb.block _ (by omega) (fun h => by have := ho _ h; omega)).trans h3, h4, h5⟩
    · rintro k u A B ⟨c, h1, h2, h3, h4, h5⟩ hb hu
      exact ⟨c, hIx _ _ _ _ _ h1 (hb.mono (by omega) (fun _ _ h => h)) hu, (hb.block _ (by omega) (fun h => by have := ho _ h; omega)).trans h2, (hb.block _ (by omega) (fun h => by have := ho _ h; omega)).trans h3, h4, h5⟩
    · rintro k u A ⟨h1, _⟩; exact hIb _ _ _ h1
    · rintro k u A ⟨c, h1, _⟩; exact hIxb _ _ _ _ h1
    · rintro k u x W hx ⟨hi, hl, hk, hul, huk⟩
      have hlt := (Array.getElem?_eq_some_iff.1 hl).1
      refine YieldAt.mono (yield_of_roundU (S := w.heap.size) (l := w.heap.size + 1) (by omega) hul (fun k u A B h hb hu => hI k u A B h (.of_below hb) hu) (fun c k u A B h hb hu => hIx c k u A B h (.of_below hb) hu) rec hrec k x (hps x (List.mem_of_getElem? hx)) W hl (hround _ k u x W hx (by omega) ⟨_, hl⟩ hul hi)) ?_
      rintro e W' ⟨u', hu', hc, h3, hz⟩
      have n1 : ¬ u' (w.heap.size + 1) := fun h => by rcases hu' _ h with h | h; exact hul h; omega
      have n2 : ¬ u' w.heap.size := fun h => by rcases hu' _ h with h | h; exact huk h; omega
      refine ⟨u', hu', ?_⟩
      rcases hc with ⟨rfl, h1, h2⟩ | ⟨rfl, c, h1, h2⟩
      · exact .inl ⟨rfl, ⟨h1, h2, (h3 _ (by omega) (by omega) (.inr ⟨Nat.le_refl _, huk⟩)).trans hk, n1, n2⟩, yield_keepU hz (by omega) (by omega) h3 hDl⟩
      · exact .inr ⟨rfl, ⟨c, h1, h2, (h3 _ (by omega) (by omega) (.inr ⟨Nat.le_refl _, huk⟩)).trans hk, n1, n2⟩, yield_keepU hz (by omega) (by omega) h3 hDl⟩
    · rintro e W2 ⟨⟨v, rfl⟩, (⟨u, hi, hl, hk, hul, huk⟩ | ⟨k, u, hkl, c, hi, hl, hk, hul, huk⟩)⟩
      · exact ⟨none, _, by have := run_endLoop (P := P) hl (by rw [hrec]; simp); rw [hrec] at this; exact this, hdone _ u _ (Nat.le_refl _) huk (hI _ _ _ _ hi (.of_below (below_putObj _ _ _ _ (by omega))) (fun b hb => World.putObj_heap_other (by rintro rfl; exact hul hb))) ((World.putObj_heap_other (by omega)).trans hk)⟩
      · exact ⟨some c, _, by have := run_endLoop (P := P) hl (by rw [hrec]; simp); rw [hrec] at this; exact this, hstop _ c k u _ (Nat.le_refl _) huk hkl (hIx _ _ _ _ _ hi (.of_below (below_putObj _ _ _ _ (by omega))) (fun b hb => World.putObj_heap_other (by rintro rfl; exact hul hb))) ((World.putObj_heap_other (by omega)).trans hk)⟩
/-- The same, in the plain walk. -/
theorem range_outerO {D o : Nat → Prop} {gf : Nat} {lb : Array Value} {xs : List (Array Value)} {w0 w : World} {g : Operand} {ps : Array Tmp} {assign body : Go.Code} {Q : Exit → Act → World → Prop} {a : Act}
    (hg : a.eval g = .func (.func gf) #[] lb) (eg : ∀ args w, (callFunc gf args).run P w = .ok (.enter gf args) w)
    (hit : IterO P D o gf lb xs w0) (hD : ∀ k, D k → k < w.heap.size) (ho : ∀ k, o k → k < w.heap.size) (hb0 : Keep D w0.heap.size w0 w) (hps : ∀ x ∈ xs, x.size = ps.size)
    (I : Nat → (Nat → Prop) → World → Prop) (Ix : Go.Code → Nat → (Nat → Prop) → World → Prop)
    (hI : ∀ k u A B, I k u A → BelowO o w.heap.size A B → (∀ b, u b → B.heap[b]? = A.heap[b]?) → I k u B) (hIx : ∀ c k u A B, Ix c k u A → BelowO o w.heap.size A B → (∀ b, u b → B.heap[b]? = A.heap[b]?) → Ix c k u B)
    (hIb : ∀ k u A, I k u A → ∀ b, u b → b < A.heap.size) (hIxb : ∀ c k u A, Ix c k u A → ∀ b, u b → b < A.heap.size) {u0 : Nat → Prop} (hou : ∀ b, o b → ¬ u0 b) (h0 : I 0 u0 w)
    (hround : ∀ l k u x W, xs[k]? = some x → w.heap.size ≤ l → (∃ r, W.heap[l]? = some (.loop r)) → ¬ u l → I k u W →
      assign.wpIn (Fence.wide.inRound l) 0 P (Exit.then (fun a' W1 => KeepU D u w.heap.size W W1 ∧ ∀ r, body.wpIn (Fence.wide.inRound l) 0 P (rpostU D u w.heap.size I Ix k (W1.putObj l (.loop r))) a' (W1.putObj l (.loop r))) (fun _ _ _ => False))
        { tmps := (ps.zip x).foldl (fun t (p, v) => t.setIfInBounds p v) a.tmps, defers := [] } W)
    (hdone : ∀ K u W, w.heap.size ≤ K → ¬ u K → I xs.length u W → W.heap[K]? = some (.deferred (some [])) → Q .normal { a with defers := { target := .collected K, args := #[] } :: a.defers } W)
    (hstop : ∀ K c k u W, w.heap.size ≤ K → ¬ u K → k ≤ xs.length → Ix c k u W → W.heap[K]? = some (.deferred (some [])) → c.wp P Q { a with defers := { target := .collected K, args := #[] } :: a.defers } W) :
    (Go.Code.rangeFunc g ps assign body).wp P Q a w :=
  wpIn_wide.1 (range_outerInO hg eg hit hD ho hb0 hps I Ix hI hIx hIb hIxb hou h0 hround hdone (fun K c k u W h1 h2 h3 h4 h5 => wpIn_wide.2 (hstop K c k u W h1 h2 h3 h4 h5)))
end
end Go.Proofs.YtopgbggighaknaaGreatDoor
/- KeepU's laws (out of layer 4's XPtrs). -/
namespace Go.Proofs.YtopgbggighaknaaGreatDoor
open Go.RowKit Go
theorem KeepU.trans {D u u' : Nat → Prop} {S : Nat} {A B C : World} (h : KeepU D u S A B) (k : KeepU D u' S B C) (hu : ∀ b, u' b → u b ∨ A.heap.size ≤ b) : KeepU D u S A C :=
  ⟨Nat.le_trans h.size k.size, fun i hi hd => (k.same i (Nat.lt_of_lt_of_le hi h.size) (hd.imp id (fun ⟨a, b⟩ => ⟨a, fun h' => by rcases hu i h' with h' | h'; exact b h'; omega⟩))).trans (h.same i hi hd)⟩
theorem KeepU.blk {D u : Nat → Prop} {S : Nat} {A B : World} (h : KeepU D u S A B) {b : Nat} {cs : Array Value} {t : TypeId} (hb : Blk A b cs t) (hd : D b ∨ (S ≤ b ∧ ¬ u b)) : Blk B b cs t := (h.same b hb.lt hd).trans hb
theorem KeepU.cell {D u : Nat → Prop} {S : Nat} {A B : World} (h : KeepU D u S A B) {p : Addr} (hp : p.block < A.heap.size) (hd : D p.block) : B.cell? p = A.cell? p := World.cell?_of_block (w := A) (h.same p.block hp (.inl hd))
/-- A function with any number of marks returns; nothing but the marks is written. -/
theorem leavesInM_marksO {P : Program} {fn : Func} {tmps : Array Value} {R : Ending → World → Prop} {S : Nat} : ∀ (Ks : List Nat) (W : World), Marks S Ks W →
    (∀ W', Below S W W' → (∀ b, b ∉ Ks → W'.heap[b]? = W.heap[b]?) → ∃ v, (results fn tmps).run P W' = .ok v W' ∧ R (.returned v) W') → LeavesInM Fence.wide 0 P fn tmps R (Ks.map mark) .returning W
  | [], W, _, h => h W (Below.refl _ _) (fun _ _ => rfl)
  | K :: Ks, W, hM, h => by
    have hK := hM.at_ K (by simp)
    have hn := List.nodup_cons.1 hM.nodup
    refine ⟨by simp, .inl ⟨K, _, rfl, run_takeDeferred hK.2, leavesInM_marksO Ks _ ⟨hn.2, fun K' hK' => ⟨(hM.at_ K' (by simp [hK'])).1, ?_⟩⟩ (fun W' hW' hO => h W' (Below.trans (below_putObj _ _ _ _ hK.1) hW') (fun b hb => (hO b (fun hm => hb (by simp [hm]))).trans (World.putObj_heap_other (by rintro rfl; exact hb (by simp)))))⟩⟩
    rw [World.putObj_heap_other (by rintro rfl; exact hn.1 hK')]
    exact (hM.at_ K' (by simp [hK'])).2
theorem leave_marks_endO {P : Program} {fn : Func} {R : Ending → World → Prop} {S : Nat} {tmps : Array Value} {Ks : List Nat} {W : World} (hM : Marks S Ks W)
    (h : ∀ W', Below S W W' → (∀ b, b ∉ Ks → W'.heap[b]? = W.heap[b]?) → ∃ v, (results fn tmps).run P W' = .ok v W' ∧ R (.returned v) W') : bodyPostM Fence.wide 0 P fn R .normal { tmps, defers := Ks.map mark } W := leavesInM_marksO Ks W hM h
theorem leave_marks_retO {P : Program} {fn : Func} {R : Ending → World → Prop} {S : Nat} {tmps : Array Value} {Ks : List Nat} {W : World} (hM : Marks S Ks W)
    (h : ∀ W', Below S W W' → (∀ b, b ∉ Ks → W'.heap[b]? = W.heap[b]?) → ∃ v, (results fn tmps).run P W' = .ok v W' ∧ R (.returned v) W') : bodyPostM Fence.wide 0 P fn R .ret { tmps, defers := Ks.map mark } W := leavesInM_marksO Ks W hM h
end Go.Proofs.YtopgbggighaknaaGreatDoor
/- strings.Lines as an iterator. -/
namespace Go.Proofs.YtopgbggighaknaaGreatDoor
open Go.RowKit Go
attribute [local go_sem] Oper.semAt_some
abbrev bt (s : List UInt8) : Value := .string ⟨s.toArray⟩
def strXs (ls : List (List UInt8)) : List (Array Value) := ls.map fun t => #[bt t]
theorem strXs_get {ls : List (List UInt8)} {k : Nat} {t : List UInt8} (h : ls[k]? = some t) : (strXs ls)[k]? = some #[bt t] := by simp [strXs, h]
theorem bt_size (s : List UInt8) : (ByteArray.mk s.toArray).size = s.length := by show s.toArray.size = _; simp
theorem bt_take (s : List UInt8) (k : Nat) : (ByteArray.mk s.toArray).extract 0 k = ⟨(s.take k).toArray⟩ := by apply ByteArray.ext; rw [ByteArray.data_extract]; simp
theorem bt_drop (s : List UInt8) (k : Nat) : (ByteArray.mk s.toArray).extract k (ByteArray.mk s.toArray).size = ⟨(s.drop k).toArray⟩ := by
  apply ByteArray.ext
  rw [ByteArray.data_extract, bt_size]
  simp
  rw [List.take_of_length_le (by simp)]
theorem slines_mk (X : ByteArray) (w : World) :
    Calls Tryz.prog 70 #[.string X] w fun e w' => e = .returned (.func (.func 78) #[] #[.pointer (some ⟨w.heap.size, 0, none⟩)]) ∧ w' = w.alloc (.cells #[.string X] 9) := by
  go_enter Tryz.func70, Tryz.ntmps70
  go_wp2
  go_ret
  exact ⟨rfl, rfl⟩
section
set_option maxHeartbeats 8000000 in
set_option maxRecDepth 100000 in
theorem lines_iterO (s : List UInt8) (hs : s.length ≤ 1000000) (bs : Nat) (ty : TypeId) (w : World) (hb : Blk w bs #[bt s] ty) :
    IterO Tryz.prog (fun k => k = bs) (fun k => k = bs) 78 #[.pointer (some ⟨bs, 0, none⟩)] (strXs (linesS s)) w := by
  intro l J Jx u0 W hW hJ hJx hB hBx hY hou hJ0
  have hb0 := hb.keep hW (.inl rfl)
  have H := Lib.hid (And.intro hJ (And.intro hJx hY))
  have HB := Lib.hid (And.intro hB hBx)
  have H0 := Lib.hid (And.intro hJ0 (And.intro hb0 (hou bs rfl)))
  have HI := Lib.hid (fun (r : List UInt8) (w : World) => Tryz.strings_IndexByte ⟨r.toArray⟩ 10 w)
  have hbW : bs < W.heap.size := hb0.lt
  clear hJ hJx hB hBx hY hW hb hou hJ0 hb0
  refine callsIn_of_wp Tryz.func78 rfl trivial ?_ rfl
  simp only [Tryz.ntmps78, List.size_toArray, List.length_cons, List.length_nil, Nat.reduceAdd, Nat.reduceSub, Array.replicate_succ, Array.replicate_zero, List.push_toArray, List.append_toArray, List.nil_append, List.cons_append]
  gi_wp2
  gi_loopw [3, 4] (fun v3 v4 wr => ∃ (k : Nat) (u : Nat → Prop), k ≤ (linesS s).length ∧ J k u wr ∧ Blk wr bs #[bt (restS s k)] ty ∧ ¬ u bs ∧ W.heap.size ≤ wr.heap.size) (fun v3 v4 wr => match wr.cell? ⟨bs, 0, none⟩ with | some (.string x) => x.size | _ => 0)
  case atStart => exact ⟨0, u0, Nat.zero_le _, H0.out.1, H0.out.2.1, H0.out.2.2, Nat.le_refl _⟩
  case round =>
    obtain ⟨k, u, hk, hJk, hbk, hub, hz⟩ := hrel
    have c0 := hbk.cell 0
    simp only [List.getElem?_toArray, List.getElem?_cons_zero] at c0
    by_cases h0 : restS s k = []
    · have hke := lines_end s k h0 hk
      rw [h0] at c0
      have HJ := Lib.hid hJk
      clear hJk hbk hk
      gi_wp2
      go_end0
      exact ⟨⟨_, rfl⟩, .inl ⟨u, by rw [show (strXs (linesS s)).length = k by simp [strXs, hke]]; exact HJ.out⟩⟩
    · have hget := strXs_get (lines_get s k h0)
      have hlt := lines_lt s k h0
      have hrl := rest_len s k
      have hls := rest_less s k h0
      have hfz := hbk.frozen 0
      have hpos : 0 < (restS s k).length := List.length_pos_iff.2 h0
      have hstep : restS s (k + 1) = (nextL (restS s k)).2 := rfl
      have hHr := HI.out (restS s k)
      simp only [bt] at c0
      have hbX := Lib.hid (show Blk wr bs #[.string ⟨(restS s k).toArray⟩] ty from hbk)
      have HQ := Lib.hid (And.intro hJk (And.intro hbk (And.intro hub (And.intro hget (And.intro hlt (And.intro hls hz))))))
      rw [hstep] at HQ
      have HST := Lib.hid hstep
      clear hJk hbk hub hget hlt hls hstep hk h0
      generalize restS s k = r at *
      have z0 : (ByteArray.mk r.toArray).size = r.length := bt_size r
      have z1 : (0 : Int) < ((ByteArray.mk r.toArray).size : Nat) := by omega
      have z2 : (ByteArray.mk r.toArray).size ≤ 1000000 := by omega
      cases hl : (lineK r).2 with
      | some rr =>
        have hi := idx_some r rr hl
        obtain ⟨t1, t2, t3⟩ := take_line r rr hl
        generalize (lineK r).1.length = i at *
        have HIr := Lib.hid (show ∀ w, Calls Tryz.prog 79 #[.string ⟨r.toArray⟩, .int .u8 10] w fun e w' => e = .returned (.int .i64 (i : Nat)) ∧ w' = w from fun w => (hHr w).mono fun e w' h => ⟨h.1.trans (by rw [← hi]; rfl), h.2⟩)
        have b1 := bt_take r (i + 1)
        have b2 := bt_drop r (i + 1)
        rw [t1] at b1
        rw [t2] at b2
        have z3 : (i : Int) + 1 ≤ ((ByteArray.mk r.toArray).size : Nat) := by omega
        have z4 : i + 1 ≤ (ByteArray.mk r.toArray).size := by omega
        have HBB := Lib.hid (And.intro b1 (And.intro b2 z0))
        clear hHr hi t1 t2 t3 b1 b2 z0 hrl hpos hl
        generalize ByteArray.mk r.toArray = X at *
        gi_wp2_with (gi_at_call 79; refine (callsIn_wide.2 (HIr.out _)).mono ?_; rintro e w1 ⟨rfl, rfl⟩)
        refine wpIn_wide.2 ?_
        refine wp_region_tail 10 9 rfl (by kernel_rfl) (by kernel_rfl) (by kernel_rfl) ?_
        apply Exists.intro
        refine ⟨fun cc => ?_, fun W4 hW4 => ?_⟩
        · have p0 := on_cell ((hbX.out.ext cc.h).cell 0)
          simp only [List.take_succ_cons, List.take_zero]
          repeat (go_big_quiet_step (fail))
          exact wpQuiet_nil rfl
        have b4 := hbX.out.ext hW4
        have c4 := b4.cell 0
        have f4 := b4.frozen 0
        simp only [List.getElem?_toArray, List.getElem?_cons_zero] at c4
        simp only [List.drop_succ_cons, List.drop_zero]
        clear c0 hfz
        go_wp2
        rw [HBB.out.1, HBB.out.2.1]
        have B5 : BelowO (fun k => k = bs) W.heap.size w1 (W4.setCell ⟨bs, 0, none⟩ (bt (nextL r).2)) := (BelowO.of_below (hW4.mono HQ.out.2.2.2.2.2.2)).trans (BelowO.setCell W4 ⟨bs, 0, none⟩ _ (.inl rfl))
        have b5 := b4.set 0 (bt (nextL r).2)
        simp only [List.setIfInBounds_toArray, List.set_cons_zero] at b5
        have J5 := H.out.1 k u w1 _ HQ.out.1 B5 (fun b hb => (Below.heap_setCell _ _ _ _ (by show b ≠ bs; rintro rfl; exact HQ.out.2.2.1 hb)).trans (hW4.block b (HB.out.1 _ _ _ HQ.out.1 b hb)))
        have hz5 := hW4.size
        have hs5 : w1.heap.size ≤ (W4.setCell ⟨bs, 0, none⟩ (bt (nextL r).2)).heap.size := by simpa using hz5
        have hbl := hbX.out.lt
        clear B5 b4 c4 f4 hW4 hz5
        generalize W4.setCell ⟨bs, 0, none⟩ (bt (nextL r).2) = W5 at *
        obtain ⟨f1, t1, p1, q1, hy1, hR1⟩ := H.out.2.2 k u _ W5 HQ.out.2.2.2.1 J5
        simp only [bt] at hy1 ⊢
        have H5 := Lib.hid (And.intro b5 (And.intro hs5 hbl))
        clear J5 b5 hs5 hbl
        gi_wp2
        refine hR1.mono ?_
        rintro e W6 ⟨u', hu', (⟨rfl, hJ2, hk2⟩ | ⟨rfl, hx2, hk2⟩)⟩
        · have HJ := Lib.hid (And.intro hJ2 (And.intro hk2 hu'))
          clear hJ2 hk2 hu'
          gi_wp2
          have b6 := HJ.out.2.1.blk H5.out.1 (.inl rfl)
          have e6 := b6.cell 0
          simp only [List.getElem?_toArray, List.getElem?_cons_zero] at e6
          refine ⟨⟨k + 1, u', HQ.out.2.2.2.2.1, HJ.out.1, by rw [HST.out]; exact b6, fun h => ?_, ?_⟩, ?_⟩
          · rcases HJ.out.2.2 _ h with h | h
            · exact HQ.out.2.2.1 h
            · have := H5.out.1.lt; omega
          · have := HJ.out.2.1.size; have := H5.out.2.1; have := HQ.out.2.2.2.2.2.2; omega
          · rw [e6, hbX.out.cell 0]
            have := HQ.out.2.2.2.2.2.1
            show (ByteArray.mk (nextL r).2.toArray).size < X.size
            rw [bt_size, HBB.out.2.2]; exact this
        · have HJ := Lib.hid hx2
          clear hx2 hk2
          have hlt := HQ.out.2.2.2.2.1
          gi_wp2
          refine bodyPost_ret (results_none rfl _ _ _) rfl ?_
          exact ⟨⟨_, rfl⟩, .inr ⟨k + 1, u', by simp only [strXs, List.length_map]; omega, HJ.out⟩⟩
      | none =>
        have hi := idx_none r hl
        have HIr := Lib.hid (show ∀ w, Calls Tryz.prog 79 #[.string ⟨r.toArray⟩, .int .u8 10] w fun e w' => e = .returned (.int .i64 (-1)) ∧ w' = w from fun w => (hHr w).mono fun e w' h => ⟨h.1.trans (by rw [← hi]; rfl), h.2⟩)
        have hnx := nextL_none hl
        have HBB := Lib.hid (And.intro hnx (And.intro hnx z0))
        have hJr := Lib.hid (show (ByteArray.mk r.toArray) = ⟨(nextL r).1.toArray⟩ by rw [hnx])
        have hJe := Lib.hid (show (ByteArray.mk #[]) = ⟨(nextL r).2.toArray⟩ by rw [hnx])
        have B5 : BelowO (fun k => k = bs) W.heap.size wr (wr.setCell ⟨bs, 0, none⟩ (.string ⟨#[]⟩)) := BelowO.setCell wr ⟨bs, 0, none⟩ _ (.inl rfl)
        have b5 := hbX.out.set 0 (.string ⟨#[]⟩)
        simp only [List.setIfInBounds_toArray, List.set_cons_zero] at b5
        replace b5 : Blk (wr.setCell ⟨bs, 0, none⟩ (.string ⟨#[]⟩)) bs #[.string ⟨(nextL r).2.toArray⟩] ty := by rw [← hJe.out]; exact b5
        have J5 := H.out.1 k u wr _ HQ.out.1 B5 (fun b hb => (Below.heap_setCell _ _ _ _ (by show b ≠ bs; rintro rfl; exact HQ.out.2.2.1 hb)))
        have hs5 : wr.heap.size ≤ (wr.setCell ⟨bs, 0, none⟩ (.string ⟨#[]⟩)).heap.size := by simp
        have hbl := hbX.out.lt
        obtain ⟨f1, t1, p1, q1, hy1, hR1⟩ := H.out.2.2 k u _ (wr.setCell ⟨bs, 0, none⟩ (.string ⟨#[]⟩)) HQ.out.2.2.2.1 J5
        simp only [bt] at hy1
        rw [← hJr.out] at hy1
        have H5 := Lib.hid (And.intro b5 (And.intro hs5 hbl))
        clear B5 J5 b5 hs5 hbl hHr hi z0 hrl hpos hl hnx
        generalize ByteArray.mk r.toArray = X at *
        gi_wp2_with (gi_at_call 79; refine (callsIn_wide.2 (HIr.out _)).mono ?_; rintro e w1 ⟨rfl, rfl⟩)
        refine hR1.mono ?_
        rintro e W6 ⟨u', hu', (⟨rfl, hJ2, hk2⟩ | ⟨rfl, hx2, hk2⟩)⟩
        · have HJ := Lib.hid (And.intro hJ2 (And.intro hk2 hu'))
          clear hJ2 hk2 hu'
          gi_wp2
          have b6 := HJ.out.2.1.blk H5.out.1 (.inl rfl)
          have e6 := b6.cell 0
          simp only [List.getElem?_toArray, List.getElem?_cons_zero] at e6
          refine ⟨⟨k + 1, u', HQ.out.2.2.2.2.1, HJ.out.1, by rw [HST.out]; exact b6, fun h => ?_, ?_⟩, ?_⟩
          · rcases HJ.out.2.2 _ h with h | h
            · exact HQ.out.2.2.1 h
            · have := H5.out.1.lt; omega
          · have := HJ.out.2.1.size; have := H5.out.2.1; have := HQ.out.2.2.2.2.2.2; omega
          · rw [e6, hbX.out.cell 0]
            have := HQ.out.2.2.2.2.2.1
            show (ByteArray.mk (nextL r).2.toArray).size < X.size
            rw [bt_size, HBB.out.2.2]; exact this
        · have HJ := Lib.hid hx2
          clear hx2 hk2
          have hlt := HQ.out.2.2.2.2.1
          gi_wp2
          refine bodyPost_ret (results_none rfl _ _ _) rfl ?_
          exact ⟨⟨_, rfl⟩, .inr ⟨k + 1, u', by simp only [strXs, List.length_map]; omega, HJ.out⟩⟩
end
end Go.Proofs.YtopgbggighaknaaGreatDoor
/- kinds: lines as an iterator. -/
namespace Go.Proofs.YtopgbggighaknaaGreatDoor
open Go.RowKit Go
attribute [local go_sem] Oper.semAt_some
def numXs (ls : List (List UInt8)) : List (Array Value) := ls.mapIdx fun i t => #[.int .i64 ((i : Int) + 1), bt t]
theorem numXs_get {ls : List (List UInt8)} {k : Nat} {t : List UInt8} (h : ls[k]? = some t) : (numXs ls)[k]? = some #[.int .i64 ((k : Int) + 1), bt t] := by simp [numXs, h]
theorem numXs_len (ls : List (List UInt8)) : (numXs ls).length = ls.length := by simp [numXs]
theorem klines_mk (X : ByteArray) (w : World) :
    Calls Tryz.prog 57 #[.string X] w fun e w' => e = .returned (.func (.func 69) #[] #[.pointer (some ⟨w.heap.size, 0, none⟩)]) ∧ w' = w.alloc (.cells #[.string X] 9) := by
  go_enter Tryz.func57, Tryz.ntmps57
  go_wp2
  go_ret
  exact ⟨rfl, rfl⟩
section
set_option maxHeartbeats 8000000 in
set_option maxRecDepth 100000 in
theorem klines_iterU (s : List UInt8) (hs : s.length ≤ 1000000) (bc : Nat) (ty : TypeId) (w : World) (hb : Blk w bc #[.string ⟨s.toArray⟩] ty) :
    IterU Tryz.prog (fun k => k = bc) 69 #[.pointer (some ⟨bc, 0, none⟩)] (numXs (linesS s)) w := by
  intro l J Jx u0 W hW hJ hJx hB hBx hY hJ0
  have hb0 := hb.keep hW (.inl rfl)
  have E2 := ext2 W (.cells #[.func (.yield l) #[] #[]] 108) (.cells #[.int .i64 0] 3)
  have c0 := (hb0.ext E2).cell 0
  simp only [List.getElem?_toArray, List.getElem?_cons_zero] at c0
  have H := Lib.hid (And.intro hJ (And.intro hJx hY))
  have HB := Lib.hid (And.intro hB hBx)
  have H0 := Lib.hid hJ0
  have hbW : bc < W.heap.size := hb0.lt
  have HE := Lib.hid E2
  have by0 := Lib.hid ((Blk.new W #[.func (.yield l) #[] #[]] 108).ext (ext1 _ (.cells #[.int .i64 0] 3)))
  have bn0 := Lib.hid (Blk.new (W.alloc (.cells #[.func (.yield l) #[] #[]] 108)) #[.int .i64 0] 3)
  clear hJ hJx hB hBx hY hW hb hJ0 hb0 E2
  refine callsIn_of_wp_marks Tryz.func69 rfl trivial (wpIn_wide.2 ?_)
  simp only [Tryz.ntmps69, List.size_toArray, List.length_cons, List.length_nil, Nat.reduceAdd, Nat.reduceSub, Array.replicate_succ, Array.replicate_zero, List.push_toArray, List.append_toArray, List.nil_append, List.cons_append]
  go_wp2_with (go_at_call 70; refine (slines_mk _ _).mono ?_; rintro e w1 ⟨rfl, rfl⟩)
  have X5 := Ext.trans HE.out (ext1 _ (.cells #[.string ⟨s.toArray⟩] 9))
  have bY5 := by0.out.ext (ext1 _ (.cells #[.string ⟨s.toArray⟩] 9))
  have bN5 := bn0.out.ext (ext1 _ (.cells #[.string ⟨s.toArray⟩] 9))
  have bS5 := Blk.new ((W.alloc (.cells #[.func (.yield l) #[] #[]] 108)).alloc (.cells #[.int .i64 0] 3)) #[.string ⟨s.toArray⟩] 9
  have z5 : (((W.alloc (.cells #[.func (.yield l) #[] #[]] 108)).alloc (.cells #[.int .i64 0] 3)).alloc (.cells #[.string ⟨s.toArray⟩] 9)).heap.size = W.heap.size + 3 := by simp
  have J5 := H.out.1 0 u0 W _ H0.out (X5.mono (Nat.le_refl _)) (fun b hb => X5.block b (HB.out.1 _ _ _ H0.out b hb))
  have hu5 : ∀ b, u0 b → b < W.heap.size := HB.out.1 _ _ _ H0.out
  rw [show (W.alloc (.cells #[.func (.yield l) #[] #[]] 108)).heap.size = W.heap.size + 1 by simp] at bN5
  rw [show ((W.alloc (.cells #[.func (.yield l) #[] #[]] 108)).alloc (.cells #[.int .i64 0] 3)).heap.size = W.heap.size + 1 + 1 by simp] at bS5
  clear HE by0 bn0 c0
  generalize ((W.alloc (.cells #[.func (.yield l) #[] #[]] 108)).alloc (.cells #[.int .i64 0] 3)).alloc (.cells #[.string ⟨s.toArray⟩] 9) = W5 at *
  refine range_outerO (D := fun k => k = W.heap.size + 1 + 1) (o := fun k => k = W.heap.size + 1 + 1) (w0 := W5) rfl (enters_of Tryz.func78 (by kernel_rfl) rfl)
    (lines_iterO s hs (W.heap.size + 1 + 1) 9 W5 bS5) (by rintro k rfl; omega) (by rintro k rfl; omega) (Keep.refl _ _ _) (by intro x' hx'; obtain ⟨i', _, rfl⟩ := List.mem_map.1 hx'; rfl)
    (fun j u Wx => J j u Wx ∧ Blk Wx W.heap.size #[.func (.yield l) #[] #[]] 108 ∧ Blk Wx (W.heap.size + 1) #[.int .i64 (j : Nat)] 3 ∧ (¬ u W.heap.size ∧ ¬ u (W.heap.size + 1) ∧ ¬ u (W.heap.size + 1 + 1)) ∧ W5.heap.size ≤ Wx.heap.size)
    (fun c' j u Wx => c' = .ret ∧ Jx j u Wx ∧ (¬ u W.heap.size ∧ ¬ u (W.heap.size + 1) ∧ ¬ u (W.heap.size + 1 + 1))) ?hI ?hIx ?hIb ?hIxb (u0 := u0) (by rintro b rfl h; have := hu5 _ h; omega) ⟨J5, bY5, bN5, ⟨fun h => by have := hu5 _ h; omega, fun h => by have := hu5 _ h; omega, fun h => by have := hu5 _ h; omega⟩, Nat.le_refl _⟩ ?hround ?hdone ?hstop
  case hI =>
    rintro j u A B ⟨q1, q2, q3, q4, q5⟩ hb hu
    exact ⟨H.out.1 _ _ _ _ q1 (hb.below (by omega) (by rintro k rfl; omega)) hu, (hb.block _ (by omega) (by omega)).trans q2, (hb.block _ (by omega) (by omega)).trans q3, q4, Nat.le_trans q5 hb.size⟩
  case hIx =>
    rintro c' j u A B ⟨rfl, q1, q2⟩ hb hu
    exact ⟨rfl, H.out.2.1 _ _ _ _ q1 (hb.below (by omega) (by rintro k rfl; omega)) hu, q2⟩
  case hIb => rintro j u A ⟨q1, _⟩; exact HB.out.1 _ _ _ q1
  case hIxb => rintro c' j u A ⟨_, q1, _⟩; exact HB.out.2 _ _ _ q1
  case hround =>
    rintro l' j u x' Wx hx' hl' hr' hul ⟨q1, q2, q3, q4, q5⟩
    obtain ⟨t, ht, rfl⟩ : ∃ t, (linesS s)[j]? = some t ∧ x' = #[bt t] := by
      simp only [strXs, List.getElem?_map, Option.map_eq_some_iff] at hx'
      obtain ⟨t, h1, h2⟩ := hx'
      exact ⟨t, h1, h2.symm⟩
    have hjl : j < (linesS s).length := (List.getElem?_eq_some_iff.1 ht).1
    have hjs := lines_count s
    have Q := Lib.hid (And.intro q1 (And.intro q2 (And.intro q3 (And.intro q4 (And.intro q5 ht)))))
    clear hx' q1 q2 q3 q4 q5 ht
    gi_wp2
    refine to_bodyU hl' hul hr' ?_
    intro W' hW' hu' hof hr2
    obtain ⟨q1, q2, q3, q4, q5, ht⟩ := Q.out
    have q1' := H.out.1 _ _ _ _ q1 (hW'.mono (by omega)) hu'
    have q2' := q2.below hW' (by omega)
    have q3' := q3.below hW' (by omega)
    have f3 := q3'.frozen 0
    have c3 := q3'.cell 0
    have b6 := q3'.set 0 (.int .i64 ((j : Int) + 1))
    simp only [List.setIfInBounds_toArray, List.set_cons_zero] at b6
    have y6 := q2'.other ⟨W.heap.size + 1, 0, none⟩ (.int .i64 ((j : Int) + 1)) (by show W.heap.size ≠ W.heap.size + 1; omega)
    have J6 := H.out.1 _ _ _ (W'.setCell ⟨W.heap.size + 1, 0, none⟩ (.int .i64 ((j : Int) + 1))) q1' ((Below.refl _ W').setCell (p := ⟨W.heap.size + 1, 0, none⟩) (by show W.heap.size ≤ W.heap.size + 1; omega) _) (fun b hb => Below.heap_setCell _ _ _ _ (by show b ≠ W.heap.size + 1; rintro rfl; exact q4.2.1 hb))
    obtain ⟨f1, t1, p1, w1, hy1, hR1⟩ := H.out.2.2 _ _ _ (W'.setCell ⟨W.heap.size + 1, 0, none⟩ (.int .i64 ((j : Int) + 1))) (numXs_get ht) J6
    have n6 := b6.cell 0
    have m6 := y6.cell 0
    have h9 : (j : Int) + 1 ≤ 2000000 := by omega
    have Q2 := Lib.hid (And.intro J6 (And.intro b6 (And.intro y6 (And.intro q4 (And.intro q5 hW'.size)))))
    simp only [List.getElem?_toArray, List.getElem?_cons_zero] at c3 n6 m6
    clear q1 q2 q3 q4 q5 q1' q2' q3' J6 b6 y6 ht
    gi_wp2
    refine RoundIn.mono (show RoundIn (Fence.wide.inRound l') 0 _ _ _ _ _ _ _ _ from hR1) ?_
    have keep : ∀ (u' : Nat → Prop) (W2 : World), KeepU (fun k => k = bc) u W.heap.size (W'.setCell ⟨W.heap.size + 1, 0, none⟩ (.int .i64 ((j : Int) + 1))) W2 → KeepU (fun k => k = W.heap.size + 1 + 1) u W5.heap.size W' W2 := fun u' W2 hk2 => ⟨by have := hk2.size; simpa using this, fun i hi hd => (hk2.same i (by simpa using hi) (by
      rcases hd with rfl | ⟨hd, hd2⟩
      · exact .inr ⟨by omega, Q2.out.2.2.2.1.2.2⟩
      · exact .inr ⟨by omega, hd2⟩)).trans (Below.heap_setCell _ _ _ _ (by
      show i ≠ W.heap.size + 1
      rcases hd with rfl | ⟨hd, hd2⟩ <;> omega))⟩
    have hsz : W'.heap.size = (W'.setCell ⟨W.heap.size + 1, 0, none⟩ (.int .i64 ((j : Int) + 1))).heap.size := by simp
    have hW5' : W5.heap.size ≤ W'.heap.size := Nat.le_trans Q2.out.2.2.2.2.1 Q2.out.2.2.2.2.2
    rintro e W2 ⟨u', hu2, (⟨rfl, hJ2, hk2⟩ | ⟨rfl, hx2, hk2⟩)⟩
    · have Q3 := Lib.hid (And.intro hJ2 (And.intro hk2 hu2))
      clear hJ2 hk2 hu2
      gi_wp2
      obtain ⟨hJ2, hk2, hu2⟩ := Q3.out
      obtain ⟨J6, b6, y6, q4, q5, qz⟩ := Q2.out
      refine ⟨keep u' _ hk2, u', fun b hb => by rw [hsz]; exact hu2 b hb, hJ2, hk2.blk y6 (.inr ⟨Nat.le_refl _, q4.1⟩), ?_, ⟨fun h => ?_, fun h => ?_, fun h => ?_⟩, ?_⟩
      · have := hk2.blk b6 (.inr ⟨by omega, q4.2.1⟩)
        exact this
      · rcases hu2 _ h with h | h
        · exact q4.1 h
        · rw [← hsz] at h; omega
      · rcases hu2 _ h with h | h
        · exact q4.2.1 h
        · rw [← hsz] at h; omega
      · rcases hu2 _ h with h | h
        · exact q4.2.2 h
        · rw [← hsz] at h; omega
      · have := hk2.size
        rw [← hsz] at this; omega
    · have Q3 := Lib.hid (And.intro hx2 (And.intro hk2 hu2))
      clear hx2 hk2 hu2
      gi_wp2
      obtain ⟨hx2, hk2, hu2⟩ := Q3.out
      obtain ⟨J6, b6, y6, q4, q5, qz⟩ := Q2.out
      refine ⟨keep u' _ hk2, u', fun b hb => by rw [hsz]; exact hu2 b hb, rfl, hx2, fun h => ?_, fun h => ?_, fun h => ?_⟩
      · rcases hu2 _ h with h | h
        · exact q4.1 h
        · rw [← hsz] at h; omega
      · rcases hu2 _ h with h | h
        · exact q4.2.1 h
        · rw [← hsz] at h; omega
      · rcases hu2 _ h with h | h
        · exact q4.2.2 h
        · rw [← hsz] at h; omega
  case hdone =>
    rintro K u Wd hK hKu ⟨q1, q2, q3, q4, q5⟩ hKd
    have Q := Lib.hid (And.intro q1 hKd)
    clear q1 q2 q3 q4 q5 hKd
    go_wp2
    have hM : Marks W.heap.size [K] Wd := (Marks.nil _ _).cons (by omega) (fun h => by cases h) Q.out.2
    refine leave_marks_endO hM (fun W' hW' hO => ⟨_, results_none rfl _ _ _, ⟨_, rfl⟩, .inl ⟨u, ?_⟩⟩)
    have e : (numXs (linesS s)).length = (strXs (linesS s)).length := by rw [numXs_len]; simp [strXs]
    rw [e]
    exact H.out.1 _ _ _ _ Q.out.1 hW' (fun b hb => hO b (fun hm => hKu (by rcases List.mem_singleton.1 hm with rfl; exact hb)))
  case hstop =>
    rintro K c' j u Wd hK hKu hj ⟨rfl, q1, q2⟩ hKd
    have Q := Lib.hid (And.intro q1 hKd)
    clear q1 q2 hKd
    go_wp2
    have hM : Marks W.heap.size [K] Wd := (Marks.nil _ _).cons (by omega) (fun h => by cases h) Q.out.2
    have e : (numXs (linesS s)).length = (strXs (linesS s)).length := by rw [numXs_len]; simp [strXs]
    exact leave_marks_retO (Ks := [K]) hM (fun W' hW' hO => ⟨_, results_none rfl _ _ _, ⟨_, rfl⟩, .inr ⟨_, u, by rw [e]; exact hj, H.out.2.1 _ _ _ _ Q.out.1 hW' (fun b hb => hO b (fun hm => hKu (by rcases List.mem_singleton.1 hm with rfl; exact hb)))⟩⟩)
end
end Go.Proofs.YtopgbggighaknaaGreatDoor
