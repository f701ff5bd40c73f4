/- Ranges over functions: an iterator that yields a known list, the loop's law at an outermost loop and within a round, and how a function with such loops returns. -/
import Derived.RangeFuncNested
import Derived.RangeFuncBound
import Derived.RangeFuncLeaves
import Derived.RangeFuncCalls
import Derived.Shelf.Abstract
import Derived.Shelf.RegionOpen
import Derived.WalkKit
import Derived.OwnWalkIn
import Derived.TacticsInMore
import Derived.LoopNIn
import Derived.LoopIn
import Derived.Lib.Hide
namespace Go.Proofs.YtfpefffgegphnaaDoor
open Go.RowKit Go
variable {P : Program}

/-- w' is w with blocks more. -/
abbrev Ext (w w' : World) : Prop := Below w.heap.size w w'
theorem Ext.refl (w : World) : Ext w w := Below.refl _ _
theorem Ext.trans {a b c : World} (h : Ext a b) (k : Ext b c) : Ext a c := Below.trans h (Below.mono k h.size)

/-- Of the blocks that were there, those in D and those from S on lie as they lay. -/
structure Keep (D : Nat → Prop) (S : Nat) (W W' : World) : Prop where
  size : W.heap.size ≤ W'.heap.size
  same : ∀ k, k < W.heap.size → (D k ∨ S ≤ k) → W'.heap[k]? = W.heap[k]?
theorem Keep.refl (D : Nat → Prop) (S : Nat) (W : World) : Keep D S W W := ⟨Nat.le_refl _, fun _ _ _ => rfl⟩
theorem Keep.trans {D : Nat → Prop} {S : Nat} {A B C : World} (h : Keep D S A B) (k : Keep D S B C) : Keep D S A C :=
  ⟨Nat.le_trans h.size k.size, fun i hi hd => (k.same i (Nat.lt_of_lt_of_le hi h.size) hd).trans (h.same i hi hd)⟩
theorem Keep.of_ext {D : Nat → Prop} {S : Nat} {A B : World} (h : Ext A B) : Keep D S A B := ⟨h.size, fun i hi _ => h.block i hi⟩
theorem Keep.setCell {D : Nat → Prop} {S : Nat} {A B : World} (h : Keep D S A B) (p : Addr) (v : Value) (hp : p.block < S ∨ A.heap.size ≤ p.block) (hd : ¬ D p.block ∨ A.heap.size ≤ p.block) : Keep D S A (B.setCell p v) :=
  ⟨by have := h.size; simpa [World.setCell] using this, fun i hi hk => by
    rw [Below.heap_setCell _ _ _ _ (by rintro rfl; rcases hk with hk | hk <;> rcases hp with hp | hp <;> rcases hd with hd | hd <;> first | exact hd hk | omega)]
    exact h.same i hi hk⟩
theorem Keep.alloc {D : Nat → Prop} {S : Nat} {A B : World} (h : Keep D S A B) (o : Obj) : Keep D S A (B.alloc o) :=
  h.trans ⟨by simp, fun k hk _ => Below.heap_alloc _ _ _ hk⟩
theorem Keep.drew {D : Nat → Prop} {S : Nat} {A B : World} (h : Keep D S A B) : Keep D S A B.drew := ⟨h.size, h.same⟩
theorem Keep.ext {D : Nat → Prop} {S : Nat} {A B C : World} (h : Keep D S A B) (k : Ext B C) : Keep D S A C := h.trans (.of_ext k)
theorem Keep.cell {D : Nat → Prop} {S : Nat} {A B : World} (h : Keep D S A B) {p : Addr} (hp : p.block < A.heap.size) (hd : D p.block ∨ S ≤ p.block) : B.cell? p = A.cell? p :=
  World.cell?_of_block (w := A) (h.same p.block hp hd)

theorem Keep.at {D : Nat → Prop} {S : Nat} {A B : World} (h : Keep D S A B) (b o : Nat) (hb : b < A.heap.size) (hd : D b ∨ S ≤ b) : B.cell? ⟨b, o, none⟩ = A.cell? ⟨b, o, none⟩ := h.cell (p := ⟨b, o, none⟩) hb hd
theorem extAt {A B : World} (h : Ext A B) (b o : Nat) (hb : b < A.heap.size) : B.cell? ⟨b, o, none⟩ = A.cell? ⟨b, o, none⟩ := h.cell (p := ⟨b, o, none⟩) hb

/-- Block B holds the cells cs, of type t, none of them frozen. -/
def Blk (W : World) (B : Nat) (cs : Array Value) (t : TypeId) : Prop := W.heap[B]? = some (.cells cs t (0, 0))
theorem Blk.lt {W : World} {B : Nat} {cs : Array Value} {t : TypeId} (h : Blk W B cs t) : B < W.heap.size := (Array.getElem?_eq_some_iff.1 h).1
theorem Blk.cell {W : World} {B : Nat} {cs : Array Value} {t : TypeId} (h : Blk W B cs t) (i : Nat) : W.cell? ⟨B, i, none⟩ = cs[i]? := by simp [World.cell?, show W.heap[B]? = _ from h]
theorem Blk.frozen {W : World} {B : Nat} {cs : Array Value} {t : TypeId} (h : Blk W B cs t) (i : Nat) : W.frozen? ⟨B, i, none⟩ = false := by simp [World.frozen?, show W.heap[B]? = _ from h]
theorem Blk.new (W : World) (cs : Array Value) (t : TypeId) : Blk (W.alloc (.cells cs t)) W.heap.size cs t := World.alloc_heap_new W _
theorem Blk.below {W W' : World} {B S : Nat} {cs : Array Value} {t : TypeId} (h : Blk W B cs t) (hb : Below S W W') (hs : B < S) : Blk W' B cs t := (hb.block B hs).trans h
theorem Blk.ext {W W' : World} {B : Nat} {cs : Array Value} {t : TypeId} (h : Blk W B cs t) (hb : Ext W W') : Blk W' B cs t := h.below hb h.lt
theorem Blk.alloc {W : World} {B : Nat} {cs : Array Value} {t : TypeId} (h : Blk W B cs t) (o : Obj) : Blk (W.alloc o) B cs t := (Below.heap_alloc W o B h.lt).trans h
theorem Blk.keep {D : Nat → Prop} {S : Nat} {W W' : World} {B : Nat} {cs : Array Value} {t : TypeId} (h : Blk W B cs t) (hk : Keep D S W W') (hd : D B ∨ S ≤ B) : Blk W' B cs t := (hk.same B h.lt hd).trans h
theorem Blk.other {W : World} {B : Nat} {cs : Array Value} {t : TypeId} (h : Blk W B cs t) (p : Addr) (v : Value) (hne : B ≠ p.block) : Blk (W.setCell p v) B cs t := (Below.heap_setCell W p v B hne).trans h
theorem Blk.set {W : World} {B : Nat} {cs : Array Value} {t : TypeId} (h : Blk W B cs t) (i : Nat) (v : Value) : Blk (W.setCell ⟨B, i, none⟩ v) B (cs.setIfInBounds i v) t := by
  have e : W.heap[B]? = some (.cells cs t (0, 0)) := h
  show (W.heap.modify B _)[B]? = _
  rw [Array.getElem?_modify, if_pos rfl, e]
  rfl
theorem Blk.drew {W : World} {B : Nat} {cs : Array Value} {t : TypeId} (h : Blk W B cs t) : Blk W.drew B cs t := h
theorem Blk.putObj {W : World} {B : Nat} {cs : Array Value} {t : TypeId} (h : Blk W B cs t) (l : Nat) (o : Obj) (hne : B ≠ l) : Blk (W.putObj l o) B cs t := (World.putObj_heap_other hne).trans h
@[go_sem] theorem wide_depth : Fence.wide.depth = none := rfl
@[go_sem] theorem wide_depth' (l : Nat) : (Fence.wide.inRound l).depth = none := rfl
@[go_sem] theorem wide_fn (f : FuncId) : Fence.wide.fn f = True := rfl
@[go_sem] theorem wide_fn' (l : Nat) (f : FuncId) : (Fence.wide.inRound l).fn f = True := rfl
/-- The function gf over the captured lb, made in w, yields xs, one by one, and ends; it leans on the blocks in D. -/
def Iter (P : Program) (D : Nat → Prop) (gf : Nat) (lb : Array Value) (xs : List (Array Value)) (w : World) : Prop :=
  ∀ (l : Nat) (J Jx : Nat → World → Prop) (W : World), Keep D w.heap.size w W →
    (∀ k A B, J k A → Below W.heap.size A B → J k B) → (∀ k A B, Jx k A → Below W.heap.size A B → Jx k B) →
    (∀ k x W1, xs[k]? = some x → J k W1 → YieldAt Fence.wide 0 P l x W1 fun e W' =>
      (e = .returned (.bool true) ∧ J (k + 1) W' ∧ Keep D W.heap.size W1 W') ∨ (e = .returned (.bool false) ∧ Jx (k + 1) W' ∧ Keep D W.heap.size W1 W')) →
    J 0 W →
    CallsIn Fence.wide 0 P gf (#[.func (.yield l) #[] #[]] ++ lb) W fun e W' => (∃ v, e = .returned v) ∧ (J xs.length W' ∨ ∃ k, k ≤ xs.length ∧ Jx k W')

/-- How a round's body may be left. -/
def rpost (D : Nat → Prop) (S : Nat) (I : Nat → World → Prop) (Ix : Code → Nat → World → Prop) (k : Nat) (W : World) : Exit → Act → World → Prop
  | .normal, _, W' => Keep D S W W' ∧ I (k + 1) W'
  | .ret, _, W' => Keep D S W W' ∧ Ix .ret (k + 1) W'
  | .exit id, _, W' => Keep D S W W' ∧ Ix (.exit id) (k + 1) W'
  | .goto t, _, W' => Keep D S W W' ∧ Ix (.goto t) (k + 1) W'
  | .panic _, _, _ => False
  | .outgrown, _, _ => False

theorem below_putObj (W : World) (l B : Nat) (o : Obj) (h : B ≤ l) : Below B W (W.putObj l o) :=
  ⟨rfl, rfl, rfl, by simp, fun k hk => World.putObj_heap_other (by omega)⟩

/-- What the rounds are, whatever the loop's record: from the walk of assign and body to yield's promise. -/
theorem yield_of_round {D : Nat → Prop} {S l : Nat} {I : Nat → World → Prop} {Ix : Code → Nat → World → Prop} {fn : FuncId} {tmps : Array Value} {ps : Array Tmp} {assign body : Code} {defers : Nat}
    (hSl : S ≤ l) (hI : ∀ k A B, I k A → Below S A B → I k B) (hIx : ∀ c k A B, Ix c k A → Below S A B → Ix c k B)
    (rec : LoopState → Option Code → Loop) (hrec : rec = fun st pe => { state := st, pending := pe, fn, tmps, params := ps, assign, body, defers }) (k : Nat) (x : Array Value) (hps : x.size = ps.size) (W : World)
    (hl : W.heap[l]? = some (.loop (rec .ready none))) (_hi : I k W)
    (hr : assign.wpIn (Fence.wide.inRound l) 0 P (Exit.then (fun a' W1 => Keep D S W W1 ∧ ∀ r, body.wpIn (Fence.wide.inRound l) 0 P (rpost D S I Ix k (W1.putObj l (.loop r))) a' (W1.putObj l (.loop r))) (fun _ _ _ => False))
      { tmps := (ps.zip x).foldl (fun t (p, v) => t.setIfInBounds p v) tmps, defers := [] } W) :
    YieldAt Fence.wide 0 P l x W fun e W' =>
      (e = .returned (.bool true) ∧ (I (k + 1) W' ∧ W'.heap[l]? = some (.loop (rec .ready none)) ∧ ∀ j, j < W.heap.size → j ≠ l → (D j ∨ S ≤ j) → W'.heap[j]? = W.heap[j]?) ∧ W.heap.size ≤ W'.heap.size) ∨
      (e = .returned (.bool false) ∧ (∃ c, Ix c (k + 1) W' ∧ W'.heap[l]? = some (.loop (rec .done (some c))) ∧ ∀ j, j < W.heap.size → j ≠ l → (D j ∨ S ≤ j) → W'.heap[j]? = W.heap[j]?) ∧ W.heap.size ≤ W'.heap.size) := by
  have hy := run_yield (P := P) (args := x) hl (by rw [hrec]; exact hps)
  rw [hrec] at hy
  refine ⟨fn, _, assign, body, hy, roundIn_of_wpIn (F := Fence.wide) trivial (wpIn_mono hr ?_)⟩
  rintro e a1 W1 hq
  cases e with
  | normal =>
    obtain ⟨hk1, hb⟩ := hq
    have hlt := (Array.getElem?_eq_some_iff.1 hl).1
    have hl1 : W1.heap[l]? = some (.loop (rec .ready none)) := (hk1.same l hlt (.inr hSl)).trans hl
    have hlt1 := (Array.getElem?_eq_some_iff.1 hl1).1
    refine ⟨_, run_beginRound hl1 (by rw [hrec]), wpIn_mono (hb _) ?_⟩
    have fin : ∀ (jump : Option Code) (W3 : World), Keep D S (W1.putObj l (.loop { rec .ready none with state := .busy })) W3 →
        (Instr.endRound l jump).run P W3 = .ok (.bool jump.isNone) (W3.putObj l (.loop (rec (if jump.isNone then .ready else .done) jump))) ∧
        (W3.putObj l (.loop (rec (if jump.isNone then .ready else .done) jump))).heap[l]? = some (.loop (rec (if jump.isNone then .ready else .done) jump)) ∧
        (∀ j, j < W.heap.size → j ≠ l → (D j ∨ S ≤ j) → (W3.putObj l (.loop (rec (if jump.isNone then .ready else .done) jump))).heap[j]? = W.heap[j]?) ∧ W.heap.size ≤ W3.heap.size := fun jump W3 hk3 => by
      have hl3 := (hk3.same l (by simpa using hlt1) (.inr hSl)).trans (World.putObj_heap_same hlt1)
      have := run_endRound (P := P) jump hl3
      have hs3 := hk3.size
      simp at hs3
      have hs1 := hk1.size
      refine ⟨by rw [this]; subst hrec; rfl, World.putObj_heap_same (by omega), fun j hj hne hd => ?_, by omega⟩
      rw [World.putObj_heap_other hne, hk3.same j (by simp; omega) hd, World.putObj_heap_other hne, hk1.same j hj hd]
    rintro e a3 W3 hp
    cases e with
    | normal =>
      obtain ⟨hk3, hi3⟩ := hp
      obtain ⟨hr, hl4, hs, hz⟩ := fin none W3 hk3
      exact ⟨_, _, hr, .inl ⟨rfl, ⟨hI _ _ _ hi3 (below_putObj _ _ _ _ hSl), hl4, hs⟩, by simpa using hz⟩⟩
    | ret =>
      obtain ⟨hk3, hi3⟩ := hp
      obtain ⟨hr, hl4, hs, hz⟩ := fin (some .ret) W3 hk3
      exact ⟨_, _, hr, .inr ⟨rfl, ⟨.ret, hIx _ _ _ _ hi3 (below_putObj _ _ _ _ hSl), hl4, hs⟩, by simpa using hz⟩⟩
    | exit id =>
      obtain ⟨hk3, hi3⟩ := hp
      obtain ⟨hr, hl4, hs, hz⟩ := fin (some (.exit id)) W3 hk3
      exact ⟨_, _, hr, .inr ⟨rfl, ⟨.exit id, hIx _ _ _ _ hi3 (below_putObj _ _ _ _ hSl), hl4, hs⟩, by simpa using hz⟩⟩
    | goto t =>
      obtain ⟨hk3, hi3⟩ := hp
      obtain ⟨hr, hl4, hs, hz⟩ := fin (some (.goto t)) W3 hk3
      exact ⟨_, _, hr, .inr ⟨rfl, ⟨.goto t, hIx _ _ _ _ hi3 (below_putObj _ _ _ _ hSl), hl4, hs⟩, by simpa using hz⟩⟩
    | panic ch => exact hp.elim
    | outgrown => exact hp.elim
  | exit id => exact hq.elim
  | goto t => exact hq.elim
  | ret => exact hq.elim
  | panic chain => exact hq.elim
  | outgrown => exact hq.elim

theorem yield_keep {D : Nat → Prop} {S S' l : Nat} {W W' : World} (hz : W.heap.size ≤ W'.heap.size) (hl : l < S') (hS : S ≤ S') (h : ∀ j, j < W.heap.size → j ≠ l → (D j ∨ S ≤ j) → W'.heap[j]? = W.heap[j]?) (hD : ¬ D l) : Keep D S' W W' :=
  ⟨hz, fun j hj hd => h j hj (by rintro rfl; rcases hd with hd | hd; exact hD hd; omega) (hd.imp id (fun x => by omega))⟩

/-- 'for .. := range g { body }', outermost in its function. -/
theorem range_outerIn {D : Nat → Prop} {gf : Nat} {lb : Array Value} {xs : List (Array Value)} {w0 w : World} {g : Operand} {ps : Array Tmp} {assign body : Code} {Q : Exit → Act → World → Prop} {a : Act}
    (hg : a.eval g = .func (.func gf) #[] lb) (eg : ∀ args w, (callFunc gf args).run P w = .ok (.enter gf args) w)
    (hit : Iter P D gf lb xs w0) (hD : ∀ k, D k → k < w.heap.size) (hb0 : Keep D w0.heap.size w0 w) (hps : ∀ x ∈ xs, x.size = ps.size)
    (I : Nat → World → Prop) (Ix : Code → Nat → World → Prop)
    (hI : ∀ k A B, I k A → Below w.heap.size A B → I k B) (hIx : ∀ c k A B, Ix c k A → Below w.heap.size A B → Ix c k B) (h0 : I 0 w)
    (hround : ∀ l k x W, xs[k]? = some x → w.heap.size ≤ l → (∃ r, W.heap[l]? = some (.loop r)) → I k W →
      assign.wpIn (Fence.wide.inRound l) 0 P (Exit.then (fun a' W1 => Keep D w.heap.size W W1 ∧ ∀ r, body.wpIn (Fence.wide.inRound l) 0 P (rpost D w.heap.size I Ix k (W1.putObj l (.loop r))) a' (W1.putObj l (.loop r))) (fun _ _ _ => False))
        { tmps := (ps.zip x).foldl (fun t (p, v) => t.setIfInBounds p v) a.tmps, defers := [] } W)
    (hdone : ∀ K W, w.heap.size ≤ K → I xs.length W → W.heap[K]? = some (.deferred (some [])) → Q .normal { a with defers := { target := .collected K, args := #[] } :: a.defers } W)
    (hstop : ∀ K c k W, w.heap.size ≤ K → k ≤ xs.length → Ix c k W → W.heap[K]? = some (.deferred (some [])) → c.wpIn Fence.wide 0 P Q { a with defers := { target := .collected K, args := #[] } :: a.defers } W) :
    (Code.rangeFunc g ps assign body).wpIn Fence.wide 0 P Q a w := by
  refine wpIn_rangeFunc ?_
  intro fn hfn
  rw [show Fence.wide.round = none from rfl]
  obtain ⟨rec, hrec⟩ : ∃ rec : LoopState → Option Code → Loop, rec = fun st pe => { state := st, pending := pe, fn, tmps := a.tmps, params := ps, assign, body, defers := w.heap.size } := ⟨_, rfl⟩
  obtain ⟨W1, hW1⟩ : ∃ W1, (w.alloc (.deferred (some []))).alloc (.loop (rec .ready none)) = W1 := ⟨_, rfl⟩
  have hs1 : W1.heap.size = w.heap.size + 2 := by rw [← hW1]; simp
  have hL1 : W1.heap[w.heap.size + 1]? = some (.loop (rec .ready none)) := by
    rw [← hW1]; have := World.alloc_heap_new (w.alloc (.deferred (some []))) (.loop (rec .ready none)); rwa [World.size_alloc] at this
  have hK1 : W1.heap[w.heap.size]? = some (.deferred (some [])) := by
    rw [← hW1]; exact (Below.heap_alloc _ _ _ (by simp)).trans (World.alloc_heap_new w _)
  have hE1 : Ext w W1 := by rw [← hW1]; exact ((Below.refl _ w).alloc (Nat.le_refl _) _).alloc (by simp) _
  have hDl : ¬ D (w.heap.size + 1) := fun h => by have := hD _ h; omega
  refine ⟨w.heap.size + 1, [{ target := .collected w.heap.size, args := #[] }], W1, { target := .fn (.func gf) lb, args := #[.func (.yield (w.heap.size + 1)) #[] #[]] }, W1, gf,
    #[.func (.yield (w.heap.size + 1)) #[] #[]] ++ lb, W1, ?_, ?_, ?_, ?_, (fun h => by cases h), ?_⟩
  · rw [← hW1, hrec]; exact run_enterLoop_outer _ _ _ _ _
  · simp only [resolve, hg]
    simp [go_sem]
  · exact fun _ _ => trivial
  · simp [invoke, go_sem, eg]
  · refine (hit (w.heap.size + 1)
      (fun k W => I k W ∧ W.heap[w.heap.size + 1]? = some (.loop (rec .ready none)) ∧ W.heap[w.heap.size]? = some (.deferred (some [])))
      (fun k W => ∃ c, Ix c k W ∧ W.heap[w.heap.size + 1]? = some (.loop (rec .done (some c))) ∧ W.heap[w.heap.size]? = some (.deferred (some [])))
      W1 (hb0.trans (.of_ext hE1)) ?_ ?_ ?_ ⟨hI _ _ _ h0 hE1, hL1, hK1⟩).mono ?_
    · rintro k A B ⟨h1, h2, h3⟩ hb
      exact ⟨hI _ _ _ h1 (hb.mono (by omega)), (hb.block _ (by omega)).trans h2, (hb.block _ (by omega)).trans h3⟩
    · rintro k A B ⟨c, h1, h2, h3⟩ hb
      exact ⟨c, hIx _ _ _ _ h1 (hb.mono (by omega)), (hb.block _ (by omega)).trans h2, (hb.block _ (by omega)).trans h3⟩
    · rintro k x W hx ⟨hi, hl, hk⟩
      have hlt := (Array.getElem?_eq_some_iff.1 hl).1
      refine YieldAt.mono (yield_of_round (S := w.heap.size) (l := w.heap.size + 1) (by omega) hI hIx rec hrec k x (hps x (List.mem_of_getElem? hx)) W hl hi (hround _ k x W hx (by omega) ⟨_, hl⟩ hi)) ?_
      rintro e W' (⟨rfl, ⟨h1, h2, h3⟩, hz⟩ | ⟨rfl, ⟨c, h1, h2, h3⟩, hz⟩)
      · exact .inl ⟨rfl, ⟨h1, h2, (h3 _ (by omega) (by omega) (.inr (Nat.le_refl _))).trans hk⟩, yield_keep hz (by omega) (by omega) h3 hDl⟩
      · exact .inr ⟨rfl, ⟨c, h1, h2, (h3 _ (by omega) (by omega) (.inr (Nat.le_refl _))).trans hk⟩, yield_keep hz (by omega) (by omega) h3 hDl⟩
    · rintro e W2 ⟨⟨v, rfl⟩, (⟨hi, hl, hk⟩ | ⟨k, hkl, c, hi, hl, hk⟩)⟩
      · exact ⟨none, _, by have := run_endLoop (P := P) hl (by rw [hrec]; simp); rw [hrec] at this; exact this, hdone _ _ (Nat.le_refl _) (hI _ _ _ hi (below_putObj _ _ _ _ (by omega))) ((World.putObj_heap_other (by omega)).trans hk)⟩
      · exact ⟨some c, _, by have := run_endLoop (P := P) hl (by rw [hrec]; simp); rw [hrec] at this; exact this, hstop _ c k _ (Nat.le_refl _) hkl (hIx _ _ _ _ hi (below_putObj _ _ _ _ (by omega))) ((World.putObj_heap_other (by omega)).trans hk)⟩

/-- The same, in the plain walk. -/
theorem range_outer {D : Nat → Prop} {gf : Nat} {lb : Array Value} {xs : List (Array Value)} {w0 w : World} {g : Operand} {ps : Array Tmp} {assign body : Code} {Q : Exit → Act → World → Prop} {a : Act}
    (hg : a.eval g = .func (.func gf) #[] lb) (eg : ∀ args w, (callFunc gf args).run P w = .ok (.enter gf args) w)
    (hit : Iter P D gf lb xs w0) (hD : ∀ k, D k → k < w.heap.size) (hb0 : Keep D w0.heap.size w0 w) (hps : ∀ x ∈ xs, x.size = ps.size)
    (I : Nat → World → Prop) (Ix : Code → Nat → World → Prop)
    (hI : ∀ k A B, I k A → Below w.heap.size A B → I k B) (hIx : ∀ c k A B, Ix c k A → Below w.heap.size A B → Ix c k B) (h0 : I 0 w)
    (hround : ∀ l k x W, xs[k]? = some x → w.heap.size ≤ l → (∃ r, W.heap[l]? = some (.loop r)) → I k W →
      assign.wpIn (Fence.wide.inRound l) 0 P (Exit.then (fun a' W1 => Keep D w.heap.size W W1 ∧ ∀ r, body.wpIn (Fence.wide.inRound l) 0 P (rpost D w.heap.size I Ix k (W1.putObj l (.loop r))) a' (W1.putObj l (.loop r))) (fun _ _ _ => False))
        { tmps := (ps.zip x).foldl (fun t (p, v) => t.setIfInBounds p v) a.tmps, defers := [] } W)
    (hdone : ∀ K W, w.heap.size ≤ K → I xs.length W → W.heap[K]? = some (.deferred (some [])) → Q .normal { a with defers := { target := .collected K, args := #[] } :: a.defers } W)
    (hstop : ∀ K c k W, w.heap.size ≤ K → k ≤ xs.length → Ix c k W → W.heap[K]? = some (.deferred (some [])) → c.wp P Q { a with defers := { target := .collected K, args := #[] } :: a.defers } W) :
    (Code.rangeFunc g ps assign body).wp P Q a w :=
  wpIn_wide.1 (range_outerIn hg eg hit hD hb0 hps I Ix hI hIx h0 hround hdone (fun K c k W h1 h2 h3 h4 => wpIn_wide.2 (hstop K c k W h1 h2 h3 h4)))

/-- The same within a round of loop l0: one block is laid, and no mark. -/
theorem range_inner {D : Nat → Prop} {gf : Nat} {lb : Array Value} {xs : List (Array Value)} {w0 w : World} {g : Operand} {ps : Array Tmp} {assign body : Code} {Q : Exit → Act → World → Prop} {a : Act} {l0 : Nat} {r0 : Loop}
    (hr0 : w.heap[l0]? = some (.loop r0))
    (hg : a.eval g = .func (.func gf) #[] lb) (eg : ∀ args w, (callFunc gf args).run P w = .ok (.enter gf args) w)
    (hit : Iter P D gf lb xs w0) (hD : ∀ k, D k → k < w.heap.size) (hb0 : Keep D w0.heap.size w0 w) (hps : ∀ x ∈ xs, x.size = ps.size)
    (I : Nat → World → Prop) (Ix : Code → Nat → World → Prop)
    (hI : ∀ k A B, I k A → Below w.heap.size A B → I k B) (hIx : ∀ c k A B, Ix c k A → Below w.heap.size A B → Ix c k B) (h0 : I 0 w)
    (hround : ∀ l k x W, xs[k]? = some x → w.heap.size ≤ l → (∃ r, W.heap[l]? = some (.loop r)) → I k W →
      assign.wpIn (Fence.wide.inRound l) 0 P (Exit.then (fun a' W1 => Keep D w.heap.size W W1 ∧ ∀ r, body.wpIn (Fence.wide.inRound l) 0 P (rpost D w.heap.size I Ix k (W1.putObj l (.loop r))) a' (W1.putObj l (.loop r))) (fun _ _ _ => False))
        { tmps := (ps.zip x).foldl (fun t (p, v) => t.setIfInBounds p v) a.tmps, defers := [] } W)
    (hdone : ∀ W, I xs.length W → Q .normal a W)
    (hstop : ∀ c k W, k ≤ xs.length → Ix c k W → c.wpIn (Fence.wide.inRound l0) 0 P Q a W) :
    (Code.rangeFunc g ps assign body).wpIn (Fence.wide.inRound l0) 0 P Q a w := by
  refine wpIn_rangeFunc ?_
  intro fn hfn
  rw [show (Fence.wide.inRound l0).round = some l0 from rfl]
  obtain ⟨rec, hrec⟩ : ∃ rec : LoopState → Option Code → Loop, rec = fun st pe => { state := st, pending := pe, fn, tmps := a.tmps, params := ps, assign, body, defers := r0.defers } := ⟨_, rfl⟩
  obtain ⟨W1, hW1⟩ : ∃ W1, w.alloc (.loop (rec .ready none)) = W1 := ⟨_, rfl⟩
  have hs1 : W1.heap.size = w.heap.size + 1 := by rw [← hW1]; simp
  have hL1 : W1.heap[w.heap.size]? = some (.loop (rec .ready none)) := by rw [← hW1]; exact World.alloc_heap_new w _
  have hE1 : Ext w W1 := by rw [← hW1]; exact (Below.refl _ w).alloc (Nat.le_refl _) _
  have hDl : ¬ D w.heap.size := fun h => by have := hD _ h; omega
  refine ⟨w.heap.size, [], W1, { target := .fn (.func gf) lb, args := #[.func (.yield w.heap.size) #[] #[]] }, W1, gf,
    #[.func (.yield w.heap.size) #[] #[]] ++ lb, W1, ?_, ?_, ?_, ?_, (fun h => by cases h), ?_⟩
  · rw [← hW1, hrec]; exact run_enterLoop_inner hr0 _ _ _ _ _
  · simp only [resolve, hg]
    simp [go_sem]
  · exact fun _ _ => trivial
  · simp [invoke, go_sem, eg]
  · refine CallsIn.inRound l0 ((hit w.heap.size
      (fun k W => I k W ∧ W.heap[w.heap.size]? = some (.loop (rec .ready none)))
      (fun k W => ∃ c, Ix c k W ∧ W.heap[w.heap.size]? = some (.loop (rec .done (some c))))
      W1 (hb0.trans (.of_ext hE1)) ?_ ?_ ?_ ⟨hI _ _ _ h0 hE1, hL1⟩).mono ?_)
    · rintro k A B ⟨h1, h2⟩ hb
      exact ⟨hI _ _ _ h1 (hb.mono (by omega)), (hb.block _ (by omega)).trans h2⟩
    · rintro k A B ⟨c, h1, h2⟩ hb
      exact ⟨c, hIx _ _ _ _ h1 (hb.mono (by omega)), (hb.block _ (by omega)).trans h2⟩
    · rintro k x W hx ⟨hi, hl⟩
      refine YieldAt.mono (yield_of_round (S := w.heap.size) (l := w.heap.size) (by omega) hI hIx rec hrec k x (hps x (List.mem_of_getElem? hx)) W hl hi (hround _ k x W hx (by omega) ⟨_, hl⟩ hi)) ?_
      rintro e W' (⟨rfl, ⟨h1, h2, h3⟩, hz⟩ | ⟨rfl, ⟨c, h1, h2, h3⟩, hz⟩)
      · exact .inl ⟨rfl, ⟨h1, h2⟩, yield_keep hz (by omega) (by omega) h3 hDl⟩
      · exact .inr ⟨rfl, ⟨c, h1, h2⟩, yield_keep hz (by omega) (by omega) h3 hDl⟩
    · rintro e W2 ⟨⟨v, rfl⟩, (⟨hi, hl⟩ | ⟨k, hkl, c, hi, hl⟩)⟩
      · exact ⟨none, _, by have := run_endLoop (P := P) hl (by rw [hrec]; simp); rw [hrec] at this; exact this, hdone _ (hI _ _ _ hi (below_putObj _ _ _ _ (by omega)))⟩
      · exact ⟨some c, _, by have := run_endLoop (P := P) hl (by rw [hrec]; simp); rw [hrec] at this; exact this, hstop c k _ hkl (hIx _ _ _ _ hi (below_putObj _ _ _ _ (by omega)))⟩

/-- The world under a name of its own. -/
theorem wp_world {c : Code} {Q : Exit → Act → World → Prop} {a : Act} {w : World} (h : ∀ w1, w1 = w → c.wp P Q a w1) : c.wp P Q a w := h w rfl
theorem wpIn_world {F : Fence} {n : Nat} {c : Code} {Q : Exit → Act → World → Prop} {a : Act} {w : World} (h : ∀ w1, w1 = w → c.wpIn F n P Q a w1) : c.wpIn F n P Q a w := h w rfl

/-- Behind the assignment, where it made nothing: on to the body. -/
theorem to_body {D : Nat → Prop} {S l : Nat} {W : World} {F : Fence} {n : Nat} {c : Code} {I : Nat → World → Prop} {Ix : Code → Nat → World → Prop} {k : Nat} {a : Act} (hS : S ≤ l) (hr : ∃ r, W.heap[l]? = some (.loop r))
    (h : ∀ W', Below S W W' → (∃ r, W'.heap[l]? = some (.loop r)) → c.wpIn F n P (rpost D S I Ix k W') a W') :
    Keep D S W W ∧ ∀ r, c.wpIn F n P (rpost D S I Ix k (W.putObj l (.loop r))) a (W.putObj l (.loop r)) := by
  obtain ⟨r1, h1⟩ := hr
  exact ⟨Keep.refl _ _ _, fun r => h _ (below_putObj _ _ _ _ hS) ⟨_, World.putObj_heap_same (Array.getElem?_eq_some_iff.1 h1).1⟩⟩

/-- All blocks but l lie as they lay. -/
structure Off (l : Nat) (W W' : World) : Prop where
  size : W'.heap.size = W.heap.size
  same : ∀ j, j ≠ l → W'.heap[j]? = W.heap[j]?
theorem Blk.off {W W' : World} {B l : Nat} {cs : Array Value} {t : TypeId} (h : Blk W B cs t) (k : Off l W W') (hne : B ≠ l) : Blk W' B cs t := (k.same B hne).trans h

/-- Behind the assignment, where it made blocks. -/
theorem to_body1 {D : Nat → Prop} {S l : Nat} {W W1 : World} {F : Fence} {n : Nat} {c : Code} {I : Nat → World → Prop} {Ix : Code → Nat → World → Prop} {k : Nat} {a : Act} (hS : S ≤ l) (hr : ∃ r, W.heap[l]? = some (.loop r)) (hk : Keep D S W W1)
    (h : ∀ W', Off l W1 W' → Below S W1 W' → l < W.heap.size → (∃ r, W'.heap[l]? = some (.loop r)) → c.wpIn F n P (rpost D S I Ix k W') a W') :
    Keep D S W W1 ∧ ∀ r, c.wpIn F n P (rpost D S I Ix k (W1.putObj l (.loop r))) a (W1.putObj l (.loop r)) := by
  obtain ⟨r1, h1⟩ := hr
  have hlt := (Array.getElem?_eq_some_iff.1 h1).1
  have hs := hk.size
  exact ⟨hk, fun r => h _ ⟨by simp, fun j hj => World.putObj_heap_other hj⟩ (below_putObj _ _ _ _ hS) hlt ⟨_, World.putObj_heap_same (by omega)⟩⟩

/-- A function with one mark returns. -/
theorem leave_mark {fn : Func} {R : Ending → World → Prop} {tmps : Array Value} {K : Nat} {W : World} {v : Value} (hK : W.heap[K]? = some (.deferred (some [])))
    (hr : (results fn tmps).run P (W.putObj K (.deferred none)) = .ok v (W.putObj K (.deferred none))) (hR : R (.returned v) (W.putObj K (.deferred none))) :
    bodyPostM Fence.wide 0 P fn R .ret { tmps, defers := [{ target := .collected K, args := #[] }] } W :=
  ⟨by simp, .inl ⟨K, _, rfl, run_takeDeferred hK, v, hr, hR⟩⟩
theorem leave_mark_end {fn : Func} {R : Ending → World → Prop} {tmps : Array Value} {K : Nat} {W : World} {v : Value} (hK : W.heap[K]? = some (.deferred (some [])))
    (hr : (results fn tmps).run P (W.putObj K (.deferred none)) = .ok v (W.putObj K (.deferred none))) (hR : R (.returned v) (W.putObj K (.deferred none))) :
    bodyPostM Fence.wide 0 P fn R .normal { tmps, defers := [{ target := .collected K, args := #[] }] } W :=
  ⟨by simp, .inl ⟨K, _, rfl, run_takeDeferred hK, v, hr, hR⟩⟩
/-- A function with loops, from its body: a plain contract. -/
theorem calls_of_marks {f : FuncId} {fn : Func} {c : Code} {args : Array Value} {w : World} {R : Ending → World → Prop} (hf : P.funcs[f]? = some fn) (hb : fn.body = some c)
    (h : c.wp P (bodyPostM Fence.wide 0 P fn R) { tmps := args ++ Array.replicate (fn.ntmps - args.size) undef, defers := [] } w) : Calls P f args w R :=
  callsIn_wide.1 (callsIn_of_wp_marks hf hb trivial (wpIn_wide.2 h))

/-! ### Loops over functions within a loop: a mark each -/
def mark (K : Nat) : Deferred := { target := .collected K, args := #[] }
structure Marks (S : Nat) (Ks : List Nat) (W : World) : Prop where
  nodup : Ks.Nodup
  at_ : ∀ K, K ∈ Ks → S ≤ K ∧ W.heap[K]? = some (.deferred (some []))
theorem Marks.nil (S : Nat) (W : World) : Marks S [] W := ⟨List.nodup_nil, fun _ h => by cases h⟩
theorem Marks.lt {S : Nat} {Ks : List Nat} {W : World} (h : Marks S Ks W) {K : Nat} (hK : K ∈ Ks) : K < W.heap.size := (Array.getElem?_eq_some_iff.1 (h.at_ K hK).2).1
theorem Marks.keep {S : Nat} {Ks : List Nat} {W W' : World} (h : Marks S Ks W) (hk : ∀ K, K ∈ Ks → W'.heap[K]? = W.heap[K]?) : Marks S Ks W' := ⟨h.nodup, fun K hK => ⟨(h.at_ K hK).1, (hk K hK).trans (h.at_ K hK).2⟩⟩
theorem Marks.ext {S : Nat} {Ks : List Nat} {W W' : World} (h : Marks S Ks W) (k : Ext W W') : Marks S Ks W' := h.keep fun _ hK => k.block _ (h.lt hK)
theorem Marks.cons {S : Nat} {Ks : List Nat} {W : World} (h : Marks S Ks W) {K : Nat} (hS : S ≤ K) (hn : K ∉ Ks) (hK : W.heap[K]? = some (.deferred (some []))) : Marks S (K :: Ks) W :=
  ⟨List.nodup_cons.2 ⟨hn, h.nodup⟩, fun K' hK' => by
    rcases List.mem_cons.1 hK' with rfl | h1
    · exact ⟨hS, hK⟩
    · exact h.at_ _ h1⟩
theorem leavesInM_marks {fn : Func} {tmps : Array Value} {R : Ending → World → Prop} {S : Nat} : ∀ (Ks : List Nat) (W : World), Marks S Ks W →
    (∀ W', Below S W W' → ∃ v, (results fn tmps).run P W' = .ok v W' ∧ R (.returned v) W') → LeavesInM Fence.wide 0 P fn tmps R (Ks.map mark) .returning W
  | [], W, _, h => h W (Below.refl _ _)
  | K :: Ks, W, hM, h => by
    have hK := hM.at_ K (by simp)
    have hn := List.nodup_cons.1 hM.nodup
    refine ⟨by simp, .inl ⟨K, _, rfl, run_takeDeferred hK.2, leavesInM_marks Ks _ ⟨hn.2, fun K' hK' => ⟨(hM.at_ K' (by simp [hK'])).1, ?_⟩⟩ (fun W' hW' => h W' (Below.trans (below_putObj _ _ _ _ hK.1) hW'))⟩⟩
    rw [World.putObj_heap_other (by rintro rfl; exact hn.1 hK')]
    exact (hM.at_ K' (by simp [hK'])).2
/-- A function with any number of marks returns. -/
theorem leave_marks {fn : Func} {R : Ending → World → Prop} {S : Nat} {tmps : Array Value} {Ks : List Nat} {W : World} (hM : Marks S Ks W)
    (h : ∀ W', Below S W W' → ∃ v, (results fn tmps).run P W' = .ok v W' ∧ R (.returned v) W') : bodyPostM Fence.wide 0 P fn R .ret { tmps, defers := Ks.map mark } W := leavesInM_marks Ks W hM h
theorem leave_marks_end {fn : Func} {R : Ending → World → Prop} {S : Nat} {tmps : Array Value} {Ks : List Nat} {W : World} (hM : Marks S Ks W)
    (h : ∀ W', Below S W W' → ∃ v, (results fn tmps).run P W' = .ok v W' ∧ R (.returned v) W') : bodyPostM Fence.wide 0 P fn R .normal { tmps, defers := Ks.map mark } W := leavesInM_marks Ks W hM h
end Go.Proofs.YtfpefffgegphnaaDoor
