/- Regions that draw their order, within a round of a loop over a function: by the laws of the plain walk. -/
import Derived.Test.YtfpefffgegphnaaDoorDraw
namespace Go.Proofs.YtfpefffgegphnaaDoor
open Go Go.RowKit
/-- The post, with no panic and none that lets out. -/
def noPO (Q : Exit → Act → World → Prop) : Exit → Act → World → Prop
  | .normal, a, w => Q .normal a w
  | .ret, a, w => Q .ret a w
  | .exit i, a, w => Q (.exit i) a w
  | .goto i, a, w => Q (.goto i) a w
  | .panic _, _, _ => False
  | .outgrown, _, _ => False
theorem noPO_out (Q : Exit → Act → World → Prop) : ¬ LetsOut (noPO Q) := fun ⟨_, _, h⟩ => h
section
variable {P : Program} {ops : Array Oper} {md : Region.Mode}
theorem wpIn_noPO {F : Fence} {n : Nat} {c : Go.Code} {Q : Exit → Act → World → Prop} {a : Act} {w : World} (h : c.wpIn F n P (noPO Q) a w) : c.wpIn F n P Q a w :=
  wpIn_mono h (by intro e a' w' h'; cases e <;> first | exact h' | exact h'.elim)
theorem rowsIn_of_rows {n : Nat} {row : String} {args : Array Value} {w : World} {R : Value → World → Prop} (h : Rows P row args w R) : RowsIn Fence.wide n P row args w R := fun c cs _ =>
  let ⟨v, w', r, s⟩ := h c cs
  ⟨v, w', r, stepsIn_wide.2 s⟩
/-- No operation is a defer statement. -/
def noDefer (ops : Array Oper) : Bool := ops.all fun o => match o.op with | .defer _ => false | _ => true
theorem noDefer_spec (h : noDefer ops = true) {i : Nat} {o : Oper} (hi : ops[i]? = some o) : ∀ c, o.op ≠ .defer c := by
  intro c hc
  have := Array.all_eq_true.1 h i (Array.getElem?_eq_some_iff.1 hi).1
  obtain ⟨hlt, he⟩ := Array.getElem?_eq_some_iff.1 hi
  rw [he, hc] at this
  cases this
theorem opIn_of_op {Q : Exit → Act → World → Prop} {l i : Nat} (hd : noDefer ops = true) (hQ : ¬ LetsOut Q) {K : Act → World → Prop} {a : Act} {w : World} (h : wpOp P ops Q i K a w) : wpOpIn (Fence.wide.inRound l) 0 P ops Q i K a w := by
  unfold wpOp at h
  unfold wpOpIn
  cases hi : ops[i]? with
  | none => simpa [hi] using h
  | some o =>
    simp only [hi] at h ⊢
    split
    · rename_i hw
      simp only [hw, if_true] at h
      rcases h with h | h
      · unfold Oper.wp at h
        refine ⟨fun _ _ => trivial, ?_⟩
        rw [Oper.semAt_eq _ _ _ (noDefer_spec hd hi)]
        generalize (execOp a.eval o).run P w = r at *
        cases r with
        | ok x w' =>
          cases x <;> simp only [Oper.upon] at h <;> simp only [Oper.uponIn] <;> first | exact h | skip
          case enter f args => exact ⟨(fun h => by cases h), CallsIn.inRound l ((callsIn_wide.2 h).mono fun e w'' he => by cases e <;> exact he)⟩
          case row row args => exact ⟨(fun h => by cases h), rowsIn_of_rows h⟩
        | halt x w' => cases x <;> simp only [Oper.upon] at h <;> simp only [Oper.uponIn] <;> exact h
      · exact (hQ h.2).elim
    · rename_i hw
      simp only [hw] at h
      exact ⟨fun _ _ => trivial, by simpa using h⟩
theorem anyIn_of_any {Q : Exit → Act → World → Prop} {l : Nat} (hd : noDefer ops = true) (hQ : ¬ LetsOut Q) : ∀ (fuel : Nat) (listed : Array Bool) (a : Act) (w : World), wpAny P md ops Q fuel listed a w → wpAnyIn (Fence.wide.inRound l) 0 P md ops Q fuel listed a w
  | 0, _, _, _, h => h
  | fuel + 1, _, _, _, h => ⟨h.1, fun i hi => opIn_of_op hd hQ (wpOp_mono (fun _ _ h' => anyIn_of_any hd hQ fuel _ _ _ h') (h.2 i hi))⟩
/-- A region of a round, by what the plain walk's laws say of it. -/
theorem round_any {id : Nat} {Q : Exit → Act → World → Prop} {a : Act} {w : World} {l : List Oper} {l0 : Nat} (hm : P.follows .mixedOrders = true) (hd : noDefer l.toArray = true)
    (h : wpAny P .any l.toArray (noPO Q) l.toArray.size (Array.replicate l.toArray.size false) a w.drew) : (Code.region id l.toArray true).wpIn (Fence.wide.inRound l0) 0 P Q a w :=
  wpIn_noPO (wpIn_region_any hm (anyIn_of_any hd (noPO_out Q) _ _ _ _ h))
theorem round_XT {id : Nat} {Q : Exit → Act → World → Prop} {a : Act} {w : World} {l : List Oper} {l0 : Nat} (N n : Nat) (hN : l.length = N) (hm : P.follows .mixedOrders = true) (hd : noDefer l.toArray = true)
    (hB : (Region.noSelect l.toArray && decide (n < N) && Region.sinkB .any l.toArray n && Region.chainB .any l.toArray n) = true)
    (h : Head .any l.toArray n (theTail P .any l.toArray n (l.drop n) (noPO Q)) → wpH P .any l.toArray n (theTail P .any l.toArray n (l.drop n) (noPO Q)) n w (Array.replicate N false) a) : (Code.region id l.toArray true).wpIn (Fence.wide.inRound l0) 0 P Q a w := by
  subst hN
  simp only [Bool.and_eq_true, decide_eq_true_eq] at hB
  obtain ⟨⟨⟨hsel, hn⟩, hs⟩, hc⟩ := hB
  have hdl : (l.drop n).length = l.toArray.size - n := by simp
  have H : Head .any l.toArray n (theTail P .any l.toArray n (l.drop n) (noPO Q)) :=
    ⟨hsel, fun listed inv i hi hun t ht => tail_waits hs hc (by simpa using hn) inv _ i rfl hi hun t ht, fun listed a W h => seqB_ready h.1⟩
  refine round_any hm hd ?_
  have h0 := wpAny_of_X (P := P) (n := n) (g := l.toArray.size - n) (L := theTail P .any l.toArray n (l.drop n) (noPO Q)) (Q := noPO Q) (fun listed a W h => by
    have := wpAny_of_seq (md := .any) (Q' := noPO Q) (l.drop n) n listed a W (fun j => by simp [List.getElem?_drop]) (by rw [hdl]; exact h.1) h.2
    rwa [hdl] at this) n w _ a w.drew (Ext.drew' w) (h H (by have := inv0 (md := .any) (ops := l.toArray) (n := n); simpa using this))
  rw [show n + (l.toArray.size - n) = l.toArray.size by simp; omega] at h0
  simpa using h0
/-- n operations that yield one value each in every world on from here, then a chain that may store. -/
theorem round_tail {id : Nat} {Q : Exit → Act → World → Prop} {a : Act} {w : World} {l : List Oper} {l0 : Nat} (N n : Nat) (hN : l.length = N) (hm : P.follows .mixedOrders = true) (hd : noDefer l.toArray = true)
    (hB : (Region.noSelect l.toArray && decide (n < N) && Region.sinkB .any l.toArray n && Region.chainB .any l.toArray n) = true)
    (hS : (segOk .any l.toArray n a.tmps.size 0 n (Array.replicate N false) && Region.seqB .any l.toArray (N - n) n (segSet 0 n (Array.replicate N false))) = true)
    (h : ∃ af, (∀ c : From w, wpQuiet P l.toArray (fun w' => ∃ o : From c.w, w' = o.w) (· = af) (l.take n) a) ∧ ∀ W, Ext w W → wpList P l.toArray (noPO Q) (l.drop n) af W) : (Code.region id l.toArray true).wpIn (Fence.wide.inRound l0) 0 P Q a w := by
  subst hN
  obtain ⟨af, h, ht⟩ := h
  have hn : n ≤ l.length := by simp only [Bool.and_eq_true, decide_eq_true_eq] at hB; omega
  simp only [Bool.and_eq_true] at hS
  refine round_XT l.length n rfl hm hd hB fun H => ?_
  have := wpH_seg (P := P) (f := 0) (g := n) H (b := w) (af := af) (l := l.take n) 0 (listed := Array.replicate l.length false) (a := a) (fun j hj => by
    have hj' : j < n := by simpa [List.length_take, Nat.min_eq_left hn] using hj
    simp [hj']) (by simp [hn]) hS.1 h (wpH_end fun W hW => ⟨by simpa using hS.2, ht W hW⟩)
  simpa using this
end
end Go.Proofs.YtfpefffgegphnaaDoor
