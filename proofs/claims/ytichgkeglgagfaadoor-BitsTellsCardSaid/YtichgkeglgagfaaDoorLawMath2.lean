/- What the laws of layer 2 say of lists. -/
import Derived.Test.YtichgkeglgagfaaDoorList
import Derived.Test.YtichgkeglgagfaaDoorLawMath
import Derived.Test.YtichgkeglgagfaaDoorCut
namespace Go.Proofs.YtichgkeglgagfaaDoor
open Go.RowKit Go
section
variable {a : Nat → Addr}
theorem list_any (N : Int) (A : Option Addr) (n c : Nat) (ws : List Nat) (w : World) (h : Bt w A n ws) (hG : G a w) :
    Calls Tryd.prog 22 #[.agg #[.int .i64 N, .slice A n c]] w (ListR w (lst N ws)) := by
  rcases hr : rightB N ws with _ | _
  · exact list_wrong N A n c ws hr w h
  · exact list_right (a := a) N A n c ws hr w h hG
end
/-- From where the k-th is looked for. -/
def fr (L : List Nat) : Nat → Int
  | 0 => 0
  | k + 1 => (L.getD k 0 : Nat) + 1
theorem fr_next {N : Int} {ws L : List Nat} (hL : plist N ws 0 true = L) {k : Nat} (hk : k ≤ L.length) : nxt N ws (fr L k) true = L[k]? := by
  subst hL
  rcases k with _ | k
  · exact nxt_zero N ws true
  · have := nxt_after (N := N) (ws := ws) (on := true) (k := k) (by omega)
    rw [fr, List.getD_eq_getElem?_getD, List.getElem?_eq_getElem (by omega)]
    exact this
theorem fr_nonneg (L : List Nat) (k : Nat) : 0 ≤ fr L k := by cases k <;> simp [fr]; omega
theorem fr_le {N : Int} {ws L : List Nat} (hL : plist N ws 0 true = L) (hN : N ≤ 20000) {k : Nat} (hk : k ≤ L.length) : fr L k ≤ 20000 := by
  rcases k with _ | k
  · simp [fr]
  · have h1 : L[k]? = some (L.getD k 0) := by rw [List.getD_eq_getElem?_getD, List.getElem?_eq_getElem (by omega)]; rfl
    have := sums_bd hL h1
    simp only [fr]
    omega
theorem walk_math {N : Int} {ws L : List Nat} (hr : rightB N ws = true) (hL : plist N ws 0 true = L) {k : Nat} (hk : k < L.length) :
    fr L k ≤ (L.getD k 0 : Nat) ∧ ((L.getD k 0 : Nat) : Int) < N ∧ hasB N ws (L.getD k 0 : Nat) = true ∧ fr L (k + 1) = (L.getD k 0 : Nat) + 1 ∧ L[k]? = some (L.getD k 0) := by
  have h1 : L[k]? = some (L.getD k 0) := by rw [List.getD_eq_getElem?_getD, List.getElem?_eq_getElem hk]; rfl
  have h2 := nxt_mem ((fr_next hL (Nat.le_of_lt hk)).trans h1)
  refine ⟨h2.1, h2.2.1, ?_, rfl, h1⟩
  unfold hasB
  rw [hr, plB_iff.2 ⟨by omega, h2.2.1⟩]
  simpa using h2.2.2
theorem walk_next {P : Program} {f : FuncId} {args : Array Value} {N : Int} {ws L : List Nat} {w : World} (hL : plist N ws 0 true = L) {k : Nat} (hk : k ≤ L.length) (h : Calls P f args w fun e w' => e = .returned (.tuple #[.int .i64 (optI (nxt N ws (max (fr L k) 0) true)), .bool (nxt N ws (max (fr L k) 0) true).isSome]) ∧ Ext w w') :
    Calls P f args w fun e w' => e = .returned (.tuple #[.int .i64 (optI L[k]?), .bool L[k]?.isSome]) ∧ Ext w w' := by
  rw [show max (fr L k) 0 = fr L k by have := fr_nonneg L k; omega, fr_next hL hk] at h
  exact h
end Go.Proofs.YtichgkeglgagfaaDoor
