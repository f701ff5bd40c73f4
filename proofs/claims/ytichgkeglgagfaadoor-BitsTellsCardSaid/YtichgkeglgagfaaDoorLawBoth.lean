/- bits and the reference answer alike: one contract for both. -/
import Derived.Test.YtichgkeglgagfaaDoorRefEither
import Derived.Test.YtichgkeglgagfaaDoorLawMath
import Derived.Test.YtichgkeglgagfaaDoorCut
namespace Go.Proofs.YtichgkeglgagfaaDoor
open Go.RowKit Go
/-- Bits and a code. -/
def AnyR (w : World) (N : Int) (ws : List Nat) (k : Int) (e : Ending) (w' : World) : Prop :=
  ∃ A n c, e = .returned (.tuple #[.agg #[.int .i64 N, .slice A n c], .int .i64 k]) ∧ Bt w' A n ws ∧ Ext w w'
theorem nil_bt (w : World) : Bt w none 0 [] := ⟨rfl, (fun x hx => by simp at hx), by decide, fun h => absurd h (by decide)⟩
theorem NoR.any {w w' : World} {k : Int} {e : Ending} (h : NoR w k e w') : AnyR w 0 [] k e w' := ⟨none, 0, 0, h.1, nil_bt w', h.2⟩
theorem BitsR.any {w w' : World} {N : Int} {ws : List Nat} {e : Ending} (h : BitsR w N ws e w') : AnyR w N ws 0 e w' := h
section
variable {a : Nat → Addr}
theorem make_both (n : Int) (w : World) (hG : G a w) : ∃ N1 ws1 k1, (∀ W, Ext w W → Calls Tryd.prog 13 #[.int .i64 n] W (AnyR W N1 ws1 k1)) ∧ (∀ W, Ext w W → Calls Tryd.prog 14 #[.int .i64 n] W (AnyR W N1 ws1 k1)) := by
  rcases hc : cntB n with _ | _
  · exact ⟨0, [], 2, fun W hW => (make_no (a := a) n hc W (hG.ext hW)).mono fun _ _ h => h.any, fun W _ => (refMake_no n hc W).mono fun _ _ h => h.any⟩
  · exact ⟨n, _, 0, fun W hW => (make_ok (a := a) n hc W (hG.ext hW)).mono fun _ _ h => h.any, fun W _ => (refMake_ok n hc W).mono fun _ _ h => h.any⟩
theorem set_both (N : Int) (A : Option Addr) (n c : Nat) (ws : List Nat) (i : Int) (on : Bool) (w : World) (h : Bt w A n ws) (hG : G a w) :
    ∃ N1 ws1 k1, (∀ W, Ext w W → Calls Tryd.prog 26 #[.agg #[.int .i64 N, .slice A n c], .int .i64 i, .bool on] W (AnyR W N1 ws1 k1)) ∧ (∀ W, Ext w W → Calls Tryd.prog 27 #[.agg #[.int .i64 N, .slice A n c], .int .i64 i, .bool on] W (AnyR W N1 ws1 k1)) := by
  rcases hr : rightB N ws with _ | _
  · exact ⟨0, [], 20, fun W hW => (set_no (a := a) N A n c ws i on 20 (Or.inl ⟨hr, rfl⟩) W (h.ext hW) (hG.ext hW)).mono fun _ _ h => h.any, fun W hW => (refSet_no N A n c ws i on 20 (Or.inl ⟨hr, rfl⟩) W (h.ext hW)).mono fun _ _ h => h.any⟩
  · rcases hp : plB N i with _ | _
    · exact ⟨0, [], 21, fun W hW => (set_no (a := a) N A n c ws i on 21 (Or.inr ⟨hr, hp, rfl⟩) W (h.ext hW) (hG.ext hW)).mono fun _ _ h => h.any, fun W hW => (refSet_no N A n c ws i on 21 (Or.inr ⟨hr, hp, rfl⟩) W (h.ext hW)).mono fun _ _ h => h.any⟩
    · exact ⟨N, _, 0, fun W hW => (set_ok (a := a) N A n c ws i on hr hp W (h.ext hW) (hG.ext hW)).mono fun _ _ h => h.any, fun W hW => (refSet_ok N A n c ws i on hr hp W (h.ext hW)).mono fun _ _ h => h.any⟩
theorem fill_both (N : Int) (A : Option Addr) (n c : Nat) (ws : List Nat) (f t : Int) (on : Bool) (w : World) (h : Bt w A n ws) (hG : G a w) :
    ∃ N1 ws1 k1, (∀ W, Ext w W → Calls Tryd.prog 28 #[.agg #[.int .i64 N, .slice A n c], .int .i64 f, .int .i64 t, .bool on] W (AnyR W N1 ws1 k1)) ∧ (∀ W, Ext w W → Calls Tryd.prog 29 #[.agg #[.int .i64 N, .slice A n c], .int .i64 f, .int .i64 t, .bool on] W (AnyR W N1 ws1 k1)) := by
  rcases hr : rightB N ws with _ | _
  · exact ⟨0, [], 20, fun W hW => (fill_no (a := a) N A n c ws f t on 20 (Or.inl ⟨hr, rfl⟩) W (h.ext hW) (hG.ext hW)).mono fun _ _ h => h.any, fun W hW => (refFill_no N A n c ws f t on 20 (Or.inl ⟨hr, rfl⟩) W (h.ext hW)).mono fun _ _ h => h.any⟩
  · rcases hp : rngB N f t with _ | _
    · exact ⟨0, [], 21, fun W hW => (fill_no (a := a) N A n c ws f t on 21 (Or.inr ⟨hr, hp, rfl⟩) W (h.ext hW) (hG.ext hW)).mono fun _ _ h => h.any, fun W hW => (refFill_no N A n c ws f t on 21 (Or.inr ⟨hr, hp, rfl⟩) W (h.ext hW)).mono fun _ _ h => h.any⟩
    · exact ⟨N, _, 0, fun W hW => (fill_ok (a := a) N A n c ws f t on hr hp W (h.ext hW) (hG.ext hW)).mono fun _ _ h => h.any, fun W hW => (refFill_ok N A n c ws f t on hr hp W (h.ext hW)).mono fun _ _ h => h.any⟩
theorem next_both (N : Int) (A : Option Addr) (n c : Nat) (ws : List Nat) (f : Int) (hf : f ≤ 9223372036854775807) (on : Bool) (w : World) (h : Bt w A n ws) (hG : G a w) :
    ∃ v b, (∀ W, Ext w W → Calls Tryd.prog 30 #[.agg #[.int .i64 N, .slice A n c], .int .i64 f, .bool on] W fun e w' => e = .returned (.tuple #[.int .i64 v, .bool b]) ∧ Ext W w') ∧ (∀ W, Ext w W → Calls Tryd.prog 31 #[.agg #[.int .i64 N, .slice A n c], .int .i64 f, .bool on] W fun e w' => e = .returned (.tuple #[.int .i64 v, .bool b]) ∧ Ext W w') := by
  rcases hr : rightB N ws with _ | _
  · exact ⟨0, false, fun W hW => next_wrong N A n c ws f on hr W (h.ext hW), fun W hW => refNext_wrong N A n c ws f on hr W (h.ext hW)⟩
  · exact ⟨_, _, fun W hW => next_right (a := a) N A n c ws f on hr hf W (h.ext hW) (hG.ext hW), fun W hW => refNext_right N A n c ws f on hr hf W (h.ext hW)⟩
theorem either_both (N M : Int) (A A2 : Option Addr) (n c n2 c2 : Nat) (ws vs : List Nat) (w : World) (h : Bt w A n ws) (h' : Bt w A2 n2 vs) (hG : G a w) :
    ∃ N1 ws1 k1, (∀ W, Ext w W → Calls Tryd.prog 32 #[.agg #[.int .i64 N, .slice A n c], .agg #[.int .i64 M, .slice A2 n2 c2]] W (AnyR W N1 ws1 k1)) ∧ (∀ W, Ext w W → Calls Tryd.prog 33 #[.agg #[.int .i64 N, .slice A n c], .agg #[.int .i64 M, .slice A2 n2 c2]] W (AnyR W N1 ws1 k1)) := by
  rcases hk : eitB N M ws vs with _ | _
  · exact ⟨0, [], 20, fun W hW => (either_no (a := a) N M A A2 n c n2 c2 ws vs hk W (h.ext hW) (h'.ext hW) (hG.ext hW)).mono fun _ _ h => h.any, fun W hW => (refEither_no N M A A2 n c n2 c2 ws vs hk W (h.ext hW) (h'.ext hW)).mono fun _ _ h => h.any⟩
  · obtain ⟨hr, hs, rfl⟩ := eit_iff.1 hk
    exact ⟨N, _, 0, fun W hW => (either_ok (a := a) N A A2 n c n2 c2 ws vs hr hs W (h.ext hW) (h'.ext hW) (hG.ext hW)).mono fun _ _ h => h.any, fun W hW => (refEither_ok N A A2 n c n2 c2 ws vs hr hs W (h.ext hW) (h'.ext hW)).mono fun _ _ h => h.any⟩
theorem same_self (N : Int) (A A' : Option Addr) (n c n' c' : Nat) (ws : List Nat) (w : World) (h : Bt w A n ws) (h' : Bt w A' n' ws) :
    Calls Tryd.prog 25 #[.agg #[.int .i64 N, .slice A n c], .agg #[.int .i64 N, .slice A' n' c']] w fun e w' => e = .returned (.bool true) ∧ Ext w w' :=
  (show sameB N N ws ws = true by simp [sameB]) ▸ refSame_any N N A A' n c n' c' ws ws w h h'
end
end Go.Proofs.YtichgkeglgagfaaDoor
