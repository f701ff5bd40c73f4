/- selionlaw02: shown. -/
import Derived.Test.YtichgkeglgagfaaDoorNext
import Derived.Test.YtichgkeglgagfaaDoorEither
import Derived.Test.YtichgkeglgagfaaDoorCount
import Derived.Test.YtichgkeglgagfaaDoorFill
namespace Go.Proofs.YtichgkeglgagfaaDoor
open Go.RowKit Go
section
variable {a : Nat → Addr}
theorem sh_make (w : World) (hG : G a w) : Calls Tryd.prog 13 #[.int .i64 40] w (BitsR w 40 [0, 0]) := make_ok (a := a) 40 rfl w hG
theorem sh_fill (A : Option Addr) (n c : Nat) (w : World) (h : Bt w A n [0, 0]) (hG : G a w) : Calls Tryd.prog 28 #[.agg #[.int .i64 40, .slice A n c], .int .i64 30, .int .i64 34, .bool true] w (BitsR w 40 [3221225472, 3]) :=
  (show turnW 30 34 true [0, 0] = [3221225472, 3] by decide +kernel) ▸ fill_ok (a := a) 40 A n c [0, 0] 30 34 true (by decide +kernel) (by decide +kernel) w h hG
theorem sh_next (A : Option Addr) (n c : Nat) (w : World) (h : Bt w A n [3221225472, 3]) (hG : G a w) : Calls Tryd.prog 30 #[.agg #[.int .i64 40, .slice A n c], .int .i64 0, .bool true] w fun e w' => e = .returned (.tuple #[.int .i64 30, .bool true]) ∧ Ext w w' := by
  have := next_right (a := a) 40 A n c [3221225472, 3] 0 true (by decide +kernel) (by decide) w h hG
  rw [show nxt 40 [3221225472, 3] (max 0 0) true = some 30 by decide +kernel] at this
  exact this
theorem sh_next2 (A : Option Addr) (n c : Nat) (w : World) (h : Bt w A n [3221225472, 3]) (hG : G a w) : Calls Tryd.prog 30 #[.agg #[.int .i64 40, .slice A n c], .int .i64 30, .bool false] w fun e w' => e = .returned (.tuple #[.int .i64 34, .bool true]) ∧ Ext w w' := by
  have := next_right (a := a) 40 A n c [3221225472, 3] 30 false (by decide +kernel) (by decide) w h hG
  rw [show nxt 40 [3221225472, 3] (max 30 0) false = some 34 by decide +kernel] at this
  exact this
theorem sh_set (A : Option Addr) (n c : Nat) (w : World) (h : Bt w A n [3221225472, 3]) (hG : G a w) : Calls Tryd.prog 26 #[.agg #[.int .i64 40, .slice A n c], .int .i64 40, .bool true] w (NoR w 21) :=
  set_no (a := a) 40 A n c [3221225472, 3] 40 true 21 (Or.inr ⟨by decide +kernel, by decide +kernel, rfl⟩) w h hG
theorem sh_count (A : Option Addr) (n c : Nat) (w : World) (h : Bt w A n [3221225472, 3]) : Calls Tryd.prog 19 #[.agg #[.int .i64 40, .slice A n c]] w fun e w' => e = .returned (.int .i64 4) ∧ Ext w w' := by
  have := count_any 40 A n c [3221225472, 3] w h
  rw [show cntN 40 [3221225472, 3] = 4 by decide +kernel] at this
  exact this
theorem sh_same (A A' : Option Addr) (n c n' c' : Nat) (w : World) (h : Bt w A n [3221225472, 3]) (h' : Bt w A' n' [3221225472, 3]) :
    Calls Tryd.prog 25 #[.agg #[.int .i64 40, .slice A n c], .agg #[.int .i64 40, .slice A' n' c']] w fun e w' => e = .returned (.bool true) ∧ Ext w w' :=
  (show sameB 40 40 [3221225472, 3] [3221225472, 3] = true by decide) ▸ refSame_any 40 40 A A' n c n' c' _ _ w h h'
theorem sh_lit (w : World) (o : Obj) : Bt ((w.alloc o).alloc (.cells #[.int .u32 3221225472, .int .u32 3] 47)) (some ⟨w.heap.size + 1, 0, none⟩) 2 [3221225472, 3] :=
  Bt.blk (ws := [3221225472, 3]) (at_new2 (Ext.refl _)) (by decide) (by intro x hx; simp at hx; omega)
set_option maxHeartbeats 4000000 in
theorem shown_any (w : World) (hG : G a w) : Calls Tryd.prog 11 #[] w fun e w' => e = .returned (.bool true) ∧ Ext w w' := by
  have H := Lib.hid hG
  clear hG
  go_enter Tryd.func11, Tryd.ntmps11
  go_wp2_with (first
    | (go_at_call 13; refine (sh_make (a := a) _ H.out).mono ?_; rintro e w1 ⟨A1, n1, c1, rfl, B1, h1⟩)
    | (go_at_call 28; refine (sh_fill (a := a) A1 n1 c1 _ (B1.ext (ext1 _ _)) (H.out.ext (Ext.trans h1 (ext1 _ _)))).mono ?_; rintro e w2 ⟨A2, n2, c2, rfl, B2, h2⟩; replace h2 := Ext.trans (Ext.trans h1 (ext1 _ _)) h2; clear h1 B1)
    | (go_at_call 30; (with_reducible refine (sh_next (a := a) A2 n2 c2 _ (B2.ext (ext1 _ _)) (H.out.ext (Ext.trans h2 (ext1 _ _)))).mono ?_); rintro e w3 ⟨rfl, h3⟩; have p0 := (at_new h3).cell 0; have p1 := (at_new h3).cell 1; simp at p0 p1)
    | (go_at_call 30; (with_reducible refine (sh_next2 (a := a) A2 n2 c2 _ (B2.ext (Ext.trans (ext1 _ _) h3)) (H.out.ext (Ext.trans h2 (Ext.trans (ext1 _ _) h3)))).mono ?_); rintro e w4 ⟨rfl, h4⟩; replace h4 := Ext.trans h3 h4; clear h3 p0 p1; have p0 := (at_new h4).cell 0; have p1 := (at_new h4).cell 1; simp at p0 p1)
    | (go_at_call 26; (with_reducible refine (sh_set (a := a) A2 n2 c2 _ (B2.ext (Ext.trans (ext1 _ _) h4)) (H.out.ext (Ext.trans h2 (Ext.trans (ext1 _ _) h4)))).mono ?_); rintro e w5 ⟨rfl, h5⟩; replace h5 := Ext.trans h4 h5; clear h4 p0 p1; have p0 := (at_new (Ext.trans h5 (ext1 w5 (.cells #[.int .i64 0, .slice none 0 0] 24)))).cell 0; have p1 := (at_new (Ext.trans h5 (ext1 w5 (.cells #[.int .i64 0, .slice none 0 0] 24)))).cell 1; simp only [List.getElem?_toArray, List.getElem?_cons_zero, List.getElem?_cons_succ] at p0 p1)
    | (go_at_call 25; (with_reducible refine (sh_same A2 _ n2 c2 _ _ _ (B2.ext (Ext.trans (ext1 _ _) (Ext.trans h5 (ext2 _ _ _)))) (sh_lit _ _)).mono ?_); rintro e w6 ⟨rfl, h6⟩; replace h6 := Ext.trans (Ext.trans h5 (ext2 _ _ _)) h6; clear p0 p1; have p0 := (at_new h6).cell 0; have p1 := (at_new h6).cell 1; simp only [List.getElem?_toArray, List.getElem?_cons_zero, List.getElem?_cons_succ] at p0 p1)
    | (go_at_call 19; (with_reducible refine (sh_count A2 n2 c2 _ (B2.ext (Ext.trans (ext1 _ _) h6))).mono ?_); rintro e w7 ⟨rfl, h7⟩; replace h7 := Ext.trans h6 h7))
  go_ret
  exact ⟨rfl, Ext.trans h2 (Ext.trans (ext1 _ _) h7)⟩
end
end Go.Proofs.YtichgkeglgagfaaDoor
