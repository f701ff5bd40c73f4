/- addr.noPlace's closure. -/
import Derived.Test.YthaddecdgihocaaDoorWrong
import Derived.Test.YthaddecdgihocaaDoorArr
namespace Go.Proofs.YthaddecdgihocaaDoor
open Go.RowKit Go
section
variable {a0 a2 a3 : Addr}

theorem size_int (w : World) : (sizeOf 3).run Tryd.prog w = .ok 1 w := by kernel_rfl
theorem eql_place (x y z x' y' z' : Int) (w : World) : (binOp .eql 40 (.agg #[.int .i64 x, .int .i64 y, .int .i64 z]) (.agg #[.int .i64 x', .int .i64 y', .int .i64 z'])).run Tryd.prog w = .ok (.bool ([x, y, z] == [x', y', z'])) w :=
  run_eql_ints w 40 3 3 .i64 Tryd.underlying40 Tryd.underlying3 size_int [x, y, z] [x', y', z'] rfl rfl

theorem place_eq (x y z : Int) (h : 0 ≤ psum x y z ∧ psum x y z < 131072) : (psum x y z / 4096 == x && (psum x y z % 4096 / 128 == y && psum x y z % 128 == z)) = placeB x y z := by
  rw [Bool.eq_iff_iff]
  simp only [beq_iff_eq, placeB, Bool.and_eq_true, decide_eq_true_eq]
  constructor
  · rintro ⟨h1, h2, h3⟩; omega
  · rintro ⟨⟨⟨⟨⟨h1, h2⟩, h3⟩, h4⟩, h5⟩, h6⟩
    rw [psum_in x y z ⟨h1, h2⟩ ⟨h3, h4⟩ ⟨h5, h6⟩]; omega
theorem place_no (x y z : Int) (h : ¬ (0 ≤ psum x y z ∧ psum x y z < 131072)) : placeB x y z = false := by
  rw [Bool.eq_false_iff]
  intro hp
  simp only [placeB, Bool.and_eq_true, decide_eq_true_eq] at hp
  obtain ⟨⟨⟨⟨⟨h1, h2⟩, h3⟩, h4⟩, h5⟩, h6⟩ := hp
  rw [psum_in x y z ⟨h1, h2⟩ ⟨h3, h4⟩ ⟨h5, h6⟩] at h
  omega

set_option maxHeartbeats 1000000 in
theorem noPlace_asks (x y z : Int) (w : World) (hG : G a0 a2 a3 w) (b : Nat) (hb : b < w.heap.size) (hc : ∀ i, w.cell? ⟨b, i, none⟩ = #[.int .i64 x, .int .i64 y, .int .i64 z][i]?) :
    Asks a0 a2 a3 w (.func (.func 48) #[] #[.pointer (some ⟨b, 0, none⟩)]) (codeB (placeB x y z) 1) := by
  refine ⟨_, _, rfl, k_le _ _ (by decide), enters_of Tryd.func48 (by kernel_rfl) rfl, fun W hW => ?_⟩
  have hg := hG.ext hW
  have gs := hg.sz
  have c0 := (extAt hW b 0 hb).trans (hc 0)
  have c1 := (extAt hW b 1 hb).trans (hc 1)
  have c2 := (extAt hW b 2 hb).trans (hc 2)
  simp at c0 c1 c2
  rw [← errV1 (a0 := a0) (a2 := a2) (a3 := a3)]
  have H := Lib.hid hg
  have hbW : b < W.heap.size := Nat.lt_of_lt_of_le hb hW.size
  clear hc hb hG hW hg
  go_enter Tryd.func48, Tryd.ntmps48
  go_wp2_with (go_at_call 34; refine (sum_any (a0 := a0) (a2 := a2) (a3 := a3) _ _ _ _ ?_).mono ?_; exact H.out; rintro e w1 ⟨rfl, h1⟩)
  have g1 := (H.out.ext h1).c0
  have d0 := (extAt h1 b 0 hbW).trans c0
  have d1 := (extAt h1 b 1 hbW).trans c1
  have d2 := (extAt h1 b 2 hbW).trans c2
  have eq := eql_place
  have hz : W.heap.size ≤ w1.heap.size := h1.size
  have H1 := Lib.hid (And.intro (H.out.ext h1) h1)
  clear c0 c1 c2 H h1
  by_cases hr : 0 ≤ psum x y z ∧ psum x y z < 131072
  · have HR := Lib.hid hr
    obtain ⟨hr1, hr2⟩ := hr
    have hP := Lib.hid (fun W' => placeOf_any (a0 := a0) (a2 := a2) (a3 := a3) (psum x y z) hr1 hr2 W')
    have hR := Lib.hid (fun W' => (show Calls Tryd.prog 16 #[.int .i64 (psum x y z)] W' (fun e w' => e = .returned (.bool true) ∧ W' = w') by have := right_any (psum x y z) W'; rwa [show (decide (0 ≤ psum x y z) && decide (psum x y z < 131072)) = true by simp [hr1, hr2]] at this))
    go_region_with (first | (go_at_call 16; refine (hR.out _).mono ?_; rintro e w2 ⟨rfl, rfl⟩) | (go_at_call 32; go_loud (refine (hP.out _ ?_).mono ?_; exact H1.out.1.ext (Ext.refl _).drew; rintro e w2 ⟨rfl, h2⟩; have g2 := (extAt h2 0 0 (by show _ < w1.heap.size; omega)).trans g1; have e0 := (extAt h2 b 0 (by show _ < w1.heap.size; omega)).trans d0;  have e1 := (extAt h2 b 1 (by show _ < w1.heap.size; omega)).trans d1; have e2 := (extAt h2 b 2 (by show _ < w1.heap.size; omega)).trans d2)) | (go_at_call 46; refine (unless_any _ _ _).mono ?_; rintro e w3 ⟨rfl, rfl⟩))
    all_goals
      go_wp2
      go_ret
      exact ⟨ret_val (unless_eq (place_eq x y z HR.out)), (H1.out.2.trans ((Ext.refl w1).drew.trans h2))⟩
  · have hR := Lib.hid (fun W' => (show Calls Tryd.prog 16 #[.int .i64 (psum x y z)] W' (fun e w' => e = .returned (.bool false) ∧ W' = w') by have := right_any (psum x y z) W'; rwa [show (decide (0 ≤ psum x y z) && decide (psum x y z < 131072)) = false by rw [Bool.eq_false_iff]; simpa using hr] at this))
    have HR := Lib.hid hr
    clear hr
    go_quiet ((first | (go_at_call 16; exact qs (hR.out _)) | (go_at_call 46; exact qs (unless_any _ _ _))))
    go_wp2
    go_ret
    exact ⟨ret_val (unless_eq (place_no x y z HR.out).symm), H1.out.2.trans (ext_drewN _ _)⟩
end
end Go.Proofs.YthaddecdgihocaaDoor
