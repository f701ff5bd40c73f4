/- selionlaw04.DescTells: the walk (made by gen_laws.py). -/
import Derived.Test.YtgmpcinlkiiboaaDoorLaw0
import Derived.Test.YtgmpcinlkiiboaaDoorSameD
import Derived.Test.YtgmpcinlkiiboaaDoorSameR
import Derived.Test.YtgmpcinlkiiboaaDoorKindD2
import Derived.Test.YtgmpcinlkiiboaaDoorKind2R
import Derived.Test.YtgmpcinlkiiboaaDoorSlotsR
import Derived.Test.YtgmpcinlkiiboaaDoorSlotsD
import Derived.Test.YtgmpcinlkiiboaaDoorCell
namespace Go.Proofs.YtgmpcinlkiiboaaDoor
open Go.RowKit Go
theorem box_two {w w2 : World} {R R' : Nat} {x0 x1 x2 x3 u0 u1 u2 u3 : Value} {cs : Array Value} {t t' : TypeId} (hB : Blk w2 R #[x0, x1, x2, x3] t) (hB' : Blk w2 R' cs t') (hn : R' ≠ R) (hE : Ext w w2) (hR : w.heap.size ≤ R) :
    Blk ((((w2.setCell ⟨R, 0, none⟩ u0).setCell ⟨R, 1, none⟩ u1).setCell ⟨R, 2, none⟩ u2).setCell ⟨R, 3, none⟩ u3) R #[u0, u1, u2, u3] t ∧ Blk ((((w2.setCell ⟨R, 0, none⟩ u0).setCell ⟨R, 1, none⟩ u1).setCell ⟨R, 2, none⟩ u2).setCell ⟨R, 3, none⟩ u3) R' cs t' ∧ Ext w ((((w2.setCell ⟨R, 0, none⟩ u0).setCell ⟨R, 1, none⟩ u1).setCell ⟨R, 2, none⟩ u2).setCell ⟨R, 3, none⟩ u3) := by
  obtain ⟨h1, h2⟩ := box_set4 (u0 := u0) (u1 := u1) (u2 := u2) (u3 := u3) hB hE hR
  exact ⟨h1, (((hB'.other ⟨R, 0, none⟩ _ hn).other ⟨R, 1, none⟩ _ hn).other ⟨R, 2, none⟩ _ hn).other ⟨R, 3, none⟩ _ hn, h2⟩
theorem slotsV_small (d : DescR) (n : Int) : (slotsV d n).length ≤ 1000000 := by
  unfold slotsV
  split
  · rename_i h
    rw [Bool.and_eq_true] at h
    have hle := lenB_le h.2
    have hl := h.2
    simp only [lenB, Bool.and_eq_true, decide_eq_true_eq] at hl
    have hb := hl.2
    unfold bytesB at hb
    refine slots_small (right_of h.1) n.toNat ?_
    rw [Int.toNat_of_nonneg hle.1]
    omega
  · simp
section
set_option maxHeartbeats 8000000 in
set_option maxRecDepth 100000 in
theorem tells_part (A B : Option Addr) (n m c c' : Nat) (s t : Int) (l r : List Int) (A2 B2 : Option Addr) (n2 m2 c2 c2' : Nat) (s2 t2 : Int) (l2 r2 : List Int) (y N x : Int) (hN : N = y ∧ y ≤ 300 ∨ N = 300 ∧ 300 < y) (w : World) (hA : Arg w A n c l) (hB : Arg w B m c' r) (hA2 : Arg w A2 n2 c2 l2) (hB2 : Arg w B2 m2 c2' r2) (hG : G w) :
    Calls Tryd.prog 3 #[.agg #[.int .i64 s, .slice A n c, .int .i64 t, .slice B m c'], .agg #[.int .i64 s2, .slice A2 n2 c2, .int .i64 t2, .slice B2 m2 c2'], .int .i64 y, .int .i64 x] w fun e w' => e = .returned (.bool true) ∧ Ext w w' := by
  have E1 := ext2 w (.cells #[.int .i64 s, .slice A n c, .int .i64 t, .slice B m c'] 24) (.cells #[.int .i64 s2, .slice A2 n2 c2, .int .i64 t2, .slice B2 m2 c2'] 24)
  have HE := Lib.hid E1
  have SH := Lib.hid (fun W (hW : Ext w W) => shown_is W (hG.ext hW))
  have CU := Lib.hid (fun W => cutd_is A B n m c c' s t hA.z hB.z hA.n hB.n hA.c hB.c W)
  have CU2 := Lib.hid (fun W => cutd_is A2 B2 n2 m2 c2 c2' s2 t2 hA2.z hB2.z hA2.n hB2.n hA2.c hB2.c W)
  have R1 := Lib.hid (fun W (hW : Ext w W) => dbytes_is A B (min n 20) (min m 20) c c' s t N (l.take 20) (r.take 20) (by omega) (by omega) W (hG.ext hW) ((hA.il.take 20).ext hW) ((hB.il.take 20).ext hW))
  have R2 := Lib.hid (fun W (hW : Ext w W) => bytes_is A B (min n 20) (min m 20) c c' s t (l.take 20) (r.take 20) (by omega) (by omega) N W ((hA.il.take 20).ext hW) ((hB.il.take 20).ext hW))
  have K1 := Lib.hid (fun W (hW : Ext w W) => dkind_is A B (min n 20) (min m 20) c c' s t N x (l.take 20) (r.take 20) (by omega) (by omega) W (hG.ext hW) ((hA.il.take 20).ext hW) ((hB.il.take 20).ext hW))
  have K2 := Lib.hid (fun W (hW : Ext w W) => kind2_is A B (min n 20) (min m 20) c c' s t (l.take 20) (r.take 20) (by omega) (by omega) N x W ((hA.il.take 20).ext hW) ((hB.il.take 20).ext hW))
  have S1 := Lib.hid (fun W (hW : Ext w W) => dslots_is A B (min n 20) (min m 20) c c' s t N (l.take 20) (r.take 20) (by omega) (by omega) W (hG.ext hW) ((hA.il.take 20).ext hW) ((hB.il.take 20).ext hW))
  have S2 := Lib.hid (fun W (hW : Ext w W) => slots_is A B (min n 20) (min m 20) c c' s t (l.take 20) (r.take 20) (by omega) (by omega) N W ((hA.il.take 20).ext hW) ((hB.il.take 20).ext hW))
  have T1 := Lib.hid (fun W (hW : Ext w W) => dright_is A B (min n 20) (min m 20) c c' s t (l.take 20) (r.take 20) (by omega) (by omega) W ((hA.il.take 20).ext hW) ((hB.il.take 20).ext hW))
  have T2 := Lib.hid (fun W (hW : Ext w W) => right_is A B (min n 20) (min m 20) c c' s t (l.take 20) (r.take 20) (by omega) (by omega) W ((hA.il.take 20).ext hW) ((hB.il.take 20).ext hW))
  have U1 := Lib.hid (fun W (hW : Ext w W) => dsame_is A B (min n 20) (min m 20) c c' s t (l.take 20) (r.take 20) (by omega) (by omega) A2 B2 (min n2 20) (min m2 20) c2 c2' s2 t2 (l2.take 20) (r2.take 20) W ((hA.il.take 20).ext hW) ((hB.il.take 20).ext hW) ((hA2.il.take 20).ext hW) ((hB2.il.take 20).ext hW))
  have U2 := Lib.hid (fun W (hW : Ext w W) => same_is A B (min n 20) (min m 20) c c' s t (l.take 20) (r.take 20) (by omega) (by omega) A2 B2 (min n2 20) (min m2 20) c2 c2' s2 t2 (l2.take 20) (r2.take 20) W ((hA.il.take 20).ext hW) ((hB.il.take 20).ext hW) ((hA2.il.take 20).ext hW) ((hB2.il.take 20).ext hW))
  have U3 := Lib.hid (fun W (hW : Ext w W) => dsame_is A B (min n 20) (min m 20) c c' s t (l.take 20) (r.take 20) (by omega) (by omega) A B (min n 20) (min m 20) c c' s t (l.take 20) (r.take 20) W ((hA.il.take 20).ext hW) ((hB.il.take 20).ext hW) ((hA.il.take 20).ext hW) ((hB.il.take 20).ext hW))
  have IS := Lib.hid (fun W X X' z z' (h : Il W X (slotsV ⟨s, l.take 20, t, r.take 20⟩ N).length (slotsV ⟨s, l.take 20, t, r.take 20⟩ N)) (h' : Il W X' (slotsV ⟨s, l.take 20, t, r.take 20⟩ N).length (slotsV ⟨s, l.take 20, t, r.take 20⟩ N)) => ints_is X X' (slotsV ⟨s, l.take 20, t, r.take 20⟩ N).length (slotsV ⟨s, l.take 20, t, r.take 20⟩ N).length z z' (slotsV ⟨s, l.take 20, t, r.take 20⟩ N) (slotsV ⟨s, l.take 20, t, r.take 20⟩ N) (slotsV_small ⟨s, l.take 20, t, r.take 20⟩ N) W h h')
  unfold SlotsR at S1 S2
  simp only [decide_true] at U3 IS
  clear hG hA hB hA2 hB2
  generalize min n2 20 = n2' at *
  generalize min m2 20 = m2' at *
  generalize min n 20 = n' at *
  generalize min m 20 = m' at *
  generalize bytesV ⟨s, l.take 20, t, r.take 20⟩ N = z1 at *
  generalize bytesE ⟨s, l.take 20, t, r.take 20⟩ N = z2 at *
  generalize kindV ⟨s, l.take 20, t, r.take 20⟩ N x = z3 at *
  generalize slotsV ⟨s, l.take 20, t, r.take 20⟩ N = z4 at *
  generalize rightB ⟨s, l.take 20, t, r.take 20⟩ = z5 at *
  generalize decide ((⟨s, l.take 20, t, r.take 20⟩ : DescR) = ⟨s2, l2.take 20, t2, r2.take 20⟩) = z6 at *
  rcases hN with ⟨rfl, hy⟩ | ⟨rfl, hy⟩
  all_goals
    go_enter Tryd.func3, Tryd.ntmps3
    go_wp2_with (first | (go_at_call 8; refine (SH.out _ HE.out).mono ?_; rintro e w1 ⟨rfl, k1⟩; have bA := at_old k1; have bB := at_new2 k1; have kx := Ext.trans HE.out k1; obtain ⟨⟨q0, q1, q2, q3⟩, f0, f1, f2, f3⟩ := cells4 bA; obtain ⟨⟨d0, d1, d2, d3⟩, g0, g1, g2, g3⟩ := cells4 bB; clear SH k1) | (go_at_call 9; refine (CU.out _).mono ?_; rintro e w2 ⟨rfl, k2⟩; replace bA := bA.ext k2; replace bB := bB.ext k2; replace kx := Ext.trans kx k2; clear q0 q1 q2 q3 f0 f1 f2 f3 d0 d1 d2 d3 g0 g1 g2 g3 k2; obtain ⟨⟨q0, q1, q2, q3⟩, f0, f1, f2, f3⟩ := cells4 bA; obtain ⟨⟨d0, d1, d2, d3⟩, g0, g1, g2, g3⟩ := cells4 bB; clear CU) | (go_at_call 9; refine (CU2.out _).mono ?_; rintro e w3 ⟨rfl, k4⟩; have bP := (box_two bA bB (by omega) kx (Nat.le_refl _)).1.ext k4; have bQ := (box_two bA bB (by omega) kx (Nat.le_refl _)).2.1.ext k4; have kP := Ext.trans (box_two bA bB (by omega) kx (Nat.le_refl _)).2.2 k4; clear q0 q1 q2 q3 f0 f1 f2 f3 d0 d1 d2 d3 g0 g1 g2 g3 bA bB kx k4; have bA := bP; have bB := bQ; have kx := kP; clear bP bQ kP; clear CU2; obtain ⟨⟨q0, q1, q2, q3⟩, f0, f1, f2, f3⟩ := cells4 bA; obtain ⟨⟨d0, d1, d2, d3⟩, g0, g1, g2, g3⟩ := cells4 bB) | (go_at_call 10; refine (R1.out _ (box_two bB bA (by omega) kx (by omega)).2.2).mono ?_; rintro e w4 ⟨rfl, k4⟩; have bP := (box_two bB bA (by omega) kx (by omega)).2.1.ext k4; have bQ := (box_two bB bA (by omega) kx (by omega)).1.ext k4; have kP := Ext.trans (box_two bB bA (by omega) kx (by omega)).2.2 k4; clear q0 q1 q2 q3 f0 f1 f2 f3 d0 d1 d2 d3 g0 g1 g2 g3 bA bB kx k4; have bA := bP; have bB := bQ; have kx := kP; clear bP bQ kP; clear R1; obtain ⟨⟨q0, q1, q2, q3⟩, f0, f1, f2, f3⟩ := cells4 bA; obtain ⟨⟨d0, d1, d2, d3⟩, g0, g1, g2, g3⟩ := cells4 bB) | (go_at_call 11; refine (R2.out _ kx).mono ?_; rintro e w4 ⟨rfl, k4⟩; clear q0 q1 q2 q3 f0 f1 f2 f3 d0 d1 d2 d3 g0 g1 g2 g3; replace bA := bA.ext k4; replace bB := bB.ext k4; replace kx := Ext.trans kx k4; clear R2 k4; obtain ⟨⟨q0, q1, q2, q3⟩, f0, f1, f2, f3⟩ := cells4 bA; obtain ⟨⟨d0, d1, d2, d3⟩, g0, g1, g2, g3⟩ := cells4 bB) | (go_at_call 12; refine (K1.out _ kx).mono ?_; rintro e w4 ⟨rfl, k4⟩; clear q0 q1 q2 q3 f0 f1 f2 f3 d0 d1 d2 d3 g0 g1 g2 g3; replace bA := bA.ext k4; replace bB := bB.ext k4; replace kx := Ext.trans kx k4; clear K1 k4; obtain ⟨⟨q0, q1, q2, q3⟩, f0, f1, f2, f3⟩ := cells4 bA; obtain ⟨⟨d0, d1, d2, d3⟩, g0, g1, g2, g3⟩ := cells4 bB) | (go_at_call 13; refine (K2.out _ kx).mono ?_; rintro e w4 ⟨rfl, k4⟩; clear q0 q1 q2 q3 f0 f1 f2 f3 d0 d1 d2 d3 g0 g1 g2 g3; replace bA := bA.ext k4; replace bB := bB.ext k4; replace kx := Ext.trans kx k4; clear K2 k4; obtain ⟨⟨q0, q1, q2, q3⟩, f0, f1, f2, f3⟩ := cells4 bA; obtain ⟨⟨d0, d1, d2, d3⟩, g0, g1, g2, g3⟩ := cells4 bB) | (go_at_call 14; refine (S1.out _ kx).mono ?_; rintro e w4 ⟨X1, c1, rfl, i1, k4⟩; clear q0 q1 q2 q3 f0 f1 f2 f3 d0 d1 d2 d3 g0 g1 g2 g3; replace bA := bA.ext k4; replace bB := bB.ext k4; replace kx := Ext.trans kx k4; clear S1 k4; obtain ⟨⟨q0, q1, q2, q3⟩, f0, f1, f2, f3⟩ := cells4 bA; obtain ⟨⟨d0, d1, d2, d3⟩, g0, g1, g2, g3⟩ := cells4 bB) | (go_at_call 15; refine (S2.out _ kx).mono ?_; rintro e w4 ⟨X2, c3, rfl, i2, k4⟩; clear q0 q1 q2 q3 f0 f1 f2 f3 d0 d1 d2 d3 g0 g1 g2 g3; replace bA := bA.ext k4; replace bB := bB.ext k4; replace kx := Ext.trans kx k4; replace i1 := i1.ext k4; clear S2 k4; obtain ⟨⟨q0, q1, q2, q3⟩, f0, f1, f2, f3⟩ := cells4 bA; obtain ⟨⟨d0, d1, d2, d3⟩, g0, g1, g2, g3⟩ := cells4 bB))
    have C0 := on_cell q0
    have C1 := on_cell q1
    have C2 := on_cell q2
    have C3 := on_cell q3
    have D0 := on_cell d0
    have D1 := on_cell d1
    have D2 := on_cell d2
    have D3 := on_cell d3
    clear q0 q1 q2 q3 d0 d1 d2 d3 f0 f1 f2 f3 g0 g1 g2 g3
    refine wp_region_on (by kernel_rfl) (by kernel_rfl) ?_
    repeat (go_big_quiet_step (first | (go_at_call 16; with_reducible exact on_call (fun W hW => T1.out W (Ext.trans kx hW)) _) | (go_at_call 17; with_reducible exact on_call (fun W hW => T2.out W (Ext.trans kx hW)) _) | (go_at_call 18; with_reducible exact on_call (fun W hW => U1.out W (Ext.trans kx hW)) _) | (go_at_call 18; with_reducible exact on_call (fun W hW => U3.out W (Ext.trans kx hW)) _) | (go_at_call 19; with_reducible exact on_call (fun W hW => U2.out W (Ext.trans kx hW)) _) | (go_at_call 20; with_reducible exact on_call (fun W hW => IS.out W _ _ _ _ (i1.ext hW) (i2.ext hW)) _)))
    refine wpQuiet_nil ?_
    intro W hW
    go_wp2
    go_ret
    exact ⟨rfl, Ext.trans kx hW⟩
theorem tells_walk (A B : Option Addr) (n m c c' : Nat) (s t : Int) (l r : List Int) (A2 B2 : Option Addr) (n2 m2 c2 c2' : Nat) (s2 t2 : Int) (l2 r2 : List Int) (y x : Int) (w : World) (hA : Arg w A n c l) (hB : Arg w B m c' r) (hA2 : Arg w A2 n2 c2 l2) (hB2 : Arg w B2 m2 c2' r2) (hG : G w) :
    Calls Tryd.prog 3 #[.agg #[.int .i64 s, .slice A n c, .int .i64 t, .slice B m c'], .agg #[.int .i64 s2, .slice A2 n2 c2, .int .i64 t2, .slice B2 m2 c2'], .int .i64 y, .int .i64 x] w fun e w' => e = .returned (.bool true) ∧ Ext w w' := by
  by_cases hy : y ≤ 300
  · exact tells_part A B n m c c' s t l r A2 B2 n2 m2 c2 c2' s2 t2 l2 r2 y y x (.inl ⟨rfl, hy⟩) w hA hB hA2 hB2 hG
  · exact tells_part A B n m c c' s t l r A2 B2 n2 m2 c2 c2' s2 t2 l2 r2 y 300 x (.inr ⟨rfl, by omega⟩) w hA hB hA2 hB2 hG
end
end Go.Proofs.YtgmpcinlkiiboaaDoor
