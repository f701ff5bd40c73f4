/- desc: shaped. -/
import Derived.Test.YtgmpcinlkiiboaaGreatDoorShape
namespace Go.Proofs.YtgmpcinlkiiboaaGreatDoor
open Go.RowKit Go
theorem cells6 {w : World} {R : Nat} {x0 x1 x2 x3 x4 x5 : Value} {t : TypeId} (hB : Blk w R #[x0, x1, x2, x3, x4, x5] t) :
    (w.cell? ⟨R, 0, none⟩ = some x0 ∧ w.cell? ⟨R, 1, none⟩ = some x1 ∧ w.cell? ⟨R, 2, none⟩ = some x2 ∧ w.cell? ⟨R, 3, none⟩ = some x3 ∧ w.cell? ⟨R, 4, none⟩ = some x4 ∧ w.cell? ⟨R, 5, none⟩ = some x5) ∧
    (w.frozen? ⟨R, 0, none⟩ = false ∧ w.frozen? ⟨R, 1, none⟩ = false ∧ w.frozen? ⟨R, 2, none⟩ = false ∧ w.frozen? ⟨R, 3, none⟩ = false ∧ w.frozen? ⟨R, 4, none⟩ = false ∧ w.frozen? ⟨R, 5, none⟩ = false) :=
  ⟨⟨by rw [hB.cell]; rfl, by rw [hB.cell]; rfl, by rw [hB.cell]; rfl, by rw [hB.cell]; rfl, by rw [hB.cell]; rfl, by rw [hB.cell]; rfl⟩, hB.frozen 0, hB.frozen 1, hB.frozen 2, hB.frozen 3, hB.frozen 4, hB.frozen 5⟩
theorem res_store6 {w w2 : World} {R : Nat} {x0 x1 x2 x3 x4 x5 u0 u1 u2 u3 u4 u5 : Value} {t : TypeId} (hB : Blk w2 R #[x0, x1, x2, x3, x4, x5] t) (hE : Ext w w2) (hR : w.heap.size ≤ R) :
    let W := (((((w2.setCell ⟨R, 0, none⟩ u0).setCell ⟨R, 1, none⟩ u1).setCell ⟨R, 2, none⟩ u2).setCell ⟨R, 3, none⟩ u3).setCell ⟨R, 4, none⟩ u4).setCell ⟨R, 5, none⟩ u5
    W.cell? ⟨R, 0, none⟩ = some u0 ∧ W.cell? ⟨R, 1, none⟩ = some u1 ∧ W.cell? ⟨R, 2, none⟩ = some u2 ∧ W.cell? ⟨R, 3, none⟩ = some u3 ∧ W.cell? ⟨R, 4, none⟩ = some u4 ∧ W.cell? ⟨R, 5, none⟩ = some u5 ∧ Ext w W := by
  have h3 := (((((hB.set 0 u0).set 1 u1).set 2 u2).set 3 u3).set 4 u4).set 5 u5
  simp only [List.setIfInBounds_toArray, List.set_cons_zero, List.set_cons_succ] at h3
  obtain ⟨⟨a0, a1, a2, a3, a4, a5⟩, _⟩ := cells6 h3
  exact ⟨a0, a1, a2, a3, a4, a5, (((((hE.setCell (p := ⟨R, 0, none⟩) hR _).setCell (p := ⟨R, 1, none⟩) hR _).setCell (p := ⟨R, 2, none⟩) hR _).setCell (p := ⟨R, 3, none⟩) hR _).setCell (p := ⟨R, 4, none⟩) hR _).setCell (p := ⟨R, 5, none⟩) hR _⟩
abbrev zeroS : Array Value := #[.int .i64 0, .slice none 0 0, .int .i64 0, .slice none 0 0, .int .i64 0, .int .i64 0]
section
set_option maxHeartbeats 4000000 in
theorem shaped_40 (A B : Option Addr) (n m c c' : Nat) (s t y : Int) (l r : List Int) (hn : n ≤ 1000000) (hm : m ≤ 1000000) (w : World) (hG : G w) (h : Il w A n l) (h' : Il w B m r) (hr : rightB ⟨s, l, t, r⟩ = false) :
    Calls Tryz.prog 23 #[.agg #[.int .i64 s, .slice A n c, .int .i64 t, .slice B m c'], .int .i64 y] w fun e w' => (∃ v, e = .returned (.tuple #[.agg zeroS, v]) ∧ Code v 40) ∧ Ext w w' := by
  have E2 := ext2 w (.cells #[.int .i64 s, .slice A n c, .int .i64 t, .slice B m c'] 24) (.cells zeroS 52)
  have R := Lib.hid (noDesc_is A B n m c c' s t l r hn hm _ (hG.ext E2) (h.ext E2) (h'.ext E2))
  rw [hr] at R
  have HE := Lib.hid E2
  clear h h' E2 hG hr
  go_enter Tryz.func23, Tryz.ntmps23
  go_wp2_with (go_at_call 17; refine R.out.mono ?_; rintro e w1 ⟨⟨v, rfl, hv⟩, k1⟩; have HV := Lib.hid (show Code v 40 from hv); obtain ⟨te, pe, rfl⟩ := code_err HV.out (by decide); clear hv; obtain ⟨⟨p0, p1, p2, p3, p4, p5⟩, q0, q1, q2, q3, q4, q5⟩ := cells6 (at_new2 k1); have K1 := Lib.hid k1; clear k1)
  obtain ⟨s0, s1, s2, s3, s4, s5, hE⟩ := res_store6 (u0 := .int .i64 0) (u1 := .slice none 0 0) (u2 := .int .i64 0) (u3 := .slice none 0 0) (u4 := .int .i64 0) (u5 := .int .i64 0) (at_new2 K1.out) (Ext.trans HE.out K1.out) (by omega)
  exact bodyPost_ret (v := .tuple #[.agg zeroS, .iface 62 (.agg #[.int .i64 40, .iface te pe])]) (by simp [results, Tryz.results23, go_sem, s0, s1, s2, s3, s4, s5]) rfl ⟨⟨_, rfl, HV.out⟩, hE⟩
theorem cells4 {w : World} {R : Nat} {x0 x1 x2 x3 : Value} {t : TypeId} (hB : Blk w R #[x0, x1, x2, x3] t) :
    (w.cell? ⟨R, 0, none⟩ = some x0 ∧ w.cell? ⟨R, 1, none⟩ = some x1 ∧ w.cell? ⟨R, 2, none⟩ = some x2 ∧ w.cell? ⟨R, 3, none⟩ = some x3) ∧
    (w.frozen? ⟨R, 0, none⟩ = false ∧ w.frozen? ⟨R, 1, none⟩ = false ∧ w.frozen? ⟨R, 2, none⟩ = false ∧ w.frozen? ⟨R, 3, none⟩ = false) :=
  ⟨⟨by rw [hB.cell]; rfl, by rw [hB.cell]; rfl, by rw [hB.cell]; rfl, by rw [hB.cell]; rfl⟩, hB.frozen 0, hB.frozen 1, hB.frozen 2, hB.frozen 3⟩
set_option maxHeartbeats 4000000 in
theorem shaped_41a (A B : Option Addr) (n m c c' : Nat) (s t y : Int) (l r : List Int) (hn : n ≤ 1000000) (hm : m ≤ 1000000) (w : World) (hG : G w) (h : Il w A n l) (h' : Il w B m r) (hr : rightB ⟨s, l, t, r⟩ = true) (hl : limB t y = false) :
    Calls Tryz.prog 23 #[.agg #[.int .i64 s, .slice A n c, .int .i64 t, .slice B m c'], .int .i64 y] w fun e w' => (∃ v, e = .returned (.tuple #[.agg zeroS, v]) ∧ Code v 41) ∧ Ext w w' := by
  have E2 := ext2 w (.cells #[.int .i64 s, .slice A n c, .int .i64 t, .slice B m c'] 24) (.cells zeroS 52)
  have R := Lib.hid (noDesc_is A B n m c c' s t l r hn hm _ (hG.ext E2) (h.ext E2) (h'.ext E2))
  have R2 := Lib.hid (fun W (hW : Ext ((w.alloc (.cells #[.int .i64 s, .slice A n c, .int .i64 t, .slice B m c'] 24)).alloc (.cells zeroS 52)) W) => noLength_is A B n m c c' s t y W (hG.ext (Ext.trans E2 hW)))
  rw [hr] at R
  rw [hl] at R2
  have HE := Lib.hid E2
  clear h h' E2 hG hr hl
  go_enter Tryz.func23, Tryz.ntmps23
  go_wp2_with (first | (go_at_call 17; refine R.out.mono ?_; rintro e w1 ⟨⟨v, rfl, hv⟩, k1⟩; have HV := Lib.hid hv; obtain rfl := code_nil hv rfl; clear hv; obtain ⟨⟨p0, p1, p2, p3⟩, q0, q1, q2, q3⟩ := cells4 (at_old k1)) | (go_at_call 38; refine (R2.out _ k1).mono ?_; rintro e w2 ⟨⟨v, rfl, hv⟩, k2⟩; have HV := Lib.hid (show Code v 41 from hv); obtain ⟨te, pe, rfl⟩ := code_err HV.out (by decide); clear hv; obtain ⟨⟨p0, p1, p2, p3, p4, p5⟩, q0, q1, q2, q3, q4, q5⟩ := cells6 (at_new2 (Ext.trans k1 k2)); have K1 := Lib.hid (Ext.trans k1 k2); clear k1 k2))
  obtain ⟨s0, s1, s2, s3, s4, s5, hE⟩ := res_store6 (u0 := .int .i64 0) (u1 := .slice none 0 0) (u2 := .int .i64 0) (u3 := .slice none 0 0) (u4 := .int .i64 0) (u5 := .int .i64 0) (at_new2 K1.out) (Ext.trans HE.out K1.out) (by omega)
  exact bodyPost_ret (v := .tuple #[.agg zeroS, .iface 62 (.agg #[.int .i64 41, .iface te pe])]) (by simp [results, Tryz.results23, go_sem, s0, s1, s2, s3, s4, s5]) rfl ⟨⟨_, rfl, HV.out⟩, hE⟩
set_option maxHeartbeats 4000000 in
theorem shaped_ok (A B : Option Addr) (n m c c' : Nat) (s t y : Int) (l r : List Int) (hn : n ≤ 1000000) (hm : m ≤ 1000000) (w : World) (hG : G w) (h : Il w A n l) (h' : Il w B m r) (hr : rightB ⟨s, l, t, r⟩ = true) (hl : limB t y = true) (hb : 8 + s + y * t ≤ 131072) :
    Calls Tryz.prog 23 #[.agg #[.int .i64 s, .slice A n c, .int .i64 t, .slice B m c'], .int .i64 y] w fun e w' => e = .returned (.tuple #[.agg #[.int .i64 s, .slice A n c, .int .i64 t, .slice B m c', .int .i64 y, .int .i64 ((8 + s + y * t + 7) / 8 * 8)], .nilIface]) ∧ Ext w w' := by
  have hR := right_of hr
  have a1 := hR.s0
  have a2 := hR.s1
  have a3 := hR.e0
  have a4 := hR.e1
  have a5 : 0 ≤ y ∧ y ≤ 131072 := by
    simp only [limB, Bool.and_eq_true, decide_eq_true_eq] at hl
    exact ⟨hl.1.1, hl.2⟩
  have u0 : (0 : Int) ≤ y * t := Int.mul_nonneg a5.1 a3
  simp only at a1 a2 a3 a4
  have E2 := ext2 w (.cells #[.int .i64 s, .slice A n c, .int .i64 t, .slice B m c'] 24) (.cells zeroS 52)
  have R := Lib.hid (noDesc_is A B n m c c' s t l r hn hm _ (hG.ext E2) (h.ext E2) (h'.ext E2))
  have R2 := Lib.hid (fun W (hW : Ext ((w.alloc (.cells #[.int .i64 s, .slice A n c, .int .i64 t, .slice B m c'] 24)).alloc (.cells zeroS 52)) W) => noLength_is A B n m c c' s t y W (hG.ext (Ext.trans E2 hW)))
  have R3 := Lib.hid (fun W => end_is A B n m c c' s t y 0 ⟨a1, a2⟩ ⟨a3, a4⟩ a5 W)
  obtain ⟨j0, j2, j3, hJ⟩ := hG.j
  have R4 := Lib.hid (fun W (hW : Ext ((w.alloc (.cells #[.int .i64 s, .slice A n c, .int .i64 t, .slice B m c'] 24)).alloc (.cells zeroS 52)) W) => J.round_ok (8 + (s + y * t)) (by omega) (by omega) W (hJ.ext (Ext.trans E2 hW)))
  rw [hr] at R
  rw [hl] at R2
  have HE := Lib.hid E2
  clear h h' E2 hG hr hl hR hJ
  have HM := Lib.hid (show 8 + (s + y * t) = 8 + s + y * t by omega)
  generalize hM : y * t = M at *
  obtain ⟨Z, hZ⟩ : ∃ Z, (8 + (s + M) + 7) / 8 * 8 = Z := ⟨_, rfl⟩
  rw [hZ] at R4
  have HZ := Lib.hid (show Z = (8 + s + M + 7) / 8 * 8 by rw [← hZ, HM.out])
  clear hZ hM
  go_enter Tryz.func23, Tryz.ntmps23
  go_wp2_with (first | (go_at_call 17; (with_reducible refine R.out.mono ?_); rintro e w1 ⟨⟨v, rfl, hv⟩, k1⟩; have HV := Lib.hid hv; obtain rfl := code_nil hv rfl; clear hv; obtain ⟨⟨p0, p1, p2, p3⟩, q0, q1, q2, q3⟩ := cells4 (at_old k1)) | (go_at_call 38; (with_reducible refine (R2.out _ k1).mono ?_); rintro e w2 ⟨⟨v, rfl, hv⟩, k2⟩; obtain rfl := code_nil hv rfl; clear hv; obtain ⟨⟨p0, p1, p2, p3⟩, q0, q1, q2, q3⟩ := cells4 (at_old (Ext.trans k1 k2)); have K1 := Lib.hid (Ext.trans k1 k2); have hz := K1.out.size; simp only [World.size_alloc] at hz; clear k1 k2) | (go_at_call 40; (with_reducible refine (R3.out _).mono ?_); rintro e w3 ⟨rfl, k3⟩; have K3 := Lib.hid (Ext.trans K1.out (Ext.trans (ext1 _ _) k3)); obtain ⟨⟨p0, p1, p2, p3, p4, p5⟩, q0, q1, q2, q3, q4, q5⟩ := cells6 (at_new k3)) | (go_at_call 39; (with_reducible refine (R4.out _ K3.out).mono ?_); rintro e w4 ⟨rfl, k4⟩; have K4 := Lib.hid (Ext.trans K3.out k4); obtain ⟨⟨p0, p1, p2, p3, p4, p5⟩, q0, q1, q2, q3, q4, q5⟩ := cells6 (at_new (Ext.trans k3 k4)); obtain ⟨⟨r0, r1, r2, r3, r4, r5⟩, t0, t1, t2, t3, t4, t5⟩ := cells6 (at_new2 K4.out)))
  obtain ⟨s0, s1, s2, s3, s4, s5, hE⟩ := res_store6 (u0 := .int .i64 s) (u1 := .slice A n c) (u2 := .int .i64 t) (u3 := .slice B m c') (u4 := .int .i64 y) (u5 := .int .i64 Z) ((at_new2 K4.out).other ⟨w2.heap.size, 5, none⟩ (.int .i64 Z) (by show w.heap.size + 1 ≠ w2.heap.size; omega)) ((Ext.trans HE.out K4.out).setCell (p := ⟨w2.heap.size, 5, none⟩) (by show w.heap.size ≤ w2.heap.size; omega) _) (by omega)
  exact bodyPost_ret (v := .tuple #[.agg #[.int .i64 s, .slice A n c, .int .i64 t, .slice B m c', .int .i64 y, .int .i64 Z], .nilIface]) (by simp [results, Tryz.results23, go_sem, s0, s1, s2, s3, s4, s5]) rfl ⟨by rw [HZ.out], hE⟩
set_option maxHeartbeats 4000000 in
theorem shaped_41b (A B : Option Addr) (n m c c' : Nat) (s t y : Int) (l r : List Int) (hn : n ≤ 1000000) (hm : m ≤ 1000000) (w : World) (hG : G w) (h : Il w A n l) (h' : Il w B m r) (hr : rightB ⟨s, l, t, r⟩ = true) (hl : limB t y = true) (hb : 131072 < 8 + s + y * t) :
    Calls Tryz.prog 23 #[.agg #[.int .i64 s, .slice A n c, .int .i64 t, .slice B m c'], .int .i64 y] w fun e w' => (∃ v, e = .returned (.tuple #[.agg zeroS, v]) ∧ Code v 41) ∧ Ext w w' := by
  have hR := right_of hr
  have a1 := hR.s0
  have a2 := hR.s1
  have a3 := hR.e0
  have a4 := hR.e1
  have a5 : 0 ≤ y ∧ y ≤ 131072 := by
    simp only [limB, Bool.and_eq_true, decide_eq_true_eq] at hl
    exact ⟨hl.1.1, hl.2⟩
  have u0 : (0 : Int) ≤ y * t := Int.mul_nonneg a5.1 a3
  simp only at a1 a2 a3 a4
  have hMu : y * t ≤ 33554432 := by have := Int.mul_le_mul a5.2 a4 a3 (by omega); omega
  have HD := Lib.hid hG.d1
  have hsz := hG.sz
  have E2 := ext2 w (.cells #[.int .i64 s, .slice A n c, .int .i64 t, .slice B m c'] 24) (.cells zeroS 52)
  have R := Lib.hid (noDesc_is A B n m c c' s t l r hn hm _ (hG.ext E2) (h.ext E2) (h'.ext E2))
  have R2 := Lib.hid (fun W (hW : Ext ((w.alloc (.cells #[.int .i64 s, .slice A n c, .int .i64 t, .slice B m c'] 24)).alloc (.cells zeroS 52)) W) => noLength_is A B n m c c' s t y W (hG.ext (Ext.trans E2 hW)))
  have R3 := Lib.hid (fun W => end_is A B n m c c' s t y 0 ⟨a1, a2⟩ ⟨a3, a4⟩ a5 W)
  obtain ⟨j0, j2, j3, hJ⟩ := hG.j
  have R4 := Lib.hid (fun W (hW : Ext ((w.alloc (.cells #[.int .i64 s, .slice A n c, .int .i64 t, .slice B m c'] 24)).alloc (.cells zeroS 52)) W) => J.round_no (8 + (s + y * t)) (by omega) W (hJ.ext (Ext.trans E2 hW)))
  rw [hr] at R
  rw [hl] at R2
  have HE := Lib.hid E2
  clear h h' E2 hG hr hl hR hJ
  have HM := Lib.hid (show 8 + (s + y * t) = 8 + s + y * t by omega)
  generalize hM : y * t = M at *
  have hM2 : M ≤ 33554432 := hMu
  obtain ⟨te, pe, he⟩ := HD.out
  have HCd := Lib.hid (code_unless false 41 (by decide) te pe)
  clear hM
  go_enter Tryz.func23, Tryz.ntmps23
  go_wp2_with (first | (go_at_call 17; (with_reducible refine R.out.mono ?_); rintro e w1 ⟨⟨v, rfl, hv⟩, k1⟩; have HV := Lib.hid hv; obtain rfl := code_nil hv rfl; clear hv; obtain ⟨⟨p0, p1, p2, p3⟩, q0, q1, q2, q3⟩ := cells4 (at_old k1)) | (go_at_call 38; (with_reducible refine (R2.out _ k1).mono ?_); rintro e w2 ⟨⟨v, rfl, hv⟩, k2⟩; obtain rfl := code_nil hv rfl; clear hv; obtain ⟨⟨p0, p1, p2, p3⟩, q0, q1, q2, q3⟩ := cells4 (at_old (Ext.trans k1 k2)); have K1 := Lib.hid (Ext.trans k1 k2); have hz := K1.out.size; simp only [World.size_alloc] at hz; clear k1 k2) | (go_at_call 40; (with_reducible refine (R3.out _).mono ?_); rintro e w3 ⟨rfl, k3⟩; have K3 := Lib.hid (Ext.trans K1.out (Ext.trans (ext1 _ _) k3)); obtain ⟨⟨p0, p1, p2, p3, p4, p5⟩, q0, q1, q2, q3, q4, q5⟩ := cells6 (at_new k3)) | (go_at_call 39; (with_reducible refine (R4.out _ K3.out).mono ?_); rintro e w4 ⟨rfl, k4⟩; have K4 := Lib.hid (Ext.trans K3.out k4); obtain ⟨⟨p0, p1, p2, p3, p4, p5⟩, q0, q1, q2, q3, q4, q5⟩ := cells6 (at_new (Ext.trans k3 k4)); obtain ⟨⟨r0, r1, r2, r3, r4, r5⟩, t0, t1, t2, t3, t4, t5⟩ := cells6 (at_new2 K4.out)))
  have ce : w4.cell? ⟨1, 0, none⟩ = some (.iface te pe) := by
    rw [extAt K4.out 1 0 (by simp only [World.size_alloc]; omega), extAt (ext2 w _ _) 1 0 (by omega)]; exact he
  have HS := Lib.hid (And.intro hsz hz)
  clear p0 p1 p2 p3 p4 p5 q0 q1 q2 q3 q4 q5
  have n0 : 1 ≠ w.heap.size + 1 := by omega
  go_region
  all_goals (go_wp2; obtain ⟨s0, s1, s2, s3, s4, s5, hE⟩ := res_store6 (u0 := .int .i64 0) (u1 := .slice none 0 0) (u2 := .int .i64 0) (u3 := .slice none 0 0) (u4 := .int .i64 0) (u5 := .int .i64 0) (at_new2 K4.out) (Ext.trans HE.out K4.out) (by omega))
  exact bodyPost_ret (v := .tuple #[.agg zeroS, .iface 62 (.agg #[.int .i64 41, .iface te pe])]) (by simp [results, Tryz.results23, go_sem, s0, s1, s2, s3, s4, s5]) rfl ⟨⟨_, rfl, HCd.out⟩, hE.drew⟩
end
end Go.Proofs.YtgmpcinlkiiboaaGreatDoor
