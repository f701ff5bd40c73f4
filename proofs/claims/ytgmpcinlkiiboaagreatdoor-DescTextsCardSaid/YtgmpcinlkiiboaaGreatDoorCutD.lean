/- selionlaw04: Cut. -/
import Derived.Test.YtgmpcinlkiiboaaGreatDoorInts
namespace Go.Proofs.YtgmpcinlkiiboaaGreatDoor
open Go.RowKit Go
/-- A result of four cells, stored. -/
theorem res_store4 {w w2 : World} {R : Nat} {x0 x1 x2 x3 u0 u1 u2 u3 : Value} {t : TypeId} (hB : Blk w2 R #[x0, x1, x2, x3] t) (hE : Ext w w2) (hR : w.heap.size ≤ R) :
    let W := (((w2.setCell ⟨R, 0, none⟩ u0).setCell ⟨R, 1, none⟩ u1).setCell ⟨R, 2, none⟩ u2).setCell ⟨R, 3, none⟩ u3
    W.cell? ⟨R, 0, none⟩ = some u0 ∧ W.cell? ⟨R, 1, none⟩ = some u1 ∧ W.cell? ⟨R, 2, none⟩ = some u2 ∧ W.cell? ⟨R, 3, none⟩ = some u3 ∧ Ext w W := by
  have h3 := (((hB.set 0 u0).set 1 u1).set 2 u2).set 3 u3
  exact ⟨by rw [h3.cell]; rfl, by rw [h3.cell]; rfl, by rw [h3.cell]; rfl, by rw [h3.cell]; rfl, (((hE.setCell (p := ⟨R, 0, none⟩) hR _).setCell (p := ⟨R, 1, none⟩) hR _).setCell (p := ⟨R, 2, none⟩) hR _).setCell (p := ⟨R, 3, none⟩) hR _⟩
section
set_option maxHeartbeats 4000000 in
set_option maxRecDepth 100000 in
theorem cutd_is (A B : Option Addr) (n m c e : Nat) (s t : Int) (hA : A = none → n = 0 ∧ c = 0) (hB : B = none → m = 0 ∧ e = 0) (hn : n ≤ c) (hm : m ≤ e) (hc : c ≤ 9223372036854775807) (he : e ≤ 9223372036854775807) (w : World) :
    Calls Tryz.prog 5 #[.agg #[.int .i64 s, .slice A n c, .int .i64 t, .slice B m e]] w fun e' w' => e' = .returned (.agg #[.int .i64 s, .slice A (min n 20) c, .int .i64 t, .slice B (min m 20) e]) ∧ Ext w w' := by
  rcases A with _ | ad
  · obtain ⟨rfl, rfl⟩ := hA rfl
    rw [show min 0 20 = 0 by omega]
    rcases B with _ | bd
    · obtain ⟨rfl, rfl⟩ := hB rfl
      try rw [show min 0 20 = 0 by omega]
      clear hA hB
      go_enter Tryz.func5, Tryz.ntmps5
      go_wp2
      refine wp_region_tail 20 19 rfl (by kernel_rfl) (by kernel_rfl) (by kernel_rfl) ?_
      apply Exists.intro
      refine ⟨fun c => ?_, fun W hW => ?_⟩
      · have hx := fun (o : From c.w) p h => From.cell2 c.h o p h
        simp only [List.take_succ_cons, List.take_zero]
        repeat (go_big_quiet_step (fail))
        exact wpQuiet_nil rfl
      · simp only [List.drop_succ_cons, List.drop_zero]
        have p0 := (at_new2 hW).cell 0
        have q0 := (at_new2 hW).frozen 0
        have p1 := (at_new2 hW).cell 1
        have q1 := (at_new2 hW).frozen 1
        have p2 := (at_new2 hW).cell 2
        have q2 := (at_new2 hW).frozen 2
        have p3 := (at_new2 hW).cell 3
        have q3 := (at_new2 hW).frozen 3
        simp at p0 p1 p2 p3
        have HW := Lib.hid hW
        clear hW
        go_wp2
        obtain ⟨s0, s1, s2, s3, hE⟩ := res_store4 (w := w) (u0 := .int .i64 s) (u1 := .slice none 0 0) (u2 := .int .i64 t) (u3 := .slice none 0 0) (at_new2 HW.out) (Ext.trans (ext2 _ _ _) HW.out) (by omega)
        exact bodyPost_ret (v := .agg #[.int .i64 s, .slice none 0 0, .int .i64 t, .slice none 0 0]) (by simp [results, Tryz.results5, go_sem, s0, s1, s2, s3]) rfl ⟨rfl, hE⟩
    · skip
      by_cases hm : m ≤ 20
      · rw [show min m 20 = m by omega]
        have hm5 : (m : Int) ≤ 20 := by omega
        clear hA hB
        go_enter Tryz.func5, Tryz.ntmps5
        go_wp2
        refine wp_region_tail 20 19 rfl (by kernel_rfl) (by kernel_rfl) (by kernel_rfl) ?_
        apply Exists.intro
        refine ⟨fun c => ?_, fun W hW => ?_⟩
        · have hx := fun (o : From c.w) p h => From.cell2 c.h o p h
          simp only [List.take_succ_cons, List.take_zero]
          repeat (go_big_quiet_step (fail))
          exact wpQuiet_nil rfl
        · simp only [List.drop_succ_cons, List.drop_zero]
          have p0 := (at_new2 hW).cell 0
          have q0 := (at_new2 hW).frozen 0
          have p1 := (at_new2 hW).cell 1
          have q1 := (at_new2 hW).frozen 1
          have p2 := (at_new2 hW).cell 2
          have q2 := (at_new2 hW).frozen 2
          have p3 := (at_new2 hW).cell 3
          have q3 := (at_new2 hW).frozen 3
          simp at p0 p1 p2 p3
          have HW := Lib.hid hW
          clear hW
          go_wp2
          obtain ⟨s0, s1, s2, s3, hE⟩ := res_store4 (w := w) (u0 := .int .i64 s) (u1 := .slice none 0 0) (u2 := .int .i64 t) (u3 := .slice (some bd) m e) (at_new2 HW.out) (Ext.trans (ext2 _ _ _) HW.out) (by omega)
          exact bodyPost_ret (v := .agg #[.int .i64 s, .slice none 0 0, .int .i64 t, .slice (some bd) m e]) (by simp [results, Tryz.results5, go_sem, s0, s1, s2, s3]) rfl ⟨rfl, hE⟩
      · rw [show min m 20 = 20 by omega]
        have hm5 : ¬ (m : Int) ≤ 20 := by omega
        have hm6 : 20 ≤ e := by omega
        clear hA hB
        go_enter Tryz.func5, Tryz.ntmps5
        go_wp2
        refine wp_region_tail 20 19 rfl (by kernel_rfl) (by kernel_rfl) (by kernel_rfl) ?_
        apply Exists.intro
        refine ⟨fun c => ?_, fun W hW => ?_⟩
        · have hx := fun (o : From c.w) p h => From.cell2 c.h o p h
          simp only [List.take_succ_cons, List.take_zero]
          repeat (go_big_quiet_step (fail))
          exact wpQuiet_nil rfl
        · simp only [List.drop_succ_cons, List.drop_zero]
          have p0 := (at_new2 hW).cell 0
          have q0 := (at_new2 hW).frozen 0
          have p1 := (at_new2 hW).cell 1
          have q1 := (at_new2 hW).frozen 1
          have p2 := (at_new2 hW).cell 2
          have q2 := (at_new2 hW).frozen 2
          have p3 := (at_new2 hW).cell 3
          have q3 := (at_new2 hW).frozen 3
          simp at p0 p1 p2 p3
          have HW := Lib.hid hW
          clear hW
          go_wp2
          obtain ⟨s0, s1, s2, s3, hE⟩ := res_store4 (w := w) (u0 := .int .i64 s) (u1 := .slice none 0 0) (u2 := .int .i64 t) (u3 := .slice (some bd) 20 e) (at_new2 HW.out) (Ext.trans (ext2 _ _ _) HW.out) (by omega)
          exact bodyPost_ret (v := .agg #[.int .i64 s, .slice none 0 0, .int .i64 t, .slice (some bd) 20 e]) (by simp [results, Tryz.results5, go_sem, s0, s1, s2, s3]) rfl ⟨rfl, hE⟩
  · skip
    by_cases hn : n ≤ 20
    · rw [show min n 20 = n by omega]
      have hn5 : (n : Int) ≤ 20 := by omega
      rcases B with _ | bd
      · obtain ⟨rfl, rfl⟩ := hB rfl
        rw [show min 0 20 = 0 by omega]
        clear hA hB
        go_enter Tryz.func5, Tryz.ntmps5
        go_wp2
        refine wp_region_tail 20 19 rfl (by kernel_rfl) (by kernel_rfl) (by kernel_rfl) ?_
        apply Exists.intro
        refine ⟨fun c => ?_, fun W hW => ?_⟩
        · have hx := fun (o : From c.w) p h => From.cell2 c.h o p h
          simp only [List.take_succ_cons, List.take_zero]
          repeat (go_big_quiet_step (fail))
          exact wpQuiet_nil rfl
        · simp only [List.drop_succ_cons, List.drop_zero]
          have p0 := (at_new2 hW).cell 0
          have q0 := (at_new2 hW).frozen 0
          have p1 := (at_new2 hW).cell 1
          have q1 := (at_new2 hW).frozen 1
          have p2 := (at_new2 hW).cell 2
          have q2 := (at_new2 hW).frozen 2
          have p3 := (at_new2 hW).cell 3
          have q3 := (at_new2 hW).frozen 3
          simp at p0 p1 p2 p3
          have HW := Lib.hid hW
          clear hW
          go_wp2
          obtain ⟨s0, s1, s2, s3, hE⟩ := res_store4 (w := w) (u0 := .int .i64 s) (u1 := .slice (some ad) n c) (u2 := .int .i64 t) (u3 := .slice none 0 0) (at_new2 HW.out) (Ext.trans (ext2 _ _ _) HW.out) (by omega)
          exact bodyPost_ret (v := .agg #[.int .i64 s, .slice (some ad) n c, .int .i64 t, .slice none 0 0]) (by simp [results, Tryz.results5, go_sem, s0, s1, s2, s3]) rfl ⟨rfl, hE⟩
      · skip
        by_cases hm : m ≤ 20
        · rw [show min m 20 = m by omega]
          have hm5 : (m : Int) ≤ 20 := by omega
          clear hA hB
          go_enter Tryz.func5, Tryz.ntmps5
          go_wp2
          refine wp_region_tail 20 19 rfl (by kernel_rfl) (by kernel_rfl) (by kernel_rfl) ?_
          apply Exists.intro
          refine ⟨fun c => ?_, fun W hW => ?_⟩
          · have hx := fun (o : From c.w) p h => From.cell2 c.h o p h
            simp only [List.take_succ_cons, List.take_zero]
            repeat (go_big_quiet_step (fail))
            exact wpQuiet_nil rfl
          · simp only [List.drop_succ_cons, List.drop_zero]
            have p0 := (at_new2 hW).cell 0
            have q0 := (at_new2 hW).frozen 0
            have p1 := (at_new2 hW).cell 1
            have q1 := (at_new2 hW).frozen 1
            have p2 := (at_new2 hW).cell 2
            have q2 := (at_new2 hW).frozen 2
            have p3 := (at_new2 hW).cell 3
            have q3 := (at_new2 hW).frozen 3
            simp at p0 p1 p2 p3
            have HW := Lib.hid hW
            clear hW
            go_wp2
            obtain ⟨s0, s1, s2, s3, hE⟩ := res_store4 (w := w) (u0 := .int .i64 s) (u1 := .slice (some ad) n c) (u2 := .int .i64 t) (u3 := .slice (some bd) m e) (at_new2 HW.out) (Ext.trans (ext2 _ _ _) HW.out) (by omega)
            exact bodyPost_ret (v := .agg #[.int .i64 s, .slice (some ad) n c, .int .i64 t, .slice (some bd) m e]) (by simp [results, Tryz.results5, go_sem, s0, s1, s2, s3]) rfl ⟨rfl, hE⟩
        · rw [show min m 20 = 20 by omega]
          have hm5 : ¬ (m : Int) ≤ 20 := by omega
          have hm6 : 20 ≤ e := by omega
          clear hA hB
          go_enter Tryz.func5, Tryz.ntmps5
          go_wp2
          refine wp_region_tail 20 19 rfl (by kernel_rfl) (by kernel_rfl) (by kernel_rfl) ?_
          apply Exists.intro
          refine ⟨fun c => ?_, fun W hW => ?_⟩
          · have hx := fun (o : From c.w) p h => From.cell2 c.h o p h
            simp only [List.take_succ_cons, List.take_zero]
            repeat (go_big_quiet_step (fail))
            exact wpQuiet_nil rfl
          · simp only [List.drop_succ_cons, List.drop_zero]
            have p0 := (at_new2 hW).cell 0
            have q0 := (at_new2 hW).frozen 0
            have p1 := (at_new2 hW).cell 1
            have q1 := (at_new2 hW).frozen 1
            have p2 := (at_new2 hW).cell 2
            have q2 := (at_new2 hW).frozen 2
            have p3 := (at_new2 hW).cell 3
            have q3 := (at_new2 hW).frozen 3
            simp at p0 p1 p2 p3
            have HW := Lib.hid hW
            clear hW
            go_wp2
            obtain ⟨s0, s1, s2, s3, hE⟩ := res_store4 (w := w) (u0 := .int .i64 s) (u1 := .slice (some ad) n c) (u2 := .int .i64 t) (u3 := .slice (some bd) 20 e) (at_new2 HW.out) (Ext.trans (ext2 _ _ _) HW.out) (by omega)
            exact bodyPost_ret (v := .agg #[.int .i64 s, .slice (some ad) n c, .int .i64 t, .slice (some bd) 20 e]) (by simp [results, Tryz.results5, go_sem, s0, s1, s2, s3]) rfl ⟨rfl, hE⟩
    · rw [show min n 20 = 20 by omega]
      have hn5 : ¬ (n : Int) ≤ 20 := by omega
      have hn6 : 20 ≤ c := by omega
      rcases B with _ | bd
      · obtain ⟨rfl, rfl⟩ := hB rfl
        rw [show min 0 20 = 0 by omega]
        clear hA hB
        go_enter Tryz.func5, Tryz.ntmps5
        go_wp2
        refine wp_region_tail 20 19 rfl (by kernel_rfl) (by kernel_rfl) (by kernel_rfl) ?_
        apply Exists.intro
        refine ⟨fun c => ?_, fun W hW => ?_⟩
        · have hx := fun (o : From c.w) p h => From.cell2 c.h o p h
          simp only [List.take_succ_cons, List.take_zero]
          repeat (go_big_quiet_step (fail))
          exact wpQuiet_nil rfl
        · simp only [List.drop_succ_cons, List.drop_zero]
          have p0 := (at_new2 hW).cell 0
          have q0 := (at_new2 hW).frozen 0
          have p1 := (at_new2 hW).cell 1
          have q1 := (at_new2 hW).frozen 1
          have p2 := (at_new2 hW).cell 2
          have q2 := (at_new2 hW).frozen 2
          have p3 := (at_new2 hW).cell 3
          have q3 := (at_new2 hW).frozen 3
          simp at p0 p1 p2 p3
          have HW := Lib.hid hW
          clear hW
          go_wp2
          obtain ⟨s0, s1, s2, s3, hE⟩ := res_store4 (w := w) (u0 := .int .i64 s) (u1 := .slice (some ad) 20 c) (u2 := .int .i64 t) (u3 := .slice none 0 0) (at_new2 HW.out) (Ext.trans (ext2 _ _ _) HW.out) (by omega)
          exact bodyPost_ret (v := .agg #[.int .i64 s, .slice (some ad) 20 c, .int .i64 t, .slice none 0 0]) (by simp [results, Tryz.results5, go_sem, s0, s1, s2, s3]) rfl ⟨rfl, hE⟩
      · skip
        by_cases hm : m ≤ 20
        · rw [show min m 20 = m by omega]
          have hm5 : (m : Int) ≤ 20 := by omega
          clear hA hB
          go_enter Tryz.func5, Tryz.ntmps5
          go_wp2
          refine wp_region_tail 20 19 rfl (by kernel_rfl) (by kernel_rfl) (by kernel_rfl) ?_
          apply Exists.intro
          refine ⟨fun c => ?_, fun W hW => ?_⟩
          · have hx := fun (o : From c.w) p h => From.cell2 c.h o p h
            simp only [List.take_succ_cons, List.take_zero]
            repeat (go_big_quiet_step (fail))
            exact wpQuiet_nil rfl
          · simp only [List.drop_succ_cons, List.drop_zero]
            have p0 := (at_new2 hW).cell 0
            have q0 := (at_new2 hW).frozen 0
            have p1 := (at_new2 hW).cell 1
            have q1 := (at_new2 hW).frozen 1
            have p2 := (at_new2 hW).cell 2
            have q2 := (at_new2 hW).frozen 2
            have p3 := (at_new2 hW).cell 3
            have q3 := (at_new2 hW).frozen 3
            simp at p0 p1 p2 p3
            have HW := Lib.hid hW
            clear hW
            go_wp2
            obtain ⟨s0, s1, s2, s3, hE⟩ := res_store4 (w := w) (u0 := .int .i64 s) (u1 := .slice (some ad) 20 c) (u2 := .int .i64 t) (u3 := .slice (some bd) m e) (at_new2 HW.out) (Ext.trans (ext2 _ _ _) HW.out) (by omega)
            exact bodyPost_ret (v := .agg #[.int .i64 s, .slice (some ad) 20 c, .int .i64 t, .slice (some bd) m e]) (by simp [results, Tryz.results5, go_sem, s0, s1, s2, s3]) rfl ⟨rfl, hE⟩
        · rw [show min m 20 = 20 by omega]
          have hm5 : ¬ (m : Int) ≤ 20 := by omega
          have hm6 : 20 ≤ e := by omega
          clear hA hB
          go_enter Tryz.func5, Tryz.ntmps5
          go_wp2
          refine wp_region_tail 20 19 rfl (by kernel_rfl) (by kernel_rfl) (by kernel_rfl) ?_
          apply Exists.intro
          refine ⟨fun c => ?_, fun W hW => ?_⟩
          · have hx := fun (o : From c.w) p h => From.cell2 c.h o p h
            simp only [List.take_succ_cons, List.take_zero]
            repeat (go_big_quiet_step (fail))
            exact wpQuiet_nil rfl
          · simp only [List.drop_succ_cons, List.drop_zero]
            have p0 := (at_new2 hW).cell 0
            have q0 := (at_new2 hW).frozen 0
            have p1 := (at_new2 hW).cell 1
            have q1 := (at_new2 hW).frozen 1
            have p2 := (at_new2 hW).cell 2
            have q2 := (at_new2 hW).frozen 2
            have p3 := (at_new2 hW).cell 3
            have q3 := (at_new2 hW).frozen 3
            simp at p0 p1 p2 p3
            have HW := Lib.hid hW
            clear hW
            go_wp2
            obtain ⟨s0, s1, s2, s3, hE⟩ := res_store4 (w := w) (u0 := .int .i64 s) (u1 := .slice (some ad) 20 c) (u2 := .int .i64 t) (u3 := .slice (some bd) 20 e) (at_new2 HW.out) (Ext.trans (ext2 _ _ _) HW.out) (by omega)
            exact bodyPost_ret (v := .agg #[.int .i64 s, .slice (some ad) 20 c, .int .i64 t, .slice (some bd) 20 e]) (by simp [results, Tryz.results5, go_sem, s0, s1, s2, s3]) rfl ⟨rfl, hE⟩
end
end Go.Proofs.YtgmpcinlkiiboaaGreatDoor
