/- Joined texts, in their order: CutD, SameD, PartD, EnvD, Shape, Shaped. -/
import Derived.Test.YtopgbggighaknaaDoorM05
import Derived.Deep.LoopGhost
import Derived.Deep.RegionWith
import Derived.Deep.RegionHeld3
import Derived.BigQuiet
import Derived.Deep.QuietTactic
/- selionlaw04: Cut. -/
namespace Go.Proofs.YtopgbggighaknaaDoor
open Go.RowKit Go
/-- A result of four cells, stored. -/
theorem res_store4 {w w2 : World} {R : Nat} {x0 x1 x2 x3 u0 u1 u2 u3 : Value} {t : TypeId} (hB : Blk w2 R #[x0, x1, x2, x3] t) (hE : Ext w w2) (hR : w.heap.size ≤ R) :
    let W := (((w2.setCell ⟨R, 0, none⟩ u0).setCell ⟨R, 1, none⟩ u1).setCell ⟨R, 2, none⟩ u2).setCell ⟨R, 3, none⟩ u3
    W.cell? ⟨R, 0, none⟩ = some u0 ∧ W.cell? ⟨R, 1, none⟩ = some u1 ∧ W.cell? ⟨R, 2, none⟩ = some u2 ∧ W.cell? ⟨R, 3, none⟩ = some u3 ∧ Ext w W := by
  have h3 := (((hB.set 0 u0).set 1 u1).set 2 u2).set 3 u3
  exact ⟨by rw [h3.cell]; rfl, by rw [h3.cell]; rfl, by rw [h3.cell]; rfl, by rw [h3.cell]; rfl, (((hE.setCell (p := ⟨R, 0, none⟩) hR _).setCell (p := ⟨R, 1, none⟩) hR _).setCell (p := ⟨R, 2, none⟩) hR _).setCell (p := ⟨R, 3, none⟩) hR _⟩
section
set_option maxHeartbeats 4000000 in
set_option maxRecDepth 100000 in
theorem cutd_is (A B : Option Addr) (n m c e : Nat) (s t : Int) (hA : A = none → n = 0 ∧ c = 0) (hB : B = none → m = 0 ∧ e = 0) (hn : n ≤ c) (hm : m ≤ e) (hc : c ≤ 9223372036854775807) (he : e ≤ 9223372036854775807) (w : World) :
    Calls Tryd.prog 14 #[.agg #[.int .i64 s, .slice A n c, .int .i64 t, .slice B m e]] w fun e' w' => e' = .returned (.agg #[.int .i64 s, .slice A (min n 20) c, .int .i64 t, .slice B (min m 20) e]) ∧ Ext w w' := by
  rcases A with _ | ad
  · obtain ⟨rfl, rfl⟩ := hA rfl
    rw [show min 0 20 = 0 by omega]
    rcases B with _ | bd
    · obtain ⟨rfl, rfl⟩ := hB rfl
      try rw [show min 0 20 = 0 by omega]
      clear hA hB
      go_enter Tryd.func14, Tryd.ntmps14
      go_wp2
      refine wp_region_tail 20 19 rfl (by kernel_rfl) (by kernel_rfl) (by kernel_rfl) ?_
      apply Exists.intro
      refine ⟨fun c => ?_, fun W hW => ?_⟩
      · have hx := fun (o : From c.w) p h => From.cell2 c.h o p h
        simp only [List.take_succ_cons, List.take_zero]
        repeat (go_big_quiet_step (fail))
        exact wpQuiet_nil rfl
      · simp only [List.drop_succ_cons, List.drop_zero]
        have p0 := (at_new2 hW).cell 0
        have q0 := (at_new2 hW).frozen 0
        have p1 := (at_new2 hW).cell 1
        have q1 := (at_new2 hW).frozen 1
        have p2 := (at_new2 hW).cell 2
        have q2 := (at_new2 hW).frozen 2
        have p3 := (at_new2 hW).cell 3
        have q3 := (at_new2 hW).frozen 3
        simp at p0 p1 p2 p3
        have HW := Lib.hid hW
        clear hW
        go_wp2
        obtain ⟨s0, s1, s2, s3, hE⟩ := res_store4 (w := w) (u0 := .int .i64 s) (u1 := .slice none 0 0) (u2 := .int .i64 t) (u3 := .slice none 0 0) (at_new2 HW.out) (Ext.trans (ext2 _ _ _) HW.out) (by omega)
        exact bodyPost_ret (v := .agg #[.int .i64 s, .slice none 0 0, .int .i64 t, .slice none 0 0]) (by simp [results, Tryd.results14, go_sem, s0, s1, s2, s3]) rfl ⟨rfl, hE⟩
    · skip
      by_cases hm : m ≤ 20
      · rw [show min m 20 = m by omega]
        have hm5 : (m : Int) ≤ 20 := by omega
        clear hA hB
        go_enter Tryd.func14, Tryd.ntmps14
        go_wp2
        refine wp_region_tail 20 19 rfl (by kernel_rfl) (by kernel_rfl) (by kernel_rfl) ?_
        apply Exists.intro
        refine ⟨fun c => ?_, fun W hW => ?_⟩
        · have hx := fun (o : From c.w) p h => From.cell2 c.h o p h
          simp only [List.take_succ_cons, List.take_zero]
          repeat (go_big_quiet_step (fail))
          exact wpQuiet_nil rfl
        · simp only [List.drop_succ_cons, List.drop_zero]
          have p0 := (at_new2 hW).cell 0
          have q0 := (at_new2 hW).frozen 0
          have p1 := (at_new2 hW).cell 1
          have q1 := (at_new2 hW).frozen 1
          have p2 := (at_new2 hW).cell 2
          have q2 := (at_new2 hW).frozen 2
          have p3 := (at_new2 hW).cell 3
          have q3 := (at_new2 hW).frozen 3
          simp at p0 p1 p2 p3
          have HW := Lib.hid hW
          clear hW
          go_wp2
          obtain ⟨s0, s1, s2, s3, hE⟩ := res_store4 (w := w) (u0 := .int .i64 s) (u1 := .slice none 0 0) (u2 := .int .i64 t) (u3 := .slice (some bd) m e) (at_new2 HW.out) (Ext.trans (ext2 _ _ _) HW.out) (by omega)
          exact bodyPost_ret (v := .agg #[.int .i64 s, .slice none 0 0, .int .i64 t, .slice (some bd) m e]) (by simp [results, Tryd.results14, go_sem, s0, s1, s2, s3]) rfl ⟨rfl, hE⟩
      · rw [show min m 20 = 20 by omega]
        have hm5 : ¬ (m : Int) ≤ 20 := by omega
        have hm6 : 20 ≤ e := by omega
        clear hA hB
        go_enter Tryd.func14, Tryd.ntmps14
        go_wp2
        refine wp_region_tail 20 19 rfl (by kernel_rfl) (by kernel_rfl) (by kernel_rfl) ?_
        apply Exists.intro
        refine ⟨fun c => ?_, fun W hW => ?_⟩
        · have hx := fun (o : From c.w) p h => From.cell2 c.h o p h
          simp only [List.take_succ_cons, List.take_zero]
          repeat (go_big_quiet_step (fail))
          exact wpQuiet_nil rfl
        · simp only [List.drop_succ_cons, List.drop_zero]
          have p0 := (at_new2 hW).cell 0
          have q0 := (at_new2 hW).frozen 0
          have p1 := (at_new2 hW).cell 1
          have q1 := (at_new2 hW).frozen 1
          have p2 := (at_new2 hW).cell 2
          have q2 := (at_new2 hW).frozen 2
          have p3 := (at_new2 hW).cell 3
          have q3 := (at_new2 hW).frozen 3
          simp at p0 p1 p2 p3
          have HW := Lib.hid hW
          clear hW
          go_wp2
          obtain ⟨s0, s1, s2, s3, hE⟩ := res_store4 (w := w) (u0 := .int .i64 s) (u1 := .slice none 0 0) (u2 := .int .i64 t) (u3 := .slice (some bd) 20 e) (at_new2 HW.out) (Ext.trans (ext2 _ _ _) HW.out) (by omega)
          exact bodyPost_ret (v := .agg #[.int .i64 s, .slice none 0 0, .int .i64 t, .slice (some bd) 20 e]) (by simp [results, Tryd.results14, go_sem, s0, s1, s2, s3]) rfl ⟨rfl, hE⟩
  · skip
    by_cases hn : n ≤ 20
    · rw [show min n 20 = n by omega]
      have hn5 : (n : Int) ≤ 20 := by omega
      rcases B with _ | bd
      · obtain ⟨rfl, rfl⟩ := hB rfl
        rw [show min 0 20 = 0 by omega]
        clear hA hB
        go_enter Tryd.func14, Tryd.ntmps14
        go_wp2
        refine wp_region_tail 20 19 rfl (by kernel_rfl) (by kernel_rfl) (by kernel_rfl) ?_
        apply Exists.intro
        refine ⟨fun c => ?_, fun W hW => ?_⟩
        · have hx := fun (o : From c.w) p h => From.cell2 c.h o p h
          simp only [List.take_succ_cons, List.take_zero]
          repeat (go_big_quiet_step (fail))
          exact wpQuiet_nil rfl
        · simp only [List.drop_succ_cons, List.drop_zero]
          have p0 := (at_new2 hW).cell 0
          have q0 := (at_new2 hW).frozen 0
          have p1 := (at_new2 hW).cell 1
          have q1 := (at_new2 hW).frozen 1
          have p2 := (at_new2 hW).cell 2
          have q2 := (at_new2 hW).frozen 2
          have p3 := (at_new2 hW).cell 3
          have q3 := (at_new2 hW).frozen 3
          simp at p0 p1 p2 p3
          have HW := Lib.hid hW
          clear hW
          go_wp2
          obtain ⟨s0, s1, s2, s3, hE⟩ := res_store4 (w := w) (u0 := .int .i64 s) (u1 := .slice (some ad) n c) (u2 := .int .i64 t) (u3 := .slice none 0 0) (at_new2 HW.out) (Ext.trans (ext2 _ _ _) HW.out) (by omega)
          exact bodyPost_ret (v := .agg #[.int .i64 s, .slice (some ad) n c, .int .i64 t, .slice none 0 0]) (by simp [results, Tryd.results14, go_sem, s0, s1, s2, s3]) rfl ⟨rfl, hE⟩
      · skip
        by_cases hm : m ≤ 20
        · rw [show min m 20 = m by omega]
          have hm5 : (m : Int) ≤ 20 := by omega
          clear hA hB
          go_enter Tryd.func14, Tryd.ntmps14
          go_wp2
          refine wp_region_tail 20 19 rfl (by kernel_rfl) (by kernel_rfl) (by kernel_rfl) ?_
          apply Exists.intro
          refine ⟨fun c => ?_, fun W hW => ?_⟩
          · have hx := fun (o : From c.w) p h => From.cell2 c.h o p h
            simp only [List.take_succ_cons, List.take_zero]
            repeat (go_big_quiet_step (fail))
            exact wpQuiet_nil rfl
          · simp only [List.drop_succ_cons, List.drop_zero]
            have p0 := (at_new2 hW).cell 0
            have q0 := (at_new2 hW).frozen 0
            have p1 := (at_new2 hW).cell 1
            have q1 := (at_new2 hW).frozen 1
            have p2 := (at_new2 hW).cell 2
            have q2 := (at_new2 hW).frozen 2
            have p3 := (at_new2 hW).cell 3
            have q3 := (at_new2 hW).frozen 3
            simp at p0 p1 p2 p3
            have HW := Lib.hid hW
            clear hW
            go_wp2
            obtain ⟨s0, s1, s2, s3, hE⟩ := res_store4 (w := w) (u0 := .int .i64 s) (u1 := .slice (some ad) n c) (u2 := .int .i64 t) (u3 := .slice (some bd) m e) (at_new2 HW.out) (Ext.trans (ext2 _ _ _) HW.out) (by omega)
            exact bodyPost_ret (v := .agg #[.int .i64 s, .slice (some ad) n c, .int .i64 t, .slice (some bd) m e]) (by simp [results, Tryd.results14, go_sem, s0, s1, s2, s3]) rfl ⟨rfl, hE⟩
        · rw [show min m 20 = 20 by omega]
          have hm5 : ¬ (m : Int) ≤ 20 := by omega
          have hm6 : 20 ≤ e := by omega
          clear hA hB
          go_enter Tryd.func14, Tryd.ntmps14
          go_wp2
          refine wp_region_tail 20 19 rfl (by kernel_rfl) (by kernel_rfl) (by kernel_rfl) ?_
          apply Exists.intro
          refine ⟨fun c => ?_, fun W hW => ?_⟩
          · have hx := fun (o : From c.w) p h => From.cell2 c.h o p h
            simp only [List.take_succ_cons, List.take_zero]
            repeat (go_big_quiet_step (fail))
            exact wpQuiet_nil rfl
          · simp only [List.drop_succ_cons, List.drop_zero]
            have p0 := (at_new2 hW).cell 0
            have q0 := (at_new2 hW).frozen 0
            have p1 := (at_new2 hW).cell 1
            have q1 := (at_new2 hW).frozen 1
            have p2 := (at_new2 hW).cell 2
            have q2 := (at_new2 hW).frozen 2
            have p3 := (at_new2 hW).cell 3
            have q3 := (at_new2 hW).frozen 3
            simp at p0 p1 p2 p3
            have HW := Lib.hid hW
            clear hW
            go_wp2
            obtain ⟨s0, s1, s2, s3, hE⟩ := res_store4 (w := w) (u0 := .int .i64 s) (u1 := .slice (some ad) n c) (u2 := .int .i64 t) (u3 := .slice (some bd) 20 e) (at_new2 HW.out) (Ext.trans (ext2 _ _ _) HW.out) (by omega)
            exact bodyPost_ret (v := .agg #[.int .i64 s, .slice (some ad) n c, .int .i64 t, .slice (some bd) 20 e]) (by simp [results, Tryd.results14, go_sem, s0, s1, s2, s3]) rfl ⟨rfl, hE⟩
    · rw [show min n 20 = 20 by omega]
      have hn5 : ¬ (n : Int) ≤ 20 := by omega
      have hn6 : 20 ≤ c := by omega
      rcases B with _ | bd
      · obtain ⟨rfl, rfl⟩ := hB rfl
        rw [show min 0 20 = 0 by omega]
        clear hA hB
        go_enter Tryd.func14, Tryd.ntmps14
        go_wp2
        refine wp_region_tail 20 19 rfl (by kernel_rfl) (by kernel_rfl) (by kernel_rfl) ?_
        apply Exists.intro
        refine ⟨fun c => ?_, fun W hW => ?_⟩
        · have hx := fun (o : From c.w) p h => From.cell2 c.h o p h
          simp only [List.take_succ_cons, List.take_zero]
          repeat (go_big_quiet_step (fail))
          exact wpQuiet_nil rfl
        · simp only [List.drop_succ_cons, List.drop_zero]
          have p0 := (at_new2 hW).cell 0
          have q0 := (at_new2 hW).frozen 0
          have p1 := (at_new2 hW).cell 1
          have q1 := (at_new2 hW).frozen 1
          have p2 := (at_new2 hW).cell 2
          have q2 := (at_new2 hW).frozen 2
          have p3 := (at_new2 hW).cell 3
          have q3 := (at_new2 hW).frozen 3
          simp at p0 p1 p2 p3
          have HW := Lib.hid hW
          clear hW
          go_wp2
          obtain ⟨s0, s1, s2, s3, hE⟩ := res_store4 (w := w) (u0 := .int .i64 s) (u1 := .slice (some ad) 20 c) (u2 := .int .i64 t) (u3 := .slice none 0 0) (at_new2 HW.out) (Ext.trans (ext2 _ _ _) HW.out) (by omega)
          exact bodyPost_ret (v := .agg #[.int .i64 s, .slice (some ad) 20 c, .int .i64 t, .slice none 0 0]) (by simp [results, Tryd.results14, go_sem, s0, s1, s2, s3]) rfl ⟨rfl, hE⟩
      · skip
        by_cases hm : m ≤ 20
        · rw [show min m 20 = m by omega]
          have hm5 : (m : Int) ≤ 20 := by omega
          clear hA hB
          go_enter Tryd.func14, Tryd.ntmps14
          go_wp2
          refine wp_region_tail 20 19 rfl (by kernel_rfl) (by kernel_rfl) (by kernel_rfl) ?_
          apply Exists.intro
          refine ⟨fun c => ?_, fun W hW => ?_⟩
          · have hx := fun (o : From c.w) p h => From.cell2 c.h o p h
            simp only [List.take_succ_cons, List.take_zero]
            repeat (go_big_quiet_step (fail))
            exact wpQuiet_nil rfl
          · simp only [List.drop_succ_cons, List.drop_zero]
            have p0 := (at_new2 hW).cell 0
            have q0 := (at_new2 hW).frozen 0
            have p1 := (at_new2 hW).cell 1
            have q1 := (at_new2 hW).frozen 1
            have p2 := (at_new2 hW).cell 2
            have q2 := (at_new2 hW).frozen 2
            have p3 := (at_new2 hW).cell 3
            have q3 := (at_new2 hW).frozen 3
            simp at p0 p1 p2 p3
            have HW := Lib.hid hW
            clear hW
            go_wp2
            obtain ⟨s0, s1, s2, s3, hE⟩ := res_store4 (w := w) (u0 := .int .i64 s) (u1 := .slice (some ad) 20 c) (u2 := .int .i64 t) (u3 := .slice (some bd) m e) (at_new2 HW.out) (Ext.trans (ext2 _ _ _) HW.out) (by omega)
            exact bodyPost_ret (v := .agg #[.int .i64 s, .slice (some ad) 20 c, .int .i64 t, .slice (some bd) m e]) (by simp [results, Tryd.results14, go_sem, s0, s1, s2, s3]) rfl ⟨rfl, hE⟩
        · rw [show min m 20 = 20 by omega]
          have hm5 : ¬ (m : Int) ≤ 20 := by omega
          have hm6 : 20 ≤ e := by omega
          clear hA hB
          go_enter Tryd.func14, Tryd.ntmps14
          go_wp2
          refine wp_region_tail 20 19 rfl (by kernel_rfl) (by kernel_rfl) (by kernel_rfl) ?_
          apply Exists.intro
          refine ⟨fun c => ?_, fun W hW => ?_⟩
          · have hx := fun (o : From c.w) p h => From.cell2 c.h o p h
            simp only [List.take_succ_cons, List.take_zero]
            repeat (go_big_quiet_step (fail))
            exact wpQuiet_nil rfl
          · simp only [List.drop_succ_cons, List.drop_zero]
            have p0 := (at_new2 hW).cell 0
            have q0 := (at_new2 hW).frozen 0
            have p1 := (at_new2 hW).cell 1
            have q1 := (at_new2 hW).frozen 1
            have p2 := (at_new2 hW).cell 2
            have q2 := (at_new2 hW).frozen 2
            have p3 := (at_new2 hW).cell 3
            have q3 := (at_new2 hW).frozen 3
            simp at p0 p1 p2 p3
            have HW := Lib.hid hW
            clear hW
            go_wp2
            obtain ⟨s0, s1, s2, s3, hE⟩ := res_store4 (w := w) (u0 := .int .i64 s) (u1 := .slice (some ad) 20 c) (u2 := .int .i64 t) (u3 := .slice (some bd) 20 e) (at_new2 HW.out) (Ext.trans (ext2 _ _ _) HW.out) (by omega)
            exact bodyPost_ret (v := .agg #[.int .i64 s, .slice (some ad) 20 c, .int .i64 t, .slice (some bd) 20 e]) (by simp [results, Tryd.results14, go_sem, s0, s1, s2, s3]) rfl ⟨rfl, hE⟩
end
end Go.Proofs.YtopgbggighaknaaDoor
/- desc: Same, over slices.Equal (made by gen_samed.py). -/
namespace Go.Proofs.YtopgbggighaknaaDoor
open Go.RowKit Go
section
set_option maxHeartbeats 2000000 in
theorem eql_is (A A' : Option Addr) (n n' c c' : Nat) (l l' : List Int) (hn : n ≤ 1000000) (w : World) (h : Il w A n l) (h' : Il w A' n' l') :
    Calls Tryd.prog 27 #[.slice A n c, .slice A' n' c'] w fun e w' => e = .returned (.bool (decide (l = l'))) ∧ Ext w w' := by
  by_cases hl : n = n'
  · subst hl
    have hlen := h.1.trans h'.1.symm
    have H := Lib.hid (And.intro h (And.intro h' hlen))
    clear h h' hlen
    go_enter Tryd.func27, Tryd.ntmps27
    go_wp2
    go_loopg [5, 13] n (fun m j i wr => ∃ k : Nat, k + m = n ∧ i = .int .i64 k ∧ l.take k = l'.take k ∧ Ext w wr)
    case atStart => exact ⟨0, by omega, rfl, rfl, Ext.refl _⟩
    case round =>
      obtain ⟨k, hk, rfl, ht, hE⟩ := hrel
      by_cases hlt : k < n
      · obtain ⟨ad, rfl, hb, hcell⟩ := (H.out.1.ext hE).at_ hlt
        obtain ⟨ad', rfl, hb', hcell'⟩ := (H.out.2.1.ext hE).at_ hlt
        have ck := hcell k hlt
        have ck' := hcell' k hlt
        have h5 : (k : Int) < n := by omega
        have h6 : (k : Int) + 1 ≤ 1000000 := by omega
        have e1 : l.take (k + 1) = l.take k ++ [l.getD k 0] := by rw [List.take_add_one, List.getD, List.getElem?_eq_getElem (by rw [H.out.1.1]; exact hlt)]; rfl
        have e2 : l'.take (k + 1) = l'.take k ++ [l'.getD k 0] := by rw [List.take_add_one, List.getD, List.getElem?_eq_getElem (by rw [H.out.2.1.1]; exact hlt)]; rfl
        have HE := Lib.hid (And.intro hE (And.intro hk (And.intro ht (And.intro e1 e2))))
        clear hE hcell hcell' hk ht e1 e2
        generalize hx : l.getD k 0 = x at *
        generalize hy : l'.getD k 0 = y at *
        by_cases hxy : x = y
        · subst hxy
          have hb1 : (x != x) = false := by simp
          clear hx hy
          go_wp2
          go_quiet (fail)
          go_wp2
          go_roundg (gk - 1)
          case measure => have := HE.out.2.1; omega
          case rel => exact ⟨k + 1, by have := HE.out.2.1; omega, by go_num, by rw [HE.out.2.2.2.1, HE.out.2.2.2.2, HE.out.2.2.1], Ext.trans HE.out.1 (ext_drewD _ _)⟩
        · have hb1 : (x != y) = true := by simpa using hxy
          have HN := Lib.hid (show decide (l = l') = false from decide_eq_false (fun e => hxy (by rw [← hx, ← hy, e])))
          clear hx hy hxy
          go_wp2
          go_quiet (fail)
          go_wp2
          go_ret
          exact ⟨rb (by rw [HN.out]), Ext.trans HE.out.1 (ext_drewD _ _)⟩
      · obtain rfl : k = n := by omega
        have h5 : ¬ (k : Int) < k := by omega
        have HN := Lib.hid (show decide (l = l') = true from decide_eq_true (by rw [← List.take_of_length_le (Nat.le_of_eq H.out.1.1), ← List.take_of_length_le (l := l') (Nat.le_of_eq H.out.2.1.1), ht]))
        have HE := Lib.hid hE
        clear hE ht hk
        go_wp2
        go_ret
        exact ⟨rb (by rw [HN.out]), HE.out⟩
  · have HN := Lib.hid (show decide (l = l') = false from decide_eq_false (fun e => hl (by rw [← h.1, ← h'.1, e])))
    have h5 : ((n : Int) != (n' : Int)) = true := by rw [bne_iff_ne]; omega
    clear h h'
    go_enter Tryd.func27, Tryd.ntmps27
    go_wp2
    go_ret
    exact ⟨rb (by rw [HN.out]), Ext.refl _⟩

set_option maxHeartbeats 4000000 in
set_option maxRecDepth 100000 in
theorem dsame_is (A1 B1 : Option Addr) (n1 m1 c1 e1 : Nat) (s1 t1 : Int) (l1 r1 : List Int) (hn1 : n1 ≤ 1000000) (hm1 : m1 ≤ 1000000) (A2 B2 : Option Addr) (n2 m2 c2 e2 : Nat) (s2 t2 : Int) (l2 r2 : List Int)  (w : World) (h1 : Il w A1 n1 l1) (h1' : Il w B1 m1 r1) (h2 : Il w A2 n2 l2) (h2' : Il w B2 m2 r2) :
    Calls Tryd.prog 13 #[.agg #[.int .i64 s1, .slice A1 n1 c1, .int .i64 t1, .slice B1 m1 e1], .agg #[.int .i64 s2, .slice A2 n2 c2, .int .i64 t2, .slice B2 m2 e2]] w fun e w' => e = .returned (.bool (decide ((⟨s1, l1, t1, r1⟩ : DescR) = ⟨s2, l2, t2, r2⟩))) ∧ Ext w w' := by
  have E2 := ext2 w (.cells #[.int .i64 s1, .slice A1 n1 c1, .int .i64 t1, .slice B1 m1 e1] 27) (.cells #[.int .i64 s2, .slice A2 n2 c2, .int .i64 t2, .slice B2 m2 e2] 27)
  have R1 := Lib.hid (fun W (hW : Ext ((w.alloc (.cells #[.int .i64 s1, .slice A1 n1 c1, .int .i64 t1, .slice B1 m1 e1] 27)).alloc (.cells #[.int .i64 s2, .slice A2 n2 c2, .int .i64 t2, .slice B2 m2 e2] 27)) W) => eql_is A1 A2 n1 n2 c1 c2 l1 l2 hn1 W (h1.ext (Ext.trans E2 hW)) (h2.ext (Ext.trans E2 hW)))
  have R2 := Lib.hid (fun W (hW : Ext ((w.alloc (.cells #[.int .i64 s1, .slice A1 n1 c1, .int .i64 t1, .slice B1 m1 e1] 27)).alloc (.cells #[.int .i64 s2, .slice A2 n2 c2, .int .i64 t2, .slice B2 m2 e2] 27)) W) => eql_is B1 B2 m1 m2 e1 e2 r1 r2 hm1 W (h1'.ext (Ext.trans E2 hW)) (h2'.ext (Ext.trans E2 hW)))
  have HE := Lib.hid E2
  clear h1 h1' h2 h2' E2
  by_cases q1 : s1 = s2
  · subst q1
    by_cases q2 : t1 = t2
    · subst q2
      have HQ : decide ((⟨s1, l1, t1, r1⟩ : DescR) = ⟨s1, l2, t1, r2⟩) = (decide (l1 = l2) && decide (r1 = r2)) := by rw [Bool.eq_iff_iff]; simp
      cases hl : decide (l1 = l2)
      · have HN := Lib.hid (show false = decide ((⟨s1, l1, t1, r1⟩ : DescR) = ⟨s1, l2, t1, r2⟩) by rw [HQ, hl]; rfl)
        rw [hl] at R1
        clear HQ hl
        go_enter Tryd.func13, Tryd.ntmps13
        go_wp2_with (first | (go_at_call 27; with_reducible refine (R1.out _ (Ext.refl _)).mono ?_; rintro e w1 ⟨rfl, k1⟩; have p1 := (at_old k1).cell 1; have p3 := (at_old k1).cell 3; have p5 := (at_new2 k1).cell 1; have p7 := (at_new2 k1).cell 3; simp at p1 p3 p5 p7))
        go_ret
        exact ⟨rb HN.out, Ext.trans HE.out k1⟩
      · skip
        cases hr : decide (r1 = r2)
        · have HN := Lib.hid (show false = decide ((⟨s1, l1, t1, r1⟩ : DescR) = ⟨s1, l2, t1, r2⟩) by rw [HQ, hl, hr]; rfl)
          rw [hl] at R1
          rw [hr] at R2
          clear HQ hl hr
          go_enter Tryd.func13, Tryd.ntmps13
          go_wp2_with (first | (go_at_call 27; with_reducible refine (R1.out _ (Ext.refl _)).mono ?_; rintro e w1 ⟨rfl, k1⟩; have p1 := (at_old k1).cell 1; have p3 := (at_old k1).cell 3; have p5 := (at_new2 k1).cell 1; have p7 := (at_new2 k1).cell 3; simp at p1 p3 p5 p7) | (go_at_call 27; with_reducible refine (R2.out _ k1).mono ?_; rintro e w2 ⟨rfl, k2⟩))
          go_ret
          exact ⟨rb HN.out, Ext.trans HE.out (Ext.trans k1 k2)⟩
        · have HN := Lib.hid (show true = decide ((⟨s1, l1, t1, r1⟩ : DescR) = ⟨s1, l2, t1, r2⟩) by rw [HQ, hl, hr]; rfl)
          rw [hl] at R1
          rw [hr] at R2
          clear HQ hl hr
          go_enter Tryd.func13, Tryd.ntmps13
          go_wp2_with (first | (go_at_call 27; with_reducible refine (R1.out _ (Ext.refl _)).mono ?_; rintro e w1 ⟨rfl, k1⟩; have p1 := (at_old k1).cell 1; have p3 := (at_old k1).cell 3; have p5 := (at_new2 k1).cell 1; have p7 := (at_new2 k1).cell 3; simp at p1 p3 p5 p7) | (go_at_call 27; with_reducible refine (R2.out _ k1).mono ?_; rintro e w2 ⟨rfl, k2⟩))
          go_ret
          exact ⟨rb HN.out, Ext.trans HE.out (Ext.trans k1 k2)⟩
    · have b2 : (t1 == t2) = false := by simpa using q2
      have HN := Lib.hid (show false = decide ((⟨s1, l1, t1, r1⟩ : DescR) = ⟨s1, l2, t2, r2⟩) from (decide_eq_false (fun h => q2 (by cases h; rfl))).symm)
      clear q2
      go_enter Tryd.func13, Tryd.ntmps13
      go_wp2
      go_ret
      exact ⟨rb HN.out, HE.out⟩
  · have b1 : (s1 == s2) = false := by simpa using q1
    have HN := Lib.hid (show false = decide ((⟨s1, l1, t1, r1⟩ : DescR) = ⟨s2, l2, t2, r2⟩) from (decide_eq_false (fun h => q1 (by cases h; rfl))).symm)
    clear q1
    go_enter Tryd.func13, Tryd.ntmps13
    go_wp2
    go_ret
    exact ⟨rb HN.out, HE.out⟩
end
end Go.Proofs.YtopgbggighaknaaDoor
/- desc: isPart. -/
namespace Go.Proofs.YtopgbggighaknaaDoor
open Go.RowKit Go
def partB (most size : Int) (l : List Int) : Bool := decide (0 ≤ size) && decide (size ≤ most) && decide (size % 4 = 0) && risB l size
theorem right_parts (d : DescR) : rightB d = (partB 1024 d.size d.ptrs && partB 256 d.elem d.eptrs) := by
  rw [Bool.eq_iff_iff]; simp [rightB, partB]
  constructor
  · rintro ⟨⟨⟨⟨⟨⟨⟨a, b⟩, c⟩, d⟩, e⟩, f⟩, g⟩, h⟩; exact ⟨⟨⟨⟨a, b⟩, c⟩, g⟩, ⟨⟨⟨d, e⟩, f⟩, h⟩⟩
  · rintro ⟨⟨⟨⟨a, b⟩, c⟩, g⟩, ⟨⟨⟨d, e⟩, f⟩, h⟩⟩; exact ⟨⟨⟨⟨⟨⟨⟨a, b⟩, c⟩, d⟩, e⟩, f⟩, g⟩, h⟩
/-- what the k-th place must be at least -/
def leastL (l : List Int) : Nat → Int
  | 0 => 0
  | k + 1 => l.getD k 0 + 4
theorem least_prev (l : List Int) (k : Nat) (h : 0 < k → prevL l k % 4 = 0) (x : Int) (h4 : x % 4 = 0) : (prevL l k < x ∧ 0 ≤ x) → leastL l k ≤ x := by
  cases k with
  | zero => simp [leastL]
  | succ k => simp only [prevL, leastL] at *; have := h (by omega); omega
theorem prev_least (l : List Int) (k : Nat) (h : 0 < k → 0 ≤ prevL l k) (x : Int) : leastL l k ≤ x → prevL l k < x ∧ 0 ≤ x := by
  cases k with
  | zero => simp only [leastL, prevL]; omega
  | succ k => simp only [prevL, leastL] at *; have := h (by omega); omega
section
set_option maxHeartbeats 4000000 in
set_option maxRecDepth 100000 in
theorem isPart_is (A : Option Addr) (n c : Nat) (l : List Int) (most size : Int) (hn : n ≤ 1000000) (hmost : most ≤ 2000) (w : World) (h : Il w A n l) :
    Calls Tryd.prog 19 #[.int .i64 most, .int .i64 size, .slice A n c] w fun e w' => e = .returned (.bool (partB most size l)) ∧ Ext w w' := by
  have H := Lib.hid h
  clear h
  by_cases h0 : size < 0
  · have HN := Lib.hid (show false = partB most size l by unfold partB; rw [show decide (0 ≤ size) = false from decide_eq_false (by omega)]; rfl)
    have d0 : decide (size < 0) = true := decide_eq_true h0
    go_enter Tryd.func19, Tryd.ntmps19
    go_wp2
    go_ret
    exact ⟨rb HN.out, Ext.refl _⟩
  obtain ⟨S, rfl⟩ : ∃ y : Nat, size = y := ⟨size.toNat, by omega⟩
  have h0' : (0 : Int) ≤ S := by omega
  by_cases h1 : most < (S : Int)
  · have HN := Lib.hid (show false = partB most S l by unfold partB; rw [show decide ((S : Int) ≤ most) = false from decide_eq_false (by omega)]; simp)
    have d0 : decide (most < (S : Int)) = true := decide_eq_true h1
    go_enter Tryd.func19, Tryd.ntmps19
    go_wp2
    go_ret
    exact ⟨rb HN.out, Ext.refl _⟩
  have h1' : (S : Int) ≤ most := by omega
  have d1 : decide (most < (S : Int)) = false := decide_eq_false h1
  have hS : (S : Int) ≤ 2000 := by omega
  by_cases h2 : (S : Int) % 4 = 0
  · have hb1 : ((S : Int) % 4 != 0) = false := by simp [h2]
    have hb2 : ((S : Int).tmod 4 != 0) = false := by rw [Int.tmod_eq_emod_of_nonneg h0']; exact hb1
    have HP := Lib.hid (show partB most S l = risB l S by unfold partB; simp [h1', h2])
    clear h2
    go_enter Tryd.func19, Tryd.ntmps19
    go_wp2
    go_loopg [7, 9, 24] n (fun m u v i wr => ∃ k : Nat, k + m = n ∧ i = .int .i64 k ∧ u = .int .i64 (leastL l k) ∧ (0 < k → prevL l k % 4 = 0 ∧ 0 ≤ prevL l k ∧ prevL l k < 2000) ∧ risB l S = risF S (prevL l k) (l.drop k) ∧ Ext w wr)
    case atStart => exact ⟨0, by omega, rfl, rfl, fun h => absurd h (by decide), rfl, Ext.refl _⟩
    case round =>
      obtain ⟨k, hk, rfl, rfl, hp, ht, hE⟩ := hrel
      by_cases hlt : k < n
      · obtain ⟨ad, rfl, hb, hcell⟩ := (H.out.ext hE).at_ hlt
        have ck := hcell k hlt
        have h5 : (k : Int) < n := by omega
        have h6 : (k : Int) + 1 ≤ 1000000 := by omega
        rw [ris_step l S k (by rw [H.out.1]; exact hlt)] at ht
        have a1 := least_prev l k (fun h => (hp h).1) (l.getD k 0)
        have a2 := prev_least l k (fun h => (hp h).2.1) (l.getD k 0)
        have a3 : -4 ≤ leastL l k ∧ leastL l k ≤ 2004 := by
          cases k with
          | zero => simp [leastL]
          | succ k => have := hp (by omega); simp only [prevL] at this; simp only [leastL]; omega
        have hpn : prevL l (k + 1) = l.getD k 0 := rfl
        have hln : leastL l (k + 1) = l.getD k 0 + 4 := rfl
        have HE := Lib.hid (And.intro hE (And.intro hk (And.intro hpn hln)))
        clear hE hcell hk hp hpn hln
        generalize l.getD k 0 = x at *
        generalize leastL l k = y at *
        by_cases c1 : x < y
        · have d2 : decide (x < y) = true := decide_eq_true c1
          have HN := Lib.hid (show false = partB most S l by
            rw [HP.out, ht]
            rcases Classical.em (x % 4 = 0) with q | q
            · have : ¬ (prevL l k < x ∧ 0 ≤ x) := fun h => by have := a1 q h; omega
              rcases Classical.em (0 ≤ x) with r | r
              · rw [show decide (prevL l k < x) = false from decide_eq_false (fun h => this ⟨h, r⟩)]; simp
              · rw [show decide (0 ≤ x) = false from decide_eq_false r]; simp
            · rw [show decide (x % 4 = 0) = false from decide_eq_false q]; simp)
          clear ht a1 a2
          go_wp2
          go_ret
          exact ⟨rb HN.out, HE.out.1⟩
        · have d2 : decide (x < y) = false := decide_eq_false c1
          obtain ⟨b1, b2⟩ := a2 (by omega)
          clear a1 a2
          by_cases c2 : (S : Int) ≤ x
          · have d3 : decide ((S : Int) ≤ x) = true := decide_eq_true c2
            have HN := Lib.hid (show false = partB most S l by rw [HP.out, ht, show decide (x < (S : Int)) = false from decide_eq_false (by omega)]; simp)
            clear ht b1
            go_wp2
            go_ret
            exact ⟨rb HN.out, HE.out.1⟩
          · have d3 : decide ((S : Int) ≤ x) = false := decide_eq_false c2
            obtain ⟨X, rfl⟩ : ∃ z : Nat, x = z := ⟨x.toNat, by omega⟩
            by_cases c3 : (X : Int) % 4 = 0
            · have e1 : ((X : Int) % 4 != 0) = false := by simp [c3]
              have e2 : ((X : Int).tmod 4 != 0) = false := by rw [Int.tmod_eq_emod_of_nonneg b2]; exact e1
              have HN := Lib.hid (show risB l S = risF S (prevL l (k + 1)) (l.drop (k + 1)) by rw [ht, show decide ((X : Int) < (S : Int)) = true from decide_eq_true (by omega), show decide (prevL l k < X) = true from decide_eq_true b1, show decide (0 ≤ (X : Int)) = true from decide_eq_true b2, c3]; rfl)
              have HC := Lib.hid c3
              clear ht b1 c3
              have hX : (X : Int) ≤ 2000 := by omega
              go_wp2
              go_roundg (gk - 1)
              case measure => have := HE.out.2.1; omega
              case rel => exact ⟨k + 1, by have := HE.out.2.1; omega, by go_num, by rw [HE.out.2.2.2], fun _ => by rw [HE.out.2.2.1]; exact ⟨HC.out, by omega, by omega⟩, HN.out, HE.out.1⟩
            · have e1 : ((X : Int) % 4 != 0) = true := by simpa using c3
              have e2 : ((X : Int).tmod 4 != 0) = true := by rw [Int.tmod_eq_emod_of_nonneg b2]; exact e1
              have HN := Lib.hid (show false = partB most S l by rw [HP.out, ht, show decide ((X : Int) % 4 = 0) = false from decide_eq_false c3]; simp)
              clear ht b1 c3
              go_wp2
              go_ret
              exact ⟨rb HN.out, HE.out.1⟩
      · obtain rfl : k = n := by omega
        have h5 : ¬ (k : Int) < k := by omega
        rw [ris_end l S k (by rw [H.out.1]; exact Nat.le_refl _)] at ht
        have HN := Lib.hid (show true = partB most S l by rw [HP.out, ht])
        have HE := Lib.hid hE
        clear hE ht hk hp
        go_wp2
        go_ret
        exact ⟨rb HN.out, HE.out⟩
  · have hb1 : ((S : Int) % 4 != 0) = true := by simpa using h2
    have hb2 : ((S : Int).tmod 4 != 0) = true := by rw [Int.tmod_eq_emod_of_nonneg h0']; exact hb1
    have HN := Lib.hid (show false = partB most S l by unfold partB; rw [show decide ((S : Int) % 4 = 0) = false from decide_eq_false h2]; simp)
    clear h2
    go_enter Tryd.func19, Tryd.ntmps19
    go_wp2
    go_ret
    exact ⟨rb HN.out, Ext.refl _⟩
set_option maxHeartbeats 4000000 in
set_option maxRecDepth 100000 in
theorem dright_is (A B : Option Addr) (n m c c' : Nat) (s t : Int) (l r : List Int) (hn : n ≤ 1000000) (hm : m ≤ 1000000) (w : World) (h : Il w A n l) (h' : Il w B m r) :
    Calls Tryd.prog 9 #[.agg #[.int .i64 s, .slice A n c, .int .i64 t, .slice B m c']] w fun e w' => e = .returned (.bool (rightB ⟨s, l, t, r⟩)) ∧ Ext w w' := by
  have E1 := ext1 w (.cells #[.int .i64 s, .slice A n c, .int .i64 t, .slice B m c'] 27)
  have R1 := Lib.hid (fun W (hW : Ext (w.alloc (.cells #[.int .i64 s, .slice A n c, .int .i64 t, .slice B m c'] 27)) W) => isPart_is A n c l 1024 s hn (by omega) W (h.ext (Ext.trans E1 hW)))
  have R2 := Lib.hid (fun W (hW : Ext (w.alloc (.cells #[.int .i64 s, .slice A n c, .int .i64 t, .slice B m c'] 27)) W) => isPart_is B m c' r 256 t hm (by omega) W (h'.ext (Ext.trans E1 hW)))
  have HE := Lib.hid E1
  have HR := Lib.hid (right_parts ⟨s, l, t, r⟩)
  clear h h' E1
  cases q1 : partB 1024 s l
  · rw [q1] at R1
    have HN := Lib.hid (show false = rightB ⟨s, l, t, r⟩ by rw [HR.out]; simp [q1])
    clear q1
    go_enter Tryd.func9, Tryd.ntmps9
    go_wp2_with (first | (go_at_call 19; with_reducible refine (R1.out _ (Ext.refl _)).mono ?_; rintro e w1 ⟨rfl, k1⟩; have p2 := (at_new k1).cell 2; have p3 := (at_new k1).cell 3; simp at p2 p3))
    go_ret
    exact ⟨rb HN.out, Ext.trans HE.out k1⟩
  · rw [q1] at R1
    cases q2 : partB 256 t r
    · rw [q2] at R2
      have HN := Lib.hid (show false = rightB ⟨s, l, t, r⟩ by rw [HR.out]; simp [q2])
      clear q1 q2
      go_enter Tryd.func9, Tryd.ntmps9
      go_wp2_with (first | (go_at_call 19; with_reducible refine (R1.out _ (Ext.refl _)).mono ?_; rintro e w1 ⟨rfl, k1⟩; have p2 := (at_new k1).cell 2; have p3 := (at_new k1).cell 3; simp at p2 p3) | (go_at_call 19; with_reducible refine (R2.out _ k1).mono ?_; rintro e w2 ⟨rfl, k2⟩))
      go_ret
      exact ⟨rb HN.out, Ext.trans HE.out (Ext.trans k1 k2)⟩
    · rw [q2] at R2
      have HN := Lib.hid (show true = rightB ⟨s, l, t, r⟩ by rw [HR.out]; simp [q1, q2])
      clear q1 q2
      go_enter Tryd.func9, Tryd.ntmps9
      go_wp2_with (first | (go_at_call 19; with_reducible refine (R1.out _ (Ext.refl _)).mono ?_; rintro e w1 ⟨rfl, k1⟩; have p2 := (at_new k1).cell 2; have p3 := (at_new k1).cell 3; simp at p2 p3) | (go_at_call 19; with_reducible refine (R2.out _ k1).mono ?_; rintro e w2 ⟨rfl, k2⟩))
      go_ret
      exact ⟨rb HN.out, Ext.trans HE.out (Ext.trans k1 k2)⟩
end
end Go.Proofs.YtopgbggighaknaaDoor
/- desc: what the package variables hold; what is wrong, and its number (made by gen_desc.py out of layer 4's). -/
namespace Go.Proofs.YtopgbggighaknaaDoor
open Go.RowKit Go
structure G (w : World) : Prop where
  sz : 8 ≤ w.heap.size
  d0 : ∃ te pe, w.cell? ⟨5, 0, none⟩ = some (.iface te pe)
  d2 : ∃ te pe, w.cell? ⟨7, 0, none⟩ = some (.iface te pe)
  ty : w.cell? ⟨4, 0, none⟩ = some (.iface 109 (.agg #[.pointer (some ⟨12, 45, none⟩)]))
theorem G.ext {w w' : World} (h : G w) (k : Ext w w') : G w' := by
  have hs := h.sz
  have e : ∀ b o, b < 8 → w'.cell? ⟨b, o, none⟩ = w.cell? ⟨b, o, none⟩ := fun b o hb => k.cell (p := ⟨b, o, none⟩) (by show b < w.heap.size; omega)
  have sz := k.size
  refine ⟨by omega, ?_, ?_, ?_⟩
  · obtain ⟨t, p, h⟩ := h.d0; exact ⟨t, p, by rw [e _ _ (by decide)]; exact h⟩
  · obtain ⟨t, p, h⟩ := h.d2; exact ⟨t, p, by rw [e _ _ (by decide)]; exact h⟩
  · rw [e _ _ (by decide)]; exact h.ty
/-- What is wrong, with its number. -/
def errW (k : Int) (te : TypeId) (pe : Value) : Value := .iface 94 (.agg #[.int .i64 k, .iface te pe])
/-- Nothing, or what is wrong. -/
def unlessV (b : Bool) (v : Value) : Value := if b then .nilIface else v
/-- An error's value, and its number. -/
def Code (v : Value) (k : Int) : Prop := (v = .nilIface ∧ k = 0) ∨ (k ≠ 0 ∧ ∃ te pe, v = errW k te pe)
def codeI (b : Bool) (k : Int) : Int := if b then 0 else k
theorem code_unless (b : Bool) (k : Int) (hk : k ≠ 0) (te : TypeId) (pe : Value) : Code (unlessV b (errW k te pe)) (codeI b k) := by
  cases b
  · exact .inr ⟨hk, te, pe, rfl⟩
  · exact .inl ⟨rfl, rfl⟩
theorem ri {a b : Int} (h : a = b) : Ending.returned (.int .i64 a) = .returned (.int .i64 b) := by rw [h]
def firstI : List Int → Int
  | [] => 0
  | x :: r => if x = 0 then firstI r else x
section
theorem unless_is (b : Bool) (k : Int) (te : TypeId) (pe : Value) (w : World) :
    Calls Tryd.prog 41 #[.bool b, .agg #[.int .i64 k, .iface te pe]] w fun e w' => e = .returned (unlessV b (errW k te pe)) ∧ Ext w w' := by
  cases b
  · go_enter Tryd.func41, Tryd.ntmps41
    go_wp2
    go_ret
    exact ⟨rfl, ext1 _ _⟩
  · go_enter Tryd.func41, Tryd.ntmps41
    go_wp2
    go_ret
    exact ⟨rfl, ext1 _ _⟩
set_option maxHeartbeats 4000000 in
theorem noDesc_is (A B : Option Addr) (n m c c' : Nat) (s t : Int) (l r : List Int) (hn : n ≤ 1000000) (hm : m ≤ 1000000) (w : World) (hG : G w) (h : Il w A n l) (h' : Il w B m r) :
    Calls Tryd.prog 32 #[.agg #[.int .i64 s, .slice A n c, .int .i64 t, .slice B m c']] w fun e w' => (∃ v, e = .returned v ∧ Code v (codeI (rightB ⟨s, l, t, r⟩) 40)) ∧ Ext w w' := by
  obtain ⟨te, pe, hc⟩ := hG.d0
  have hsz := hG.sz
  have hc1 : (w.alloc (.cells #[.int .i64 s, .slice A n c, .int .i64 t, .slice B m c'] 27)).cell? ⟨5, 0, none⟩ = some (.iface te pe) := ((ext1 w _).cell (p := ⟨5, 0, none⟩) (by show 5 < w.heap.size; omega)).trans hc
  have E1 := ext1 w (.cells #[.int .i64 s, .slice A n c, .int .i64 t, .slice B m c'] 27)
  have RR := Lib.hid (fun W (hW : Ext (w.alloc (.cells #[.int .i64 s, .slice A n c, .int .i64 t, .slice B m c'] 27)) W) => dright_is A B n m c c' s t l r hn hm W (h.ext (Ext.trans E1 hW)) (h'.ext (Ext.trans E1 hW)))
  have HE := Lib.hid E1
  have HC := Lib.hid (code_unless (rightB ⟨s, l, t, r⟩) 40 (by decide) te pe)
  clear h h' E1 hG hc
  generalize rightB ⟨s, l, t, r⟩ = b at *
  have hx := fun (o : From (w.alloc (.cells #[.int .i64 s, .slice A n c, .int .i64 t, .slice B m c'] 27))) p h => From.cell o p h
  go_enter Tryd.func32, Tryd.ntmps32
  go_wp2
  refine wp_region_on (by kernel_rfl) (by kernel_rfl) ?_
  repeat (go_big_quiet_step ((first | (go_at_call 9; exact on_call RR.out _) | (go_at_call 41; exact on_call (fun W _ => unless_is _ _ _ _ W) _))))
  refine wpQuiet_nil ?_
  intro W hW
  go_wp2
  go_ret
  exact ⟨⟨_, rfl, HC.out⟩, Ext.trans HE.out hW⟩
set_option maxHeartbeats 4000000 in
theorem told_any (ks : List Int) (b : Nat) (cap : Nat) (w : World) (hG : G w) (hm : ks.length ≤ 100) (hb : b < w.heap.size)
    (hc : ∀ i, i < ks.length → ∃ v, w.cell? ⟨b, i, none⟩ = some v ∧ Code v (ks.getD i 0)) :
    Calls Tryd.prog 31 #[.slice (some ⟨b, 0, none⟩) ks.length cap] w fun e w' => e = .returned (.int .i64 (firstI ks)) ∧ Ext w w' := by
  have H := Lib.hid (And.intro hG (And.intro hb hc))
  clear hG hc
  go_enter Tryd.func31, Tryd.ntmps31
  go_wp2
  go_loopg [4, 5, 8] ks.length (fun m u v i wr => ∃ k : Nat, k + m = ks.length ∧ i = .int .i64 k ∧ firstI ks = firstI (ks.drop k) ∧ Ext w wr)
  case atStart => exact ⟨0, by omega, rfl, rfl, Ext.refl _⟩
  case round =>
    obtain ⟨k, hk, rfl, hf, hE⟩ := hrel
    by_cases hlt : k < ks.length
    · have hd : ks.drop k = ks.getD k 0 :: ks.drop (k + 1) := by
        rw [List.drop_eq_getElem_cons hlt]; simp [List.getD, hlt]
      obtain ⟨v0, c0, hv⟩ := H.out.2.2 k hlt
      have c : wr.cell? ⟨b, k, none⟩ = some v0 := (extAt hE b k H.out.2.1).trans c0
      have gE := (H.out.1.ext hE)
      rw [hd] at hf
      generalize ks.getD k 0 = q at *
      have h5 : (k : Int) < ks.length := by omega
      clear hd c0
      rcases hv with ⟨rfl, rfl⟩ | ⟨hq, te, pe, rfl⟩
      · have HF := Lib.hid (show firstI ks = firstI (ks.drop (k + 1)) from hf)
        have HE := Lib.hid hE
        clear hf hE gE
        go_wp2_with (go_at_call 28; ((with_reducible refine (as_nil _ _).mono ?_); rintro e w1 ⟨rfl, rfl⟩))
        go_roundg (gk - 1)
        case measure => omega
        case rel => exact ⟨k + 1, by omega, by go_num, HF.out, Ext.trans HE.out (ext1 _ _)⟩
      · have HF := Lib.hid (show firstI ks = q by rw [hf]; simp [firstI, hq])
        have gt := (gE.ext (ext1 wr (.cells #[.int .i64 0, .nilIface] 94))).ty
        have C := Lib.hid (as_hit2 q te pe wr.heap.size _ _ _ _ gt (Blk.new wr #[.int .i64 0, .nilIface] 94))
        have HE := Lib.hid hE
        clear hf hE gE gt hq
        unfold errW at *
        go_wp2_with (go_at_call 28; ((with_reducible refine C.out.mono ?_); rintro e w1 ⟨rfl, h1, h2⟩; have p0 := h1.cell 0; have H2 := Lib.hid h2; clear h2))
        go_ret
        exact ⟨ri HF.out.symm, Ext.trans HE.out (Below.trans (ext1 _ _) H2.out)⟩
    · have hd : ks.drop k = [] := List.drop_eq_nil_of_le (by omega)
      have hz : firstI ks = 0 := by rw [hf, hd]; rfl
      have hZ := Lib.hid hz
      have HE := Lib.hid hE
      have h5 : ¬ (k : Int) < ks.length := by omega
      clear hz hd hf hE
      go_wp2
      go_ret
      exact ⟨ri hZ.out.symm, HE.out⟩
end
end Go.Proofs.YtopgbggighaknaaDoor
/- desc: errors and their numbers (cut by gen_desc.py). -/
namespace Go.Proofs.YtopgbggighaknaaDoor
open Go.RowKit Go
theorem code_nil {v : Value} {k : Int} (h : Code v k) (h0 : k = 0) : v = .nilIface := by
  rcases h with ⟨rfl, _⟩ | ⟨h, _⟩
  · rfl
  · exact absurd h0 h
theorem code_err {v : Value} {k : Int} (h : Code v k) (h0 : k ≠ 0) : ∃ te pe, v = .iface 94 (.agg #[.int .i64 k, .iface te pe]) := by
  rcases h with ⟨_, h⟩ | ⟨_, te, pe, rfl⟩
  · exact absurd h h0
  · exact ⟨te, pe, rfl⟩
end Go.Proofs.YtopgbggighaknaaDoor
/- cells of a block of four (cut by gen_desc.py). -/
namespace Go.Proofs.YtopgbggighaknaaDoor
open Go.RowKit Go
theorem cells4 {w : World} {R : Nat} {x0 x1 x2 x3 : Value} {t : TypeId} (hB : Blk w R #[x0, x1, x2, x3] t) :
    (w.cell? ⟨R, 0, none⟩ = some x0 ∧ w.cell? ⟨R, 1, none⟩ = some x1 ∧ w.cell? ⟨R, 2, none⟩ = some x2 ∧ w.cell? ⟨R, 3, none⟩ = some x3) ∧
    (w.frozen? ⟨R, 0, none⟩ = false ∧ w.frozen? ⟨R, 1, none⟩ = false ∧ w.frozen? ⟨R, 2, none⟩ = false ∧ w.frozen? ⟨R, 3, none⟩ = false) :=
  ⟨⟨by rw [hB.cell]; rfl, by rw [hB.cell]; rfl, by rw [hB.cell]; rfl, by rw [hB.cell]; rfl⟩, hB.frozen 0, hB.frozen 1, hB.frozen 2, hB.frozen 3⟩
end Go.Proofs.YtopgbggighaknaaDoor
