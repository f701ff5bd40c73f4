/- bits: Fill. Made of Set's text. -/
import Derived.Test.YtichgkeglgagfaaDoorSet2
namespace Go.Proofs.YtichgkeglgagfaaDoor
open Go.RowKit Go
section
variable {a : Nat → Addr}
set_option maxHeartbeats 2000000 in
theorem fill_no (N : Int) (A : Option Addr) (n c : Nat) (ws : List Nat) (f t : Int) (on : Bool) (k : Int) (hk : (rightB N ws = false ∧ k = 20) ∨ (rightB N ws = true ∧ rngB N f t = false ∧ k = 21)) (w : World) (h : Bt w A n ws) (hG : G a w) :
    Calls Tryd.prog 28 #[.agg #[.int .i64 N, .slice A n c], .int .i64 f, .int .i64 t, .bool on] w (NoR w k) := by
  have E0 := ext2 w (.cells #[.int .i64 N, .slice A n c] 24) (.cells #[.int .i64 0, .slice none 0 0] 24)
  obtain ⟨k1, k2, hk1, hk2, hks, hk0, hl1, hl2⟩ : ∃ k1 k2, codeB (rightB N ws) 2 = k1 ∧ codeB (rngB N f t) 3 = k2 ∧ num (firstK [k1, k2]) = k ∧ (k != 0) = true ∧ k1 ≤ 3 ∧ k2 ≤ 3 := by
    rcases hk with ⟨h1, rfl⟩ | ⟨h1, h2, rfl⟩
    · exact ⟨2, codeB (rngB N f t) 3, by rw [h1]; rfl, rfl, rfl, rfl, by decide, codeB_le _ _ (by decide)⟩
    · exact ⟨0, 3, by rw [h1]; rfl, by rw [h2]; rfl, rfl, rfl, by decide, by decide⟩
  have NB := Lib.hid (fun W (hW : Ext ((w.alloc (.cells #[.int .i64 N, .slice A n c] 24)).alloc (.cells #[.int .i64 0, .slice none 0 0] 24)) W) => asErr (errV a k1) (by rw [hk1]) (noBits_any (a := a) N A n c ws W (h.ext (Ext.trans E0 hW)) (hG.ext (Ext.trans E0 hW))))
  have NP := Lib.hid (fun W (hW : Ext ((w.alloc (.cells #[.int .i64 N, .slice A n c] 24)).alloc (.cells #[.int .i64 0, .slice none 0 0] 24)) W) => asErr (errV a k2) (by rw [hk2]) (noPlaces_any (a := a) N f t A n c W (hG.ext (Ext.trans E0 hW))))
  have TD := Lib.hid (fun b u W (hW : Ext ((w.alloc (.cells #[.int .i64 N, .slice A n c] 24)).alloc (.cells #[.int .i64 0, .slice none 0 0] 24)) W) (hB : Blk W b #[errV a k1, errV a k2] u) => (told2 (a := a) k1 k2 k hks hl1 hl2 b u W (hG.ext (Ext.trans E0 hW)) hB).mono fun e w' ⟨he, hw⟩ => (⟨he, hw ▸ hW⟩ : _ ∧ Ext ((w.alloc (.cells #[.int .i64 N, .slice A n c] 24)).alloc (.cells #[.int .i64 0, .slice none 0 0] 24)) w'))
  have m1 := errV_cells a k1
  have m2 := errV_cells a k2
  unfold Value.cells at m1 m2
  clear hG h hk hks hk1 hk2
  go_enter Tryd.func28, Tryd.ntmps28
  go_wp2
  refine wp_region_tail 9 6 rfl (by kernel_rfl) (by kernel_rfl) (by kernel_rfl) ?_
  apply Exists.intro
  refine ⟨fun c => ?_, fun W hW => ?_⟩
  · have hx := fun (o : From c.w) p h => From.cell2 c.h o p h
    simp only [List.take_succ_cons, List.take_zero]
    repeat (go_big_quiet_step ((first | (go_at_call 45; exact on_call (fun W hW => NB.out W (Ext.trans c.h hW)) _) | (go_at_call 49; exact on_call (fun W hW => NP.out W (Ext.trans c.h hW)) _))))
    exact wpQuiet_nil rfl
  · simp only [List.drop_succ_cons, List.drop_zero]
    have HW := Lib.hid hW
    clear hW
    go_wp2_with (go_at_call 34; refine (TD.out _ _ _ (Ext.trans HW.out (ext1 _ _)) (Blk.new _ _ _)).mono ?_; rintro e w2 ⟨rfl, h2⟩; have r0 := (at_new2 h2).cell 0; have r1 := (at_new2 h2).cell 1; have q0 := (at_new2 h2).frozen 0; have q1 := (at_new2 h2).frozen 1; simp at r0 r1)
    obtain ⟨s0, s1, hE⟩ := res_store (u := .int .i64 0) (v := .slice none 0 0) (at_new2 h2) (Ext.trans E0 h2) (by omega)
    exact bodyPost_ret (v := .tuple #[.agg #[.int .i64 0, .slice none 0 0], .int .i64 k]) (by simp [results, Tryd.results28, go_sem, s0, s1]) rfl ⟨rfl, hE⟩

set_option maxHeartbeats 4000000 in
theorem fill_ok (N : Int) (A : Option Addr) (n c : Nat) (ws : List Nat) (f t : Int) (on : Bool) (hr : rightB N ws = true) (hp : rngB N f t = true) (w : World) (h : Bt w A n ws) (hG : G a w) :
    Calls Tryd.prog 28 #[.agg #[.int .i64 N, .slice A n c], .int .i64 f, .int .i64 t, .bool on] w (BitsR w N (turnW f t on ws)) := by
  have E0 := ext2 w (.cells #[.int .i64 N, .slice A n c] 24) (.cells #[.int .i64 0, .slice none 0 0] 24)
  have NB := Lib.hid (fun W (hW : Ext ((w.alloc (.cells #[.int .i64 N, .slice A n c] 24)).alloc (.cells #[.int .i64 0, .slice none 0 0] 24)) W) => asErr .nilIface (by rw [hr]; rfl) (noBits_any (a := a) N A n c ws W (h.ext (Ext.trans E0 hW)) (hG.ext (Ext.trans E0 hW))))
  have NP := Lib.hid (fun W (hW : Ext ((w.alloc (.cells #[.int .i64 N, .slice A n c] 24)).alloc (.cells #[.int .i64 0, .slice none 0 0] 24)) W) => asErr .nilIface (by rw [hp]; rfl) (noPlaces_any (a := a) N f t A n c W (hG.ext (Ext.trans E0 hW))))
  have TD := Lib.hid (fun b u W (hW : Ext ((w.alloc (.cells #[.int .i64 N, .slice A n c] 24)).alloc (.cells #[.int .i64 0, .slice none 0 0] 24)) W) (hB : Blk W b #[errV a 0, errV a 0] u) => (told2 (a := a) 0 0 0 rfl (by decide) (by decide) b u W (hG.ext (Ext.trans E0 hW)) hB).mono fun e w' ⟨he, hw⟩ => (⟨he, hw ▸ hW⟩ : _ ∧ Ext ((w.alloc (.cells #[.int .i64 N, .slice A n c] 24)).alloc (.cells #[.int .i64 0, .slice none 0 0] 24)) w'))
  have hr' := (right_iff N ws).1 hr
  have hp' := hp
  simp only [rngB, Bool.and_eq_true, decide_eq_true_eq] at hp'
  have n1 := hr'.n1
  have hl := h.len
  have i0 := hp'.1.1
  have i1 := hp'.1.2
  have i2 := hp'.2
  have HH := Lib.hid (And.intro h (And.intro hr' hl))
  clear hG h hr hp hr' hp' hl
  go_enter Tryd.func28, Tryd.ntmps28
  go_wp2
  refine wp_region_tail 9 6 rfl (by kernel_rfl) (by kernel_rfl) (by kernel_rfl) ?_
  apply Exists.intro
  refine ⟨fun c => ?_, fun W hW => ?_⟩
  · have hx := fun (o : From c.w) p h => From.cell2 c.h o p h
    simp only [List.take_succ_cons, List.take_zero]
    repeat (go_big_quiet_step ((first | (go_at_call 45; exact on_call (fun W hW => NB.out W (Ext.trans c.h hW)) _) | (go_at_call 49; exact on_call (fun W hW => NP.out W (Ext.trans c.h hW)) _))))
    exact wpQuiet_nil rfl
  · simp only [List.drop_succ_cons, List.drop_zero]
    have HW := Lib.hid hW
    clear hW
    go_wp2_with (go_at_call 34; refine (TD.out _ _ _ (Ext.trans HW.out (ext1 _ _)) (Blk.new _ _ _)).mono ?_; rintro e w2 ⟨rfl, h2⟩)
    have p0 := (at_old h2).cell 0
    have p1 := (at_old h2).cell 1
    simp at p0 p1
    have H2 := Lib.hid h2
    clear h2
    refine wp_region_XT 12 10 rfl (by kernel_rfl) (by kernel_rfl) ?_
    intro HD
    refine wpH_segL HD 0 3 7 rfl rfl (by kernel_rfl) ?_
    apply Exists.intro
    refine ⟨fun c => ?_, ?_⟩
    · have hx := fun (o : From c.w) p h => From.cell2 c.h o p h
      simp only [List.drop_zero, List.take_succ_cons, List.take_zero]
      repeat (go_big_quiet_step (fail))
      exact wpQuiet_nil rfl
    refine wpH_segL HD 4 3 4 rfl rfl (by kernel_rfl) ?_
    apply Exists.intro
    refine ⟨fun c => ?_, ?_⟩
    · have hx := fun (o : From c.w) p h => From.cell2 c.h o p h
      simp only [List.drop_succ_cons, List.drop_zero, List.take_succ_cons, List.take_zero]
      repeat (go_big_quiet_step (fail))
      exact wpQuiet_nil rfl
    refine wpH_stepL 3 3 rfl rfl rfl (by kernel_rfl) ?_
    intro W3 hW3 K hK
    go_simp
    refine (copied_any N A n c W3).mono ?_
    rintro e W4 ⟨rfl, rfl⟩
    refine hK.out _ _ (ext1 _ _) ?_
    clear hK K
    have C1 := Lib.hid (copied_change N A n c ws W3 (HH.out.1.ext (Ext.trans E0 (Ext.trans H2.out hW3))))
    refine wpH_stepL 7 2 rfl rfl rfl (by kernel_rfl) ?_
    intro W5 hW5 K hK
    go_simp
    refine (turned_any f t on W5).mono ?_
    rintro e W6 ⟨rfl, rfl⟩
    refine hK.out _ _ (ext3 _ _ _ _) ?_
    clear hK K
    have C2 := Lib.hid (turned_change f t on (by omega) (by omega) n HH.out.1.le W5)
    refine wpH_stepL 8 1 rfl rfl rfl (by kernel_rfl) ?_
    intro W7 hW7 K hK
    go_simp
    refine hK.out _ _ (ext1 _ _) ?_
    clear hK K
    refine wpH_stepL 9 0 rfl rfl rfl (by kernel_rfl) ?_
    intro W9 hW9 K hK
    go_simp
    have X57 := Ext.trans (ext3 _ _ _ _) (Ext.trans hW7 (Ext.trans (ext1 _ _) hW9))
    have X39 := Ext.trans hW5 X57
    have X09 := Ext.trans H2.out (Ext.trans hW3 (Ext.trans (ext1 _ _) X39))
    refine (made2_any N (by omega) n1 n (by have := HH.out.2.1.len; have := HH.out.2.2; omega) W9 _ _ (fun _ => ws) (turnW f t on) W7.heap.size 2 _ (at_new hW9) (C1.out.ext X39) (C2.out.ext (Ext.trans hW7 (Ext.trans (ext1 _ _) hW9))) (fun _ _ _ => ⟨HH.out.2.2, HH.out.1.lt⟩)).mono ?_
    rintro e W10 ⟨B, rfl, hB, hBB, hE10⟩
    refine hK.out _ _ hE10 ?_
    clear hK K
    refine wpH_end (fun W11 hW11 => ⟨by kernel_rfl, ?_⟩)
    have h11 := Ext.trans X09 (Ext.trans hE10 hW11)
    have hBl := hBB.ext hW11
    have hne : w.heap.size + 1 < B := by have := X09.size; simp at this; omega
    have r0 := (at_new2 h11).cell 0
    have r1 := (at_new2 h11).cell 1
    have q0 := (at_new2 h11).frozen 0
    have q1 := (at_new2 h11).frozen 1
    simp at r0 r1
    have FX := Lib.hid (And.intro h11 (And.intro hBl hne))
    clear h11 hBl hne hBB hB hE10 hW11 X09 X39 X57 hW9 hW7 hW5 hW3 p0 p1
    simp only [List.drop_succ_cons, List.drop_zero]
    go_wp2
    obtain ⟨h11, hBl, hne⟩ := FX.out
    obtain ⟨s0, s1, hE⟩ := res_store (u := .int .i64 N) (v := .slice (some ⟨B, 0, none⟩) n n) (at_new2 h11) (Ext.trans E0 h11) (by omega)
    refine bodyPost_ret (v := .tuple #[.agg #[.int .i64 N, .slice (some ⟨B, 0, none⟩) n n], .int .i64 0]) (by simp [results, Tryd.results28, go_sem, s0, s1]) rfl ⟨_, n, n, rfl, ?_, hE⟩
    have := Bt.blk ((hBl.other ⟨w.heap.size + 1, 0, none⟩ (.int .i64 N) (by show B ≠ w.heap.size + 1; omega)).other ⟨w.heap.size + 1, 1, none⟩ (.slice (some ⟨B, 0, none⟩) n n) (by show B ≠ w.heap.size + 1; omega)) (by rw [turn_len, HH.out.2.2]; exact HH.out.1.le) (turn_W32 _ _ _ HH.out.1.lt)
    rwa [turn_len, HH.out.2.2] at this
end
end Go.Proofs.YtichgkeglgagfaaDoor
