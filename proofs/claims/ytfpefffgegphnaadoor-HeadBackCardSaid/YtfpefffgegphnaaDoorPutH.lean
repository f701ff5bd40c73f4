/- head: Put (made by gen_put.py). -/
import Derived.Test.YtfpefffgegphnaaDoorDecH
namespace Go.Proofs.YtfpefffgegphnaaDoor
open Go.RowKit Go
namespace H
open HD
section
variable {a b : Nat → Addr}
theorem tmod8 (x : Int) : (x.tmod 8 == 0) = decide (x % 8 = 0) := by
  rw [Bool.eq_iff_iff]; simp only [beq_iff_eq, decide_eq_true_eq]
  exact ⟨fun h => Int.emod_eq_zero_of_dvd (Int.dvd_of_tmod_eq_zero h), fun h => Int.tmod_eq_zero_of_dvd (Int.dvd_of_emod_eq_zero h)⟩
theorem noGranule_ok (x : Int) (h : x % 8 = 0) (w : World) (hG : G a b w) : Calls Tryd.prog 39 #[.int .i64 x] w fun e w' => e = .returned .nilIface ∧ Ext w w' := by
  have := noGranule_is x w hG
  rw [tmod8, decide_eq_true h] at this
  exact this
theorem noGranule_no (x : Int) (h : ¬ x % 8 = 0) (w : World) (hG : G a b w) : Calls Tryd.prog 39 #[.int .i64 x] w fun e w' => e = .returned (eA b) ∧ Ext w w' := by
  have := noGranule_is x w hG
  rw [tmod8, decide_eq_false h] at this
  exact this
theorem noArena_nil' (w : World) (hG : G a b w) : Calls Tryd.prog 38 #[.pointer none] w fun e w' => e = .returned (eN b) ∧ Ext w w' := noArena_nil w hG
theorem noArena_ok' (p g : Nat) (L : List UInt8) (w : World) (hG : G a b w) (h : Ar w p g L) : Calls Tryd.prog 38 #[ptr p] w fun e w' => e = .returned .nilIface ∧ Ext w w' := noArena_ok p g L w hG h
set_option maxHeartbeats 1000000 in
theorem put_100 (v : Value) (m : MkR) (x : Int) (w : World) (hG : G a b w)
    (NA : ∀ W, Ext w W → Calls Tryd.prog 38 #[v] W fun e w' => e = .returned (eN b) ∧ Ext W w')
    (NH : ∀ W, Ext w W → Calls Tryd.prog 31 #[mkV m] W fun e w' => e = .returned (.nilIface) ∧ Ext W w')
    (NG : ∀ W, Ext w W → Calls Tryd.prog 39 #[.int .i64 x] W fun e w' => e = .returned (.nilIface) ∧ Ext W w') :
    Calls Tryd.prog 22 #[v, .int .i64 x, mkV m] w fun e w' => e = .returned (.int .i64 1) ∧ Ext w w' := by
  have T := Lib.hid (fun bb t W (hW : Ext w W) (hB : Blk W bb #[eN b, .nilIface, .nilIface] t) => tell3 (a := b) 1 0 0 (by decide) (by decide) (by decide) 1 rfl bb t W (hG.ext hW).e hB)
  have E1 := ext1 w (.cells (mkC m) 23)
  have b1 := Blk.new w (mkC m) 23
  have NA := Lib.hid NA
  have NH := Lib.hid NH
  have NG := Lib.hid NG
  have HE := Lib.hid E1
  obtain ⟨p0, p1, p2, p3⟩ := cells_mk b1
  clear hG E1 b1
  go_enter Tryd.func22, Tryd.ntmps22
  go_wp2
  refine wp_region_tail 9 6 rfl (by kernel_rfl) (by kernel_rfl) (by kernel_rfl) ?_
  apply Exists.intro
  refine ⟨fun cc => ?_, fun W hW => ?_⟩
  · have hx := fun (o : From cc.w) p h => From.cell2 cc.h o p h
    simp only [List.take_succ_cons, List.take_zero]
    repeat (go_big_quiet_step ((first | (go_at_call 38; exact on_call (fun W hW => NA.out W (Ext.trans HE.out (Ext.trans cc.h hW))) _) | (go_at_call 31; exact on_call (fun W hW => NH.out W (Ext.trans HE.out (Ext.trans cc.h hW))) _) | (go_at_call 39; exact on_call (fun W hW => NG.out W (Ext.trans HE.out (Ext.trans cc.h hW))) _))))
    exact wpQuiet_nil rfl
  · simp only [List.drop_succ_cons, List.drop_zero]
    have H3 := Lib.hid (Ext.trans HE.out hW)
    clear hW p0 p1 p2 p3
    go_wp2_with (first | (go_at_call 30; refine (T.out _ _ _ (Ext.trans H3.out (ext1 _ _)) (Blk.new _ _ _)).mono ?_; rintro e w3 ⟨rfl, rfl⟩))
    go_ret
    exact ⟨rfl, Ext.trans H3.out (ext1 _ _)⟩
set_option maxHeartbeats 1000000 in
theorem put_103 (v : Value) (m : MkR) (x : Int) (w : World) (hG : G a b w)
    (NA : ∀ W, Ext w W → Calls Tryd.prog 38 #[v] W fun e w' => e = .returned (eN b) ∧ Ext W w')
    (NH : ∀ W, Ext w W → Calls Tryd.prog 31 #[mkV m] W fun e w' => e = .returned (.nilIface) ∧ Ext W w')
    (NG : ∀ W, Ext w W → Calls Tryd.prog 39 #[.int .i64 x] W fun e w' => e = .returned (eA b) ∧ Ext W w') :
    Calls Tryd.prog 22 #[v, .int .i64 x, mkV m] w fun e w' => e = .returned (.int .i64 1) ∧ Ext w w' := by
  have T := Lib.hid (fun bb t W (hW : Ext w W) (hB : Blk W bb #[eN b, .nilIface, eA b] t) => tell3 (a := b) 1 0 3 (by decide) (by decide) (by decide) 1 rfl bb t W (hG.ext hW).e hB)
  have E1 := ext1 w (.cells (mkC m) 23)
  have b1 := Blk.new w (mkC m) 23
  have NA := Lib.hid NA
  have NH := Lib.hid NH
  have NG := Lib.hid NG
  have HE := Lib.hid E1
  obtain ⟨p0, p1, p2, p3⟩ := cells_mk b1
  clear hG E1 b1
  go_enter Tryd.func22, Tryd.ntmps22
  go_wp2
  refine wp_region_tail 9 6 rfl (by kernel_rfl) (by kernel_rfl) (by kernel_rfl) ?_
  apply Exists.intro
  refine ⟨fun cc => ?_, fun W hW => ?_⟩
  · have hx := fun (o : From cc.w) p h => From.cell2 cc.h o p h
    simp only [List.take_succ_cons, List.take_zero]
    repeat (go_big_quiet_step ((first | (go_at_call 38; exact on_call (fun W hW => NA.out W (Ext.trans HE.out (Ext.trans cc.h hW))) _) | (go_at_call 31; exact on_call (fun W hW => NH.out W (Ext.trans HE.out (Ext.trans cc.h hW))) _) | (go_at_call 39; exact on_call (fun W hW => NG.out W (Ext.trans HE.out (Ext.trans cc.h hW))) _))))
    exact wpQuiet_nil rfl
  · simp only [List.drop_succ_cons, List.drop_zero]
    have H3 := Lib.hid (Ext.trans HE.out hW)
    clear hW p0 p1 p2 p3
    go_wp2_with (first | (go_at_call 30; refine (T.out _ _ _ (Ext.trans H3.out (ext1 _ _)) (Blk.new _ _ _)).mono ?_; rintro e w3 ⟨rfl, rfl⟩))
    go_ret
    exact ⟨rfl, Ext.trans H3.out (ext1 _ _)⟩
set_option maxHeartbeats 1000000 in
theorem put_120 (v : Value) (m : MkR) (x : Int) (w : World) (hG : G a b w)
    (NA : ∀ W, Ext w W → Calls Tryd.prog 38 #[v] W fun e w' => e = .returned (eN b) ∧ Ext W w')
    (NH : ∀ W, Ext w W → Calls Tryd.prog 31 #[mkV m] W fun e w' => e = .returned (eH b) ∧ Ext W w')
    (NG : ∀ W, Ext w W → Calls Tryd.prog 39 #[.int .i64 x] W fun e w' => e = .returned (.nilIface) ∧ Ext W w') :
    Calls Tryd.prog 22 #[v, .int .i64 x, mkV m] w fun e w' => e = .returned (.int .i64 1) ∧ Ext w w' := by
  have T := Lib.hid (fun bb t W (hW : Ext w W) (hB : Blk W bb #[eN b, eH b, .nilIface] t) => tell3 (a := b) 1 2 0 (by decide) (by decide) (by decide) 1 rfl bb t W (hG.ext hW).e hB)
  have E1 := ext1 w (.cells (mkC m) 23)
  have b1 := Blk.new w (mkC m) 23
  have NA := Lib.hid NA
  have NH := Lib.hid NH
  have NG := Lib.hid NG
  have HE := Lib.hid E1
  obtain ⟨p0, p1, p2, p3⟩ := cells_mk b1
  clear hG E1 b1
  go_enter Tryd.func22, Tryd.ntmps22
  go_wp2
  refine wp_region_tail 9 6 rfl (by kernel_rfl) (by kernel_rfl) (by kernel_rfl) ?_
  apply Exists.intro
  refine ⟨fun cc => ?_, fun W hW => ?_⟩
  · have hx := fun (o : From cc.w) p h => From.cell2 cc.h o p h
    simp only [List.take_succ_cons, List.take_zero]
    repeat (go_big_quiet_step ((first | (go_at_call 38; exact on_call (fun W hW => NA.out W (Ext.trans HE.out (Ext.trans cc.h hW))) _) | (go_at_call 31; exact on_call (fun W hW => NH.out W (Ext.trans HE.out (Ext.trans cc.h hW))) _) | (go_at_call 39; exact on_call (fun W hW => NG.out W (Ext.trans HE.out (Ext.trans cc.h hW))) _))))
    exact wpQuiet_nil rfl
  · simp only [List.drop_succ_cons, List.drop_zero]
    have H3 := Lib.hid (Ext.trans HE.out hW)
    clear hW p0 p1 p2 p3
    go_wp2_with (first | (go_at_call 30; refine (T.out _ _ _ (Ext.trans H3.out (ext1 _ _)) (Blk.new _ _ _)).mono ?_; rintro e w3 ⟨rfl, rfl⟩))
    go_ret
    exact ⟨rfl, Ext.trans H3.out (ext1 _ _)⟩
set_option maxHeartbeats 1000000 in
theorem put_123 (v : Value) (m : MkR) (x : Int) (w : World) (hG : G a b w)
    (NA : ∀ W, Ext w W → Calls Tryd.prog 38 #[v] W fun e w' => e = .returned (eN b) ∧ Ext W w')
    (NH : ∀ W, Ext w W → Calls Tryd.prog 31 #[mkV m] W fun e w' => e = .returned (eH b) ∧ Ext W w')
    (NG : ∀ W, Ext w W → Calls Tryd.prog 39 #[.int .i64 x] W fun e w' => e = .returned (eA b) ∧ Ext W w') :
    Calls Tryd.prog 22 #[v, .int .i64 x, mkV m] w fun e w' => e = .returned (.int .i64 1) ∧ Ext w w' := by
  have T := Lib.hid (fun bb t W (hW : Ext w W) (hB : Blk W bb #[eN b, eH b, eA b] t) => tell3 (a := b) 1 2 3 (by decide) (by decide) (by decide) 1 rfl bb t W (hG.ext hW).e hB)
  have E1 := ext1 w (.cells (mkC m) 23)
  have b1 := Blk.new w (mkC m) 23
  have NA := Lib.hid NA
  have NH := Lib.hid NH
  have NG := Lib.hid NG
  have HE := Lib.hid E1
  obtain ⟨p0, p1, p2, p3⟩ := cells_mk b1
  clear hG E1 b1
  go_enter Tryd.func22, Tryd.ntmps22
  go_wp2
  refine wp_region_tail 9 6 rfl (by kernel_rfl) (by kernel_rfl) (by kernel_rfl) ?_
  apply Exists.intro
  refine ⟨fun cc => ?_, fun W hW => ?_⟩
  · have hx := fun (o : From cc.w) p h => From.cell2 cc.h o p h
    simp only [List.take_succ_cons, List.take_zero]
    repeat (go_big_quiet_step ((first | (go_at_call 38; exact on_call (fun W hW => NA.out W (Ext.trans HE.out (Ext.trans cc.h hW))) _) | (go_at_call 31; exact on_call (fun W hW => NH.out W (Ext.trans HE.out (Ext.trans cc.h hW))) _) | (go_at_call 39; exact on_call (fun W hW => NG.out W (Ext.trans HE.out (Ext.trans cc.h hW))) _))))
    exact wpQuiet_nil rfl
  · simp only [List.drop_succ_cons, List.drop_zero]
    have H3 := Lib.hid (Ext.trans HE.out hW)
    clear hW p0 p1 p2 p3
    go_wp2_with (first | (go_at_call 30; refine (T.out _ _ _ (Ext.trans H3.out (ext1 _ _)) (Blk.new _ _ _)).mono ?_; rintro e w3 ⟨rfl, rfl⟩))
    go_ret
    exact ⟨rfl, Ext.trans H3.out (ext1 _ _)⟩
set_option maxHeartbeats 1000000 in
theorem put_020 (v : Value) (m : MkR) (x : Int) (w : World) (hG : G a b w)
    (NA : ∀ W, Ext w W → Calls Tryd.prog 38 #[v] W fun e w' => e = .returned (.nilIface) ∧ Ext W w')
    (NH : ∀ W, Ext w W → Calls Tryd.prog 31 #[mkV m] W fun e w' => e = .returned (eH b) ∧ Ext W w')
    (NG : ∀ W, Ext w W → Calls Tryd.prog 39 #[.int .i64 x] W fun e w' => e = .returned (.nilIface) ∧ Ext W w') :
    Calls Tryd.prog 22 #[v, .int .i64 x, mkV m] w fun e w' => e = .returned (.int .i64 60) ∧ Ext w w' := by
  have T := Lib.hid (fun bb t W (hW : Ext w W) (hB : Blk W bb #[.nilIface, eH b, .nilIface] t) => tell3 (a := b) 0 2 0 (by decide) (by decide) (by decide) 60 rfl bb t W (hG.ext hW).e hB)
  have E1 := ext1 w (.cells (mkC m) 23)
  have b1 := Blk.new w (mkC m) 23
  have NA := Lib.hid NA
  have NH := Lib.hid NH
  have NG := Lib.hid NG
  have HE := Lib.hid E1
  obtain ⟨p0, p1, p2, p3⟩ := cells_mk b1
  clear hG E1 b1
  go_enter Tryd.func22, Tryd.ntmps22
  go_wp2
  refine wp_region_tail 9 6 rfl (by kernel_rfl) (by kernel_rfl) (by kernel_rfl) ?_
  apply Exists.intro
  refine ⟨fun cc => ?_, fun W hW => ?_⟩
  · have hx := fun (o : From cc.w) p h => From.cell2 cc.h o p h
    simp only [List.take_succ_cons, List.take_zero]
    repeat (go_big_quiet_step ((first | (go_at_call 38; exact on_call (fun W hW => NA.out W (Ext.trans HE.out (Ext.trans cc.h hW))) _) | (go_at_call 31; exact on_call (fun W hW => NH.out W (Ext.trans HE.out (Ext.trans cc.h hW))) _) | (go_at_call 39; exact on_call (fun W hW => NG.out W (Ext.trans HE.out (Ext.trans cc.h hW))) _))))
    exact wpQuiet_nil rfl
  · simp only [List.drop_succ_cons, List.drop_zero]
    have H3 := Lib.hid (Ext.trans HE.out hW)
    clear hW p0 p1 p2 p3
    go_wp2_with (first | (go_at_call 30; refine (T.out _ _ _ (Ext.trans H3.out (ext1 _ _)) (Blk.new _ _ _)).mono ?_; rintro e w3 ⟨rfl, rfl⟩))
    go_ret
    exact ⟨rfl, Ext.trans H3.out (ext1 _ _)⟩
set_option maxHeartbeats 1000000 in
theorem put_023 (v : Value) (m : MkR) (x : Int) (w : World) (hG : G a b w)
    (NA : ∀ W, Ext w W → Calls Tryd.prog 38 #[v] W fun e w' => e = .returned (.nilIface) ∧ Ext W w')
    (NH : ∀ W, Ext w W → Calls Tryd.prog 31 #[mkV m] W fun e w' => e = .returned (eH b) ∧ Ext W w')
    (NG : ∀ W, Ext w W → Calls Tryd.prog 39 #[.int .i64 x] W fun e w' => e = .returned (eA b) ∧ Ext W w') :
    Calls Tryd.prog 22 #[v, .int .i64 x, mkV m] w fun e w' => e = .returned (.int .i64 60) ∧ Ext w w' := by
  have T := Lib.hid (fun bb t W (hW : Ext w W) (hB : Blk W bb #[.nilIface, eH b, eA b] t) => tell3 (a := b) 0 2 3 (by decide) (by decide) (by decide) 60 rfl bb t W (hG.ext hW).e hB)
  have E1 := ext1 w (.cells (mkC m) 23)
  have b1 := Blk.new w (mkC m) 23
  have NA := Lib.hid NA
  have NH := Lib.hid NH
  have NG := Lib.hid NG
  have HE := Lib.hid E1
  obtain ⟨p0, p1, p2, p3⟩ := cells_mk b1
  clear hG E1 b1
  go_enter Tryd.func22, Tryd.ntmps22
  go_wp2
  refine wp_region_tail 9 6 rfl (by kernel_rfl) (by kernel_rfl) (by kernel_rfl) ?_
  apply Exists.intro
  refine ⟨fun cc => ?_, fun W hW => ?_⟩
  · have hx := fun (o : From cc.w) p h => From.cell2 cc.h o p h
    simp only [List.take_succ_cons, List.take_zero]
    repeat (go_big_quiet_step ((first | (go_at_call 38; exact on_call (fun W hW => NA.out W (Ext.trans HE.out (Ext.trans cc.h hW))) _) | (go_at_call 31; exact on_call (fun W hW => NH.out W (Ext.trans HE.out (Ext.trans cc.h hW))) _) | (go_at_call 39; exact on_call (fun W hW => NG.out W (Ext.trans HE.out (Ext.trans cc.h hW))) _))))
    exact wpQuiet_nil rfl
  · simp only [List.drop_succ_cons, List.drop_zero]
    have H3 := Lib.hid (Ext.trans HE.out hW)
    clear hW p0 p1 p2 p3
    go_wp2_with (first | (go_at_call 30; refine (T.out _ _ _ (Ext.trans H3.out (ext1 _ _)) (Blk.new _ _ _)).mono ?_; rintro e w3 ⟨rfl, rfl⟩))
    go_ret
    exact ⟨rfl, Ext.trans H3.out (ext1 _ _)⟩
set_option maxHeartbeats 1000000 in
theorem put_003 (v : Value) (m : MkR) (x : Int) (w : World) (hG : G a b w)
    (NA : ∀ W, Ext w W → Calls Tryd.prog 38 #[v] W fun e w' => e = .returned (.nilIface) ∧ Ext W w')
    (NH : ∀ W, Ext w W → Calls Tryd.prog 31 #[mkV m] W fun e w' => e = .returned (.nilIface) ∧ Ext W w')
    (NG : ∀ W, Ext w W → Calls Tryd.prog 39 #[.int .i64 x] W fun e w' => e = .returned (eA b) ∧ Ext W w') :
    Calls Tryd.prog 22 #[v, .int .i64 x, mkV m] w fun e w' => e = .returned (.int .i64 10) ∧ Ext w w' := by
  have T := Lib.hid (fun bb t W (hW : Ext w W) (hB : Blk W bb #[.nilIface, .nilIface, eA b] t) => tell3 (a := b) 0 0 3 (by decide) (by decide) (by decide) 10 rfl bb t W (hG.ext hW).e hB)
  have E1 := ext1 w (.cells (mkC m) 23)
  have b1 := Blk.new w (mkC m) 23
  have NA := Lib.hid NA
  have NH := Lib.hid NH
  have NG := Lib.hid NG
  have HE := Lib.hid E1
  obtain ⟨p0, p1, p2, p3⟩ := cells_mk b1
  clear hG E1 b1
  go_enter Tryd.func22, Tryd.ntmps22
  go_wp2
  refine wp_region_tail 9 6 rfl (by kernel_rfl) (by kernel_rfl) (by kernel_rfl) ?_
  apply Exists.intro
  refine ⟨fun cc => ?_, fun W hW => ?_⟩
  · have hx := fun (o : From cc.w) p h => From.cell2 cc.h o p h
    simp only [List.take_succ_cons, List.take_zero]
    repeat (go_big_quiet_step ((first | (go_at_call 38; exact on_call (fun W hW => NA.out W (Ext.trans HE.out (Ext.trans cc.h hW))) _) | (go_at_call 31; exact on_call (fun W hW => NH.out W (Ext.trans HE.out (Ext.trans cc.h hW))) _) | (go_at_call 39; exact on_call (fun W hW => NG.out W (Ext.trans HE.out (Ext.trans cc.h hW))) _))))
    exact wpQuiet_nil rfl
  · simp only [List.drop_succ_cons, List.drop_zero]
    have H3 := Lib.hid (Ext.trans HE.out hW)
    clear hW p0 p1 p2 p3
    go_wp2_with (first | (go_at_call 30; refine (T.out _ _ _ (Ext.trans H3.out (ext1 _ _)) (Blk.new _ _ _)).mono ?_; rintro e w3 ⟨rfl, rfl⟩))
    go_ret
    exact ⟨rfl, Ext.trans H3.out (ext1 _ _)⟩
set_option maxHeartbeats 1000000 in
theorem put_000 (p g : Nat) (L : List UInt8) (m : MkR) (hm : FitM m) (x : Int) (w : World) (hG : G a b w) (hA : Ar w p g L)
    (NA : ∀ W, Ext w W → Calls Tryd.prog 38 #[ptr p] W fun e w' => e = .returned .nilIface ∧ Ext W w')
    (NH : ∀ W, Ext w W → Calls Tryd.prog 31 #[mkV m] W fun e w' => e = .returned .nilIface ∧ Ext W w')
    (NG : ∀ W, Ext w W → Calls Tryd.prog 39 #[.int .i64 x] W fun e w' => e = .returned .nilIface ∧ Ext W w') :
    Calls Tryd.prog 22 #[ptr p, .int .i64 x, mkV m] w (Does g p w (.int .i64 (rdE L x 8)) (wrL L x (encS m))) := by
  have T := Lib.hid (fun bb t W (hW : Ext w W) (hB : Blk W bb #[.nilIface, .nilIface, .nilIface] t) => tell3 (a := b) 0 0 0 (by decide) (by decide) (by decide) 0 rfl bb t W (hG.ext hW).e hB)
  have E1 := ext1 w (.cells (mkC m) 23)
  have b1 := Blk.new w (mkC m) 23
  have NA := Lib.hid NA
  have NH := Lib.hid NH
  have NG := Lib.hid NG
  have WR := Lib.hid (fun W (hW : Ext w W) => write_is m hm W (hG.ext hW).t)
  have AW := Lib.hid (fun W (hW : Ext w W) => write_any p g L x (encS m) W (hG.ext hW).g (hA.ext hW))
  have HE := Lib.hid (And.intro E1 b1)
  have HL := Lib.hid (enc_len m)
  obtain ⟨p0, p1, p2, p3⟩ := cells_mk b1
  clear hG hA E1 b1
  rw [enc_len m] at AW
  generalize encS m = X at *
  go_enter Tryd.func22, Tryd.ntmps22
  go_wp2
  refine wp_region_tail 9 6 rfl (by kernel_rfl) (by kernel_rfl) (by kernel_rfl) ?_
  apply Exists.intro
  refine ⟨fun cc => ?_, fun W hW => ?_⟩
  · have hx := fun (o : From cc.w) p h => From.cell2 cc.h o p h
    simp only [List.take_succ_cons, List.take_zero]
    repeat (go_big_quiet_step ((first | (go_at_call 38; exact on_call (fun W hW => NA.out W (Ext.trans HE.out.1 (Ext.trans cc.h hW))) _) | (go_at_call 31; exact on_call (fun W hW => NH.out W (Ext.trans HE.out.1 (Ext.trans cc.h hW))) _) | (go_at_call 39; exact on_call (fun W hW => NG.out W (Ext.trans HE.out.1 (Ext.trans cc.h hW))) _))))
    exact wpQuiet_nil rfl
  · simp only [List.drop_succ_cons, List.drop_zero]
    have H3 := Lib.hid (And.intro (Ext.trans HE.out.1 hW) (HE.out.2.ext hW))
    clear hW p0 p1 p2 p3
    go_wp2_with (first
      | (go_at_call 30; refine (T.out _ _ _ (Ext.trans H3.out.1 (ext1 _ _)) (Blk.new _ _ _)).mono ?_; rintro e w3 ⟨rfl, rfl⟩; obtain ⟨p0, p1, p2, p3⟩ := cells_mk (H3.out.2.ext (ext1 W (.cells #[.nilIface, .nilIface, .nilIface] 57))); have hX := Ext.trans H3.out.1 (ext1 W (.cells #[.nilIface, .nilIface, .nilIface] 57)))
      | (go_at_call 32; refine (WR.out _ hX).mono ?_; rintro e w4 ⟨rfl, h4⟩; replace hX := Ext.trans hX h4; clear h4)
      | (go_at_call 23; refine (AW.out _ hX).mono ?_; rintro e w5 ⟨rfl, h5, h6⟩; have H6 := Lib.hid (And.intro h5 h6); clear h5 h6))
    go_ret
    exact ⟨rfl, (Chg.of_ext hX).trans H6.out.1, H6.out.2⟩
theorem put_nil (m : MkR) (x : Int) (w : World) (hG : G a b w) : Calls Tryd.prog 22 #[.pointer none, .int .i64 x, mkV m] w fun e w' => e = .returned (.int .i64 1) ∧ Ext w w' := by
  rcases hr : rightM m with _ | _ <;> by_cases hx : x % 8 = 0
  · exact put_120 _ m x w hG (fun W hW => noArena_nil' W (hG.ext hW)) (fun W hW => noHead_no m hr W (hG.ext hW)) (fun W hW => noGranule_ok x hx W (hG.ext hW))
  · exact put_123 _ m x w hG (fun W hW => noArena_nil' W (hG.ext hW)) (fun W hW => noHead_no m hr W (hG.ext hW)) (fun W hW => noGranule_no x hx W (hG.ext hW))
  · exact put_100 _ m x w hG (fun W hW => noArena_nil' W (hG.ext hW)) (fun W hW => noHead_ok m hr W (hG.ext hW)) (fun W hW => noGranule_ok x hx W (hG.ext hW))
  · exact put_103 _ m x w hG (fun W hW => noArena_nil' W (hG.ext hW)) (fun W hW => noHead_ok m hr W (hG.ext hW)) (fun W hW => noGranule_no x hx W (hG.ext hW))
def putE (L : List UInt8) (x : Int) (m : MkR) : Int := if rightM m then (if x % 8 = 0 then rdE L x 8 else 10) else 60
def putL (L : List UInt8) (x : Int) (m : MkR) : List UInt8 := if rightM m ∧ x % 8 = 0 then wrL L x (encS m) else L
theorem does_ext {f : FuncId} {args : Array Value} {w : World} {p g : Nat} {L : List UInt8} {v : Value} (hA : Ar w p g L) (h : Calls Tryd.prog f args w fun e w' => e = .returned v ∧ Ext w w') : Calls Tryd.prog f args w (Does g p w v L) := does_of_ext hA rfl h
theorem put_is (p g : Nat) (L : List UInt8) (m : MkR) (x : Int) (w : World) (hG : G a b w) (hA : Ar w p g L) : Calls Tryd.prog 22 #[ptr p, .int .i64 x, mkV m] w (Does g p w (.int .i64 (putE L x m)) (putL L x m)) := by
  unfold putE putL
  rcases hr : rightM m with _ | _ <;> by_cases hx : x % 8 = 0
  · rw [if_neg (by decide), if_neg (by simp)]
    exact does_ext hA (put_020 _ m x w hG (fun W hW => noArena_ok' p g L W (hG.ext hW) (hA.ext hW)) (fun W hW => noHead_no m hr W (hG.ext hW)) (fun W hW => noGranule_ok x hx W (hG.ext hW)))
  · rw [if_neg (by decide), if_neg (by simp)]
    exact does_ext hA (put_023 _ m x w hG (fun W hW => noArena_ok' p g L W (hG.ext hW) (hA.ext hW)) (fun W hW => noHead_no m hr W (hG.ext hW)) (fun W hW => noGranule_no x hx W (hG.ext hW)))
  · rw [if_pos rfl, if_pos hx, if_pos ⟨rfl, hx⟩]
    exact put_000 p g L m (fit_right hr) x w hG hA (fun W hW => noArena_ok' p g L W (hG.ext hW) (hA.ext hW)) (fun W hW => noHead_ok m hr W (hG.ext hW)) (fun W hW => noGranule_ok x hx W (hG.ext hW))
  · rw [if_pos rfl, if_neg hx, if_neg (by simp [hx])]
    exact does_ext hA (put_003 _ m x w hG (fun W hW => noArena_ok' p g L W (hG.ext hW) (hA.ext hW)) (fun W hW => noHead_ok m hr W (hG.ext hW)) (fun W hW => noGranule_no x hx W (hG.ext hW)))
end
end H
end Go.Proofs.YtfpefffgegphnaaDoor
