/- bits: Either. -/
import Derived.Test.YtichgkeglgagfaaDoorFill
namespace Go.Proofs.YtichgkeglgagfaaDoor
open Go.RowKit Go
section
variable {a : Nat → Addr}
theorem at_new3 {w W : World} {o o' : Obj} {cs : Array Value} {t : TypeId} (h : Ext (((w.alloc o).alloc o').alloc (.cells cs t)) W) : Blk W (w.heap.size + 1 + 1) cs t := by
  have := at_new2 (w := w.alloc o) h
  rwa [World.size_alloc] at this
def eitB (N M : Int) (ws vs : List Nat) : Bool := rightB N ws && rightB M vs && (N == M)
set_option maxHeartbeats 2000000 in
theorem either_no (N M : Int) (A A' : Option Addr) (n c n' c' : Nat) (ws vs : List Nat) (hk : eitB N M ws vs = false) (w : World) (h : Bt w A n ws) (h' : Bt w A' n' vs) (hG : G a w) :
    Calls Tryd.prog 32 #[.agg #[.int .i64 N, .slice A n c], .agg #[.int .i64 M, .slice A' n' c']] w (NoR w 20) := by
  have E0 := ext3 w (.cells #[.int .i64 N, .slice A n c] 24) (.cells #[.int .i64 M, .slice A' n' c'] 24) (.cells #[.int .i64 0, .slice none 0 0] 24)
  obtain ⟨k1, k2, k3, hk1, hk2, hk3, hks, hl1, hl2, hl3⟩ : ∃ k1 k2 k3, codeB (rightB N ws) 2 = k1 ∧ codeB (rightB M vs) 2 = k2 ∧ codeB (N == M) 2 = k3 ∧ num (firstK [k1, k2, k3]) = 20 ∧ k1 ≤ 3 ∧ k2 ≤ 3 ∧ k3 ≤ 3 := by
    refine ⟨_, _, _, rfl, rfl, rfl, ?_, codeB_le _ _ (by decide), codeB_le _ _ (by decide), codeB_le _ _ (by decide)⟩
    unfold eitB at hk
    generalize rightB N ws = b1 at *
    generalize rightB M vs = b2 at *
    generalize (N == M) = b3 at *
    cases b1 <;> cases b2 <;> cases b3 <;> first | rfl | cases hk
  have NB := Lib.hid (fun W (hW : Ext (((w.alloc (.cells #[.int .i64 N, .slice A n c] 24)).alloc (.cells #[.int .i64 M, .slice A' n' c'] 24)).alloc (.cells #[.int .i64 0, .slice none 0 0] 24)) W) => asErr (errV a k1) (by rw [hk1]) (noBits_any (a := a) N A n c ws W (h.ext (Ext.trans E0 hW)) (hG.ext (Ext.trans E0 hW))))
  have NB2 := Lib.hid (fun W (hW : Ext (((w.alloc (.cells #[.int .i64 N, .slice A n c] 24)).alloc (.cells #[.int .i64 M, .slice A' n' c'] 24)).alloc (.cells #[.int .i64 0, .slice none 0 0] 24)) W) => asErr (errV a k2) (by rw [hk2]) (noBits_any (a := a) M A' n' c' vs W (h'.ext (Ext.trans E0 hW)) (hG.ext (Ext.trans E0 hW))))
  have NM := Lib.hid (fun W (hW : Ext (((w.alloc (.cells #[.int .i64 N, .slice A n c] 24)).alloc (.cells #[.int .i64 M, .slice A' n' c'] 24)).alloc (.cells #[.int .i64 0, .slice none 0 0] 24)) W) => asErr (errV a k3) (by rw [hk3]) (notAsMany_any (a := a) N M A n c A' n' c' W (hG.ext (Ext.trans E0 hW))))
  have TD := Lib.hid (fun b u W (hW : Ext (((w.alloc (.cells #[.int .i64 N, .slice A n c] 24)).alloc (.cells #[.int .i64 M, .slice A' n' c'] 24)).alloc (.cells #[.int .i64 0, .slice none 0 0] 24)) W) (hB : Blk W b #[errV a k1, errV a k2, errV a k3] u) => (told3 (a := a) k1 k2 k3 20 hks hl1 hl2 hl3 b u W (hG.ext (Ext.trans E0 hW)) hB).mono fun e w' ⟨he, hw⟩ => (⟨he, hw ▸ hW⟩ : _ ∧ Ext (((w.alloc (.cells #[.int .i64 N, .slice A n c] 24)).alloc (.cells #[.int .i64 M, .slice A' n' c'] 24)).alloc (.cells #[.int .i64 0, .slice none 0 0] 24)) w'))
  have m1 := errV_cells a k1
  have m2 := errV_cells a k2
  have m3 := errV_cells a k3
  unfold Value.cells at m1 m2 m3
  have B0 : Blk (((w.alloc (.cells #[.int .i64 N, .slice A n c] 24)).alloc (.cells #[.int .i64 M, .slice A' n' c'] 24)).alloc (.cells #[.int .i64 0, .slice none 0 0] 24)) w.heap.size #[.int .i64 N, .slice A n c] 24 := ((Blk.new _ _ _).alloc _).alloc _
  have B1 : Blk (((w.alloc (.cells #[.int .i64 N, .slice A n c] 24)).alloc (.cells #[.int .i64 M, .slice A' n' c'] 24)).alloc (.cells #[.int .i64 0, .slice none 0 0] 24)) (w.heap.size + 1) #[.int .i64 M, .slice A' n' c'] 24 := by
    have := ((Blk.new (w.alloc (.cells #[.int .i64 N, .slice A n c] 24)) #[.int .i64 M, .slice A' n' c'] 24).alloc (.cells #[.int .i64 0, .slice none 0 0] 24))
    rwa [World.size_alloc] at this
  have b0 := B0.cell 0
  have b1 := B0.cell 1
  have b2 := B1.cell 0
  have b3 := B1.cell 1
  simp at b0 b1 b2 b3
  clear B0 B1
  clear hG h h' hk hks hk1 hk2 hk3
  go_enter Tryd.func32, Tryd.ntmps32
  go_wp2
  refine wp_region_tail 10 7 rfl (by kernel_rfl) (by kernel_rfl) (by kernel_rfl) ?_
  apply Exists.intro
  refine ⟨fun d => ?_, fun W hW => ?_⟩
  · have hx := fun (o : From d.w) p h => From.cell2 d.h o p h
    simp only [List.take_succ_cons, List.take_zero]
    repeat (go_big_quiet_step ((first | (go_at_call 45; with_reducible exact on_call (fun W hW => NB.out W (Ext.trans d.h hW)) _) | (go_at_call 45; with_reducible exact on_call (fun W hW => NB2.out W (Ext.trans d.h hW)) _) | (go_at_call 51; with_reducible exact on_call (fun W hW => NM.out W (Ext.trans d.h hW)) _))))
    exact wpQuiet_nil rfl
  · simp only [List.drop_succ_cons, List.drop_zero]
    have HW := Lib.hid hW
    clear hW
    go_wp2_with (go_at_call 34; refine (TD.out _ _ _ (Ext.trans HW.out (ext1 _ _)) (Blk.new _ _ _)).mono ?_; rintro e w2 ⟨rfl, h2⟩; have r0 := (at_new3 h2).cell 0; have r1 := (at_new3 h2).cell 1; have q0 := (at_new3 h2).frozen 0; have q1 := (at_new3 h2).frozen 1; simp at r0 r1)
    obtain ⟨s0, s1, hE⟩ := res_store (u := .int .i64 0) (v := .slice none 0 0) (at_new3 h2) (Ext.trans E0 h2) (by omega)
    exact bodyPost_ret (v := .tuple #[.agg #[.int .i64 0, .slice none 0 0], .int .i64 20]) (by simp [results, Tryd.results32, go_sem, s0, s1]) rfl ⟨rfl, hE⟩

set_option maxHeartbeats 4000000 in
theorem either_ok (N : Int) (A A' : Option Addr) (n c n' c' : Nat) (ws vs : List Nat) (hr : rightB N ws = true) (hp : rightB N vs = true) (w : World) (h : Bt w A n ws) (h' : Bt w A' n' vs) (hG : G a w) :
    Calls Tryd.prog 32 #[.agg #[.int .i64 N, .slice A n c], .agg #[.int .i64 N, .slice A' n' c']] w (BitsR w N (joinW ws vs)) := by
  have E0 := ext3 w (.cells #[.int .i64 N, .slice A n c] 24) (.cells #[.int .i64 N, .slice A' n' c'] 24) (.cells #[.int .i64 0, .slice none 0 0] 24)
  have hnn : n' = n := by have := ((right_iff N ws).1 hr).len; have := ((right_iff N vs).1 hp).len; have := h.len; have := h'.len; omega
  subst hnn
  have NB := Lib.hid (fun W (hW : Ext (((w.alloc (.cells #[.int .i64 N, .slice A n' c] 24)).alloc (.cells #[.int .i64 N, .slice A' n' c'] 24)).alloc (.cells #[.int .i64 0, .slice none 0 0] 24)) W) => asErr .nilIface (by rw [hr]; rfl) (noBits_any (a := a) N A n' c ws W (h.ext (Ext.trans E0 hW)) (hG.ext (Ext.trans E0 hW))))
  have NB2 := Lib.hid (fun W (hW : Ext (((w.alloc (.cells #[.int .i64 N, .slice A n' c] 24)).alloc (.cells #[.int .i64 N, .slice A' n' c'] 24)).alloc (.cells #[.int .i64 0, .slice none 0 0] 24)) W) => asErr .nilIface (by rw [hp]; rfl) (noBits_any (a := a) N A' n' c' vs W (h'.ext (Ext.trans E0 hW)) (hG.ext (Ext.trans E0 hW))))
  have NM := Lib.hid (fun W (hW : Ext (((w.alloc (.cells #[.int .i64 N, .slice A n' c] 24)).alloc (.cells #[.int .i64 N, .slice A' n' c'] 24)).alloc (.cells #[.int .i64 0, .slice none 0 0] 24)) W) => asErr .nilIface (by simp [codeB]; rfl) (notAsMany_any (a := a) N N A n' c A' n' c' W (hG.ext (Ext.trans E0 hW))))
  have TD := Lib.hid (fun b u W (hW : Ext (((w.alloc (.cells #[.int .i64 N, .slice A n' c] 24)).alloc (.cells #[.int .i64 N, .slice A' n' c'] 24)).alloc (.cells #[.int .i64 0, .slice none 0 0] 24)) W) (hB : Blk W b #[errV a 0, errV a 0, errV a 0] u) => (told3 (a := a) 0 0 0 0 rfl (by decide) (by decide) (by decide) b u W (hG.ext (Ext.trans E0 hW)) hB).mono fun e w' ⟨he, hw⟩ => (⟨he, hw ▸ hW⟩ : _ ∧ Ext (((w.alloc (.cells #[.int .i64 N, .slice A n' c] 24)).alloc (.cells #[.int .i64 N, .slice A' n' c'] 24)).alloc (.cells #[.int .i64 0, .slice none 0 0] 24)) w'))
  have hr' := (right_iff N ws).1 hr
  have n0 := hr'.n0
  have n1 := hr'.n1
  have hl := h.len
  have HH := Lib.hid (And.intro h (And.intro hr' (And.intro hl h')))
  have B0 : Blk (((w.alloc (.cells #[.int .i64 N, .slice A n' c] 24)).alloc (.cells #[.int .i64 N, .slice A' n' c'] 24)).alloc (.cells #[.int .i64 0, .slice none 0 0] 24)) w.heap.size #[.int .i64 N, .slice A n' c] 24 := ((Blk.new _ _ _).alloc _).alloc _
  have B1 : Blk (((w.alloc (.cells #[.int .i64 N, .slice A n' c] 24)).alloc (.cells #[.int .i64 N, .slice A' n' c'] 24)).alloc (.cells #[.int .i64 0, .slice none 0 0] 24)) (w.heap.size + 1) #[.int .i64 N, .slice A' n' c'] 24 := by
    have := ((Blk.new (w.alloc (.cells #[.int .i64 N, .slice A n' c] 24)) #[.int .i64 N, .slice A' n' c'] 24).alloc (.cells #[.int .i64 0, .slice none 0 0] 24))
    rwa [World.size_alloc] at this
  have b0 := B0.cell 0
  have b1 := B0.cell 1
  have b2 := B1.cell 0
  have b3 := B1.cell 1
  simp at b0 b1 b2 b3
  clear B0 B1
  clear hG h h' hr hp hr' hl
  go_enter Tryd.func32, Tryd.ntmps32
  go_wp2
  refine wp_region_tail 10 7 rfl (by kernel_rfl) (by kernel_rfl) (by kernel_rfl) ?_
  apply Exists.intro
  refine ⟨fun d => ?_, fun W hW => ?_⟩
  · have hx := fun (o : From d.w) p h => From.cell2 d.h o p h
    simp only [List.take_succ_cons, List.take_zero]
    repeat (go_big_quiet_step ((first | (go_at_call 45; with_reducible exact on_call (fun W hW => NB.out W (Ext.trans d.h hW)) _) | (go_at_call 45; with_reducible exact on_call (fun W hW => NB2.out W (Ext.trans d.h hW)) _) | (go_at_call 51; with_reducible exact on_call (fun W hW => NM.out W (Ext.trans d.h hW)) _))))
    exact wpQuiet_nil rfl
  · simp only [List.drop_succ_cons, List.drop_zero]
    have HW := Lib.hid hW
    clear hW
    go_wp2_with (go_at_call 34; refine (TD.out _ _ _ (Ext.trans HW.out (ext1 _ _)) (Blk.new _ _ _)).mono ?_; rintro e w2 ⟨rfl, h2⟩)
    have B0 : Blk w2 w.heap.size #[.int .i64 N, .slice A n' c] 24 := (((Blk.new _ _ _).alloc _).alloc _).ext h2
    have B1 : Blk w2 (w.heap.size + 1) #[.int .i64 N, .slice A' n' c'] 24 := by
      have := (((Blk.new (w.alloc (.cells #[.int .i64 N, .slice A n' c] 24)) #[.int .i64 N, .slice A' n' c'] 24).alloc (.cells #[.int .i64 0, .slice none 0 0] 24)).ext h2)
      rwa [World.size_alloc] at this
    have p0 := B0.cell 0
    have p1 := B0.cell 1
    have p2 := B1.cell 0
    have p3 := B1.cell 1
    simp at p0 p1 p2 p3
    have H2 := Lib.hid h2
    clear h2 B0 B1 b0 b1 b2 b3
    refine wp_region_XT 10 8 rfl (by kernel_rfl) (by kernel_rfl) ?_
    intro HD
    refine wpH_segL HD 0 3 5 rfl rfl (by kernel_rfl) ?_
    apply Exists.intro
    refine ⟨fun d => ?_, ?_⟩
    · have hx := fun (o : From d.w) p h => From.cell2 d.h o p h
      simp only [List.drop_zero, List.take_succ_cons, List.take_zero]
      repeat (go_big_quiet_step (fail))
      exact wpQuiet_nil rfl
    refine wpH_segL HD 4 1 4 rfl rfl (by kernel_rfl) ?_
    apply Exists.intro
    refine ⟨fun d => ?_, ?_⟩
    · have hx := fun (o : From d.w) p h => From.cell2 d.h o p h
      simp only [List.drop_succ_cons, List.drop_zero, List.take_succ_cons, List.take_zero]
      repeat (go_big_quiet_step (fail))
      exact wpQuiet_nil rfl
    refine wpH_stepL 3 3 rfl rfl rfl (by kernel_rfl) ?_
    intro W3 hW3 K hK
    go_simp
    refine (copied_any N A n' c W3).mono ?_
    rintro e W4 ⟨rfl, rfl⟩
    refine hK.out _ _ (ext1 _ _) ?_
    clear hK K
    have X03 := Ext.trans H2.out hW3
    have C1 := Lib.hid (copied_change N A n' c ws W3 (HH.out.1.ext (Ext.trans E0 X03)))
    refine wpH_stepL 5 2 rfl rfl rfl (by kernel_rfl) ?_
    intro W5 hW5 K hK
    go_simp
    refine (joined_any N A' n' c' W5).mono ?_
    rintro e W6 ⟨rfl, rfl⟩
    refine hK.out _ _ (ext1 _ _) ?_
    clear hK K
    have X05 := Ext.trans X03 (Ext.trans (ext1 _ _) hW5)
    have C2 := Lib.hid (joined_change N A' n' c' vs W5 (HH.out.2.2.2.ext (Ext.trans E0 X05)))
    refine wpH_stepL 6 1 rfl rfl rfl (by kernel_rfl) ?_
    intro W7 hW7 K hK
    go_simp
    refine hK.out _ _ (ext1 _ _) ?_
    clear hK K
    refine wpH_stepL 7 0 rfl rfl rfl (by kernel_rfl) ?_
    intro W9 hW9 K hK
    go_simp
    have X59 := Ext.trans hW7 (Ext.trans (ext1 _ _) hW9)
    have X39 := Ext.trans hW5 (Ext.trans (ext1 _ _) X59)
    have X09 := Ext.trans X05 (Ext.trans (ext1 _ _) X59)
    refine (made2_any N n0 n1 n' (by have := HH.out.2.1.len; have := HH.out.2.2.1; omega) W9 _ _ (fun _ => ws) (fun ws => joinW ws vs) W7.heap.size 2 _ (at_new hW9) (C1.out.ext X39) (C2.out.ext X59) (fun _ _ _ => ⟨HH.out.2.2.1, HH.out.1.lt⟩)).mono ?_
    rintro e W10 ⟨B, rfl, hB, hBB, hE10⟩
    refine hK.out _ _ hE10 ?_
    clear hK K
    refine wpH_end (fun W11 hW11 => ⟨by kernel_rfl, ?_⟩)
    have h11 := Ext.trans X09 (Ext.trans hE10 hW11)
    have hBl := hBB.ext hW11
    have hne : w.heap.size + 1 + 1 < B := by have := X09.size; simp at this; omega
    have r0 := (at_new3 h11).cell 0
    have r1 := (at_new3 h11).cell 1
    have q0 := (at_new3 h11).frozen 0
    have q1 := (at_new3 h11).frozen 1
    simp at r0 r1
    have FX := Lib.hid (And.intro h11 (And.intro hBl hne))
    clear h11 hBl hne hBB hB hE10 hW11 X09 X39 X59 X05 X03 hW9 hW7 hW5 hW3 p0 p1 p2 p3
    simp only [List.drop_succ_cons, List.drop_zero]
    go_wp2
    obtain ⟨h11, hBl, hne⟩ := FX.out
    obtain ⟨s0, s1, hE⟩ := res_store (u := .int .i64 N) (v := .slice (some ⟨B, 0, none⟩) n' n') (at_new3 h11) (Ext.trans E0 h11) (by omega)
    refine bodyPost_ret (v := .tuple #[.agg #[.int .i64 N, .slice (some ⟨B, 0, none⟩) n' n'], .int .i64 0]) (by simp [results, Tryd.results32, go_sem, s0, s1]) rfl ⟨_, n', n', rfl, ?_, hE⟩
    have := Bt.blk ((hBl.other ⟨w.heap.size + 1 + 1, 0, none⟩ (.int .i64 N) (by show B ≠ w.heap.size + 1 + 1; omega)).other ⟨w.heap.size + 1 + 1, 1, none⟩ (.slice (some ⟨B, 0, none⟩) n' n') (by show B ≠ w.heap.size + 1 + 1; omega)) (by show (joinW ws vs).length ≤ _; rw [join_len, HH.out.2.2.1]; exact HH.out.1.le) (join_W32 HH.out.1.lt HH.out.2.2.2.lt)
    rw [show (joinW ws vs).length = n' by rw [join_len, HH.out.2.2.1]] at this
    exact this
end
end Go.Proofs.YtichgkeglgagfaaDoor
