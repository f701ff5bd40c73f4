/- The law BitsTells, walked. -/
import Derived.Test.YtichgkeglgagfaaDoorCut
import Derived.Test.YtichgkeglgagfaaDoorLawMath3
import Derived.Test.YtichgkeglgagfaaDoorDraw2
namespace Go.Proofs.YtichgkeglgagfaaDoor
open Go.RowKit Go
section
variable {a : Nat → Addr}
set_option maxHeartbeats 4000000 in
theorem tells_walk' (N : Int) (A : Option Addr) (n n' c : Nat) (ws : List Nat) (N2 : Int) (A2 : Option Addr) (n2 n2' c2 : Nat) (vs : List Nat) (i m : Int) (w : World)
    (C : ∀ W : World, Calls Tryd.prog 12 #[.agg #[.int .i64 N, .slice A n c]] W fun e w' => e = .returned (.agg #[.int .i64 N, .slice A n' c]) ∧ Ext W w') (C2 : ∀ W : World, Calls Tryd.prog 12 #[.agg #[.int .i64 N2, .slice A2 n2 c2]] W fun e w' => e = .returned (.agg #[.int .i64 N2, .slice A2 n2' c2]) ∧ Ext W w') (B : Bt w A n' ws) (B2 : Bt w A2 n2' vs) (hG : G a w) :
    Calls Tryd.prog 3 #[.agg #[.int .i64 N, .slice A n c], .agg #[.int .i64 N2, .slice A2 n2 c2], .int .i64 i, .int .i64 m] w fun e w' => e = .returned (.bool true) ∧ Ext w w' := by
  obtain ⟨N1, ws1, k1, hM1, hM2⟩ := make_both (a := a) m w hG
  obtain ⟨ra, ea⟩ : ∃ ra, rightB N ws = ra := ⟨_, rfl⟩
  obtain ⟨hb, eb⟩ : ∃ hb, hasB N ws i = hb := ⟨_, rfl⟩
  obtain ⟨sb, es⟩ : ∃ sb, sameB N N2 ws vs = sb := ⟨_, rfl⟩
  rcases ra with _ | _ <;> rcases hb with _ | _ <;> rcases sb with _ | _
  all_goals
    have SH := Lib.hid (fun W (hW : Ext w W) => shown_any (a := a) W (hG.ext hW))
    have CU := Lib.hid C
    clear C
    have CV := Lib.hid C2
    clear C2
    have MK := Lib.hid hM1
    have MR := Lib.hid hM2
    clear hM1 hM2
    have R1 := Lib.hid (fun W (hW : Ext w W) => ea ▸ right_any N A n' c ws W (B.ext hW))
    have R2 := Lib.hid (fun W (hW : Ext w W) => ea ▸ refRight_any N A n' c ws W (B.ext hW))
    have H1 := Lib.hid (fun W (hW : Ext w W) => eb ▸ has_any N A n' c ws i W (B.ext hW))
    have H2 := Lib.hid (fun W (hW : Ext w W) => eb ▸ refHas_any N A n' c ws i W (B.ext hW))
    have C1 := Lib.hid (fun W (hW : Ext w W) => count_any N A n' c ws W (B.ext hW))
    have C2' := Lib.hid (fun W (hW : Ext w W) => refCount_any N A n' c ws W (B.ext hW))
    have L1 := Lib.hid (fun W (hW : Ext w W) => list_any (a := a) N A n' c ws W (B.ext hW) (hG.ext hW))
    have L2 := Lib.hid (fun W (hW : Ext w W) => refList_any N A n' c ws W (B.ext hW))
    have S1 := Lib.hid (fun W (hW : Ext w W) => es ▸ same_any N N2 A A2 n' c n2' c2 ws vs W (B.ext hW) (B2.ext hW))
    have S2 := Lib.hid (fun W (hW : Ext w W) => es ▸ refSame_any N N2 A A2 n' c n2' c2 ws vs W (B.ext hW) (B2.ext hW))
    have S3 := Lib.hid (fun W (hW : Ext w W) => (show sameB N N ws ws = true by simp [sameB]) ▸ same_any N N A A n' c n' c ws ws W (B.ext hW) (B.ext hW))
    have hLl : (lst N ws).length ≤ 100000 := by have := cnt_le N ws; rw [cntN_lst] at this; have := B.le; have := B.len; omega
    generalize lst N ws = L at *
    have ek : (k1 == k1) = true := beq_self_eq_true k1
    clear ea eb es
    clear B B2 hG
    go_enter Tryd.func3, Tryd.ntmps3
    go_wp2_with (first
      | (go_at_call 11; refine (SH.out _ (ext2 _ _ _)).mono ?_; rintro e w1 ⟨rfl, h1⟩; have x := at_old h1; have y := at_new2 h1; have hW := Ext.trans (ext2 _ _ _) h1; clear h1; have r0 := x.cell 0; have r1 := x.cell 1; have s0 := y.cell 0; have s1 := y.cell 1; simp only [List.getElem?_toArray, List.getElem?_cons_zero, List.getElem?_cons_succ] at r0 r1 s0 s1)
      | (go_at_call 12; (with_reducible refine (CU.out _).mono ?_); rintro e w' ⟨rfl, hx⟩; replace x := x.ext hx; replace y := y.ext hx; replace hW := Ext.trans hW hx; clear hx r0 r1 s0 s1; have p0 := x.cell 0; have p1 := x.cell 1; simp only [List.getElem?_toArray, List.getElem?_cons_zero, List.getElem?_cons_succ] at p0 p1; have q0 := x.frozen 0; have q1 := x.frozen 1; obtain ⟨z9, hV⟩ := reborn x hW (Nat.le_refl _) (.int .i64 N) (.slice A n' c); have y9 := keepOther y (by show w.heap.size + 1 ≠ w.heap.size; omega) (.int .i64 N) (.slice A n' c); clear x y hW; have x := z9; have y := y9; have hW := hV; clear z9 y9 hV; have r0 := x.cell 0; have r1 := x.cell 1; have s0 := y.cell 0; have s1 := y.cell 1; simp only [List.getElem?_toArray, List.getElem?_cons_zero, List.getElem?_cons_succ] at r0 r1 s0 s1)
      | (go_at_call 12; (with_reducible refine (CV.out _).mono ?_); rintro e w' ⟨rfl, hx⟩; replace x := x.ext hx; replace y := y.ext hx; replace hW := Ext.trans hW hx; clear hx r0 r1 s0 s1; have p0 := y.cell 0; have p1 := y.cell 1; simp only [List.getElem?_toArray, List.getElem?_cons_zero, List.getElem?_cons_succ] at p0 p1; have q0 := y.frozen 0; have q1 := y.frozen 1; obtain ⟨z9, hV⟩ := reborn y hW (Nat.le_succ _) (.int .i64 N2) (.slice A2 n2' c2); have y9 := keepOther x (by show w.heap.size ≠ w.heap.size + 1; omega) (.int .i64 N2) (.slice A2 n2' c2); clear y x hW; have y := z9; have x := y9; have hW := hV; clear z9 y9 hV; have r0 := x.cell 0; have r1 := x.cell 1; have s0 := y.cell 0; have s1 := y.cell 1; simp only [List.getElem?_toArray, List.getElem?_cons_zero, List.getElem?_cons_succ] at r0 r1 s0 s1)
      | (go_at_call 13; (with_reducible refine (MK.out _ hW).mono ?_); rintro e w' ⟨A4, n4, c4, rfl, B4, hx⟩; replace B4 := B4.ext (ext1 _ (.cells #[.int .i64 N1, .slice A4 n4 c4] 24)); replace hx := Ext.trans hx (ext1 _ (.cells #[.int .i64 N1, .slice A4 n4 c4] 24)); have b4 := Blk.new w' #[.int .i64 N1, .slice A4 n4 c4] 24; replace hW := Ext.trans hW hx; replace x := x.ext hx; replace y := y.ext hx; clear hx; (try clear r0 r1); (try clear s0 s1); (try clear t0 t1); have r0 := x.cell 0; have r1 := x.cell 1; have s0 := y.cell 0; have s1 := y.cell 1; have t0 := b4.cell 0; have t1 := b4.cell 1; simp only [List.getElem?_toArray, List.getElem?_cons_zero, List.getElem?_cons_succ] at r0 r1 s0 s1 t0 t1)
      | (go_at_call 14; (with_reducible refine (MR.out _ hW).mono ?_); rintro e w' ⟨A5, n5, c5, rfl, B5, hx⟩; replace B5 := B5.ext (ext1 _ (.cells #[.int .i64 N1, .slice A5 n5 c5] 24)); replace hx := Ext.trans hx (ext1 _ (.cells #[.int .i64 N1, .slice A5 n5 c5] 24)); have b5 := Blk.new w' #[.int .i64 N1, .slice A5 n5 c5] 24; replace hW := Ext.trans hW hx; replace x := x.ext hx; replace y := y.ext hx; replace b4 := b4.ext hx; replace B4 := B4.ext hx; clear hx; (try clear r0 r1); (try clear s0 s1); (try clear t0 t1); (try clear u0 u1); have r0 := x.cell 0; have r1 := x.cell 1; have s0 := y.cell 0; have s1 := y.cell 1; have t0 := b4.cell 0; have t1 := b4.cell 1; have u0 := b5.cell 0; have u1 := b5.cell 1; simp only [List.getElem?_toArray, List.getElem?_cons_zero, List.getElem?_cons_succ] at r0 r1 s0 s1 t0 t1 u0 u1))
    refine wp_region_XT2 56 55 rfl (by kernel_rfl) (by kernel_rfl) ?_
    intro HD
    refine wpH2_segL HD 0 26 29 rfl rfl (Ext.refl _) (by kernel_rfl) ?_
    apply Exists.intro
    refine ⟨fun c => ?_, ?_⟩
    · have hx := fun (o : From c.w) p h => From.cell2 c.h o p h
      simp only [List.take_succ_cons, List.take_zero, List.drop_succ_cons, List.drop_zero]
      repeat (go_big_quiet_step ((first | (go_at_call 15; with_reducible exact on_call (fun W hx => R1.out _ (Ext.trans hW (Ext.trans c.h hx))) _) | (go_at_call 16; with_reducible exact on_call (fun W hx => R2.out _ (Ext.trans hW (Ext.trans c.h hx))) _) | (go_at_call 17; with_reducible exact on_call (fun W hx => H1.out _ (Ext.trans hW (Ext.trans c.h hx))) _) | (go_at_call 18; with_reducible exact on_call (fun W hx => H2.out _ (Ext.trans hW (Ext.trans c.h hx))) _) | (go_at_call 19; with_reducible exact on_call (fun W hx => C1.out _ (Ext.trans hW (Ext.trans c.h hx))) _) | (go_at_call 20; with_reducible exact on_call (fun W hx => C2'.out _ (Ext.trans hW (Ext.trans c.h hx))) _) | (go_at_call 24; with_reducible exact on_call (fun W hx => S1.out _ (Ext.trans hW (Ext.trans c.h hx))) _) | (go_at_call 24; with_reducible exact on_call (fun W hx => S3.out _ (Ext.trans hW (Ext.trans c.h hx))) _) | (go_at_call 25; with_reducible exact on_call (fun W hx => S2.out _ (Ext.trans hW (Ext.trans c.h hx))) _) | (go_at_call 25; with_reducible exact on_call (fun W hx => same_self N1 _ _ _ _ _ _ ws1 _ (B4.ext (Ext.trans c.h hx)) (B5.ext (Ext.trans c.h hx))) _))))
      exact wpQuiet_nil rfl
    refine wpH2_segL HD 27 1 28 rfl rfl (Ext.refl _) (by kernel_rfl) ?_
    apply Exists.intro
    refine ⟨fun c => ?_, ?_⟩
    · have hx := fun (o : From c.w) p h => From.cell2 c.h o p h
      simp only [List.take_succ_cons, List.take_zero, List.drop_succ_cons, List.drop_zero]
      repeat (go_big_quiet_step ((first | (go_at_call 15; with_reducible exact on_call (fun W hx => R1.out _ (Ext.trans hW (Ext.trans c.h hx))) _) | (go_at_call 16; with_reducible exact on_call (fun W hx => R2.out _ (Ext.trans hW (Ext.trans c.h hx))) _) | (go_at_call 17; with_reducible exact on_call (fun W hx => H1.out _ (Ext.trans hW (Ext.trans c.h hx))) _) | (go_at_call 18; with_reducible exact on_call (fun W hx => H2.out _ (Ext.trans hW (Ext.trans c.h hx))) _) | (go_at_call 19; with_reducible exact on_call (fun W hx => C1.out _ (Ext.trans hW (Ext.trans c.h hx))) _) | (go_at_call 20; with_reducible exact on_call (fun W hx => C2'.out _ (Ext.trans hW (Ext.trans c.h hx))) _) | (go_at_call 24; with_reducible exact on_call (fun W hx => S1.out _ (Ext.trans hW (Ext.trans c.h hx))) _) | (go_at_call 24; with_reducible exact on_call (fun W hx => S3.out _ (Ext.trans hW (Ext.trans c.h hx))) _) | (go_at_call 25; with_reducible exact on_call (fun W hx => S2.out _ (Ext.trans hW (Ext.trans c.h hx))) _) | (go_at_call 25; with_reducible exact on_call (fun W hx => same_self N1 _ _ _ _ _ _ ws1 _ (B4.ext (Ext.trans c.h hx)) (B5.ext (Ext.trans c.h hx))) _))))
      exact wpQuiet_nil rfl
    refine wpH2_stepL 26 27 rfl rfl rfl (by kernel_rfl) ?_
    · intro V hV K hK
      go_simp
      refine (L1.out V (Ext.trans hW hV)).mono ?_
      rintro e V2 ⟨A6, c6, rfl, hRd1, h6⟩
      have X2 := Ext.trans hV h6
      refine hK.out _ _ X2 ?_
      clear hK K
      refine wpH2_stepL 28 26 rfl rfl rfl (by kernel_rfl) ?_
      intro V3 hV3 K hK
      go_simp
      refine (L2.out V3 (Ext.trans hW (Ext.trans X2 hV3))).mono ?_
      rintro e V4 ⟨A7, c7, rfl, hRd2, h7⟩
      have X4 := Ext.trans X2 (Ext.trans hV3 h7)
      replace hRd1 := hRd1.ext (Ext.trans hV3 h7)
      refine hK.out _ _ X4 ?_
      clear hK K
      refine wpH2_stepL 29 25 rfl rfl rfl (by kernel_rfl) ?_
      intro V5 hV5 K hK
      go_simp
      refine (ints_any A6 A7 c6 c7 L hLl V5 (hRd1.ext hV5) (hRd2.ext hV5)).mono ?_
      rintro e V6 ⟨rfl, h8⟩
      have X6 := Ext.trans X4 (Ext.trans hV5 h8)
      refine hK.out _ _ X6 ?_
      clear hK K
      refine wpH2_segL HD 30 25 0 rfl rfl X6 (by kernel_rfl) ?_
      apply Exists.intro
      refine ⟨fun c => ?_, ?_⟩
      · have hx := fun (o : From c.w) p h => From.cell2 c.h o p h
        simp only [List.take_succ_cons, List.take_zero, List.drop_succ_cons, List.drop_zero]
        repeat (go_big_quiet_step ((first | (go_at_call 15; with_reducible exact on_call (fun W hx => R1.out _ (Ext.trans hW (Ext.trans c.h hx))) _) | (go_at_call 16; with_reducible exact on_call (fun W hx => R2.out _ (Ext.trans hW (Ext.trans c.h hx))) _) | (go_at_call 17; with_reducible exact on_call (fun W hx => H1.out _ (Ext.trans hW (Ext.trans c.h hx))) _) | (go_at_call 18; with_reducible exact on_call (fun W hx => H2.out _ (Ext.trans hW (Ext.trans c.h hx))) _) | (go_at_call 19; with_reducible exact on_call (fun W hx => C1.out _ (Ext.trans hW (Ext.trans c.h hx))) _) | (go_at_call 20; with_reducible exact on_call (fun W hx => C2'.out _ (Ext.trans hW (Ext.trans c.h hx))) _) | (go_at_call 24; with_reducible exact on_call (fun W hx => S1.out _ (Ext.trans hW (Ext.trans c.h hx))) _) | (go_at_call 24; with_reducible exact on_call (fun W hx => S3.out _ (Ext.trans hW (Ext.trans c.h hx))) _) | (go_at_call 25; with_reducible exact on_call (fun W hx => S2.out _ (Ext.trans hW (Ext.trans c.h hx))) _) | (go_at_call 25; with_reducible exact on_call (fun W hx => same_self N1 _ _ _ _ _ _ ws1 _ (B4.ext (Ext.trans c.h hx)) (B5.ext (Ext.trans c.h hx))) _))))
        exact wpQuiet_nil rfl
      refine wpH2_end (fun V7 hV7 => ⟨by kernel_rfl, ?_⟩)
      simp only [List.drop_succ_cons, List.drop_zero]
      go_wp2
      go_ret
      exact ⟨rfl, Ext.trans hW (Ext.trans X6 hV7)⟩
theorem tells_walk (N : Int) (A : Option Addr) (n n' c : Nat) (ws : List Nat) (N2 : Int) (A2 : Option Addr) (n2 n2' c2 : Nat) (vs : List Nat) (i m : Int) (w : World)
    (C : ∀ W : World, Calls Tryd.prog 12 #[.agg #[.int .i64 N, .slice A n c]] W fun e w' => e = .returned (.agg #[.int .i64 N, .slice A n' c]) ∧ Ext W w') (C2 : ∀ W : World, Calls Tryd.prog 12 #[.agg #[.int .i64 N2, .slice A2 n2 c2]] W fun e w' => e = .returned (.agg #[.int .i64 N2, .slice A2 n2' c2]) ∧ Ext W w') (B : Bt w A n' ws) (B2 : Bt w A2 n2' vs) (hG : G a w) :
    Calls Tryd.prog 3 #[.agg #[.int .i64 N, .slice A n c], .agg #[.int .i64 N2, .slice A2 n2 c2], .int .i64 i, .int .i64 m] w fun e w' => e = .returned (.bool true) ∧ Ext w w' := tells_walk' N A n n' c ws N2 A2 n2 n2' c2 vs i m w C C2 B B2 hG
end
end Go.Proofs.YtichgkeglgagfaaDoor
