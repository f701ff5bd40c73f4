/- Joined texts, in their order: KAdd, KOf. -/
import Derived.Test.YtopgbggighaknaaGreatDoorM17
import Derived.Test.YtopgbggighaknaaGreatDoorM18
import Derived.Test.YtopgbggighaknaaGreatDoorM16
import Derived.Test.YtopgbggighaknaaGreatDoorM07
/- kinds: Add, case by case (made by gen_kadd.py). -/
namespace Go.Proofs.YtopgbggighaknaaGreatDoor
open Go.RowKit Go
section
variable (A : Option Addr) (n c : Nat) (xs : List DRow) (L : List DescR) (A1 B1 : Option Addr) (n1 m1 c1 z1 : Nat) (s1 t1 : Int) (l1 r1 : List Int)
set_option maxHeartbeats 8000000 in
set_option maxRecDepth 100000 in
theorem kadd_50a (hn : n ≤ 1000000) (hc : n ≤ c) (hs : Small xs) (hn1 : n1 ≤ 1000) (hm1 : m1 ≤ 1000) (w : World) (hG : K.G w) (h : Dl w A n xs L) (hx : Dn w ⟨s1, A1, n1, c1, t1, B1, m1, z1⟩ ⟨s1, l1, t1, r1⟩) (hr : rightK L = false) (hd : rightB ⟨s1, l1, t1, r1⟩ = false) :
    Calls Tryz.prog 11 #[.slice A n c, .agg #[.int .i64 s1, .slice A1 n1 c1, .int .i64 t1, .slice B1 m1 z1]] w fun e w' => e = .returned (.tuple #[.slice none 0 0, .int .i64 0, .int .i64 50]) ∧ Ext w w' := by
  have HE := Lib.hid (ext1 w (.cells #[.int .i64 s1, .slice A1 n1 c1, .int .i64 t1, .slice B1 m1 z1] 25))
  have HB := Lib.hid (Blk.new w #[.int .i64 s1, .slice A1 n1 c1, .int .i64 t1, .slice B1 m1 z1] 25)
  have HG := Lib.hid (fun W (hW : Ext w W) => hG.ext hW)
  have RK := Lib.hid (fun W (hW : Ext w W) => noKinds_is A n c xs L hn hc hs W (hG.ext hW) (h.ext hW))
  have RD := Lib.hid (fun W (hW : Ext w W) => K.noDesc_is A1 B1 n1 m1 c1 z1 s1 t1 l1 r1 (by omega) (by omega) W (hG.ext hW) (hx.p.ext hW) (hx.q.ext hW))
  rw [hr] at RK
  rw [hd] at RD
  clear h hs hx hG hr hd
  go_enter Tryz.func11, Tryz.ntmps11
  go_wp2
  refine wp_region_XT2 7 6 rfl (by kernel_rfl) (by kernel_rfl) ?_
  intro HD
  refine wpH2_segL HD 0 1 5 rfl rfl (Ext.refl _) (by kernel_rfl) ?_
  apply Exists.intro
  refine ⟨fun cw => ?_, ?_⟩
  · simp only [List.take_succ_cons, List.take_zero, List.drop_zero]
    repeat (go_big_quiet_step (fail))
    exact wpQuiet_nil rfl
  refine wpH2_segL HD 2 1 4 rfl rfl (Ext.refl _) (by kernel_rfl) ?_
  apply Exists.intro
  refine ⟨fun cw => ?_, ?_⟩
  · have p0 := on_cell ((HB.out.ext cw.h).cell 0)
    have p1 := on_cell ((HB.out.ext cw.h).cell 1)
    have p2 := on_cell ((HB.out.ext cw.h).cell 2)
    have p3 := on_cell ((HB.out.ext cw.h).cell 3)
    simp only [List.take_succ_cons, List.take_zero, List.drop_succ_cons, List.drop_zero]
    repeat (go_big_quiet_step (fail))
    exact wpQuiet_nil rfl
  refine wpH2_stepL 1 3 rfl rfl rfl (by kernel_rfl) ?_
  intro V hV KK hK
  go_simp
  refine (RK.out V (Ext.trans HE.out hV)).mono ?_
  rintro e V2 ⟨⟨v1, rfl, hv1⟩, k2⟩
  have C1 := Lib.hid (show K.Code v1 50 from hv1)
  obtain ⟨te1, pe1, rfl⟩ := K.code_err C1.out (by decide)
  clear hv1
  have X2 := Ext.trans hV k2
  refine hK.out _ _ X2 ?_
  clear hK KK
  refine wpH2_stepL 3 2 rfl rfl rfl (by kernel_rfl) ?_
  intro V3 hV3 KK hK
  go_simp
  refine (RD.out V3 (Ext.trans HE.out (Ext.trans X2 hV3))).mono ?_
  rintro e V4 ⟨⟨v2, rfl, hv2⟩, k4⟩
  have C2 := Lib.hid (show K.Code v2 40 from hv2)
  obtain ⟨te2, pe2, rfl⟩ := K.code_err C2.out (by decide)
  clear hv2
  have X4 := Ext.trans X2 (Ext.trans hV3 k4)
  refine hK.out _ _ X4 ?_
  clear hK KK
  refine wpH2_stepL 4 1 rfl rfl rfl (by kernel_rfl) ?_
  intro V5 hV5 KK hK
  go_simp
  have X5 := fun o => Ext.trans X4 (Ext.trans hV5 (ext1 V5 o))
  refine hK.out _ _ (X5 _) ?_
  clear hK KK
  refine wpH2_stepL 5 0 rfl rfl rfl (by kernel_rfl) ?_
  intro V6 hV6 KK hK
  go_simp
  have X6 := Ext.trans (X5 _) hV6
  refine (K.told2_is 50 40 _ _ V5.heap.size 48 V6 (HG.out V6 (Ext.trans HE.out X6)) ((Blk.new V5 _ _).ext hV6) C1.out C2.out).mono ?_
  rintro e V7 ⟨rfl, k7⟩
  have X7 := Ext.trans X6 k7
  refine hK.out _ _ X7 ?_
  clear hK KK
  refine wpH2_end (fun V8 hV8 => ⟨by kernel_rfl, ?_⟩)
  have kw := Ext.trans HE.out (Ext.trans X7 hV8)
  have bR := HB.out.ext (Ext.trans X7 hV8)
  have q0 := bR.cell 0
  have q1 := bR.cell 1
  have q2 := bR.cell 2
  have q3 := bR.cell 3
  simp only [List.getElem?_toArray, List.getElem?_cons_zero, List.getElem?_cons_succ] at q0 q1 q2 q3
  clear HD X2 X4 X5 X6 X7 hV hV3 hV5 hV6 hV8 k2 k4 k7
  simp only [List.drop_succ_cons, List.drop_zero]
  go_wp2
  go_ret3
  exact ⟨rfl, kw⟩
set_option maxHeartbeats 8000000 in
set_option maxRecDepth 100000 in
theorem kadd_50b (hn : n ≤ 1000000) (hc : n ≤ c) (hs : Small xs) (hn1 : n1 ≤ 1000) (hm1 : m1 ≤ 1000) (w : World) (hG : K.G w) (h : Dl w A n xs L) (hx : Dn w ⟨s1, A1, n1, c1, t1, B1, m1, z1⟩ ⟨s1, l1, t1, r1⟩) (hr : rightK L = false) (hd : rightB ⟨s1, l1, t1, r1⟩ = true) :
    Calls Tryz.prog 11 #[.slice A n c, .agg #[.int .i64 s1, .slice A1 n1 c1, .int .i64 t1, .slice B1 m1 z1]] w fun e w' => e = .returned (.tuple #[.slice none 0 0, .int .i64 0, .int .i64 50]) ∧ Ext w w' := by
  have HE := Lib.hid (ext1 w (.cells #[.int .i64 s1, .slice A1 n1 c1, .int .i64 t1, .slice B1 m1 z1] 25))
  have HB := Lib.hid (Blk.new w #[.int .i64 s1, .slice A1 n1 c1, .int .i64 t1, .slice B1 m1 z1] 25)
  have HG := Lib.hid (fun W (hW : Ext w W) => hG.ext hW)
  have RK := Lib.hid (fun W (hW : Ext w W) => noKinds_is A n c xs L hn hc hs W (hG.ext hW) (h.ext hW))
  have RD := Lib.hid (fun W (hW : Ext w W) => K.noDesc_is A1 B1 n1 m1 c1 z1 s1 t1 l1 r1 (by omega) (by omega) W (hG.ext hW) (hx.p.ext hW) (hx.q.ext hW))
  rw [hr] at RK
  rw [hd] at RD
  clear h hs hx hG hr hd
  go_enter Tryz.func11, Tryz.ntmps11
  go_wp2
  refine wp_region_XT2 7 6 rfl (by kernel_rfl) (by kernel_rfl) ?_
  intro HD
  refine wpH2_segL HD 0 1 5 rfl rfl (Ext.refl _) (by kernel_rfl) ?_
  apply Exists.intro
  refine ⟨fun cw => ?_, ?_⟩
  · simp only [List.take_succ_cons, List.take_zero, List.drop_zero]
    repeat (go_big_quiet_step (fail))
    exact wpQuiet_nil rfl
  refine wpH2_segL HD 2 1 4 rfl rfl (Ext.refl _) (by kernel_rfl) ?_
  apply Exists.intro
  refine ⟨fun cw => ?_, ?_⟩
  · have p0 := on_cell ((HB.out.ext cw.h).cell 0)
    have p1 := on_cell ((HB.out.ext cw.h).cell 1)
    have p2 := on_cell ((HB.out.ext cw.h).cell 2)
    have p3 := on_cell ((HB.out.ext cw.h).cell 3)
    simp only [List.take_succ_cons, List.take_zero, List.drop_succ_cons, List.drop_zero]
    repeat (go_big_quiet_step (fail))
    exact wpQuiet_nil rfl
  refine wpH2_stepL 1 3 rfl rfl rfl (by kernel_rfl) ?_
  intro V hV KK hK
  go_simp
  refine (RK.out V (Ext.trans HE.out hV)).mono ?_
  rintro e V2 ⟨⟨v1, rfl, hv1⟩, k2⟩
  have C1 := Lib.hid (show K.Code v1 50 from hv1)
  obtain ⟨te1, pe1, rfl⟩ := K.code_err C1.out (by decide)
  clear hv1
  have X2 := Ext.trans hV k2
  refine hK.out _ _ X2 ?_
  clear hK KK
  refine wpH2_stepL 3 2 rfl rfl rfl (by kernel_rfl) ?_
  intro V3 hV3 KK hK
  go_simp
  refine (RD.out V3 (Ext.trans HE.out (Ext.trans X2 hV3))).mono ?_
  rintro e V4 ⟨⟨v2, rfl, hv2⟩, k4⟩
  obtain rfl := K.code_nil hv2 rfl
  clear hv2
  have C2 := Lib.hid K.code_0
  have X4 := Ext.trans X2 (Ext.trans hV3 k4)
  refine hK.out _ _ X4 ?_
  clear hK KK
  refine wpH2_stepL 4 1 rfl rfl rfl (by kernel_rfl) ?_
  intro V5 hV5 KK hK
  go_simp
  have X5 := fun o => Ext.trans X4 (Ext.trans hV5 (ext1 V5 o))
  refine hK.out _ _ (X5 _) ?_
  clear hK KK
  refine wpH2_stepL 5 0 rfl rfl rfl (by kernel_rfl) ?_
  intro V6 hV6 KK hK
  go_simp
  have X6 := Ext.trans (X5 _) hV6
  refine (K.told2_is 50 0 _ _ V5.heap.size 48 V6 (HG.out V6 (Ext.trans HE.out X6)) ((Blk.new V5 _ _).ext hV6) C1.out C2.out).mono ?_
  rintro e V7 ⟨rfl, k7⟩
  have X7 := Ext.trans X6 k7
  refine hK.out _ _ X7 ?_
  clear hK KK
  refine wpH2_end (fun V8 hV8 => ⟨by kernel_rfl, ?_⟩)
  have kw := Ext.trans HE.out (Ext.trans X7 hV8)
  have bR := HB.out.ext (Ext.trans X7 hV8)
  have q0 := bR.cell 0
  have q1 := bR.cell 1
  have q2 := bR.cell 2
  have q3 := bR.cell 3
  simp only [List.getElem?_toArray, List.getElem?_cons_zero, List.getElem?_cons_succ] at q0 q1 q2 q3
  clear HD X2 X4 X5 X6 X7 hV hV3 hV5 hV6 hV8 k2 k4 k7
  simp only [List.drop_succ_cons, List.drop_zero]
  go_wp2
  go_ret3
  exact ⟨rfl, kw⟩
set_option maxHeartbeats 8000000 in
set_option maxRecDepth 100000 in
theorem kadd_40 (hn : n ≤ 1000000) (hc : n ≤ c) (hs : Small xs) (hn1 : n1 ≤ 1000) (hm1 : m1 ≤ 1000) (w : World) (hG : K.G w) (h : Dl w A n xs L) (hx : Dn w ⟨s1, A1, n1, c1, t1, B1, m1, z1⟩ ⟨s1, l1, t1, r1⟩) (hr : rightK L = true) (hd : rightB ⟨s1, l1, t1, r1⟩ = false) :
    Calls Tryz.prog 11 #[.slice A n c, .agg #[.int .i64 s1, .slice A1 n1 c1, .int .i64 t1, .slice B1 m1 z1]] w fun e w' => e = .returned (.tuple #[.slice none 0 0, .int .i64 0, .int .i64 40]) ∧ Ext w w' := by
  have HE := Lib.hid (ext1 w (.cells #[.int .i64 s1, .slice A1 n1 c1, .int .i64 t1, .slice B1 m1 z1] 25))
  have HB := Lib.hid (Blk.new w #[.int .i64 s1, .slice A1 n1 c1, .int .i64 t1, .slice B1 m1 z1] 25)
  have HG := Lib.hid (fun W (hW : Ext w W) => hG.ext hW)
  have RK := Lib.hid (fun W (hW : Ext w W) => noKinds_is A n c xs L hn hc hs W (hG.ext hW) (h.ext hW))
  have RD := Lib.hid (fun W (hW : Ext w W) => K.noDesc_is A1 B1 n1 m1 c1 z1 s1 t1 l1 r1 (by omega) (by omega) W (hG.ext hW) (hx.p.ext hW) (hx.q.ext hW))
  rw [hr] at RK
  rw [hd] at RD
  clear h hs hx hG hr hd
  go_enter Tryz.func11, Tryz.ntmps11
  go_wp2
  refine wp_region_XT2 7 6 rfl (by kernel_rfl) (by kernel_rfl) ?_
  intro HD
  refine wpH2_segL HD 0 1 5 rfl rfl (Ext.refl _) (by kernel_rfl) ?_
  apply Exists.intro
  refine ⟨fun cw => ?_, ?_⟩
  · simp only [List.take_succ_cons, List.take_zero, List.drop_zero]
    repeat (go_big_quiet_step (fail))
    exact wpQuiet_nil rfl
  refine wpH2_segL HD 2 1 4 rfl rfl (Ext.refl _) (by kernel_rfl) ?_
  apply Exists.intro
  refine ⟨fun cw => ?_, ?_⟩
  · have p0 := on_cell ((HB.out.ext cw.h).cell 0)
    have p1 := on_cell ((HB.out.ext cw.h).cell 1)
    have p2 := on_cell ((HB.out.ext cw.h).cell 2)
    have p3 := on_cell ((HB.out.ext cw.h).cell 3)
    simp only [List.take_succ_cons, List.take_zero, List.drop_succ_cons, List.drop_zero]
    repeat (go_big_quiet_step (fail))
    exact wpQuiet_nil rfl
  refine wpH2_stepL 1 3 rfl rfl rfl (by kernel_rfl) ?_
  intro V hV KK hK
  go_simp
  refine (RK.out V (Ext.trans HE.out hV)).mono ?_
  rintro e V2 ⟨⟨v1, rfl, hv1⟩, k2⟩
  obtain rfl := K.code_nil hv1 rfl
  clear hv1
  have C1 := Lib.hid K.code_0
  have X2 := Ext.trans hV k2
  refine hK.out _ _ X2 ?_
  clear hK KK
  refine wpH2_stepL 3 2 rfl rfl rfl (by kernel_rfl) ?_
  intro V3 hV3 KK hK
  go_simp
  refine (RD.out V3 (Ext.trans HE.out (Ext.trans X2 hV3))).mono ?_
  rintro e V4 ⟨⟨v2, rfl, hv2⟩, k4⟩
  have C2 := Lib.hid (show K.Code v2 40 from hv2)
  obtain ⟨te2, pe2, rfl⟩ := K.code_err C2.out (by decide)
  clear hv2
  have X4 := Ext.trans X2 (Ext.trans hV3 k4)
  refine hK.out _ _ X4 ?_
  clear hK KK
  refine wpH2_stepL 4 1 rfl rfl rfl (by kernel_rfl) ?_
  intro V5 hV5 KK hK
  go_simp
  have X5 := fun o => Ext.trans X4 (Ext.trans hV5 (ext1 V5 o))
  refine hK.out _ _ (X5 _) ?_
  clear hK KK
  refine wpH2_stepL 5 0 rfl rfl rfl (by kernel_rfl) ?_
  intro V6 hV6 KK hK
  go_simp
  have X6 := Ext.trans (X5 _) hV6
  refine (K.told2_is 0 40 _ _ V5.heap.size 48 V6 (HG.out V6 (Ext.trans HE.out X6)) ((Blk.new V5 _ _).ext hV6) C1.out C2.out).mono ?_
  rintro e V7 ⟨rfl, k7⟩
  have X7 := Ext.trans X6 k7
  refine hK.out _ _ X7 ?_
  clear hK KK
  refine wpH2_end (fun V8 hV8 => ⟨by kernel_rfl, ?_⟩)
  have kw := Ext.trans HE.out (Ext.trans X7 hV8)
  have bR := HB.out.ext (Ext.trans X7 hV8)
  have q0 := bR.cell 0
  have q1 := bR.cell 1
  have q2 := bR.cell 2
  have q3 := bR.cell 3
  simp only [List.getElem?_toArray, List.getElem?_cons_zero, List.getElem?_cons_succ] at q0 q1 q2 q3
  clear HD X2 X4 X5 X6 X7 hV hV3 hV5 hV6 hV8 k2 k4 k7
  simp only [List.drop_succ_cons, List.drop_zero]
  go_wp2
  go_ret3
  exact ⟨rfl, kw⟩
set_option maxHeartbeats 8000000 in
set_option maxRecDepth 100000 in
theorem kadd_there (hn : n ≤ 1000000) (hc : n ≤ c) (hs : Small xs) (hn1 : n1 ≤ 1000) (hm1 : m1 ≤ 1000) (w : World) (hG : K.G w) (h : Dl w A n xs L) (hx : Dn w ⟨s1, A1, n1, c1, t1, B1, m1, z1⟩ ⟨s1, l1, t1, r1⟩) (hr : rightK L = true) (hd : rightB ⟨s1, l1, t1, r1⟩ = true) (hf : (⟨s1, l1, t1, r1⟩ : DescR) ∈ L) :
    Calls Tryz.prog 11 #[.slice A n c, .agg #[.int .i64 s1, .slice A1 n1 c1, .int .i64 t1, .slice B1 m1 z1]] w fun e w' => ∃ A' c' xs', e = .returned (.tuple #[.slice A' n c', .int .i64 ((findK L ⟨s1, l1, t1, r1⟩ : Nat) : Int), .int .i64 0]) ∧ n ≤ c' ∧ Dl w' A' n xs' L ∧ Small xs' ∧ Ext w w' := by
  have HE := Lib.hid (ext1 w (.cells #[.int .i64 s1, .slice A1 n1 c1, .int .i64 t1, .slice B1 m1 z1] 25))
  have HB := Lib.hid (Blk.new w #[.int .i64 s1, .slice A1 n1 c1, .int .i64 t1, .slice B1 m1 z1] 25)
  have HG := Lib.hid (fun W (hW : Ext w W) => hG.ext hW)
  have RK := Lib.hid (fun W (hW : Ext w W) => noKinds_is A n c xs L hn hc hs W (hG.ext hW) (h.ext hW))
  have RD := Lib.hid (fun W (hW : Ext w W) => K.noDesc_is A1 B1 n1 m1 c1 z1 s1 t1 l1 r1 (by omega) (by omega) W (hG.ext hW) (hx.p.ext hW) (hx.q.ext hW))
  rw [hr] at RK
  rw [hd] at RD
  have RF := Lib.hid (fun W (hW : Ext w W) => kfind_is A n c xs L hn hs A1 B1 n1 m1 c1 z1 s1 t1 l1 r1 W (h.ext hW) (hx.p.ext hW) (hx.q.ext hW))
  have RC := Lib.hid (fun W (hW : Ext w W) => copied_is A n c xs L hn hs W (h.ext hW))
  rw [decide_eq_true hf] at RF
  clear hf
  generalize findK L ⟨s1, l1, t1, r1⟩ = f at *
  clear h hs hx hG hr hd
  go_enter Tryz.func11, Tryz.ntmps11
  go_wp2
  refine wp_region_XT2 7 6 rfl (by kernel_rfl) (by kernel_rfl) ?_
  intro HD
  refine wpH2_segL HD 0 1 5 rfl rfl (Ext.refl _) (by kernel_rfl) ?_
  apply Exists.intro
  refine ⟨fun cw => ?_, ?_⟩
  · simp only [List.take_succ_cons, List.take_zero, List.drop_zero]
    repeat (go_big_quiet_step (fail))
    exact wpQuiet_nil rfl
  refine wpH2_segL HD 2 1 4 rfl rfl (Ext.refl _) (by kernel_rfl) ?_
  apply Exists.intro
  refine ⟨fun cw => ?_, ?_⟩
  · have p0 := on_cell ((HB.out.ext cw.h).cell 0)
    have p1 := on_cell ((HB.out.ext cw.h).cell 1)
    have p2 := on_cell ((HB.out.ext cw.h).cell 2)
    have p3 := on_cell ((HB.out.ext cw.h).cell 3)
    simp only [List.take_succ_cons, List.take_zero, List.drop_succ_cons, List.drop_zero]
    repeat (go_big_quiet_step (fail))
    exact wpQuiet_nil rfl
  refine wpH2_stepL 1 3 rfl rfl rfl (by kernel_rfl) ?_
  intro V hV KK hK
  go_simp
  refine (RK.out V (Ext.trans HE.out hV)).mono ?_
  rintro e V2 ⟨⟨v1, rfl, hv1⟩, k2⟩
  obtain rfl := K.code_nil hv1 rfl
  clear hv1
  have C1 := Lib.hid K.code_0
  have X2 := Ext.trans hV k2
  refine hK.out _ _ X2 ?_
  clear hK KK
  refine wpH2_stepL 3 2 rfl rfl rfl (by kernel_rfl) ?_
  intro V3 hV3 KK hK
  go_simp
  refine (RD.out V3 (Ext.trans HE.out (Ext.trans X2 hV3))).mono ?_
  rintro e V4 ⟨⟨v2, rfl, hv2⟩, k4⟩
  obtain rfl := K.code_nil hv2 rfl
  clear hv2
  have C2 := Lib.hid K.code_0
  have X4 := Ext.trans X2 (Ext.trans hV3 k4)
  refine hK.out _ _ X4 ?_
  clear hK KK
  refine wpH2_stepL 4 1 rfl rfl rfl (by kernel_rfl) ?_
  intro V5 hV5 KK hK
  go_simp
  have X5 := fun o => Ext.trans X4 (Ext.trans hV5 (ext1 V5 o))
  refine hK.out _ _ (X5 _) ?_
  clear hK KK
  refine wpH2_stepL 5 0 rfl rfl rfl (by kernel_rfl) ?_
  intro V6 hV6 KK hK
  go_simp
  have X6 := Ext.trans (X5 _) hV6
  refine (K.told2_is 0 0 _ _ V5.heap.size 48 V6 (HG.out V6 (Ext.trans HE.out X6)) ((Blk.new V5 _ _).ext hV6) C1.out C2.out).mono ?_
  rintro e V7 ⟨rfl, k7⟩
  have X7 := Ext.trans X6 k7
  refine hK.out _ _ X7 ?_
  clear hK KK
  refine wpH2_end (fun V8 hV8 => ⟨by kernel_rfl, ?_⟩)
  have kw := Ext.trans HE.out (Ext.trans X7 hV8)
  have bR := HB.out.ext (Ext.trans X7 hV8)
  have q0 := bR.cell 0
  have q1 := bR.cell 1
  have q2 := bR.cell 2
  have q3 := bR.cell 3
  simp only [List.getElem?_toArray, List.getElem?_cons_zero, List.getElem?_cons_succ] at q0 q1 q2 q3
  clear HD X2 X4 X5 X6 X7 hV hV3 hV5 hV6 hV8 k2 k4 k7
  simp only [List.drop_succ_cons, List.drop_zero]
  go_wp2_with (first | (go_at_call 15; refine (RF.out _ kw).mono ?_; rintro e w3 ⟨rfl, k3⟩; replace kw := Ext.trans kw k3) | (go_at_call 31; refine (RC.out _ kw).mono ?_; rintro e w4 ⟨ad, xs', rfl, a1, a2, a3, k4⟩; have HH := Lib.hid (And.intro a1 a2); clear a1 a2))
  go_ret3
  exact ⟨some ad, n, xs', rfl, Nat.le_refl _, HH.out.1, HH.out.2, Ext.trans kw k4⟩
set_option maxHeartbeats 8000000 in
set_option maxRecDepth 100000 in
theorem kadd_many (hn : n ≤ 1000000) (hc : n ≤ c) (hs : Small xs) (hn1 : n1 ≤ 1000) (hm1 : m1 ≤ 1000) (w : World) (hG : K.G w) (h : Dl w A n xs L) (hx : Dn w ⟨s1, A1, n1, c1, t1, B1, m1, z1⟩ ⟨s1, l1, t1, r1⟩) (h6 : n = 60) (hr : rightK L = true) (hd : rightB ⟨s1, l1, t1, r1⟩ = true) (hf : (⟨s1, l1, t1, r1⟩ : DescR) ∉ L) :
    Calls Tryz.prog 11 #[.slice A n c, .agg #[.int .i64 s1, .slice A1 n1 c1, .int .i64 t1, .slice B1 m1 z1]] w fun e w' => e = .returned (.tuple #[.slice none 0 0, .int .i64 0, .int .i64 53]) ∧ Ext w w' := by
  have HE := Lib.hid (ext1 w (.cells #[.int .i64 s1, .slice A1 n1 c1, .int .i64 t1, .slice B1 m1 z1] 25))
  have HB := Lib.hid (Blk.new w #[.int .i64 s1, .slice A1 n1 c1, .int .i64 t1, .slice B1 m1 z1] 25)
  have HG := Lib.hid (fun W (hW : Ext w W) => hG.ext hW)
  have RK := Lib.hid (fun W (hW : Ext w W) => noKinds_is A n c xs L hn hc hs W (hG.ext hW) (h.ext hW))
  have RD := Lib.hid (fun W (hW : Ext w W) => K.noDesc_is A1 B1 n1 m1 c1 z1 s1 t1 l1 r1 (by omega) (by omega) W (hG.ext hW) (hx.p.ext hW) (hx.q.ext hW))
  rw [hr] at RK
  rw [hd] at RD
  have RF := Lib.hid (fun W (hW : Ext w W) => kfind_is A n c xs L hn hs A1 B1 n1 m1 c1 z1 s1 t1 l1 r1 W (h.ext hW) (hx.p.ext hW) (hx.q.ext hW))
  rw [decide_eq_false hf] at RF
  clear hf
  generalize findK L ⟨s1, l1, t1, r1⟩ = f at *
  have H6 := Lib.hid h6
  clear h6
  clear h hs hx hG hr hd
  go_enter Tryz.func11, Tryz.ntmps11
  go_wp2
  refine wp_region_XT2 7 6 rfl (by kernel_rfl) (by kernel_rfl) ?_
  intro HD
  refine wpH2_segL HD 0 1 5 rfl rfl (Ext.refl _) (by kernel_rfl) ?_
  apply Exists.intro
  refine ⟨fun cw => ?_, ?_⟩
  · simp only [List.take_succ_cons, List.take_zero, List.drop_zero]
    repeat (go_big_quiet_step (fail))
    exact wpQuiet_nil rfl
  refine wpH2_segL HD 2 1 4 rfl rfl (Ext.refl _) (by kernel_rfl) ?_
  apply Exists.intro
  refine ⟨fun cw => ?_, ?_⟩
  · have p0 := on_cell ((HB.out.ext cw.h).cell 0)
    have p1 := on_cell ((HB.out.ext cw.h).cell 1)
    have p2 := on_cell ((HB.out.ext cw.h).cell 2)
    have p3 := on_cell ((HB.out.ext cw.h).cell 3)
    simp only [List.take_succ_cons, List.take_zero, List.drop_succ_cons, List.drop_zero]
    repeat (go_big_quiet_step (fail))
    exact wpQuiet_nil rfl
  refine wpH2_stepL 1 3 rfl rfl rfl (by kernel_rfl) ?_
  intro V hV KK hK
  go_simp
  refine (RK.out V (Ext.trans HE.out hV)).mono ?_
  rintro e V2 ⟨⟨v1, rfl, hv1⟩, k2⟩
  obtain rfl := K.code_nil hv1 rfl
  clear hv1
  have C1 := Lib.hid K.code_0
  have X2 := Ext.trans hV k2
  refine hK.out _ _ X2 ?_
  clear hK KK
  refine wpH2_stepL 3 2 rfl rfl rfl (by kernel_rfl) ?_
  intro V3 hV3 KK hK
  go_simp
  refine (RD.out V3 (Ext.trans HE.out (Ext.trans X2 hV3))).mono ?_
  rintro e V4 ⟨⟨v2, rfl, hv2⟩, k4⟩
  obtain rfl := K.code_nil hv2 rfl
  clear hv2
  have C2 := Lib.hid K.code_0
  have X4 := Ext.trans X2 (Ext.trans hV3 k4)
  refine hK.out _ _ X4 ?_
  clear hK KK
  refine wpH2_stepL 4 1 rfl rfl rfl (by kernel_rfl) ?_
  intro V5 hV5 KK hK
  go_simp
  have X5 := fun o => Ext.trans X4 (Ext.trans hV5 (ext1 V5 o))
  refine hK.out _ _ (X5 _) ?_
  clear hK KK
  refine wpH2_stepL 5 0 rfl rfl rfl (by kernel_rfl) ?_
  intro V6 hV6 KK hK
  go_simp
  have X6 := Ext.trans (X5 _) hV6
  refine (K.told2_is 0 0 _ _ V5.heap.size 48 V6 (HG.out V6 (Ext.trans HE.out X6)) ((Blk.new V5 _ _).ext hV6) C1.out C2.out).mono ?_
  rintro e V7 ⟨rfl, k7⟩
  have X7 := Ext.trans X6 k7
  refine hK.out _ _ X7 ?_
  clear hK KK
  refine wpH2_end (fun V8 hV8 => ⟨by kernel_rfl, ?_⟩)
  have kw := Ext.trans HE.out (Ext.trans X7 hV8)
  have bR := HB.out.ext (Ext.trans X7 hV8)
  have q0 := bR.cell 0
  have q1 := bR.cell 1
  have q2 := bR.cell 2
  have q3 := bR.cell 3
  simp only [List.getElem?_toArray, List.getElem?_cons_zero, List.getElem?_cons_succ] at q0 q1 q2 q3
  clear HD X2 X4 X5 X6 X7 hV hV3 hV5 hV6 hV8 k2 k4 k7
  simp only [List.drop_succ_cons, List.drop_zero]
  go_wp2_with (first | (go_at_call 15; refine (RF.out _ kw).mono ?_; rintro e w3 ⟨rfl, k3⟩; replace kw := Ext.trans kw k3) | (go_at_call 32; refine (noRoom_is n _ (HG.out _ kw)).mono ?_; rintro e w4 ⟨⟨v4, rfl, hv4⟩, k4⟩; replace kw := Ext.trans kw k4; rw [decide_eq_false (by have := H6.out; omega)] at hv4; have C4 := Lib.hid (show K.Code v4 53 from hv4); obtain ⟨te4, pe4, rfl⟩ := K.code_err C4.out (by decide); clear hv4) | (go_at_call 28; (refine (K.told1_is 53 _ _ 48 _ (HG.out _ (Ext.trans kw (ext1 _ _))) (Blk.new _ _ _) C4.out).mono ?_); rintro e w5 ⟨rfl, k5⟩; replace kw := Ext.trans kw (Ext.trans (ext1 _ _) k5)))
  go_ret3
  exact ⟨rfl, kw⟩
set_option maxHeartbeats 8000000 in
set_option maxRecDepth 100000 in
theorem kadd_new (hn : n ≤ 1000000) (hc : n ≤ c) (hs : Small xs) (hn1 : n1 ≤ 1000) (hm1 : m1 ≤ 1000) (w : World) (hG : K.G w) (h : Dl w A n xs L) (hx : Dn w ⟨s1, A1, n1, c1, t1, B1, m1, z1⟩ ⟨s1, l1, t1, r1⟩) (h6 : n < 60) (hr : rightK L = true) (hd : rightB ⟨s1, l1, t1, r1⟩ = true) (hf : (⟨s1, l1, t1, r1⟩ : DescR) ∉ L) :
    Calls Tryz.prog 11 #[.slice A n c, .agg #[.int .i64 s1, .slice A1 n1 c1, .int .i64 t1, .slice B1 m1 z1]] w fun e w' => ∃ A' c' xs', e = .returned (.tuple #[.slice A' (n + 1) c', .int .i64 ((n : Int) + 1), .int .i64 0]) ∧ n + 1 ≤ c' ∧ Dl w' A' (n + 1) xs' (L ++ [⟨s1, l1, t1, r1⟩]) ∧ Small xs' ∧ Ext w w' := by
  have HE := Lib.hid (ext1 w (.cells #[.int .i64 s1, .slice A1 n1 c1, .int .i64 t1, .slice B1 m1 z1] 25))
  have HB := Lib.hid (Blk.new w #[.int .i64 s1, .slice A1 n1 c1, .int .i64 t1, .slice B1 m1 z1] 25)
  have HG := Lib.hid (fun W (hW : Ext w W) => hG.ext hW)
  have RK := Lib.hid (fun W (hW : Ext w W) => noKinds_is A n c xs L hn hc hs W (hG.ext hW) (h.ext hW))
  have RD := Lib.hid (fun W (hW : Ext w W) => K.noDesc_is A1 B1 n1 m1 c1 z1 s1 t1 l1 r1 (by omega) (by omega) W (hG.ext hW) (hx.p.ext hW) (hx.q.ext hW))
  rw [hr] at RK
  rw [hd] at RD
  have RF := Lib.hid (fun W (hW : Ext w W) => kfind_is A n c xs L hn hs A1 B1 n1 m1 c1 z1 s1 t1 l1 r1 W (h.ext hW) (hx.p.ext hW) (hx.q.ext hW))
  have RB := Lib.hid (fun ad1 W (hW : Ext w W) hnews => behind_is A n c xs L hn hc ⟨s1, A1, n1, c1, t1, B1, m1, z1⟩ ⟨s1, l1, t1, r1⟩ ad1 W (h.ext hW) (hx.ext hW) hnews)
  have HS := Lib.hid (hs.snoc ⟨s1, A1, n1, c1, t1, B1, m1, z1⟩ hn1 hm1)
  rw [decide_eq_false hf] at RF
  clear hf
  have h61 : (n : Int) < 60 := by omega
  have H6 := Lib.hid h6
  clear h6
  generalize findK L ⟨s1, l1, t1, r1⟩ = f at *
  clear h hs hx hG hr hd
  go_enter Tryz.func11, Tryz.ntmps11
  go_wp2
  refine wp_region_XT2 7 6 rfl (by kernel_rfl) (by kernel_rfl) ?_
  intro HD
  refine wpH2_segL HD 0 1 5 rfl rfl (Ext.refl _) (by kernel_rfl) ?_
  apply Exists.intro
  refine ⟨fun cw => ?_, ?_⟩
  · simp only [List.take_succ_cons, List.take_zero, List.drop_zero]
    repeat (go_big_quiet_step (fail))
    exact wpQuiet_nil rfl
  refine wpH2_segL HD 2 1 4 rfl rfl (Ext.refl _) (by kernel_rfl) ?_
  apply Exists.intro
  refine ⟨fun cw => ?_, ?_⟩
  · have p0 := on_cell ((HB.out.ext cw.h).cell 0)
    have p1 := on_cell ((HB.out.ext cw.h).cell 1)
    have p2 := on_cell ((HB.out.ext cw.h).cell 2)
    have p3 := on_cell ((HB.out.ext cw.h).cell 3)
    simp only [List.take_succ_cons, List.take_zero, List.drop_succ_cons, List.drop_zero]
    repeat (go_big_quiet_step (fail))
    exact wpQuiet_nil rfl
  refine wpH2_stepL 1 3 rfl rfl rfl (by kernel_rfl) ?_
  intro V hV KK hK
  go_simp
  refine (RK.out V (Ext.trans HE.out hV)).mono ?_
  rintro e V2 ⟨⟨v1, rfl, hv1⟩, k2⟩
  obtain rfl := K.code_nil hv1 rfl
  clear hv1
  have C1 := Lib.hid K.code_0
  have X2 := Ext.trans hV k2
  refine hK.out _ _ X2 ?_
  clear hK KK
  refine wpH2_stepL 3 2 rfl rfl rfl (by kernel_rfl) ?_
  intro V3 hV3 KK hK
  go_simp
  refine (RD.out V3 (Ext.trans HE.out (Ext.trans X2 hV3))).mono ?_
  rintro e V4 ⟨⟨v2, rfl, hv2⟩, k4⟩
  obtain rfl := K.code_nil hv2 rfl
  clear hv2
  have C2 := Lib.hid K.code_0
  have X4 := Ext.trans X2 (Ext.trans hV3 k4)
  refine hK.out _ _ X4 ?_
  clear hK KK
  refine wpH2_stepL 4 1 rfl rfl rfl (by kernel_rfl) ?_
  intro V5 hV5 KK hK
  go_simp
  have X5 := fun o => Ext.trans X4 (Ext.trans hV5 (ext1 V5 o))
  refine hK.out _ _ (X5 _) ?_
  clear hK KK
  refine wpH2_stepL 5 0 rfl rfl rfl (by kernel_rfl) ?_
  intro V6 hV6 KK hK
  go_simp
  have X6 := Ext.trans (X5 _) hV6
  refine (K.told2_is 0 0 _ _ V5.heap.size 48 V6 (HG.out V6 (Ext.trans HE.out X6)) ((Blk.new V5 _ _).ext hV6) C1.out C2.out).mono ?_
  rintro e V7 ⟨rfl, k7⟩
  have X7 := Ext.trans X6 k7
  refine hK.out _ _ X7 ?_
  clear hK KK
  refine wpH2_end (fun V8 hV8 => ⟨by kernel_rfl, ?_⟩)
  have kw := Ext.trans HE.out (Ext.trans X7 hV8)
  have bR := HB.out.ext (Ext.trans X7 hV8)
  have q0 := bR.cell 0
  have q1 := bR.cell 1
  have q2 := bR.cell 2
  have q3 := bR.cell 3
  simp only [List.getElem?_toArray, List.getElem?_cons_zero, List.getElem?_cons_succ] at q0 q1 q2 q3
  clear HD X2 X4 X5 X6 X7 hV hV3 hV5 hV6 hV8 k2 k4 k7
  simp only [List.drop_succ_cons, List.drop_zero]
  go_wp2_with (first | (go_at_call 15; refine (RF.out _ kw).mono ?_; rintro e w3 ⟨rfl, k3⟩; replace kw := Ext.trans kw k3; replace bR := bR.ext k3; clear q0 q1 q2 q3; have q0 := bR.cell 0; have q1 := bR.cell 1; have q2 := bR.cell 2; have q3 := bR.cell 3; simp only [List.getElem?_toArray, List.getElem?_cons_zero, List.getElem?_cons_succ] at q0 q1 q2 q3) | (go_at_call 32; refine (noRoom_is n _ (HG.out _ kw)).mono ?_; rintro e w4 ⟨⟨v4, rfl, hv4⟩, k4⟩; replace kw := Ext.trans kw k4; rw [decide_eq_true H6.out] at hv4; obtain rfl := K.code_nil hv4 rfl; clear hv4; have C4 := Lib.hid K.code_0) | (go_at_call 28; (refine (K.told1_is 0 _ _ 48 _ (HG.out _ (Ext.trans kw (ext1 _ _))) (Blk.new _ _ _) C4.out).mono ?_); rintro e w5 ⟨rfl, k5⟩; replace kw := Ext.trans kw (Ext.trans (ext1 _ _) k5); replace bR := ((bR.ext k4).ext (ext1 _ _)).ext k5; clear q0 q1 q2 q3; have q0 := bR.cell 0; have q1 := bR.cell 1; have q2 := bR.cell 2; have q3 := bR.cell 3; simp only [List.getElem?_toArray, List.getElem?_cons_zero, List.getElem?_cons_succ] at q0 q1 q2 q3) | (go_at_call 33; refine (RB.out _ _ (Ext.trans kw (ext1 _ _)) (fun j u hj => new_cells1 _ _ _ j u (by simpa [DRow.cells] using hj))).mono ?_; rintro e w6 ⟨A6, c6, rfl, b1, b2, k6⟩; replace kw := Ext.trans kw (Ext.trans (ext1 _ _) k6); have RC := Lib.hid (copied_is A6 (n + 1) c6 _ _ (by omega) HS.out w6 b2); clear b1 b2) | (go_at_call 31; refine RC.out.mono ?_; rintro e w7 ⟨ad, xs', rfl, a1, a2, a3, k7⟩; have HH := Lib.hid (And.intro a1 a2); clear a1 a2))
  go_ret3
  exact ⟨some ad, n + 1, xs', rfl, Nat.le_refl _, HH.out.1, HH.out.2, Ext.trans kw k7⟩
end
theorem kadd_is (A : Option Addr) (n c : Nat) (xs : List DRow) (L : List DescR) (x : DRow) (d : DescR) (hn : n ≤ 1000000) (hc : n ≤ c) (hs : Small xs) (hx1 : x.n ≤ 1000) (hx2 : x.m ≤ 1000) (w : World) (hG : K.G w) (h : Dl w A n xs L) (hx : Dn w x d) :
    Calls Tryz.prog 11 #[.slice A n c, .agg x.cells] w (AddR w L d) := by
  obtain ⟨s1, A1, n1, c1, t1, B1, m1, z1⟩ := x
  obtain ⟨ds, dl, dt, dr⟩ := d
  obtain rfl : s1 = ds := hx.s
  obtain rfl : t1 = dt := hx.t
  have hn1 : n1 ≤ 1000 := hx1
  have hm1 : m1 ≤ 1000 := hx2
  have hll := h.2.1
  rcases addE_cases L ⟨s1, dl, t1, dr⟩ with ⟨g1, e1, e2, e3⟩ | ⟨g1, g2, e1, e2, e3⟩ | ⟨g1, g2, g3, e1, e2, e3⟩ | ⟨g1, g2, g3, g4, e1, e2, e3⟩ | ⟨g1, g2, g3, g4, e1, e2, e3⟩
  · cases g2 : rightB ⟨s1, dl, t1, dr⟩
    · refine (kadd_50a A n c xs L A1 B1 n1 m1 c1 z1 s1 t1 dl dr hn hc hs hn1 hm1 w hG h hx g1 g2).mono ?_
      rintro e w' ⟨rfl, k⟩
      exact ⟨none, 0, 0, [], by rw [e1, e3]; rfl, by rw [e2]; rfl, Nat.le_refl _, by rw [e2]; exact Dl.nil _, Small.nil, k⟩
    · refine (kadd_50b A n c xs L A1 B1 n1 m1 c1 z1 s1 t1 dl dr hn hc hs hn1 hm1 w hG h hx g1 g2).mono ?_
      rintro e w' ⟨rfl, k⟩
      exact ⟨none, 0, 0, [], by rw [e1, e3]; rfl, by rw [e2]; rfl, Nat.le_refl _, by rw [e2]; exact Dl.nil _, Small.nil, k⟩
  · refine (kadd_40 A n c xs L A1 B1 n1 m1 c1 z1 s1 t1 dl dr hn hc hs hn1 hm1 w hG h hx g1 g2).mono ?_
    rintro e w' ⟨rfl, k⟩
    exact ⟨none, 0, 0, [], by rw [e1, e3]; rfl, by rw [e2]; rfl, Nat.le_refl _, by rw [e2]; exact Dl.nil _, Small.nil, k⟩
  · refine (kadd_there A n c xs L A1 B1 n1 m1 c1 z1 s1 t1 dl dr hn hc hs hn1 hm1 w hG h hx g1 g2 g3).mono ?_
    rintro e w' ⟨A', c', xs', rfl, a1, a2, a3, k⟩
    exact ⟨A', n, c', xs', by rw [e1, e3], by rw [e2, hll], a1, by rw [e2]; exact a2, a3, k⟩
  · refine (kadd_many A n c xs L A1 B1 n1 m1 c1 z1 s1 t1 dl dr hn hc hs hn1 hm1 w hG h hx (by omega) g1 g2 g3).mono ?_
    rintro e w' ⟨rfl, k⟩
    exact ⟨none, 0, 0, [], by rw [e1, e3]; rfl, by rw [e2]; rfl, Nat.le_refl _, by rw [e2]; exact Dl.nil _, Small.nil, k⟩
  · refine (kadd_new A n c xs L A1 B1 n1 m1 c1 z1 s1 t1 dl dr hn hc hs hn1 hm1 w hG h hx (by omega) g1 g2 g3).mono ?_
    rintro e w' ⟨A', c', xs', rfl, a1, a2, a3, k⟩
    exact ⟨A', n + 1, c', xs', by rw [e1, e3, hll]; rfl, by rw [e2, List.length_append, hll]; rfl, a1, by rw [e2]; exact a2, a3, k⟩
end Go.Proofs.YtopgbggighaknaaGreatDoor
/- kinds: Of, case by case (made by gen_kof.py). -/
namespace Go.Proofs.YtopgbggighaknaaGreatDoor
open Go.RowKit Go
theorem one_row {W : World} {x : DRow} {d : DescR} (hd : Dn W x d) {t : TypeId} : Dl (W.alloc (.cells x.cells t)) (some ⟨W.heap.size, 0, none⟩) 1 [x] [d] := by
  refine ⟨⟨rfl, fun _ => ⟨_, rfl, by simp, fun i j hi hj => ?_⟩⟩, rfl, fun i y d' h1 h2 => ?_⟩
  · obtain rfl : i = 0 := by omega
    have hl : x.cells.size = 4 := rfl
    have := new_cells1 W x.cells t j _ (Array.getElem?_eq_getElem (by omega))
    rw [show 0 * 4 + j = j by omega, this]
    exact (Array.getElem?_eq_getElem (by omega)).symm
  · have m1 := List.mem_of_getElem? h1
    have m2 := List.mem_of_getElem? h2
    obtain rfl : y = x := by simpa using m1
    obtain rfl : d' = d := by simpa using m2
    exact hd.ext (ext1 _ _)
theorem add_0 (a : Addr) : a.add 0 = a := by simp [Addr.add]
theorem small_one {x : DRow} (h : x.n ≤ 1000 ∧ x.m ≤ 1000) : Small [x] := fun i y hy => by
  have m := List.mem_of_getElem? hy
  obtain rfl : y = x := by simpa using m
  exact h
section
set_option maxHeartbeats 8000000 in
set_option maxRecDepth 100000 in
theorem kof_50a (A : Option Addr) (n c : Nat) (xs : List DRow) (L : List DescR) (y : Int) (hn : n ≤ 1000000) (hc : n ≤ c) (hs : Small xs) (w : World) (hG : K.G w) (h : Dl w A n xs L) (hr : rightK L = false) (hy : decide (1 ≤ y ∧ y ≤ (n : Int)) = false) :
    Calls Tryz.prog 13 #[.slice A n c, .int .i64 y] w fun e w' => e = .returned (.tuple #[.agg #[.int .i64 0, .slice none 0 0, .int .i64 0, .slice none 0 0], .int .i64 50]) ∧ Ext w w' := by
  have HE := Lib.hid (ext1 w (.cells #[.int .i64 0, .slice none 0 0, .int .i64 0, .slice none 0 0] 25))
  have HB := Lib.hid (Blk.new w #[.int .i64 0, .slice none 0 0, .int .i64 0, .slice none 0 0] 25)
  have HG := Lib.hid (fun W (hW : Ext w W) => hG.ext hW)
  have RK := Lib.hid (fun W (hW : Ext w W) => noKinds_is A n c xs L hn hc hs W (hG.ext hW) (h.ext hW))
  rw [hr] at RK
  clear h hs hG hr
  go_enter Tryz.func13, Tryz.ntmps13
  go_wp2_with (first | (go_at_call 29; refine (RK.out _ HE.out).mono ?_; rintro e w1 ⟨⟨v1, rfl, hv1⟩, k1⟩; have C1 := Lib.hid (show K.Code v1 50 from hv1); obtain ⟨te1, pe1, rfl⟩ := K.code_err C1.out (by decide); clear hv1; have kw := Ext.trans HE.out k1; have bR := HB.out.ext k1) | (go_at_call 37; refine (noKind_is _ _ _ (HG.out _ kw)).mono ?_; rintro e w2 ⟨⟨v2, rfl, hv2⟩, k2⟩; rw [hy] at hv2; have C2 := Lib.hid (show K.Code v2 51 from hv2); obtain ⟨te2, pe2, rfl⟩ := K.code_err C2.out (by decide); clear hv2; replace kw := Ext.trans kw k2; replace bR := bR.ext k2) | (go_at_call 28; (refine (K.told2_is 50 51 _ _ _ 48 _ (HG.out _ (Ext.trans kw (ext1 _ _))) (Blk.new _ _ _) C1.out C2.out).mono ?_); rintro e w3 ⟨rfl, k3⟩; replace kw := Ext.trans kw (Ext.trans (ext1 _ _) k3); replace bR := (bR.ext (ext1 _ _)).ext k3; obtain ⟨⟨q0, q1, q2, q3⟩, f0, f1, f2, f3⟩ := cells4 bR; have GG := Lib.hid (And.intro bR kw)))
  obtain ⟨s0, s1, s2, s3, hE⟩ := clone_store (u0 := .int .i64 0) (u1 := .slice none 0 0) (u2 := .int .i64 0) (u3 := .slice none 0 0) GG.out.1 GG.out.2 (Nat.le_refl _)
  exact bodyPost_ret (v := .tuple #[.agg #[.int .i64 0, .slice none 0 0, .int .i64 0, .slice none 0 0], .int .i64 50]) (by simp [results, Tryz.results13, go_sem, s0, s1, s2, s3, K.first2]) rfl ⟨rfl, hE⟩
set_option maxHeartbeats 8000000 in
set_option maxRecDepth 100000 in
theorem kof_50b (A : Option Addr) (n c : Nat) (xs : List DRow) (L : List DescR) (y : Int) (hn : n ≤ 1000000) (hc : n ≤ c) (hs : Small xs) (w : World) (hG : K.G w) (h : Dl w A n xs L) (hr : rightK L = false) (hy : decide (1 ≤ y ∧ y ≤ (n : Int)) = true) :
    Calls Tryz.prog 13 #[.slice A n c, .int .i64 y] w fun e w' => e = .returned (.tuple #[.agg #[.int .i64 0, .slice none 0 0, .int .i64 0, .slice none 0 0], .int .i64 50]) ∧ Ext w w' := by
  have HE := Lib.hid (ext1 w (.cells #[.int .i64 0, .slice none 0 0, .int .i64 0, .slice none 0 0] 25))
  have HB := Lib.hid (Blk.new w #[.int .i64 0, .slice none 0 0, .int .i64 0, .slice none 0 0] 25)
  have HG := Lib.hid (fun W (hW : Ext w W) => hG.ext hW)
  have RK := Lib.hid (fun W (hW : Ext w W) => noKinds_is A n c xs L hn hc hs W (hG.ext hW) (h.ext hW))
  rw [hr] at RK
  clear h hs hG hr
  go_enter Tryz.func13, Tryz.ntmps13
  go_wp2_with (first | (go_at_call 29; refine (RK.out _ HE.out).mono ?_; rintro e w1 ⟨⟨v1, rfl, hv1⟩, k1⟩; have C1 := Lib.hid (show K.Code v1 50 from hv1); obtain ⟨te1, pe1, rfl⟩ := K.code_err C1.out (by decide); clear hv1; have kw := Ext.trans HE.out k1; have bR := HB.out.ext k1) | (go_at_call 37; refine (noKind_is _ _ _ (HG.out _ kw)).mono ?_; rintro e w2 ⟨⟨v2, rfl, hv2⟩, k2⟩; rw [hy] at hv2; obtain rfl := K.code_nil hv2 rfl; clear hv2; have C2 := Lib.hid K.code_0; replace kw := Ext.trans kw k2; replace bR := bR.ext k2) | (go_at_call 28; (refine (K.told2_is 50 0 _ _ _ 48 _ (HG.out _ (Ext.trans kw (ext1 _ _))) (Blk.new _ _ _) C1.out C2.out).mono ?_); rintro e w3 ⟨rfl, k3⟩; replace kw := Ext.trans kw (Ext.trans (ext1 _ _) k3); replace bR := (bR.ext (ext1 _ _)).ext k3; obtain ⟨⟨q0, q1, q2, q3⟩, f0, f1, f2, f3⟩ := cells4 bR; have GG := Lib.hid (And.intro bR kw)))
  obtain ⟨s0, s1, s2, s3, hE⟩ := clone_store (u0 := .int .i64 0) (u1 := .slice none 0 0) (u2 := .int .i64 0) (u3 := .slice none 0 0) GG.out.1 GG.out.2 (Nat.le_refl _)
  exact bodyPost_ret (v := .tuple #[.agg #[.int .i64 0, .slice none 0 0, .int .i64 0, .slice none 0 0], .int .i64 50]) (by simp [results, Tryz.results13, go_sem, s0, s1, s2, s3, K.first2]) rfl ⟨rfl, hE⟩
set_option maxHeartbeats 8000000 in
set_option maxRecDepth 100000 in
theorem kof_51 (A : Option Addr) (n c : Nat) (xs : List DRow) (L : List DescR) (y : Int) (hn : n ≤ 1000000) (hc : n ≤ c) (hs : Small xs) (w : World) (hG : K.G w) (h : Dl w A n xs L) (hr : rightK L = true) (hy : decide (1 ≤ y ∧ y ≤ (n : Int)) = false) :
    Calls Tryz.prog 13 #[.slice A n c, .int .i64 y] w fun e w' => e = .returned (.tuple #[.agg #[.int .i64 0, .slice none 0 0, .int .i64 0, .slice none 0 0], .int .i64 51]) ∧ Ext w w' := by
  have HE := Lib.hid (ext1 w (.cells #[.int .i64 0, .slice none 0 0, .int .i64 0, .slice none 0 0] 25))
  have HB := Lib.hid (Blk.new w #[.int .i64 0, .slice none 0 0, .int .i64 0, .slice none 0 0] 25)
  have HG := Lib.hid (fun W (hW : Ext w W) => hG.ext hW)
  have RK := Lib.hid (fun W (hW : Ext w W) => noKinds_is A n c xs L hn hc hs W (hG.ext hW) (h.ext hW))
  rw [hr] at RK
  clear h hs hG hr
  go_enter Tryz.func13, Tryz.ntmps13
  go_wp2_with (first | (go_at_call 29; refine (RK.out _ HE.out).mono ?_; rintro e w1 ⟨⟨v1, rfl, hv1⟩, k1⟩; obtain rfl := K.code_nil hv1 rfl; clear hv1; have C1 := Lib.hid K.code_0; have kw := Ext.trans HE.out k1; have bR := HB.out.ext k1) | (go_at_call 37; refine (noKind_is _ _ _ (HG.out _ kw)).mono ?_; rintro e w2 ⟨⟨v2, rfl, hv2⟩, k2⟩; rw [hy] at hv2; have C2 := Lib.hid (show K.Code v2 51 from hv2); obtain ⟨te2, pe2, rfl⟩ := K.code_err C2.out (by decide); clear hv2; replace kw := Ext.trans kw k2; replace bR := bR.ext k2) | (go_at_call 28; (refine (K.told2_is 0 51 _ _ _ 48 _ (HG.out _ (Ext.trans kw (ext1 _ _))) (Blk.new _ _ _) C1.out C2.out).mono ?_); rintro e w3 ⟨rfl, k3⟩; replace kw := Ext.trans kw (Ext.trans (ext1 _ _) k3); replace bR := (bR.ext (ext1 _ _)).ext k3; obtain ⟨⟨q0, q1, q2, q3⟩, f0, f1, f2, f3⟩ := cells4 bR; have GG := Lib.hid (And.intro bR kw)))
  obtain ⟨s0, s1, s2, s3, hE⟩ := clone_store (u0 := .int .i64 0) (u1 := .slice none 0 0) (u2 := .int .i64 0) (u3 := .slice none 0 0) GG.out.1 GG.out.2 (Nat.le_refl _)
  exact bodyPost_ret (v := .tuple #[.agg #[.int .i64 0, .slice none 0 0, .int .i64 0, .slice none 0 0], .int .i64 51]) (by simp [results, Tryz.results13, go_sem, s0, s1, s2, s3, K.first2]) rfl ⟨rfl, hE⟩
set_option maxHeartbeats 8000000 in
set_option maxRecDepth 100000 in
theorem kof_ok (A : Option Addr) (n c : Nat) (xs : List DRow) (L : List DescR) (y : Int) (hn : n ≤ 1000000) (hc : n ≤ c) (hs : Small xs) (w : World) (hG : K.G w) (h : Dl w A n xs L) (k : Nat) (d : DescR) (hyk : y = (k : Int) + 1) (hk : k < n) (hd : L[k]? = some d) (hr : rightK L = true) :
    Calls Tryz.prog 13 #[.slice A n c, .int .i64 y] w fun e w' => ∃ r : DRow, e = .returned (.tuple #[.agg r.cells, .int .i64 0]) ∧ Dn w' r d ∧ r.n ≤ 1000 ∧ r.m ≤ 1000 ∧ Ext w w' := by
  have HE := Lib.hid (ext1 w (.cells #[.int .i64 0, .slice none 0 0, .int .i64 0, .slice none 0 0] 25))
  have HB := Lib.hid (Blk.new w #[.int .i64 0, .slice none 0 0, .int .i64 0, .slice none 0 0] 25)
  have HG := Lib.hid (fun W (hW : Ext w W) => hG.ext hW)
  have RK := Lib.hid (fun W (hW : Ext w W) => noKinds_is A n c xs L hn hc hs W (hG.ext hW) (h.ext hW))
  rw [hr] at RK
  subst hyk
  have hy : decide (1 ≤ (k : Int) + 1 ∧ (k : Int) + 1 ≤ (n : Int)) = true := decide_eq_true ⟨by omega, by omega⟩
  obtain ⟨ad, x, d', rfl, hb, hx, hd', hdn, e0, e1, e2, e3⟩ := h.at_ hk
  obtain rfl : d' = d := Option.some.inj (hd'.symm.trans hd)
  have hsm := hs k x hx
  have HX := Lib.hid (And.intro (show (ad.add (k * 4)).block < w.heap.size by rw [block_of_add]; exact hb) (And.intro hsm hdn))
  have cells := Lib.hid (And.intro e0 (And.intro e1 (And.intro e2 e3)))
  have h3 : (k : Int) < n := by omega
  have h4 : 0 ≤ (k : Int) := by omega
  clear hd hd' hdn e0 e1 e2 e3 hx hb hsm
  clear h hs hG hr
  go_enter Tryz.func13, Tryz.ntmps13
  go_wp2_with (first | (go_at_call 29; refine (RK.out _ HE.out).mono ?_; rintro e w1 ⟨⟨v1, rfl, hv1⟩, k1⟩; obtain rfl := K.code_nil hv1 rfl; clear hv1; have C1 := Lib.hid K.code_0; have kw := Ext.trans HE.out k1; have bR := HB.out.ext k1) | (go_at_call 37; refine (noKind_is _ _ _ (HG.out _ kw)).mono ?_; rintro e w2 ⟨⟨v2, rfl, hv2⟩, k2⟩; rw [hy] at hv2; obtain rfl := K.code_nil hv2 rfl; clear hv2; have C2 := Lib.hid K.code_0; replace kw := Ext.trans kw k2; replace bR := bR.ext k2) | (go_at_call 28; (refine (K.told2_is 0 0 _ _ _ 48 _ (HG.out _ (Ext.trans kw (ext1 _ _))) (Blk.new _ _ _) C1.out C2.out).mono ?_); rintro e w3 ⟨rfl, k3⟩; replace kw := Ext.trans kw (Ext.trans (ext1 _ _) k3); replace bR := (bR.ext (ext1 _ _)).ext k3; obtain ⟨⟨q0, q1, q2, q3⟩, f0, f1, f2, f3⟩ := cells4 bR; have GG := Lib.hid (And.intro bR kw); have e0 := (kw.cell (p := ad.add (k * 4)) HX.out.1).trans cells.out.1; have e1 := (kw.cell (p := ⟨(ad.add (k * 4)).block, (ad.add (k * 4)).off + 1, none⟩) HX.out.1).trans cells.out.2.1; have e2 := (kw.cell (p := ⟨(ad.add (k * 4)).block, (ad.add (k * 4)).off + 2, none⟩) HX.out.1).trans cells.out.2.2.1; have e3 := (kw.cell (p := ⟨(ad.add (k * 4)).block, (ad.add (k * 4)).off + 3, none⟩) HX.out.1).trans cells.out.2.2.2; have RO := Lib.hid (one_row (hd := HX.out.2.2.ext kw) (t := 25)); clear q0 q1 q2 q3 f0 f1 f2 f3) | (go_at_call 31; refine (copied_is _ 1 1 [x] [d'] (by decide) (small_one HX.out.2.1) _ RO.out).mono ?_; rintro e w4 ⟨ad', xs', rfl, g1, g2, g3, k4⟩; have hz := GG.out.2.size; have GI := Lib.hid (And.intro g1 k4); clear g1 k4; have bQ := (GG.out.1.ext (ext1 _ _)).ext GI.out.2; obtain ⟨⟨q0, q1, q2, q3⟩, f0, f1, f2, f3⟩ := cells4 bQ; obtain ⟨ad2, r, dr, er, hbr, hrx, hdr, hrn, z0, z1, z2, z3⟩ := GI.out.1.at_ (k := 0) (by decide); obtain rfl := Option.some.inj er; obtain rfl : d' = dr := (by simpa using hdr); rw [Nat.zero_mul, add_0] at z0 z1 z2 z3; have HR := Lib.hid (And.intro hrx (And.intro hrn (And.intro bQ (And.intro (g3.2 0 r hrx) (g2 0 r hrx))))); clear hrx hrn hdr bQ er g2 g3))
  have hz3 : w.heap.size < w3.heap.size := by have := GG.out.1.lt; omega
  have nA : ∀ a, r.A = some a → a.block ≠ w.heap.size := fun a e => by have := HR.out.2.2.2.1.1 a e; simp at this; omega
  have nB : ∀ a, r.B = some a → a.block ≠ w.heap.size := fun a e => by have := HR.out.2.2.2.1.2 a e; simp at this; omega
  obtain ⟨s0, s1, s2, s3, hE⟩ := clone_store (u0 := .int .i64 r.s) (u1 := .slice r.A r.n r.c) (u2 := .int .i64 r.t) (u3 := .slice r.B r.m r.e) HR.out.2.2.1 (Ext.trans GG.out.2 (Ext.trans (ext1 _ _) GI.out.2)) (Nat.le_refl _)
  refine bodyPost_ret (v := .tuple #[.agg r.cells, .int .i64 0]) (by simp [results, Tryz.results13, go_sem, s0, s1, s2, s3, DRow.cells]) rfl ?_
  exact ⟨r, rfl, HR.out.2.1.four w.heap.size 0 1 2 3 _ _ _ _ nA nB, HR.out.2.2.2.2.1, HR.out.2.2.2.2.2, hE⟩
end
theorem kof_is (A : Option Addr) (n c : Nat) (xs : List DRow) (L : List DescR) (y : Int) (hn : n ≤ 1000000) (hc : n ≤ c) (hs : Small xs) (w : World) (hG : K.G w) (h : Dl w A n xs L) :
    Calls Tryz.prog 13 #[.slice A n c, .int .i64 y] w (OfR w L y) := by
  have hll := h.2.1
  have zero : ∀ w' : World, Dn w' ⟨0, none, 0, 0, 0, none, 0, 0⟩ ⟨0, [], 0, []⟩ := fun w' => ⟨rfl, rfl, ⟨rfl, fun h => absurd h (by decide)⟩, ⟨rfl, fun h => absurd h (by decide)⟩, Nat.le_refl _, Nat.le_refl _, by decide, by decide⟩
  by_cases h0 : ofE L y = 0
  · obtain ⟨hr, k, d, hyk, hk, hd, hD, _⟩ := of_num L y h0
    refine (kof_ok A n c xs L y hn hc hs w hG h k d hyk (by omega) hd hr).mono ?_
    rintro e w' ⟨r, rfl, a1, a2, a3, k'⟩
    exact ⟨r, by rw [h0], by rw [hD]; exact a1, a2, a3, k'⟩
  · have hD : ofD L y = ⟨0, [], 0, []⟩ := by unfold ofD; rw [if_neg h0]
    rcases of_err L y h0 with ⟨hr, e⟩ | ⟨hr, e, hy⟩
    · cases hy : decide (1 ≤ y ∧ y ≤ (n : Int))
      · refine (kof_50a A n c xs L y hn hc hs w hG h hr hy).mono ?_
        rintro e' w' ⟨rfl, k⟩
        exact ⟨⟨0, none, 0, 0, 0, none, 0, 0⟩, by rw [e]; rfl, by rw [hD]; exact zero _, by decide, by decide, k⟩
      · refine (kof_50b A n c xs L y hn hc hs w hG h hr hy).mono ?_
        rintro e' w' ⟨rfl, k⟩
        exact ⟨⟨0, none, 0, 0, 0, none, 0, 0⟩, by rw [e]; rfl, by rw [hD]; exact zero _, by decide, by decide, k⟩
    · refine (kof_51 A n c xs L y hn hc hs w hG h hr (decide_eq_false (by omega))).mono ?_
      rintro e' w' ⟨rfl, k⟩
      exact ⟨⟨0, none, 0, 0, 0, none, 0, 0⟩, by rw [e]; rfl, by rw [hD]; exact zero _, by decide, by decide, k⟩
end Go.Proofs.YtopgbggighaknaaGreatDoor
