/- The law BitsBack, walked. -/
import Derived.Test.YtfldgiocaboelaaDoorCut
import Derived.Test.YtfldgiocaboelaaDoorLawMath3
namespace Go.Proofs.YtfldgiocaboelaaDoor
open Go.RowKit Go
section
variable {a : Nat → Addr}
set_option maxHeartbeats 4000000 in
theorem back_wrong (N : Int) (A : Option Addr) (n n' c : Nat) (ws : List Nat) (w : World)
    (C : ∀ W : World, Calls Tryd.prog 12 #[.agg #[.int .i64 N, .slice A n c]] W fun e w' => e = .returned (.agg #[.int .i64 N, .slice A n' c]) ∧ Ext W w') (B : Bt w A n' ws) (hG : G a w) (hr : rightB N ws = false) :
    Calls Tryd.prog 9 #[.agg #[.int .i64 N, .slice A n c]] w fun e w' => e = .returned (.bool true) ∧ Ext w w' := by
  obtain ⟨N1, ws1, k1, hM, _⟩ := make_both (a := a) N w hG
  have SH := Lib.hid (fun W (hW : Ext w W) => shown_any (a := a) W (hG.ext hW))
  have CU := Lib.hid C
  clear C
  have MK := Lib.hid hM
  clear hM
  have LS := Lib.hid (fun W (hW : Ext w W) => list_any (a := a) N A n' c ws W (B.ext hW) (hG.ext hW))
  have RR := Lib.hid (fun W (hW : Ext w W) => hr ▸ right_any N A n' c ws W (B.ext hW))
  have e0 : lst N ws = [] := by rw [lst, hr]; rfl
  rw [e0] at LS
  clear e0 hr
  clear B hG
  go_enter Tryd.func9, Tryd.ntmps9
  go_wp2_with (first
    | (go_at_call 11; refine (SH.out _ (ext1 _ _)).mono ?_; rintro e w1 ⟨rfl, h1⟩; have p0 := (at_new h1).cell 0; have p1 := (at_new h1).cell 1; simp only [List.getElem?_toArray, List.getElem?_cons_zero, List.getElem?_cons_succ] at p0 p1)
    | (go_at_call 12; refine (CU.out _).mono ?_; rintro e w2 ⟨rfl, h2⟩; replace h2 := Ext.trans h1 h2; clear p0 p1 h1; have p0 := (at_new h2).cell 0; have p1 := (at_new h2).cell 1; have q0 := (at_new h2).frozen 0; have q1 := (at_new h2).frozen 1; simp only [List.getElem?_toArray, List.getElem?_cons_zero, List.getElem?_cons_succ] at p0 p1; obtain ⟨b, hW⟩ := reborn (at_new h2) (Ext.trans (ext1 _ _) h2) (Nat.le_refl _) (.int .i64 N) (.slice A n' c); clear h2; have r0 := b.cell 0; have r1 := b.cell 1; simp only [List.getElem?_toArray, List.getElem?_cons_zero, List.getElem?_cons_succ] at r0 r1)
    | (go_at_call 13; (with_reducible refine (MK.out _ hW).mono ?_); rintro e w' ⟨A4, n4, c4, rfl, B4, hx⟩; replace B4 := B4.ext (ext1 _ (.cells #[.int .i64 N1, .slice A4 n4 c4] 24)); replace hx := Ext.trans hx (ext1 _ (.cells #[.int .i64 N1, .slice A4 n4 c4] 24)); have b4 := Blk.new w' #[.int .i64 N1, .slice A4 n4 c4] 24; replace hW := Ext.trans hW hx; replace b := b.ext hx; clear hx; (try clear r0 r1); (try clear s0 s1); have r0 := b.cell 0; have r1 := b.cell 1; have s0 := b4.cell 0; have s1 := b4.cell 1; simp only [List.getElem?_toArray, List.getElem?_cons_zero, List.getElem?_cons_succ] at r0 r1 s0 s1)
    | (go_at_call 15; (with_reducible refine (RR.out _ hW).mono ?_); rintro e w' ⟨rfl, hx⟩; replace hW := Ext.trans hW hx; replace b := b.ext hx; replace b4 := b4.ext hx; replace B4 := B4.ext hx; clear hx; (try clear r0 r1); (try clear s0 s1); have r0 := b.cell 0; have r1 := b.cell 1; have s0 := b4.cell 0; have s1 := b4.cell 1; simp only [List.getElem?_toArray, List.getElem?_cons_zero, List.getElem?_cons_succ] at r0 r1 s0 s1)
    | (go_at_call 22; (with_reducible refine (LS.out _ hW).mono ?_); rintro e w' ⟨Al, cl, rfl, hRd, hx⟩; replace hW := Ext.trans hW hx; replace b := b.ext hx; replace b4 := b4.ext hx; replace B4 := B4.ext hx; clear hx; (try clear r0 r1); (try clear s0 s1); have r0 := b.cell 0; have r1 := b.cell 1; have s0 := b4.cell 0; have s1 := b4.cell 1; simp only [List.getElem?_toArray, List.getElem?_cons_zero, List.getElem?_cons_succ] at r0 r1 s0 s1))
  go_ret
  exact ⟨rfl, hW⟩
set_option maxRecDepth 100000 in
set_option maxHeartbeats 4000000 in
theorem back_right (N : Int) (A : Option Addr) (n n' c : Nat) (ws : List Nat) (w : World)
    (C : ∀ W : World, Calls Tryd.prog 12 #[.agg #[.int .i64 N, .slice A n c]] W fun e w' => e = .returned (.agg #[.int .i64 N, .slice A n' c]) ∧ Ext W w') (B : Bt w A n' ws) (hG : G a w) (hr : rightB N ws = true) :
    Calls Tryd.prog 9 #[.agg #[.int .i64 N, .slice A n c]] w fun e w' => e = .returned (.bool true) ∧ Ext w w' := by
  obtain ⟨L, hL⟩ : ∃ L, plist N ws 0 true = L := ⟨_, rfl⟩
  have SH := Lib.hid (fun W (hW : Ext w W) => shown_any (a := a) W (hG.ext hW))
  have CU := Lib.hid C
  clear C
  have MK := Lib.hid (fun W (hW : Ext w W) => make_ok (a := a) N (cnt_ok hr) W (hG.ext hW))
  have LS := Lib.hid (fun W (hW : Ext w W) => list_any (a := a) N A n' c ws W (B.ext hW) (hG.ext hW))
  have RR := Lib.hid (fun W (hW : Ext w W) => hr ▸ right_any N A n' c ws W (B.ext hW))
  have SO := Lib.hid (fun k (hk : k < L.length) cur (hO : OnK ws L k cur) A n c W (hW : Ext w W) (B4 : Bt W A n cur) => set_ok (a := a) N A n c cur (L.getD k 0 : Nat) true (on_right hr hL hO) (plB_iff.2 ⟨by omega, (walk_math hr hL hk).2.1⟩) W B4 (hG.ext hW))
  have SM := Lib.hid (fun A4 n4 c4 W (hW : Ext w W) (B4 : Bt W A4 n4 ws) => (show sameB N N ws ws = true by simp [sameB]) ▸ same_any N N A A4 n' c n4 c4 ws ws W (B.ext hW) B4)
  have WM := Lib.hid (fun k (hk : k < L.length) => (walk_math hr hL hk).2.1)
  have O0 := Lib.hid (on_zero (L := L) hr)
  have OE := Lib.hid (fun cur (hO : OnK ws L L.length cur) => on_end hr B.lt hL hO)
  have hN : N ≤ 20000 := ((right_iff N ws).1 hr).n1
  have e0 : lst N ws = L := by rw [lst, if_pos hr, hL]
  rw [e0] at LS
  have hLl : L.length ≤ 40000 := by have := cnt_le N ws; rw [cnt_right hr, hL] at this; have := B.le; have := B.len; omega
  generalize List.replicate ((N + 31) / 32).toNat 0 = z0 at *
  clear e0 hr hL
  clear B hG
  go_enter Tryd.func9, Tryd.ntmps9
  go_wp2_with (first
    | (go_at_call 11; refine (SH.out _ (ext1 _ _)).mono ?_; rintro e w1 ⟨rfl, h1⟩; have p0 := (at_new h1).cell 0; have p1 := (at_new h1).cell 1; simp only [List.getElem?_toArray, List.getElem?_cons_zero, List.getElem?_cons_succ] at p0 p1)
    | (go_at_call 12; refine (CU.out _).mono ?_; rintro e w2 ⟨rfl, h2⟩; replace h2 := Ext.trans h1 h2; clear p0 p1 h1; have p0 := (at_new h2).cell 0; have p1 := (at_new h2).cell 1; have q0 := (at_new h2).frozen 0; have q1 := (at_new h2).frozen 1; simp only [List.getElem?_toArray, List.getElem?_cons_zero, List.getElem?_cons_succ] at p0 p1; obtain ⟨b, hW⟩ := reborn (at_new h2) (Ext.trans (ext1 _ _) h2) (Nat.le_refl _) (.int .i64 N) (.slice A n' c); clear h2; have r0 := b.cell 0; have r1 := b.cell 1; simp only [List.getElem?_toArray, List.getElem?_cons_zero, List.getElem?_cons_succ] at r0 r1)
    | (go_at_call 13; (with_reducible refine (MK.out _ hW).mono ?_); rintro e wM ⟨A4, n4, c4, rfl, B4, hx⟩; have hbM : w.heap.size < wM.heap.size := (b.ext hx).lt; replace B4 := B4.ext (ext1 _ (.cells #[.int .i64 N, .slice A4 n4 c4] 24)); replace hx := Ext.trans hx (ext1 _ (.cells #[.int .i64 N, .slice A4 n4 c4] 24)); have b4 := Blk.new wM #[.int .i64 N, .slice A4 n4 c4] 24; replace hW := Ext.trans hW hx; replace b := b.ext hx; clear hx; (try clear r0 r1); (try clear s0 s1); have r0 := b.cell 0; have r1 := b.cell 1; have s0 := b4.cell 0; have s1 := b4.cell 1; simp only [List.getElem?_toArray, List.getElem?_cons_zero, List.getElem?_cons_succ] at r0 r1 s0 s1)
    | (go_at_call 15; (with_reducible refine (RR.out _ hW).mono ?_); rintro e w' ⟨rfl, hx⟩; replace hW := Ext.trans hW hx; replace b := b.ext hx; replace b4 := b4.ext hx; replace B4 := B4.ext hx; clear hx; (try clear r0 r1); (try clear s0 s1); have r0 := b.cell 0; have r1 := b.cell 1; have s0 := b4.cell 0; have s1 := b4.cell 1; simp only [List.getElem?_toArray, List.getElem?_cons_zero, List.getElem?_cons_succ] at r0 r1 s0 s1)
    | (go_at_call 22; (with_reducible refine (LS.out _ hW).mono ?_); rintro e w' ⟨Al, cl, rfl, hRd, hx⟩; replace hW := Ext.trans hW hx; replace b := b.ext hx; replace b4 := b4.ext hx; replace B4 := B4.ext hx; clear hx; (try clear r0 r1); (try clear s0 s1); have r0 := b.cell 0; have r1 := b.cell 1; have s0 := b4.cell 0; have s1 := b4.cell 1; simp only [List.getElem?_toArray, List.getElem?_cons_zero, List.getElem?_cons_succ] at r0 r1 s0 s1))
  clear r0 r1 s0 s1 p0 p1 q0 q1
  go_loopw [7] (fun i wr => ∃ (k : Nat) (cur : List Nat) (Ac : Option Addr) (nc cc : Nat), i = .int .i64 k ∧ k ≤ L.length ∧ OnK ws L k cur ∧ Bt wr Ac nc cur ∧ Blk wr wM.heap.size #[.int .i64 N, .slice Ac nc cc] 24 ∧ Blk wr w.heap.size #[.int .i64 N, .slice A n' c] 24 ∧ (Rd wr Al L.length fun j => .int .i64 (L.getD j 0 : Nat)) ∧ Ext w wr) (fun i _ => L.length - (intOf i).toNat)
  case atStart => exact ⟨0, z0, A4, n4, c4, rfl, Nat.zero_le _, O0.out, B4, b4, b, hRd, hW⟩
  case round =>
    clear hRd hW b b4 B4
    obtain ⟨k, cur, Ac, nc, cc, rfl, hk, hO, B4, b4, b, hRd, hW⟩ := hrel
    have r0 := b.cell 0
    have r1 := b.cell 1
    have s0 := b4.cell 0
    have s1 := b4.cell 1
    simp only [List.getElem?_toArray, List.getElem?_cons_zero, List.getElem?_cons_succ] at r0 r1 s0 s1
    by_cases hkl : k < L.length
    · have h5 : (k : Int) < L.length := by omega
      obtain ⟨ad, rfl, hab, hcc⟩ := id hRd (by omega)
      have ck : wr.cell? (ad.add k) = some (.int .i64 (L.getD k 0 : Nat)) := hcc k hkl
      have SK := Lib.hid (SO.out k hkl cur hO Ac nc cc)
      have ON := Lib.hid (on_step hkl hO)
      have WK := Lib.hid (fun h0 : 0 < L.length => WM.out 0 h0)
      have hxN := WM.out k hkl
      clear hcc
      generalize L.getD k 0 = x at SK ON ck hxN
      have RK := Lib.hid (And.intro hRd B4)
      clear hRd B4
      go_wp2
      refine wp_region_XT2 12 11 rfl (by kernel_rfl) (by kernel_rfl) ?_
      intro HD
      refine wpH2_segL HD 0 5 6 rfl rfl (Ext.refl _) (by kernel_rfl) ?_
      apply Exists.intro
      refine ⟨fun c => ?_, ?_⟩
      · have hx := fun (o : From c.w) p h => From.cell2 c.h o p h
        simp only [List.take_succ_cons, List.take_zero, List.drop_zero]
        repeat (go_big_quiet_step (fail))
        exact wpQuiet_nil rfl
      refine wpH2_twoL 5 9 5 rfl rfl rfl rfl rfl (by kernel_rfl) ?_ ?_
      · intro V hV K hK
        go_simp
        refine (SK.out V (Ext.trans hW hV) (RK.out.2.ext hV)).mono ?_
        rintro e V2 ⟨A5, n5, c5, rfl, B5, h5'⟩
        have X2 := Ext.trans hV h5'
        refine hK.out _ _ X2 ?_
        clear hK K
        refine wpH2_segL HD 6 3 2 rfl rfl X2 (by kernel_rfl) ?_
        apply Exists.intro
        refine ⟨fun c => ?_, ?_⟩
        · simp only [List.take_succ_cons, List.take_zero, List.drop_succ_cons, List.drop_zero]
          repeat (go_big_quiet_step (fail))
          exact wpQuiet_nil rfl
        refine wpH2_stepL 9 1 rfl rfl rfl (by kernel_rfl) ?_
        intro V3 hV3 K hK
        go_simp
        have X3 := Ext.trans X2 (Ext.trans hV3 (ext1 V3 (.cells #[.int .i64 0, .slice none 0 0] 24)))
        refine hK.out _ _ X3 ?_
        clear hK K
        have hR5 : wr.heap.size ≤ V3.heap.size := (Ext.trans X2 hV3).size
        refine wpH2_stepL 10 0 rfl rfl rfl (by kernel_rfl) ?_
        intro V4 hV4 K hK
        have HD5 := at_new hV4
        have d0 := HD5.cell 0
        have d1 := HD5.cell 1
        have f0 := HD5.frozen 0
        have f1 := HD5.frozen 1
        simp only [List.getElem?_toArray, List.getElem?_cons_zero, List.getElem?_cons_succ] at d0 d1
        obtain ⟨nd, nWd⟩ := reborn HD5 (Ext.trans X3 hV4) hR5 (.int .i64 N) (.slice A5 n5 c5)
        have B5' := (B5.ext (Ext.trans hV3 (Ext.trans (ext1 _ _) hV4))).otherBits HD5 N A5 n5 c5
        go_simp
        refine hK.out _ _ nWd ?_
        clear hK K d0 d1 f0 f1
        refine wpH2_end (fun V5 hV5 => ⟨by kernel_rfl, ?_⟩)
        replace nd := nd.ext hV5
        replace nWd := Ext.trans nWd hV5
        replace B5' := B5'.ext hV5
        have t0 := nd.cell 0
        have t1 := nd.cell 1
        have b4' := b4.ext nWd
        have b' := b.ext nWd
        have s0 := b4'.cell 0
        have s1 := b4'.cell 1
        have g0 := b4'.frozen 0
        have g1 := b4'.frozen 1
        simp only [List.getElem?_toArray, List.getElem?_cons_zero, List.getElem?_cons_succ] at t0 t1 s0 s1
        have GG := Lib.hid (And.intro nWd (And.intro B5' (And.intro b' b4')))
        clear nWd B5' b' b4' nd b4 b HD5 B5 HD hR5 r0 r1
        simp only [List.drop_succ_cons, List.drop_zero]
        go_wp2
        obtain ⟨h5', B5, b, b4⟩ := GG.out
        obtain ⟨nb, nW⟩ := reborn b4 (Ext.trans hW h5') (Nat.le_of_lt hbM) (.int .i64 N) (.slice A5 n5 c5)
        go_roundw
        case rel => exact ⟨k + 1, _, A5, n5, c5, by go_num, by omega, ON.out, B5.otherBits b4 _ _ _ _, nb, keepOther b (by show w.heap.size ≠ wM.heap.size; omega) _ _, (RK.out.1.ext h5').otherBits WK.out b4 _ _, nW⟩
        case measure => simp [intOf]; omega
      · intro V hV K hK
        go_simp
        have X1 := Ext.trans hV (ext1 V (.cells #[.int .i64 0, .slice none 0 0] 24))
        refine hK.out _ _ X1 ?_
        clear hK K
        refine wpH2_stepL 5 4 rfl rfl rfl (by kernel_rfl) ?_
        intro V1 hV1 K hK
        go_simp
        refine (SK.out V1 (Ext.trans hW (Ext.trans X1 hV1)) (RK.out.2.ext (Ext.trans X1 hV1))).mono ?_
        rintro e V2 ⟨A5, n5, c5, rfl, B5, h5'⟩
        have X3 := Ext.trans X1 (Ext.trans hV1 h5')
        refine hK.out _ _ X3 ?_
        clear hK K
        have hR5 : wr.heap.size ≤ V.heap.size := hV.size
        refine wpH2_segL HD 6 3 1 rfl rfl X3 (by kernel_rfl) ?_
        apply Exists.intro
        refine ⟨fun c => ?_, ?_⟩
        · simp only [List.take_succ_cons, List.take_zero, List.drop_succ_cons, List.drop_zero]
          repeat (go_big_quiet_step (fail))
          exact wpQuiet_nil rfl
        refine wpH2_stepL 10 0 rfl rfl rfl (by kernel_rfl) ?_
        intro V4 hV4 K hK
        have HD5 := at_new (Ext.trans hV1 (Ext.trans h5' hV4))
        have d0 := HD5.cell 0
        have d1 := HD5.cell 1
        have f0 := HD5.frozen 0
        have f1 := HD5.frozen 1
        simp only [List.getElem?_toArray, List.getElem?_cons_zero, List.getElem?_cons_succ] at d0 d1
        obtain ⟨nd, nWd⟩ := reborn HD5 (Ext.trans X3 hV4) hR5 (.int .i64 N) (.slice A5 n5 c5)
        have B5' := (B5.ext hV4).otherBits HD5 N A5 n5 c5
        go_simp
        refine hK.out _ _ nWd ?_
        clear hK K d0 d1 f0 f1
        refine wpH2_end (fun V5 hV5 => ⟨by kernel_rfl, ?_⟩)
        replace nd := nd.ext hV5
        replace nWd := Ext.trans nWd hV5
        replace B5' := B5'.ext hV5
        have t0 := nd.cell 0
        have t1 := nd.cell 1
        have b4' := b4.ext nWd
        have b' := b.ext nWd
        have s0 := b4'.cell 0
        have s1 := b4'.cell 1
        have g0 := b4'.frozen 0
        have g1 := b4'.frozen 1
        simp only [List.getElem?_toArray, List.getElem?_cons_zero, List.getElem?_cons_succ] at t0 t1 s0 s1
        have GG := Lib.hid (And.intro nWd (And.intro B5' (And.intro b' b4')))
        clear nWd B5' b' b4' nd b4 b HD5 B5 HD hR5 r0 r1
        simp only [List.drop_succ_cons, List.drop_zero]
        go_wp2
        obtain ⟨h5', B5, b, b4⟩ := GG.out
        obtain ⟨nb, nW⟩ := reborn b4 (Ext.trans hW h5') (Nat.le_of_lt hbM) (.int .i64 N) (.slice A5 n5 c5)
        go_roundw
        case rel => exact ⟨k + 1, _, A5, n5, c5, by go_num, by omega, ON.out, B5.otherBits b4 _ _ _ _, nb, keepOther b (by show w.heap.size ≠ wM.heap.size; omega) _ _, (RK.out.1.ext h5').otherBits WK.out b4 _ _, nW⟩
        case measure => simp [intOf]; omega
    · have hkL : k = L.length := by omega
      subst hkL
      have h5 : ¬ ((L.length : Nat) : Int) < (L.length : Nat) := by omega
      obtain rfl := OE.out cur hO
      have SS := Lib.hid (SM.out Ac nc cc)
      have RK := Lib.hid B4
      clear hRd B4 hO
      generalize L.length = m at *
      go_wp2_with (go_at_call 24; (with_reducible refine (SS.out _ hW RK.out).mono ?_); rintro e w6 ⟨rfl, h6⟩; replace hW := Ext.trans hW h6)
      go_ret
      exact ⟨rfl, hW⟩
theorem back_walk (N : Int) (A : Option Addr) (n n' c : Nat) (ws : List Nat) (w : World)
    (C : ∀ W : World, Calls Tryd.prog 12 #[.agg #[.int .i64 N, .slice A n c]] W fun e w' => e = .returned (.agg #[.int .i64 N, .slice A n' c]) ∧ Ext W w') (B : Bt w A n' ws) (hG : G a w) :
    Calls Tryd.prog 9 #[.agg #[.int .i64 N, .slice A n c]] w fun e w' => e = .returned (.bool true) ∧ Ext w w' := by
  rcases hr : rightB N ws with _ | _
  · exact back_wrong N A n n' c ws w C B hG hr
  · exact back_right N A n n' c ws w C B hG hr
end
end Go.Proofs.YtfldgiocaboelaaDoor
