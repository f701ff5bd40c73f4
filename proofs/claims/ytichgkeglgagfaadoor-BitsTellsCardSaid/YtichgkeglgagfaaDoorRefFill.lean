/- The reference's Fill and Set. -/
import Derived.Test.YtichgkeglgagfaaDoorRefNext
import Derived.Test.YtichgkeglgagfaaDoorFill
import Derived.Test.YtichgkeglgagfaaDoorApp
import Derived.Test.YtichgkeglgagfaaDoorRefList
import Derived.Test.YtichgkeglgagfaaDoorRow
namespace Go.Proofs.YtichgkeglgagfaaDoor
open Go.RowKit Go
section
variable {a : Nat → Addr}
set_option maxHeartbeats 2000000 in
theorem refFill_no (N : Int) (A : Option Addr) (n c : Nat) (ws : List Nat) (f t : Int) (on : Bool) (k : Int) (hk : (rightB N ws = false ∧ k = 20) ∨ (rightB N ws = true ∧ rngB N f t = false ∧ k = 21)) (w : World) (h : Bt w A n ws) :
    Calls Tryd.prog 29 #[.agg #[.int .i64 N, .slice A n c], .int .i64 f, .int .i64 t, .bool on] w (NoR w k) := by
  have E2 := Lib.hid (ext2 w (.cells #[.int .i64 N, .slice A n c] 24) (.cells #[.int .i64 0, .slice none 0 0] 24))
  rcases hk with ⟨hr, rfl⟩ | ⟨hr, hp, rfl⟩
  · have RR := Lib.hid (fun W (hW : Ext w W) => hr ▸ refRight_any N A n c ws W (h.ext hW))
    clear h hr
    go_enter Tryd.func29, Tryd.ntmps29
    go_wp2_with (go_at_call 16; refine (RR.out _ E2.out).mono ?_; rintro e w1 ⟨rfl, h1⟩; have p0 := (at_new2 h1).cell 0; have p1 := (at_new2 h1).cell 1; have q0 := (at_new2 h1).frozen 0; have q1 := (at_new2 h1).frozen 1; simp only [List.getElem?_toArray, List.getElem?_cons_zero, List.getElem?_cons_succ] at p0 p1)
    obtain ⟨s0, s1, hE⟩ := res_store (w := w) (u := .int .i64 0) (v := .slice none 0 0) (at_new2 h1) (Ext.trans E2.out h1) (Nat.le_succ _)
    exact bodyPost_ret (v := .tuple #[.agg #[.int .i64 0, .slice none 0 0], .int .i64 20]) (by simp [results, Tryd.results29, go_sem, s0, s1]) rfl ⟨rfl, hE⟩
  · have RR := Lib.hid (fun W (hW : Ext w W) => hr ▸ refRight_any N A n c ws W (h.ext hW))
    have hn : f < 0 ∨ (0 ≤ f ∧ t < f) ∨ (0 ≤ f ∧ f ≤ t ∧ N < t) := by
      simp only [rngB, Bool.and_eq_false_iff, decide_eq_false_iff_not] at hp
      omega
    clear h hr hp
    rcases hn with g | ⟨g0, g⟩ | ⟨g0, g1, g⟩
    all_goals
      go_enter Tryd.func29, Tryd.ntmps29
      go_wp2_with (go_at_call 16; refine (RR.out _ E2.out).mono ?_; rintro e w1 ⟨rfl, h1⟩; have p0 := (at_new2 h1).cell 0; have p1 := (at_new2 h1).cell 1; have q0 := (at_new2 h1).frozen 0; have q1 := (at_new2 h1).frozen 1; have r0 := (at_old h1).cell 0; have r1 := (at_old h1).cell 1; simp only [List.getElem?_toArray, List.getElem?_cons_zero, List.getElem?_cons_succ] at p0 p1 r0 r1)
      obtain ⟨s0, s1, hE⟩ := res_store (w := w) (u := .int .i64 0) (v := .slice none 0 0) (at_new2 h1) (Ext.trans E2.out h1) (Nat.le_succ _)
      exact bodyPost_ret (v := .tuple #[.agg #[.int .i64 0, .slice none 0 0], .int .i64 21]) (by simp [results, Tryd.results29, go_sem, s0, s1]) rfl ⟨rfl, hE⟩

set_option maxHeartbeats 8000000 in
theorem refFill_ok (N : Int) (A : Option Addr) (n c : Nat) (ws : List Nat) (f t : Int) (on : Bool) (hr : rightB N ws = true) (hp : rngB N f t = true) (w : World) (h : Bt w A n ws) :
    Calls Tryd.prog 29 #[.agg #[.int .i64 N, .slice A n c], .int .i64 f, .int .i64 t, .bool on] w (BitsR w N (turnW f t on ws)) := by
  have E2 := Lib.hid (ext2 w (.cells #[.int .i64 N, .slice A n c] 24) (.cells #[.int .i64 0, .slice none 0 0] 24))
  have RR := Lib.hid (fun W (hW : Ext w W) => hr ▸ refRight_any N A n c ws W (h.ext hW))
  have hr' := (right_iff N ws).1 hr
  have P := hp
  simp only [rngB, Bool.and_eq_true, decide_eq_true_eq] at P
  obtain ⟨⟨g0, g1⟩, g2⟩ := P
  have n1 := hr'.n1
  have hnl := h.le
  obtain ⟨F, rfl⟩ := Int.eq_ofNat_of_zero_le g0
  obtain ⟨T, rfl⟩ := Int.eq_ofNat_of_zero_le (Int.le_trans g0 g1)
  have hNn : N ≤ 32 * n := by have := hr'.len; have := h.len; omega
  have HH := Lib.hid (And.intro h hr')
  clear h hr hr' hp
  go_enter Tryd.func29, Tryd.ntmps29
  go_wp2_with (go_at_call 16; refine (RR.out _ E2.out).mono ?_; rintro e w1 ⟨rfl, h1⟩; have r0 := (at_old h1).cell 0; have r1 := (at_old h1).cell 1; simp only [List.getElem?_toArray, List.getElem?_cons_zero, List.getElem?_cons_succ] at r0 r1)
  have MR := Lib.hid (make_room n hnl)
  have H1 := Lib.hid (Ext.trans E2.out h1)
  refine wp_region_XT2 12 11 rfl (by kernel_rfl) (by kernel_rfl) ?_
  intro HD
  refine wpH2_segL HD 0 5 6 rfl rfl (Ext.refl _) (by kernel_rfl) ?_
  apply Exists.intro
  refine ⟨fun c => ?_, ?_⟩
  · have hx := fun (o : From c.w) p h => From.cell2 c.h o p h
    simp only [List.take_succ_cons, List.take_zero, List.drop_zero]
    repeat (go_big_quiet_step (fail))
    exact wpQuiet_nil rfl
  refine wpH2_segL HD 6 2 4 rfl rfl (Ext.refl _) (by kernel_rfl) ?_
  apply Exists.intro
  refine ⟨fun c => ?_, ?_⟩
  · have hx := fun (o : From c.w) p h => From.cell2 c.h o p h
    simp only [List.take_succ_cons, List.take_zero, List.drop_succ_cons, List.drop_zero]
    repeat (go_big_quiet_step (fail))
    exact wpQuiet_nil rfl
  refine wpH2_twoL 5 10 3 rfl rfl rfl rfl rfl (by kernel_rfl) ?_ ?_
  · intro W hW K hK
    have MKR := MR.out
    go_simp
    have X1 := Ext.trans hW (ext1 W (.cells (encW (List.replicate n 0)) 47))
    have own := World.ownsRow_made W (encW (List.replicate n 0)) n hW.size (by unfold maxLen; omega) (by simp [encW]) (e := 47) (size := 1)
    refine hK.out _ _ X1 ?_
    clear hK K
    refine wpH2_twoL 8 10 2 rfl rfl rfl rfl rfl (by kernel_rfl) ?_ ?_
    · intro W2 hW2 K hK
      rw [if_pos (by kernel_rfl)]
      obtain ⟨v, W3, hr, hown, hg⟩ := append_words A n c ws w HH.out.1 W2 (Ext.trans H1.out (Ext.trans X1 hW2)) w1.heap.size (by have := (Ext.trans X1 hW2).size; omega) _ (own_ext own hW2)
      refine wp_append_run (.tmp 35) (.tmp 37) 22 rfl rfl rfl hr ?_
      have X3 := Below.grown (Ext.trans X1 hW2) hg (by have := (Ext.trans X1 hW2).size; omega) (by intro k hk; simp [Value.ownBlock] at hk; have := hW.size; omega)
      obtain ⟨A3, c3, rfl, _⟩ := rd_of_own hown
      refine hK.out _ _ X3 ?_
      clear hK K
      simp only [Act.put, List.setIfInBounds_toArray, List.set_cons_succ, List.set_cons_zero]
      refine wpH2_segL HD 9 1 1 rfl rfl X3 (by kernel_rfl) ?_
      apply Exists.intro
      refine ⟨fun c => ?_, ?_⟩
      · simp only [List.take_succ_cons, List.take_zero, List.drop_succ_cons, List.drop_zero]
        repeat (go_big_quiet_step (fail))
        exact wpQuiet_nil rfl
      refine wpH2_stepL 10 0 rfl rfl rfl (by kernel_rfl) ?_
      intro W4 hW4 K hK
      go_simp
      refine hK.out _ _ (Ext.trans X3 (Ext.trans hW4 (ext1 _ _))) ?_
      clear hK K
      refine wpH2_end (fun W5 hW5 => ⟨by kernel_rfl, ?_⟩)
      have hR := at_new hW5
      have hRw : w1.heap.size ≤ W4.heap.size := (Ext.trans X3 hW4).size
      have row := Row.of_own (own_ext hown (Ext.trans hW4 (Ext.trans (ext1 _ _) hW5))) HH.out.1.len HH.out.1.lt hnl
      have XE := Ext.trans X3 (Ext.trans hW4 (Ext.trans (ext1 _ _) hW5))
      generalize W4.heap.size = R at *
      have XW := Ext.trans H1.out XE
      have hRw' : w.heap.size ≤ R := Nat.le_trans H1.out.size hRw
      have p0 := hR.cell 0
      have p1 := hR.cell 1
      have q0 := hR.frozen 0
      have q1 := hR.frozen 1
      simp only [List.getElem?_toArray, List.getElem?_cons_zero, List.getElem?_cons_succ] at p0 p1
      obtain ⟨bB, hWW⟩ := reborn2 hR XE hRw (.int .i64 N) (.slice A3 n c3)
      have rw' := (row.other ⟨R, 0, none⟩ (.int .i64 N) (row.apart hR)).other ⟨R, 1, none⟩ (.slice A3 n c3) (row.apart hR)
      have FX := Lib.hid (And.intro bB (And.intro hWW rw'))
      clear bB hWW rw' row XE XW hRw hRw' hR HD
      simp only [List.drop_succ_cons, List.drop_zero]
      go_wp2
      go_loopw [11] (fun i wr => ∃ k : Nat, i = .int .i64 k ∧ F ≤ k ∧ k ≤ T ∧ Row w1.heap.size wr A3 n (turnW F k on ws) ∧ Blk wr R #[.int .i64 N, .slice A3 n c3] 24 ∧ Ext w1 wr) (fun i _ => T - (intOf i).toNat)
      case atStart => exact ⟨F, rfl, Nat.le_refl _, by omega, by rw [turn_none on HH.out.1.lt (Int.le_refl _)]; exact FX.out.2.2, FX.out.1, FX.out.2.1⟩
      case round =>
        obtain ⟨k, rfl, hk1, hk2, hrow, hB, hE⟩ := hrel
        have r0 := hB.cell 0
        have r1 := hB.cell 1
        simp only [List.getElem?_toArray, List.getElem?_cons_zero, List.getElem?_cons_succ] at r0 r1
        by_cases hlt : k < T
        · have h5 : (k : Int) < T := by omega
          have hk32 : k < 32 * n := by omega
          have hlen := HH.out.1.len
          cases hb : bit (turnW F k on ws) k
          all_goals
            have OO := Lib.hid (fun W (hW : Ext wr W) => hb ▸ on_any N A3 n c3 _ k hk32 W (hrow.bt.ext hW))
          · cases on
            · have RL := Lib.hid (And.intro (turn_step_same HH.out.1.lt (by omega) (by omega) hb) (And.intro hrow (And.intro hB hE)))
              clear hrow hB hE hb
              go_wp2_with (first | (go_at_call 40; (with_reducible refine (OO.out _ (Ext.refl _)).mono ?_); rintro e w2 ⟨rfl, h2⟩; have r0 := (RL.out.2.2.1.ext h2).cell 0; have r1 := (RL.out.2.2.1.ext h2).cell 1; simp only [List.getElem?_toArray, List.getElem?_cons_zero, List.getElem?_cons_succ] at r0 r1) | (go_at_call 40; (with_reducible refine (OO.out _ h2).mono ?_); rintro e w3 ⟨rfl, h3⟩))
              go_roundw
              case rel => exact ⟨k + 1, by go_num, by omega, by omega, by rw [RL.out.1]; exact RL.out.2.1.ext (Ext.trans h2 h3), RL.out.2.2.1.ext (Ext.trans h2 h3), Ext.trans RL.out.2.2.2 (Ext.trans h2 h3)⟩
              case measure => simp [intOf]; omega
            · obtain ⟨g, cur, rfl, hg, hbk, hc⟩ := hrow.row (by omega)
              have ck := hc (k / 32) (by omega)
              obtain ⟨sa, sb⟩ := step_add HH.out.1.lt (by omega) hk1 hb
              have WO := Lib.hid (worth_at k (by omega))
              have q1 : (k : Int) / 32 < n := by omega
              have q2 : ((k : Int) / 32).toNat = k / 32 := by omega
              have hwx := wd_lt (turn_W32 F k true HH.out.1.lt) (k / 32)
              generalize wd (turnW F k true ws) (k / 32) = x at *
              generalize 2 ^ (k % 32) = p at *
              have hqn : k / 32 < n := by omega
              generalize k / 32 = q at *
              have RL := Lib.hid (And.intro sb (And.intro hrow (And.intro hB (And.intro hbk hE))))
              have hBk := Lib.hid hB
              have hgw : w1.heap.size ≤ g := hg
              have hRk := Lib.hid hrow
              clear hrow hB hE hb hc hbk sb hg
              go_wp2_with (first | (go_at_call 40; (with_reducible refine (OO.out _ (Ext.refl _)).mono ?_); rintro e w2 ⟨rfl, h2⟩; have r0 := (RL.out.2.2.1.ext h2).cell 0; have r1 := (RL.out.2.2.1.ext h2).cell 1; simp only [List.getElem?_toArray, List.getElem?_cons_zero, List.getElem?_cons_succ] at r0 r1) | (go_at_call 40; (with_reducible refine (OO.out _ h2).mono ?_); rintro e w3 ⟨rfl, h3⟩; have r0 := (RL.out.2.2.1.ext (Ext.trans h2 h3)).cell 0; have r1 := (RL.out.2.2.1.ext (Ext.trans h2 h3)).cell 1; have c3 := ((RL.out.2.2.2.1.ext (Ext.trans h2 h3)).cell q).trans ck; simp only [List.getElem?_toArray, List.getElem?_cons_zero, List.getElem?_cons_succ] at r0 r1))
              refine wp_region_tail 15 14 rfl (by kernel_rfl) (by kernel_rfl) (by kernel_rfl) ?_
              apply Exists.intro
              refine ⟨fun c => ?_, fun W6 hW6 => ?_⟩
              · have hx := fun (o : From c.w) p h => From.cell2 c.h o p h
                simp only [List.take_succ_cons, List.take_zero]
                repeat (go_big_quiet_step ((go_at_call 50; exact on_same WO.out _)))
                exact wpQuiet_nil rfl
              simp only [List.drop_succ_cons, List.drop_zero]
              have X6 := Ext.trans (Ext.trans h2 h3) hW6
              have cq := ((RL.out.2.2.2.1.ext X6).cell q).trans ck
              have fq := (RL.out.2.2.2.1.ext X6).frozen q
              have hgR : R ≠ g := fun e => (hRk.out.apart hBk.out) (by omega) g rfl e.symm
              have XB := (RL.out.2.2.1.ext X6).other ⟨g, q, none⟩ (.int .u32 ((x + p : Nat) : Int)) hgR
              have XR := (RL.out.2.1.ext X6).set q (x + p) hqn (by omega)
              have XE := (Ext.trans RL.out.2.2.2.2 X6).setCell (p := ⟨g, q, none⟩) hgw (.int .u32 ((x + p : Nat) : Int))
              rw [show ((x + p : Nat) : Int) = (x : Int) + p by omega] at XB XR XE
              have ZZ := Lib.hid (And.intro XB (And.intro XR XE))
              clear XB XR XE
              go_wp2
              go_roundw
              case rel => exact ⟨k + 1, by go_num, by omega, by omega, by rw [RL.out.1]; exact ZZ.out.2.1, ZZ.out.1, ZZ.out.2.2⟩
              case measure => simp [intOf]; omega
          · cases on
            · obtain ⟨g, cur, rfl, hg, hbk, hc⟩ := hrow.row (by omega)
              have ck := hc (k / 32) (by omega)
              obtain ⟨sa, sb, sc⟩ := step_sub HH.out.1.lt (by omega) hk1 hb
              have WO := Lib.hid (worth_at k (by omega))
              have q1 : (k : Int) / 32 < n := by omega
              have q2 : ((k : Int) / 32).toNat = k / 32 := by omega
              have hwx := wd_lt (turn_W32 F k false HH.out.1.lt) (k / 32)
              generalize wd (turnW F k false ws) (k / 32) = x at *
              generalize 2 ^ (k % 32) = p at *
              have hqn : k / 32 < n := by omega
              generalize k / 32 = q at *
              have RL := Lib.hid (And.intro sb (And.intro hrow (And.intro hB (And.intro hbk hE))))
              have hBk := Lib.hid hB
              have hgw : w1.heap.size ≤ g := hg
              have hRk := Lib.hid hrow
              have OO2 := Lib.hid (fun W (hW : Bt W (some ⟨g, 0, none⟩) n ((turnW F k false ws).set q (x - p))) => (sb ▸ sc) ▸ on_any N (some ⟨g, 0, none⟩) n c3 _ k hk32 W hW)
              clear hrow hB hE hb hc hbk sb sc hg
              go_wp2_with (first | (go_at_call 40; (with_reducible refine (OO.out _ (Ext.refl _)).mono ?_); rintro e w2 ⟨rfl, h2⟩; have r0 := (RL.out.2.2.1.ext h2).cell 0; have r1 := (RL.out.2.2.1.ext h2).cell 1; have c2 := ((RL.out.2.2.2.1.ext h2).cell q).trans ck; simp only [List.getElem?_toArray, List.getElem?_cons_zero, List.getElem?_cons_succ] at r0 r1))
              refine wp_region_tail 15 14 rfl (by kernel_rfl) (by kernel_rfl) (by kernel_rfl) ?_
              apply Exists.intro
              refine ⟨fun c => ?_, fun W6 hW6 => ?_⟩
              · have hx := fun (o : From c.w) p h => From.cell2 c.h o p h
                simp only [List.take_succ_cons, List.take_zero]
                repeat (go_big_quiet_step ((go_at_call 50; exact on_same WO.out _)))
                exact wpQuiet_nil rfl
              simp only [List.drop_succ_cons, List.drop_zero]
              have X6 := Ext.trans h2 hW6
              have cq := ((RL.out.2.2.2.1.ext X6).cell q).trans ck
              have fq := (RL.out.2.2.2.1.ext X6).frozen q
              have hgR : R ≠ g := fun e => (hRk.out.apart hBk.out) (by omega) g rfl e.symm
              have XB := (RL.out.2.2.1.ext X6).other ⟨g, q, none⟩ (.int .u32 ((x - p : Nat) : Int)) hgR
              have XR := (RL.out.2.1.ext X6).set q (x - p) hqn (by omega)
              have XE := (Ext.trans RL.out.2.2.2.2 X6).setCell (p := ⟨g, q, none⟩) hgw (.int .u32 ((x - p : Nat) : Int))
              rw [show ((x - p : Nat) : Int) = (x : Int) - p by omega] at XB XR XE
              have ZZ := Lib.hid (And.intro XB (And.intro XR XE))
              have r0 := XB.cell 0
              have r1 := XB.cell 1
              simp only [List.getElem?_toArray, List.getElem?_cons_zero, List.getElem?_cons_succ] at r0 r1
              clear XB XR XE
              go_wp2_with (go_at_call 40; (with_reducible refine (OO2.out _ ZZ.out.2.1.bt).mono ?_); rintro e w7 ⟨rfl, h7⟩)
              go_roundw
              case rel => exact ⟨k + 1, by go_num, by omega, by omega, by rw [RL.out.1]; exact ZZ.out.2.1.ext h7, ZZ.out.1.ext h7, Ext.trans ZZ.out.2.2 h7⟩
              case measure => simp [intOf]; omega
            · have RL := Lib.hid (And.intro (turn_step_same HH.out.1.lt (by omega) (by omega) hb) (And.intro hrow (And.intro hB hE)))
              clear hrow hB hE hb
              go_wp2_with (first | (go_at_call 40; (with_reducible refine (OO.out _ (Ext.refl _)).mono ?_); rintro e w2 ⟨rfl, h2⟩; have r0 := (RL.out.2.2.1.ext h2).cell 0; have r1 := (RL.out.2.2.1.ext h2).cell 1; simp only [List.getElem?_toArray, List.getElem?_cons_zero, List.getElem?_cons_succ] at r0 r1) | (go_at_call 40; (with_reducible refine (OO.out _ h2).mono ?_); rintro e w3 ⟨rfl, h3⟩))
              go_roundw
              case rel => exact ⟨k + 1, by go_num, by omega, by omega, by rw [RL.out.1]; exact RL.out.2.1.ext (Ext.trans h2 h3), RL.out.2.2.1.ext (Ext.trans h2 h3), Ext.trans RL.out.2.2.2 (Ext.trans h2 h3)⟩
              case measure => simp [intOf]; omega
        · have hkT : k = T := by omega
          subst hkT
          have hRes := (at_new2 h1).ext hE
          have p0 := hRes.cell 0
          have p1 := hRes.cell 1
          have q0 := hRes.frozen 0
          have q1 := hRes.frozen 1
          simp only [List.getElem?_toArray, List.getElem?_cons_zero, List.getElem?_cons_succ] at p0 p1
          have h5 : ¬ (k : Int) < k := by omega
          have RL := Lib.hid (And.intro hrow (And.intro hRes hE))
          clear hrow hB hE hRes
          go_wp2
          obtain ⟨hrow, hRes, hE⟩ := RL.out
          obtain ⟨s0, s1, hE'⟩ := res_store (w := w) (u := .int .i64 N) (v := .slice A3 n c3) hRes (Ext.trans H1.out hE) (Nat.le_succ _)
          have hz : w.heap.size + 1 < w1.heap.size := by have := (at_new2 h1).lt; omega
          exact bodyPost_ret (v := .tuple #[.agg #[.int .i64 N, .slice A3 n c3], .int .i64 0]) (by simp [results, Tryd.results29, go_sem, s0, s1]) rfl ⟨A3, n, c3, rfl, ((hrow.other ⟨w.heap.size + 1, 0, none⟩ (.int .i64 N) (fun hn g e => by have := hrow.low hn g e; show g ≠ w.heap.size + 1; omega)).other ⟨w.heap.size + 1, 1, none⟩ (.slice A3 n c3) (fun hn g e => by have := hrow.low hn g e; show g ≠ w.heap.size + 1; omega)).bt, hE'⟩
    · intro W2 hW2 K hK
      go_simp
      have X2 := Ext.trans X1 (Ext.trans hW2 (ext1 W2 (.cells #[.int .i64 0, .slice none 0 0] 24)))
      refine hK.out _ _ X2 ?_
      clear hK K
      refine wpH2_stepL 8 1 rfl rfl rfl (by kernel_rfl) ?_
      intro W2' hW2' K hK
      rw [if_pos (by kernel_rfl)]
      obtain ⟨v, W3, hr, hown, hg⟩ := append_words A n c ws w HH.out.1 W2' (Ext.trans H1.out (Ext.trans X2 hW2')) w1.heap.size (by have := (Ext.trans X2 hW2').size; omega) _ (own_ext own (Ext.trans hW2 (Ext.trans (ext1 _ _) hW2')))
      refine wp_append_run (.tmp 35) (.tmp 37) 22 rfl rfl rfl hr ?_
      have X3 := Below.grown (Ext.trans X2 hW2') hg (by have := (Ext.trans X2 hW2').size; omega) (by intro k hk; simp [Value.ownBlock] at hk; have := hW.size; omega)
      have hRo : Blk W3 W2.heap.size #[.int .i64 0, .slice none 0 0] 24 := (hg.block _ (at_new hW2').lt (by have := hW2.size; simp [Value.ownBlock] at this ⊢; omega)).trans (at_new hW2')
      obtain ⟨A3, c3, rfl, _⟩ := rd_of_own hown
      refine hK.out _ _ X3 ?_
      clear hK K
      simp only [Act.put, List.setIfInBounds_toArray, List.set_cons_succ, List.set_cons_zero]
      refine wpH2_segL HD 9 1 0 rfl rfl X3 (by kernel_rfl) ?_
      apply Exists.intro
      refine ⟨fun c => ?_, ?_⟩
      · simp only [List.take_succ_cons, List.take_zero, List.drop_succ_cons, List.drop_zero]
        repeat (go_big_quiet_step (fail))
        exact wpQuiet_nil rfl
      refine wpH2_end (fun W5 hW5 => ⟨by kernel_rfl, ?_⟩)
      have hR := hRo.ext hW5
      have hRw : w1.heap.size ≤ W2.heap.size := (Ext.trans X1 hW2).size
      have row := Row.of_own (own_ext hown hW5) HH.out.1.len HH.out.1.lt hnl
      have XE := Ext.trans X3 hW5
      generalize W2.heap.size = R at *
      have XW := Ext.trans H1.out XE
      have hRw' : w.heap.size ≤ R := Nat.le_trans H1.out.size hRw
      have p0 := hR.cell 0
      have p1 := hR.cell 1
      have q0 := hR.frozen 0
      have q1 := hR.frozen 1
      simp only [List.getElem?_toArray, List.getElem?_cons_zero, List.getElem?_cons_succ] at p0 p1
      obtain ⟨bB, hWW⟩ := reborn2 hR XE hRw (.int .i64 N) (.slice A3 n c3)
      have rw' := (row.other ⟨R, 0, none⟩ (.int .i64 N) (row.apart hR)).other ⟨R, 1, none⟩ (.slice A3 n c3) (row.apart hR)
      have FX := Lib.hid (And.intro bB (And.intro hWW rw'))
      clear bB hWW rw' row XE XW hRw hRw' hR HD
      simp only [List.drop_succ_cons, List.drop_zero]
      go_wp2
      go_loopw [11] (fun i wr => ∃ k : Nat, i = .int .i64 k ∧ F ≤ k ∧ k ≤ T ∧ Row w1.heap.size wr A3 n (turnW F k on ws) ∧ Blk wr R #[.int .i64 N, .slice A3 n c3] 24 ∧ Ext w1 wr) (fun i _ => T - (intOf i).toNat)
      case atStart => exact ⟨F, rfl, Nat.le_refl _, by omega, by rw [turn_none on HH.out.1.lt (Int.le_refl _)]; exact FX.out.2.2, FX.out.1, FX.out.2.1⟩
      case round =>
        obtain ⟨k, rfl, hk1, hk2, hrow, hB, hE⟩ := hrel
        have r0 := hB.cell 0
        have r1 := hB.cell 1
        simp only [List.getElem?_toArray, List.getElem?_cons_zero, List.getElem?_cons_succ] at r0 r1
        by_cases hlt : k < T
        · have h5 : (k : Int) < T := by omega
          have hk32 : k < 32 * n := by omega
          have hlen := HH.out.1.len
          cases hb : bit (turnW F k on ws) k
          all_goals
            have OO := Lib.hid (fun W (hW : Ext wr W) => hb ▸ on_any N A3 n c3 _ k hk32 W (hrow.bt.ext hW))
          · cases on
            · have RL := Lib.hid (And.intro (turn_step_same HH.out.1.lt (by omega) (by omega) hb) (And.intro hrow (And.intro hB hE)))
              clear hrow hB hE hb
              go_wp2_with (first | (go_at_call 40; (with_reducible refine (OO.out _ (Ext.refl _)).mono ?_); rintro e w2 ⟨rfl, h2⟩; have r0 := (RL.out.2.2.1.ext h2).cell 0; have r1 := (RL.out.2.2.1.ext h2).cell 1; simp only [List.getElem?_toArray, List.getElem?_cons_zero, List.getElem?_cons_succ] at r0 r1) | (go_at_call 40; (with_reducible refine (OO.out _ h2).mono ?_); rintro e w3 ⟨rfl, h3⟩))
              go_roundw
              case rel => exact ⟨k + 1, by go_num, by omega, by omega, by rw [RL.out.1]; exact RL.out.2.1.ext (Ext.trans h2 h3), RL.out.2.2.1.ext (Ext.trans h2 h3), Ext.trans RL.out.2.2.2 (Ext.trans h2 h3)⟩
              case measure => simp [intOf]; omega
            · obtain ⟨g, cur, rfl, hg, hbk, hc⟩ := hrow.row (by omega)
              have ck := hc (k / 32) (by omega)
              obtain ⟨sa, sb⟩ := step_add HH.out.1.lt (by omega) hk1 hb
              have WO := Lib.hid (worth_at k (by omega))
              have q1 : (k : Int) / 32 < n := by omega
              have q2 : ((k : Int) / 32).toNat = k / 32 := by omega
              have hwx := wd_lt (turn_W32 F k true HH.out.1.lt) (k / 32)
              generalize wd (turnW F k true ws) (k / 32) = x at *
              generalize 2 ^ (k % 32) = p at *
              have hqn : k / 32 < n := by omega
              generalize k / 32 = q at *
              have RL := Lib.hid (And.intro sb (And.intro hrow (And.intro hB (And.intro hbk hE))))
              have hBk := Lib.hid hB
              have hgw : w1.heap.size ≤ g := hg
              have hRk := Lib.hid hrow
              clear hrow hB hE hb hc hbk sb hg
              go_wp2_with (first | (go_at_call 40; (with_reducible refine (OO.out _ (Ext.refl _)).mono ?_); rintro e w2 ⟨rfl, h2⟩; have r0 := (RL.out.2.2.1.ext h2).cell 0; have r1 := (RL.out.2.2.1.ext h2).cell 1; simp only [List.getElem?_toArray, List.getElem?_cons_zero, List.getElem?_cons_succ] at r0 r1) | (go_at_call 40; (with_reducible refine (OO.out _ h2).mono ?_); rintro e w3 ⟨rfl, h3⟩; have r0 := (RL.out.2.2.1.ext (Ext.trans h2 h3)).cell 0; have r1 := (RL.out.2.2.1.ext (Ext.trans h2 h3)).cell 1; have c3 := ((RL.out.2.2.2.1.ext (Ext.trans h2 h3)).cell q).trans ck; simp only [List.getElem?_toArray, List.getElem?_cons_zero, List.getElem?_cons_succ] at r0 r1))
              refine wp_region_tail 15 14 rfl (by kernel_rfl) (by kernel_rfl) (by kernel_rfl) ?_
              apply Exists.intro
              refine ⟨fun c => ?_, fun W6 hW6 => ?_⟩
              · have hx := fun (o : From c.w) p h => From.cell2 c.h o p h
                simp only [List.take_succ_cons, List.take_zero]
                repeat (go_big_quiet_step ((go_at_call 50; exact on_same WO.out _)))
                exact wpQuiet_nil rfl
              simp only [List.drop_succ_cons, List.drop_zero]
              have X6 := Ext.trans (Ext.trans h2 h3) hW6
              have cq := ((RL.out.2.2.2.1.ext X6).cell q).trans ck
              have fq := (RL.out.2.2.2.1.ext X6).frozen q
              have hgR : R ≠ g := fun e => (hRk.out.apart hBk.out) (by omega) g rfl e.symm
              have XB := (RL.out.2.2.1.ext X6).other ⟨g, q, none⟩ (.int .u32 ((x + p : Nat) : Int)) hgR
              have XR := (RL.out.2.1.ext X6).set q (x + p) hqn (by omega)
              have XE := (Ext.trans RL.out.2.2.2.2 X6).setCell (p := ⟨g, q, none⟩) hgw (.int .u32 ((x + p : Nat) : Int))
              rw [show ((x + p : Nat) : Int) = (x : Int) + p by omega] at XB XR XE
              have ZZ := Lib.hid (And.intro XB (And.intro XR XE))
              clear XB XR XE
              go_wp2
              go_roundw
              case rel => exact ⟨k + 1, by go_num, by omega, by omega, by rw [RL.out.1]; exact ZZ.out.2.1, ZZ.out.1, ZZ.out.2.2⟩
              case measure => simp [intOf]; omega
          · cases on
            · obtain ⟨g, cur, rfl, hg, hbk, hc⟩ := hrow.row (by omega)
              have ck := hc (k / 32) (by omega)
              obtain ⟨sa, sb, sc⟩ := step_sub HH.out.1.lt (by omega) hk1 hb
              have WO := Lib.hid (worth_at k (by omega))
              have q1 : (k : Int) / 32 < n := by omega
              have q2 : ((k : Int) / 32).toNat = k / 32 := by omega
              have hwx := wd_lt (turn_W32 F k false HH.out.1.lt) (k / 32)
              generalize wd (turnW F k false ws) (k / 32) = x at *
              generalize 2 ^ (k % 32) = p at *
              have hqn : k / 32 < n := by omega
              generalize k / 32 = q at *
              have RL := Lib.hid (And.intro sb (And.intro hrow (And.intro hB (And.intro hbk hE))))
              have hBk := Lib.hid hB
              have hgw : w1.heap.size ≤ g := hg
              have hRk := Lib.hid hrow
              have OO2 := Lib.hid (fun W (hW : Bt W (some ⟨g, 0, none⟩) n ((turnW F k false ws).set q (x - p))) => (sb ▸ sc) ▸ on_any N (some ⟨g, 0, none⟩) n c3 _ k hk32 W hW)
              clear hrow hB hE hb hc hbk sb sc hg
              go_wp2_with (first | (go_at_call 40; (with_reducible refine (OO.out _ (Ext.refl _)).mono ?_); rintro e w2 ⟨rfl, h2⟩; have r0 := (RL.out.2.2.1.ext h2).cell 0; have r1 := (RL.out.2.2.1.ext h2).cell 1; have c2 := ((RL.out.2.2.2.1.ext h2).cell q).trans ck; simp only [List.getElem?_toArray, List.getElem?_cons_zero, List.getElem?_cons_succ] at r0 r1))
              refine wp_region_tail 15 14 rfl (by kernel_rfl) (by kernel_rfl) (by kernel_rfl) ?_
              apply Exists.intro
              refine ⟨fun c => ?_, fun W6 hW6 => ?_⟩
              · have hx := fun (o : From c.w) p h => From.cell2 c.h o p h
                simp only [List.take_succ_cons, List.take_zero]
                repeat (go_big_quiet_step ((go_at_call 50; exact on_same WO.out _)))
                exact wpQuiet_nil rfl
              simp only [List.drop_succ_cons, List.drop_zero]
              have X6 := Ext.trans h2 hW6
              have cq := ((RL.out.2.2.2.1.ext X6).cell q).trans ck
              have fq := (RL.out.2.2.2.1.ext X6).frozen q
              have hgR : R ≠ g := fun e => (hRk.out.apart hBk.out) (by omega) g rfl e.symm
              have XB := (RL.out.2.2.1.ext X6).other ⟨g, q, none⟩ (.int .u32 ((x - p : Nat) : Int)) hgR
              have XR := (RL.out.2.1.ext X6).set q (x - p) hqn (by omega)
              have XE := (Ext.trans RL.out.2.2.2.2 X6).setCell (p := ⟨g, q, none⟩) hgw (.int .u32 ((x - p : Nat) : Int))
              rw [show ((x - p : Nat) : Int) = (x : Int) - p by omega] at XB XR XE
              have ZZ := Lib.hid (And.intro XB (And.intro XR XE))
              have r0 := XB.cell 0
              have r1 := XB.cell 1
              simp only [List.getElem?_toArray, List.getElem?_cons_zero, List.getElem?_cons_succ] at r0 r1
              clear XB XR XE
              go_wp2_with (go_at_call 40; (with_reducible refine (OO2.out _ ZZ.out.2.1.bt).mono ?_); rintro e w7 ⟨rfl, h7⟩)
              go_roundw
              case rel => exact ⟨k + 1, by go_num, by omega, by omega, by rw [RL.out.1]; exact ZZ.out.2.1.ext h7, ZZ.out.1.ext h7, Ext.trans ZZ.out.2.2 h7⟩
              case measure => simp [intOf]; omega
            · have RL := Lib.hid (And.intro (turn_step_same HH.out.1.lt (by omega) (by omega) hb) (And.intro hrow (And.intro hB hE)))
              clear hrow hB hE hb
              go_wp2_with (first | (go_at_call 40; (with_reducible refine (OO.out _ (Ext.refl _)).mono ?_); rintro e w2 ⟨rfl, h2⟩; have r0 := (RL.out.2.2.1.ext h2).cell 0; have r1 := (RL.out.2.2.1.ext h2).cell 1; simp only [List.getElem?_toArray, List.getElem?_cons_zero, List.getElem?_cons_succ] at r0 r1) | (go_at_call 40; (with_reducible refine (OO.out _ h2).mono ?_); rintro e w3 ⟨rfl, h3⟩))
              go_roundw
              case rel => exact ⟨k + 1, by go_num, by omega, by omega, by rw [RL.out.1]; exact RL.out.2.1.ext (Ext.trans h2 h3), RL.out.2.2.1.ext (Ext.trans h2 h3), Ext.trans RL.out.2.2.2 (Ext.trans h2 h3)⟩
              case measure => simp [intOf]; omega
        · have hkT : k = T := by omega
          subst hkT
          have hRes := (at_new2 h1).ext hE
          have p0 := hRes.cell 0
          have p1 := hRes.cell 1
          have q0 := hRes.frozen 0
          have q1 := hRes.frozen 1
          simp only [List.getElem?_toArray, List.getElem?_cons_zero, List.getElem?_cons_succ] at p0 p1
          have h5 : ¬ (k : Int) < k := by omega
          have RL := Lib.hid (And.intro hrow (And.intro hRes hE))
          clear hrow hB hE hRes
          go_wp2
          obtain ⟨hrow, hRes, hE⟩ := RL.out
          obtain ⟨s0, s1, hE'⟩ := res_store (w := w) (u := .int .i64 N) (v := .slice A3 n c3) hRes (Ext.trans H1.out hE) (Nat.le_succ _)
          have hz : w.heap.size + 1 < w1.heap.size := by have := (at_new2 h1).lt; omega
          exact bodyPost_ret (v := .tuple #[.agg #[.int .i64 N, .slice A3 n c3], .int .i64 0]) (by simp [results, Tryd.results29, go_sem, s0, s1]) rfl ⟨A3, n, c3, rfl, ((hrow.other ⟨w.heap.size + 1, 0, none⟩ (.int .i64 N) (fun hn g e => by have := hrow.low hn g e; show g ≠ w.heap.size + 1; omega)).other ⟨w.heap.size + 1, 1, none⟩ (.slice A3 n c3) (fun hn g e => by have := hrow.low hn g e; show g ≠ w.heap.size + 1; omega)).bt, hE'⟩
  · intro W hW K hK
    go_simp
    have X1 := Ext.trans hW (ext1 W (.cells #[.int .i64 0, .slice none 0 0] 24))
    refine hK.out _ _ X1 ?_
    clear hK K
    refine wpH2_stepL 5 2 rfl rfl rfl (by kernel_rfl) ?_
    intro W2 hW2 K hK
    have MKR := MR.out
    go_simp
    have X2 := Ext.trans X1 (Ext.trans hW2 (ext1 W2 (.cells (encW (List.replicate n 0)) 47)))
    have own := World.ownsRow_made W2 (encW (List.replicate n 0)) n (Ext.trans X1 hW2).size (by unfold maxLen; omega) (by simp [encW]) (e := 47) (size := 1)
    refine hK.out _ _ X2 ?_
    clear hK K MKR
    refine wpH2_stepL 8 1 rfl rfl rfl (by kernel_rfl) ?_
    intro W2' hW2' K hK
    rw [if_pos (by kernel_rfl)]
    obtain ⟨v, W3, hr, hown, hg⟩ := append_words A n c ws w HH.out.1 W2' (Ext.trans H1.out (Ext.trans X2 hW2')) w1.heap.size (by have := (Ext.trans X2 hW2').size; omega) _ (own_ext own hW2')
    refine wp_append_run (.tmp 35) (.tmp 37) 22 rfl rfl rfl hr ?_
    have X3 := Below.grown (Ext.trans X2 hW2') hg (by have := (Ext.trans X2 hW2').size; omega) (by intro k hk; simp [Value.ownBlock] at hk; have := (Ext.trans X1 hW2).size; omega)
    have hRo : Blk W3 W.heap.size #[.int .i64 0, .slice none 0 0] 24 := (hg.block _ ((at_new (Ext.trans hW2 (Ext.trans (ext1 _ _) hW2'))).lt) (by have := (at_new hW2).lt; simp [Value.ownBlock]; omega)).trans (at_new (Ext.trans hW2 (Ext.trans (ext1 _ _) hW2')))
    obtain ⟨A3, c3, rfl, _⟩ := rd_of_own hown
    refine hK.out _ _ X3 ?_
    clear hK K
    simp only [Act.put, List.setIfInBounds_toArray, List.set_cons_succ, List.set_cons_zero]
    refine wpH2_segL HD 9 1 0 rfl rfl X3 (by kernel_rfl) ?_
    apply Exists.intro
    refine ⟨fun c => ?_, ?_⟩
    · simp only [List.take_succ_cons, List.take_zero, List.drop_succ_cons, List.drop_zero]
      repeat (go_big_quiet_step (fail))
      exact wpQuiet_nil rfl
    refine wpH2_end (fun W5 hW5 => ⟨by kernel_rfl, ?_⟩)
    have hR := hRo.ext hW5
    have hRw : w1.heap.size ≤ W.heap.size := hW.size
    have row := Row.of_own (own_ext hown hW5) HH.out.1.len HH.out.1.lt hnl
    have XE := Ext.trans X3 hW5
    generalize W.heap.size = R at *
    have XW := Ext.trans H1.out XE
    have hRw' : w.heap.size ≤ R := Nat.le_trans H1.out.size hRw
    have p0 := hR.cell 0
    have p1 := hR.cell 1
    have q0 := hR.frozen 0
    have q1 := hR.frozen 1
    simp only [List.getElem?_toArray, List.getElem?_cons_zero, List.getElem?_cons_succ] at p0 p1
    obtain ⟨bB, hWW⟩ := reborn2 hR XE hRw (.int .i64 N) (.slice A3 n c3)
    have rw' := (row.other ⟨R, 0, none⟩ (.int .i64 N) (row.apart hR)).other ⟨R, 1, none⟩ (.slice A3 n c3) (row.apart hR)
    have FX := Lib.hid (And.intro bB (And.intro hWW rw'))
    clear bB hWW rw' row XE XW hRw hRw' hR HD
    simp only [List.drop_succ_cons, List.drop_zero]
    go_wp2
    go_loopw [11] (fun i wr => ∃ k : Nat, i = .int .i64 k ∧ F ≤ k ∧ k ≤ T ∧ Row w1.heap.size wr A3 n (turnW F k on ws) ∧ Blk wr R #[.int .i64 N, .slice A3 n c3] 24 ∧ Ext w1 wr) (fun i _ => T - (intOf i).toNat)
    case atStart => exact ⟨F, rfl, Nat.le_refl _, by omega, by rw [turn_none on HH.out.1.lt (Int.le_refl _)]; exact FX.out.2.2, FX.out.1, FX.out.2.1⟩
    case round =>
      obtain ⟨k, rfl, hk1, hk2, hrow, hB, hE⟩ := hrel
      have r0 := hB.cell 0
      have r1 := hB.cell 1
      simp only [List.getElem?_toArray, List.getElem?_cons_zero, List.getElem?_cons_succ] at r0 r1
      by_cases hlt : k < T
      · have h5 : (k : Int) < T := by omega
        have hk32 : k < 32 * n := by omega
        have hlen := HH.out.1.len
        cases hb : bit (turnW F k on ws) k
        all_goals
          have OO := Lib.hid (fun W (hW : Ext wr W) => hb ▸ on_any N A3 n c3 _ k hk32 W (hrow.bt.ext hW))
        · cases on
          · have RL := Lib.hid (And.intro (turn_step_same HH.out.1.lt (by omega) (by omega) hb) (And.intro hrow (And.intro hB hE)))
            clear hrow hB hE hb
            go_wp2_with (first | (go_at_call 40; (with_reducible refine (OO.out _ (Ext.refl _)).mono ?_); rintro e w2 ⟨rfl, h2⟩; have r0 := (RL.out.2.2.1.ext h2).cell 0; have r1 := (RL.out.2.2.1.ext h2).cell 1; simp only [List.getElem?_toArray, List.getElem?_cons_zero, List.getElem?_cons_succ] at r0 r1) | (go_at_call 40; (with_reducible refine (OO.out _ h2).mono ?_); rintro e w3 ⟨rfl, h3⟩))
            go_roundw
            case rel => exact ⟨k + 1, by go_num, by omega, by omega, by rw [RL.out.1]; exact RL.out.2.1.ext (Ext.trans h2 h3), RL.out.2.2.1.ext (Ext.trans h2 h3), Ext.trans RL.out.2.2.2 (Ext.trans h2 h3)⟩
            case measure => simp [intOf]; omega
          · obtain ⟨g, cur, rfl, hg, hbk, hc⟩ := hrow.row (by omega)
            have ck := hc (k / 32) (by omega)
            obtain ⟨sa, sb⟩ := step_add HH.out.1.lt (by omega) hk1 hb
            have WO := Lib.hid (worth_at k (by omega))
            have q1 : (k : Int) / 32 < n := by omega
            have q2 : ((k : Int) / 32).toNat = k / 32 := by omega
            have hwx := wd_lt (turn_W32 F k true HH.out.1.lt) (k / 32)
            generalize wd (turnW F k true ws) (k / 32) = x at *
            generalize 2 ^ (k % 32) = p at *
            have hqn : k / 32 < n := by omega
            generalize k / 32 = q at *
            have RL := Lib.hid (And.intro sb (And.intro hrow (And.intro hB (And.intro hbk hE))))
            have hBk := Lib.hid hB
            have hgw : w1.heap.size ≤ g := hg
            have hRk := Lib.hid hrow
            clear hrow hB hE hb hc hbk sb hg
            go_wp2_with (first | (go_at_call 40; (with_reducible refine (OO.out _ (Ext.refl _)).mono ?_); rintro e w2 ⟨rfl, h2⟩; have r0 := (RL.out.2.2.1.ext h2).cell 0; have r1 := (RL.out.2.2.1.ext h2).cell 1; simp only [List.getElem?_toArray, List.getElem?_cons_zero, List.getElem?_cons_succ] at r0 r1) | (go_at_call 40; (with_reducible refine (OO.out _ h2).mono ?_); rintro e w3 ⟨rfl, h3⟩; have r0 := (RL.out.2.2.1.ext (Ext.trans h2 h3)).cell 0; have r1 := (RL.out.2.2.1.ext (Ext.trans h2 h3)).cell 1; have c3 := ((RL.out.2.2.2.1.ext (Ext.trans h2 h3)).cell q).trans ck; simp only [List.getElem?_toArray, List.getElem?_cons_zero, List.getElem?_cons_succ] at r0 r1))
            refine wp_region_tail 15 14 rfl (by kernel_rfl) (by kernel_rfl) (by kernel_rfl) ?_
            apply Exists.intro
            refine ⟨fun c => ?_, fun W6 hW6 => ?_⟩
            · have hx := fun (o : From c.w) p h => From.cell2 c.h o p h
              simp only [List.take_succ_cons, List.take_zero]
              repeat (go_big_quiet_step ((go_at_call 50; exact on_same WO.out _)))
              exact wpQuiet_nil rfl
            simp only [List.drop_succ_cons, List.drop_zero]
            have X6 := Ext.trans (Ext.trans h2 h3) hW6
            have cq := ((RL.out.2.2.2.1.ext X6).cell q).trans ck
            have fq := (RL.out.2.2.2.1.ext X6).frozen q
            have hgR : R ≠ g := fun e => (hRk.out.apart hBk.out) (by omega) g rfl e.symm
            have XB := (RL.out.2.2.1.ext X6).other ⟨g, q, none⟩ (.int .u32 ((x + p : Nat) : Int)) hgR
            have XR := (RL.out.2.1.ext X6).set q (x + p) hqn (by omega)
            have XE := (Ext.trans RL.out.2.2.2.2 X6).setCell (p := ⟨g, q, none⟩) hgw (.int .u32 ((x + p : Nat) : Int))
            rw [show ((x + p : Nat) : Int) = (x : Int) + p by omega] at XB XR XE
            have ZZ := Lib.hid (And.intro XB (And.intro XR XE))
            clear XB XR XE
            go_wp2
            go_roundw
            case rel => exact ⟨k + 1, by go_num, by omega, by omega, by rw [RL.out.1]; exact ZZ.out.2.1, ZZ.out.1, ZZ.out.2.2⟩
            case measure => simp [intOf]; omega
        · cases on
          · obtain ⟨g, cur, rfl, hg, hbk, hc⟩ := hrow.row (by omega)
            have ck := hc (k / 32) (by omega)
            obtain ⟨sa, sb, sc⟩ := step_sub HH.out.1.lt (by omega) hk1 hb
            have WO := Lib.hid (worth_at k (by omega))
            have q1 : (k : Int) / 32 < n := by omega
            have q2 : ((k : Int) / 32).toNat = k / 32 := by omega
            have hwx := wd_lt (turn_W32 F k false HH.out.1.lt) (k / 32)
            generalize wd (turnW F k false ws) (k / 32) = x at *
            generalize 2 ^ (k % 32) = p at *
            have hqn : k / 32 < n := by omega
            generalize k / 32 = q at *
            have RL := Lib.hid (And.intro sb (And.intro hrow (And.intro hB (And.intro hbk hE))))
            have hBk := Lib.hid hB
            have hgw : w1.heap.size ≤ g := hg
            have hRk := Lib.hid hrow
            have OO2 := Lib.hid (fun W (hW : Bt W (some ⟨g, 0, none⟩) n ((turnW F k false ws).set q (x - p))) => (sb ▸ sc) ▸ on_any N (some ⟨g, 0, none⟩) n c3 _ k hk32 W hW)
            clear hrow hB hE hb hc hbk sb sc hg
            go_wp2_with (first | (go_at_call 40; (with_reducible refine (OO.out _ (Ext.refl _)).mono ?_); rintro e w2 ⟨rfl, h2⟩; have r0 := (RL.out.2.2.1.ext h2).cell 0; have r1 := (RL.out.2.2.1.ext h2).cell 1; have c2 := ((RL.out.2.2.2.1.ext h2).cell q).trans ck; simp only [List.getElem?_toArray, List.getElem?_cons_zero, List.getElem?_cons_succ] at r0 r1))
            refine wp_region_tail 15 14 rfl (by kernel_rfl) (by kernel_rfl) (by kernel_rfl) ?_
            apply Exists.intro
            refine ⟨fun c => ?_, fun W6 hW6 => ?_⟩
            · have hx := fun (o : From c.w) p h => From.cell2 c.h o p h
              simp only [List.take_succ_cons, List.take_zero]
              repeat (go_big_quiet_step ((go_at_call 50; exact on_same WO.out _)))
              exact wpQuiet_nil rfl
            simp only [List.drop_succ_cons, List.drop_zero]
            have X6 := Ext.trans h2 hW6
            have cq := ((RL.out.2.2.2.1.ext X6).cell q).trans ck
            have fq := (RL.out.2.2.2.1.ext X6).frozen q
            have hgR : R ≠ g := fun e => (hRk.out.apart hBk.out) (by omega) g rfl e.symm
            have XB := (RL.out.2.2.1.ext X6).other ⟨g, q, none⟩ (.int .u32 ((x - p : Nat) : Int)) hgR
            have XR := (RL.out.2.1.ext X6).set q (x - p) hqn (by omega)
            have XE := (Ext.trans RL.out.2.2.2.2 X6).setCell (p := ⟨g, q, none⟩) hgw (.int .u32 ((x - p : Nat) : Int))
            rw [show ((x - p : Nat) : Int) = (x : Int) - p by omega] at XB XR XE
            have ZZ := Lib.hid (And.intro XB (And.intro XR XE))
            have r0 := XB.cell 0
            have r1 := XB.cell 1
            simp only [List.getElem?_toArray, List.getElem?_cons_zero, List.getElem?_cons_succ] at r0 r1
            clear XB XR XE
            go_wp2_with (go_at_call 40; (with_reducible refine (OO2.out _ ZZ.out.2.1.bt).mono ?_); rintro e w7 ⟨rfl, h7⟩)
            go_roundw
            case rel => exact ⟨k + 1, by go_num, by omega, by omega, by rw [RL.out.1]; exact ZZ.out.2.1.ext h7, ZZ.out.1.ext h7, Ext.trans ZZ.out.2.2 h7⟩
            case measure => simp [intOf]; omega
          · have RL := Lib.hid (And.intro (turn_step_same HH.out.1.lt (by omega) (by omega) hb) (And.intro hrow (And.intro hB hE)))
            clear hrow hB hE hb
            go_wp2_with (first | (go_at_call 40; (with_reducible refine (OO.out _ (Ext.refl _)).mono ?_); rintro e w2 ⟨rfl, h2⟩; have r0 := (RL.out.2.2.1.ext h2).cell 0; have r1 := (RL.out.2.2.1.ext h2).cell 1; simp only [List.getElem?_toArray, List.getElem?_cons_zero, List.getElem?_cons_succ] at r0 r1) | (go_at_call 40; (with_reducible refine (OO.out _ h2).mono ?_); rintro e w3 ⟨rfl, h3⟩))
            go_roundw
            case rel => exact ⟨k + 1, by go_num, by omega, by omega, by rw [RL.out.1]; exact RL.out.2.1.ext (Ext.trans h2 h3), RL.out.2.2.1.ext (Ext.trans h2 h3), Ext.trans RL.out.2.2.2 (Ext.trans h2 h3)⟩
            case measure => simp [intOf]; omega
      · have hkT : k = T := by omega
        subst hkT
        have hRes := (at_new2 h1).ext hE
        have p0 := hRes.cell 0
        have p1 := hRes.cell 1
        have q0 := hRes.frozen 0
        have q1 := hRes.frozen 1
        simp only [List.getElem?_toArray, List.getElem?_cons_zero, List.getElem?_cons_succ] at p0 p1
        have h5 : ¬ (k : Int) < k := by omega
        have RL := Lib.hid (And.intro hrow (And.intro hRes hE))
        clear hrow hB hE hRes
        go_wp2
        obtain ⟨hrow, hRes, hE⟩ := RL.out
        obtain ⟨s0, s1, hE'⟩ := res_store (w := w) (u := .int .i64 N) (v := .slice A3 n c3) hRes (Ext.trans H1.out hE) (Nat.le_succ _)
        have hz : w.heap.size + 1 < w1.heap.size := by have := (at_new2 h1).lt; omega
        exact bodyPost_ret (v := .tuple #[.agg #[.int .i64 N, .slice A3 n c3], .int .i64 0]) (by simp [results, Tryd.results29, go_sem, s0, s1]) rfl ⟨A3, n, c3, rfl, ((hrow.other ⟨w.heap.size + 1, 0, none⟩ (.int .i64 N) (fun hn g e => by have := hrow.low hn g e; show g ≠ w.heap.size + 1; omega)).other ⟨w.heap.size + 1, 1, none⟩ (.slice A3 n c3) (fun hn g e => by have := hrow.low hn g e; show g ≠ w.heap.size + 1; omega)).bt, hE'⟩
end
end Go.Proofs.YtichgkeglgagfaaDoor
