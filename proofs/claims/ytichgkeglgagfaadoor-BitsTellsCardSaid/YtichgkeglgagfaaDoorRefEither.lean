/- The reference's Either. -/
import Derived.Test.YtichgkeglgagfaaDoorRefSet
import Derived.Test.YtichgkeglgagfaaDoorEither
namespace Go.Proofs.YtichgkeglgagfaaDoor
open Go.RowKit Go
theorem step_or {n k : Nat} {ws vs cur : List Nat} (hw : W32 cur) (hl : cur.length = n) (hk : k < 32 * n) (hc : ∀ j, j < 32 * n → bit cur j = (bit ws j || (decide (j < k) && bit vs j))) (ha : bit ws k = false) (hb : bit vs k = true) :
    wd cur (k / 32) + 2 ^ (k % 32) < 4294967296 ∧ ∀ j, j < 32 * n → bit (cur.set (k / 32) (wd cur (k / 32) + 2 ^ (k % 32))) j = (bit ws j || (decide (j < k + 1) && bit vs j)) := by
  have h0 : (wd cur (k / 32)).testBit (k % 32) = false := by
    have : bit cur k = false := by rw [hc k hk, ha]; simp
    exact this
  refine ⟨add_lt (wd_lt hw _) (by omega) h0, fun j hj => ?_⟩
  rw [bit_set (by omega)]
  by_cases hjk : j = k
  · subst hjk
    rw [if_pos rfl, testBit_add_pow h0, if_pos rfl, ha, hb]
    simp
  · have e : decide (j < k + 1) = decide (j < k) := by rw [Bool.eq_iff_iff]; simp; omega
    rw [e, ← hc j hj]
    by_cases hq : j / 32 = k / 32
    · rw [if_pos hq, testBit_add_pow h0, if_neg (by omega), ← hq]; rfl
    · rw [if_neg hq]
theorem step_or_same {n k : Nat} {ws vs cur : List Nat} (hc : ∀ j, j < 32 * n → bit cur j = (bit ws j || (decide (j < k) && bit vs j))) (h : bit ws k = true ∨ bit vs k = false) :
    ∀ j, j < 32 * n → bit cur j = (bit ws j || (decide (j < k + 1) && bit vs j)) := by
  intro j hj
  rw [hc j hj]
  by_cases hjk : j = k
  · subst hjk
    rcases h with h | h <;> rw [h] <;> simp
  · have e : decide (j < k + 1) = decide (j < k) := by rw [Bool.eq_iff_iff]; simp; omega
    rw [e]
theorem or_end {N : Int} {n M : Nat} {ws vs cur : List Nat} (hw : W32 ws) (hv : W32 vs) (hcw : W32 cur) (hl : cur.length = n) (hwl : ws.length = n) (hvl : vs.length = n) (hM : N = M) (hr : Right N vs) (hc : ∀ j, j < 32 * n → bit cur j = (bit ws j || (decide (j < M) && bit vs j))) : cur = joinW ws vs := by
  refine ext_bits (by rw [join_len]; omega) hcw (join_W32 hw hv) fun j hj => ?_
  rw [hc j (by omega), join_bit _ _ (by omega)]
  by_cases h : j < M
  · simp [h]
  · rw [hr.off j (by omega) (by omega)]; simp
section
set_option maxHeartbeats 2000000 in
theorem refEither_no (N M : Int) (A A2 : Option Addr) (n c n2 c2 : Nat) (ws vs : List Nat) (hk : eitB N M ws vs = false) (w : World) (h : Bt w A n ws) (h' : Bt w A2 n2 vs) :
    Calls Tryd.prog 33 #[.agg #[.int .i64 N, .slice A n c], .agg #[.int .i64 M, .slice A2 n2 c2]] w (NoR w 20) := by
  have E3 := Lib.hid (ext3 w (.cells #[.int .i64 N, .slice A n c] 24) (.cells #[.int .i64 M, .slice A2 n2 c2] 24) (.cells #[.int .i64 0, .slice none 0 0] 24))
  have hRA := fun W (hW : Ext w W) => refRight_any N A n c ws W (h.ext hW)
  have hRB := fun W (hW : Ext w W) => refRight_any M A2 n2 c2 vs W (h'.ext hW)
  have hc : rightB N ws = false ∨ (rightB N ws = true ∧ rightB M vs = false) ∨ (rightB N ws = true ∧ rightB M vs = true ∧ (N != M) = true) := by
    unfold eitB at hk
    cases ha : rightB N ws <;> cases hb : rightB M vs <;> simp [ha, hb] at hk ⊢
    exact hk
  clear hk h h'
  rcases hc with ha | ⟨ha, hb⟩ | ⟨ha, hb, hn⟩
  all_goals rw [ha] at hRA
  · have RA := Lib.hid hRA
    clear hRA hRB ha
    go_enter Tryd.func33, Tryd.ntmps33
    go_wp2_with (go_at_call 16; (with_reducible refine (RA.out _ E3.out).mono ?_); rintro e w1 ⟨rfl, h1⟩; have p0 := (at_new3 h1).cell 0; have p1 := (at_new3 h1).cell 1; have q0 := (at_new3 h1).frozen 0; have q1 := (at_new3 h1).frozen 1; simp only [List.getElem?_toArray, List.getElem?_cons_zero, List.getElem?_cons_succ] at p0 p1)
    obtain ⟨s0, s1, hE⟩ := res_store (w := w) (u := .int .i64 0) (v := .slice none 0 0) (at_new3 h1) (Ext.trans E3.out h1) (by omega)
    exact bodyPost_ret (v := .tuple #[.agg #[.int .i64 0, .slice none 0 0], .int .i64 20]) (by simp [results, Tryd.results33, go_sem, s0, s1]) rfl ⟨rfl, hE⟩
  all_goals
    rw [hb] at hRB
    have RA := Lib.hid hRA
    have RB := Lib.hid hRB
    clear hRA hRB ha hb
    go_enter Tryd.func33, Tryd.ntmps33
    go_wp2_with (first
      | (go_at_call 16; (with_reducible refine (RA.out _ E3.out).mono ?_); rintro e w1 ⟨rfl, h1⟩; have r0 := (at_new2 (Ext.trans (ext1 _ _) h1)).cell 0; have r1 := (at_new2 (Ext.trans (ext1 _ _) h1)).cell 1; simp only [List.getElem?_toArray, List.getElem?_cons_zero, List.getElem?_cons_succ] at r0 r1)
      | (go_at_call 16; (with_reducible refine (RB.out _ (Ext.trans E3.out h1)).mono ?_); rintro e w2 ⟨rfl, h2⟩; replace h2 := Ext.trans h1 h2; clear r0 r1; have r0 := (at_old (Ext.trans (ext1 _ _) h2)).cell 0; have r1 := (at_old (Ext.trans (ext1 _ _) h2)).cell 1; have s0 := (at_new2 (Ext.trans (ext1 _ _) h2)).cell 0; have s1 := (at_new2 (Ext.trans (ext1 _ _) h2)).cell 1; have p0 := (at_new3 h2).cell 0; have p1 := (at_new3 h2).cell 1; have q0 := (at_new3 h2).frozen 0; have q1 := (at_new3 h2).frozen 1; simp only [List.getElem?_toArray, List.getElem?_cons_zero, List.getElem?_cons_succ] at p0 p1 r0 r1 s0 s1))
    obtain ⟨s0, s1, hE⟩ := res_store (w := w) (u := .int .i64 0) (v := .slice none 0 0) (at_new3 h2) (Ext.trans E3.out h2) (by omega)
    exact bodyPost_ret (v := .tuple #[.agg #[.int .i64 0, .slice none 0 0], .int .i64 20]) (by simp [results, Tryd.results33, go_sem, s0, s1]) rfl ⟨rfl, hE⟩

set_option maxHeartbeats 8000000 in
theorem refEither_ok (N : Int) (A A2 : Option Addr) (n c n2 c2 : Nat) (ws vs : List Nat) (hr : rightB N ws = true) (hs : rightB N vs = true) (w : World) (h : Bt w A n ws) (h' : Bt w A2 n2 vs) :
    Calls Tryd.prog 33 #[.agg #[.int .i64 N, .slice A n c], .agg #[.int .i64 N, .slice A2 n2 c2]] w (BitsR w N (joinW ws vs)) := by
  have E3 := Lib.hid (ext3 w (.cells #[.int .i64 N, .slice A n c] 24) (.cells #[.int .i64 N, .slice A2 n2 c2] 24) (.cells #[.int .i64 0, .slice none 0 0] 24))
  have RA := Lib.hid (fun W (hW : Ext w W) => hr ▸ refRight_any N A n c ws W (h.ext hW))
  have RB := Lib.hid (fun W (hW : Ext w W) => hs ▸ refRight_any N A2 n2 c2 vs W (h'.ext hW))
  have hr' := (right_iff N ws).1 hr
  have hs' := (right_iff N vs).1 hs
  have n1 := hr'.n1
  have hnl := h.le
  have hn2 : n2 = n := by have := hr'.len; have := hs'.len; have := h.len; have := h'.len; omega
  obtain ⟨M, rfl⟩ := Int.eq_ofNat_of_zero_le hr'.n0
  have hNn : M ≤ 32 * n := by have := hr'.len; have := h.len; omega
  have HH := Lib.hid (And.intro h hr')
  have HV := Lib.hid (And.intro h' (And.intro hs' hn2))
  have e0 : ((M : Int) != (M : Int)) = false := by simp
  clear h h' hr hs hr' hs' hn2
  go_enter Tryd.func33, Tryd.ntmps33
  go_wp2_with (first
    | (go_at_call 16; (with_reducible refine (RA.out _ E3.out).mono ?_); rintro e w1 ⟨rfl, h1⟩; have r0 := (at_new2 (Ext.trans (ext1 _ _) h1)).cell 0; have r1 := (at_new2 (Ext.trans (ext1 _ _) h1)).cell 1; simp only [List.getElem?_toArray, List.getElem?_cons_zero, List.getElem?_cons_succ] at r0 r1)
    | (go_at_call 16; (with_reducible refine (RB.out _ (Ext.trans E3.out h1)).mono ?_); rintro e w1' ⟨rfl, h1'⟩; replace h1' := Ext.trans h1 h1'; clear r0 r1 h1; have r0 := (at_old (Ext.trans (ext1 _ _) h1')).cell 0; have r1 := (at_old (Ext.trans (ext1 _ _) h1')).cell 1; have s0 := (at_new2 (Ext.trans (ext1 _ _) h1')).cell 0; have s1 := (at_new2 (Ext.trans (ext1 _ _) h1')).cell 1; simp only [List.getElem?_toArray, List.getElem?_cons_zero, List.getElem?_cons_succ] at r0 r1 s0 s1))
  clear s0 s1
  obtain ⟨w1, hw1⟩ : ∃ w1, w1' = w1 := ⟨_, rfl⟩
  subst hw1
  have MR := Lib.hid (make_room n hnl)
  have H1 := Lib.hid (Ext.trans E3.out h1')
  refine wp_region_XT2 12 11 rfl (by kernel_rfl) (by kernel_rfl) ?_
  intro HD
  refine wpH2_segL HD 0 5 6 rfl rfl (Ext.refl _) (by kernel_rfl) ?_
  apply Exists.intro
  refine ⟨fun c => ?_, ?_⟩
  · have hx := fun (o : From c.w) p h => From.cell2 c.h o p h
    simp only [List.take_succ_cons, List.take_zero, List.drop_zero]
    repeat (go_big_quiet_step (fail))
    exact wpQuiet_nil rfl
  refine wpH2_segL HD 6 2 4 rfl rfl (Ext.refl _) (by kernel_rfl) ?_
  apply Exists.intro
  refine ⟨fun c => ?_, ?_⟩
  · have hx := fun (o : From c.w) p h => From.cell2 c.h o p h
    simp only [List.take_succ_cons, List.take_zero, List.drop_succ_cons, List.drop_zero]
    repeat (go_big_quiet_step (fail))
    exact wpQuiet_nil rfl
  refine wpH2_twoL 5 10 3 rfl rfl rfl rfl rfl (by kernel_rfl) ?_ ?_
  · intro W hW K hK
    have MKR := MR.out
    go_simp
    have X1 := Ext.trans hW (ext1 W (.cells (encW (List.replicate n 0)) 47))
    have own := World.ownsRow_made W (encW (List.replicate n 0)) n hW.size (by unfold maxLen; omega) (by simp [encW]) (e := 47) (size := 1)
    refine hK.out _ _ X1 ?_
    clear hK K
    refine wpH2_twoL 8 10 2 rfl rfl rfl rfl rfl (by kernel_rfl) ?_ ?_
    · intro W2 hW2 K hK
      rw [if_pos (by kernel_rfl)]
      obtain ⟨v, W3, hr, hown, hg⟩ := append_words A n c ws w HH.out.1 W2 (Ext.trans H1.out (Ext.trans X1 hW2)) w1'.heap.size (by have := (Ext.trans X1 hW2).size; omega) _ (own_ext own hW2)
      refine wp_append_run (.tmp 29) (.tmp 31) 22 rfl rfl rfl hr ?_
      have X3 := Below.grown (Ext.trans X1 hW2) hg (by have := (Ext.trans X1 hW2).size; omega) (by intro k hk; simp [Value.ownBlock] at hk; have := hW.size; omega)
      obtain ⟨A3, c3, rfl, _⟩ := rd_of_own hown
      refine hK.out _ _ X3 ?_
      clear hK K
      simp only [Act.put, List.setIfInBounds_toArray, List.set_cons_succ, List.set_cons_zero]
      refine wpH2_segL HD 9 1 1 rfl rfl X3 (by kernel_rfl) ?_
      apply Exists.intro
      refine ⟨fun c => ?_, ?_⟩
      · simp only [List.take_succ_cons, List.take_zero, List.drop_succ_cons, List.drop_zero]
        repeat (go_big_quiet_step (fail))
        exact wpQuiet_nil rfl
      refine wpH2_stepL 10 0 rfl rfl rfl (by kernel_rfl) ?_
      intro W4 hW4 K hK
      go_simp
      refine hK.out _ _ (Ext.trans X3 (Ext.trans hW4 (ext1 _ _))) ?_
      clear hK K
      refine wpH2_end (fun W5 hW5 => ⟨by kernel_rfl, ?_⟩)
      have hR := at_new hW5
      have hRw : w1'.heap.size ≤ W4.heap.size := (Ext.trans X3 hW4).size
      have row := Row.of_own (own_ext hown (Ext.trans hW4 (Ext.trans (ext1 _ _) hW5))) HH.out.1.len HH.out.1.lt hnl
      have XE := Ext.trans X3 (Ext.trans hW4 (Ext.trans (ext1 _ _) hW5))
      generalize W4.heap.size = R at *
      have p0 := hR.cell 0
      have p1 := hR.cell 1
      have q0 := hR.frozen 0
      have q1 := hR.frozen 1
      simp only [List.getElem?_toArray, List.getElem?_cons_zero, List.getElem?_cons_succ] at p0 p1
      obtain ⟨bB, hWW⟩ := reborn2 hR XE hRw (.int .i64 M) (.slice A3 n c3)
      have rw' := (row.other ⟨R, 0, none⟩ (.int .i64 M) (row.apart hR)).other ⟨R, 1, none⟩ (.slice A3 n c3) (row.apart hR)
      have FX := Lib.hid (And.intro bB (And.intro hWW rw'))
      clear bB hWW rw' row XE hRw hR HD
      simp only [List.drop_succ_cons, List.drop_zero]
      go_wp2
      go_loopw [7] (fun i wr => ∃ (k : Nat) (cur : List Nat), i = .int .i64 k ∧ k ≤ M ∧ (∀ j, j < 32 * n → bit cur j = (bit ws j || (decide (j < k) && bit vs j))) ∧ Row w1'.heap.size wr A3 n cur ∧ Blk wr R #[.int .i64 M, .slice A3 n c3] 24 ∧ Ext w1' wr) (fun i _ => M - (intOf i).toNat)
      case atStart => exact ⟨0, ws, rfl, Nat.zero_le _, fun j _ => by simp, FX.out.2.2, FX.out.1, FX.out.2.1⟩
      case round =>
        obtain ⟨k, cur, rfl, hk2, hcur, hrow, hB, hE⟩ := hrel
        have hXA := at_old (Ext.trans (ext1 _ _) (Ext.trans h1' hE))
        have hXB := at_new2 (Ext.trans (ext1 _ _) (Ext.trans h1' hE))
        have r0 := hXA.cell 0
        have r1 := hXA.cell 1
        have s0 := hXB.cell 0
        have s1 := hXB.cell 1
        simp only [List.getElem?_toArray, List.getElem?_cons_zero, List.getElem?_cons_succ] at r0 r1 s0 s1
        by_cases hlt : k < M
        · have h5 : (k : Int) < M := by omega
          have hk32 : k < 32 * n := by omega
          have hOB := fun W (hW : Ext w W) => on_any M A2 n2 c2 vs k (by rw [HV.out.2.2]; exact hk32) W (HV.out.1.ext hW)
          have hOA := fun W (hW : Ext w W) => on_any M A n c ws k hk32 W (HH.out.1.ext hW)
          have EW := Lib.hid (Ext.trans H1.out hE)
          cases hbv : bit vs k
          · rw [hbv] at hOB
            have OB := Lib.hid hOB
            have RL := Lib.hid (And.intro (step_or_same hcur (Or.inr hbv)) (And.intro hrow (And.intro hB hE)))
            clear hOA hOB hbv hcur hrow hB hE hXA hXB
            go_wp2_with (go_at_call 40; (with_reducible refine (OB.out _ EW.out).mono ?_); rintro e w2 ⟨rfl, h2⟩)
            go_roundw
            case rel => exact ⟨k + 1, cur, by go_num, by omega, RL.out.1, RL.out.2.1.ext h2, RL.out.2.2.1.ext h2, Ext.trans RL.out.2.2.2 h2⟩
            case measure => simp [intOf]; omega
          · rw [hbv] at hOB
            have OB := Lib.hid hOB
            cases hav : bit ws k
            · rw [hav] at hOA
              have OA := Lib.hid hOA
              obtain ⟨g, cc, rfl, hg, hbk, hc⟩ := hrow.row (by omega)
              have ck := hc (k / 32) (by omega)
              obtain ⟨sa, sb⟩ := step_or hrow.lt hrow.len hk32 hcur hav hbv
              have WO := Lib.hid (worth_at k (by omega))
              have q1 : (k : Int) / 32 < n := by omega
              have q2 : ((k : Int) / 32).toNat = k / 32 := by omega
              have hwx := wd_lt hrow.lt (k / 32)
              generalize wd cur (k / 32) = x at *
              generalize 2 ^ (k % 32) = p at *
              have hqn : k / 32 < n := by omega
              generalize k / 32 = q at *
              have hgR : R ≠ g := fun e => (hrow.apart hB) (by omega) g rfl e.symm
              have RL := Lib.hid (And.intro sb (And.intro hrow (And.intro hB (And.intro hbk (And.intro hE (And.intro hXA hXB))))))
              have hgw : w1'.heap.size ≤ g := hg
              clear hOA hOB hbv hav hcur hrow hB hE hbk hc sb hg hXA hXB
              go_wp2_with (first
                | (go_at_call 40; (with_reducible refine (OB.out _ EW.out).mono ?_); rintro e w2 ⟨rfl, h2⟩; have r0 := (RL.out.2.2.2.2.2.1.ext h2).cell 0; have r1 := (RL.out.2.2.2.2.2.1.ext h2).cell 1; simp only [List.getElem?_toArray, List.getElem?_cons_zero, List.getElem?_cons_succ] at r0 r1)
                | (go_at_call 40; (with_reducible refine (OA.out _ (Ext.trans EW.out h2)).mono ?_); rintro e w3 ⟨rfl, h3⟩; have t0 := (RL.out.2.2.1.ext (Ext.trans h2 h3)).cell 0; have t1 := (RL.out.2.2.1.ext (Ext.trans h2 h3)).cell 1; have c3' := ((RL.out.2.2.2.1.ext (Ext.trans h2 h3)).cell q).trans ck; simp only [List.getElem?_toArray, List.getElem?_cons_zero, List.getElem?_cons_succ] at t0 t1))
              refine wp_region_tail 15 14 rfl (by kernel_rfl) (by kernel_rfl) (by kernel_rfl) ?_
              apply Exists.intro
              refine ⟨fun c => ?_, fun W6 hW6 => ?_⟩
              · have hx := fun (o : From c.w) p h => From.cell2 c.h o p h
                simp only [List.take_succ_cons, List.take_zero]
                repeat (go_big_quiet_step ((go_at_call 50; exact on_same WO.out _)))
                exact wpQuiet_nil rfl
              simp only [List.drop_succ_cons, List.drop_zero]
              have X6 := Ext.trans (Ext.trans h2 h3) hW6
              have cq := ((RL.out.2.2.2.1.ext X6).cell q).trans ck
              have fq := (RL.out.2.2.2.1.ext X6).frozen q
              have XB := (RL.out.2.2.1.ext X6).other ⟨g, q, none⟩ (.int .u32 ((x + p : Nat) : Int)) hgR
              have XR := (RL.out.2.1.ext X6).set q (x + p) hqn (by omega)
              have XE := (Ext.trans RL.out.2.2.2.2.1 X6).setCell (p := ⟨g, q, none⟩) hgw (.int .u32 ((x + p : Nat) : Int))
              rw [show ((x + p : Nat) : Int) = (x : Int) + p by omega] at XB XR XE
              have ZZ := Lib.hid (And.intro XB (And.intro XR XE))
              clear XB XR XE
              go_wp2
              go_roundw
              case rel => exact ⟨k + 1, _, by go_num, by omega, RL.out.1, ZZ.out.2.1, ZZ.out.1, ZZ.out.2.2⟩
              case measure => simp [intOf]; omega
            · rw [hav] at hOA
              have OA := Lib.hid hOA
              have RL := Lib.hid (And.intro (step_or_same hcur (Or.inl hav)) (And.intro hrow (And.intro hB (And.intro hE hXA))))
              clear hOA hOB hbv hav hcur hrow hB hE hXA hXB
              go_wp2_with (first
                | (go_at_call 40; (with_reducible refine (OB.out _ EW.out).mono ?_); rintro e w2 ⟨rfl, h2⟩; have r0 := (RL.out.2.2.2.2.ext h2).cell 0; have r1 := (RL.out.2.2.2.2.ext h2).cell 1; simp only [List.getElem?_toArray, List.getElem?_cons_zero, List.getElem?_cons_succ] at r0 r1)
                | (go_at_call 40; (with_reducible refine (OA.out _ (Ext.trans EW.out h2)).mono ?_); rintro e w3 ⟨rfl, h3⟩))
              go_roundw
              case rel => exact ⟨k + 1, cur, by go_num, by omega, RL.out.1, RL.out.2.1.ext (Ext.trans h2 h3), RL.out.2.2.1.ext (Ext.trans h2 h3), Ext.trans RL.out.2.2.2.1 (Ext.trans h2 h3)⟩
              case measure => simp [intOf]; omega
        · have hkT : k = M := by omega
          subst hkT
          have hRes := (at_new3 h1').ext hE
          have p0 := hRes.cell 0
          have p1 := hRes.cell 1
          have q0 := hRes.frozen 0
          have q1 := hRes.frozen 1
          have t0 := hB.cell 0
          have t1 := hB.cell 1
          simp only [List.getElem?_toArray, List.getElem?_cons_zero, List.getElem?_cons_succ] at p0 p1 t0 t1
          have h5 : ¬ (k : Int) < k := by omega
          have hj := or_end HH.out.1.lt HV.out.1.lt hrow.lt hrow.len HH.out.1.len (HV.out.1.len.trans HV.out.2.2) rfl HV.out.2.1 hcur
          have RL := Lib.hid (And.intro hj (And.intro hrow (And.intro hRes hE)))
          clear hcur hj hrow hB hE hRes hXA hXB
          go_wp2
          obtain ⟨rfl, hrow, hRes, hE⟩ := RL.out
          obtain ⟨s0, s1, hE'⟩ := res_store (w := w) (u := .int .i64 k) (v := .slice A3 n c3) hRes (Ext.trans H1.out hE) (by omega)
          have hz : w.heap.size + 1 + 1 < w1'.heap.size := by have := (at_new3 h1').lt; omega
          exact bodyPost_ret (v := .tuple #[.agg #[.int .i64 k, .slice A3 n c3], .int .i64 0]) (by simp [results, Tryd.results33, go_sem, s0, s1]) rfl ⟨A3, n, c3, rfl, ((hrow.other ⟨w.heap.size + 1 + 1, 0, none⟩ (.int .i64 k) (fun hn g e => by have := hrow.low hn g e; show g ≠ w.heap.size + 1 + 1; omega)).other ⟨w.heap.size + 1 + 1, 1, none⟩ (.slice A3 n c3) (fun hn g e => by have := hrow.low hn g e; show g ≠ w.heap.size + 1 + 1; omega)).bt, hE'⟩
    · intro W2 hW2 K hK
      go_simp
      have X2 := Ext.trans X1 (Ext.trans hW2 (ext1 W2 (.cells #[.int .i64 0, .slice none 0 0] 24)))
      refine hK.out _ _ X2 ?_
      clear hK K
      refine wpH2_stepL 8 1 rfl rfl rfl (by kernel_rfl) ?_
      intro W2' hW2' K hK
      rw [if_pos (by kernel_rfl)]
      obtain ⟨v, W3, hr, hown, hg⟩ := append_words A n c ws w HH.out.1 W2' (Ext.trans H1.out (Ext.trans X2 hW2')) w1'.heap.size (by have := (Ext.trans X2 hW2').size; omega) _ (own_ext own (Ext.trans hW2 (Ext.trans (ext1 _ _) hW2')))
      refine wp_append_run (.tmp 29) (.tmp 31) 22 rfl rfl rfl hr ?_
      have X3 := Below.grown (Ext.trans X2 hW2') hg (by have := (Ext.trans X2 hW2').size; omega) (by intro k hk; simp [Value.ownBlock] at hk; have := hW.size; omega)
      have hRo : Blk W3 W2.heap.size #[.int .i64 0, .slice none 0 0] 24 := (hg.block _ (at_new hW2').lt (by have := hW2.size; simp [Value.ownBlock] at this ⊢; omega)).trans (at_new hW2')
      obtain ⟨A3, c3, rfl, _⟩ := rd_of_own hown
      refine hK.out _ _ X3 ?_
      clear hK K
      simp only [Act.put, List.setIfInBounds_toArray, List.set_cons_succ, List.set_cons_zero]
      refine wpH2_segL HD 9 1 0 rfl rfl X3 (by kernel_rfl) ?_
      apply Exists.intro
      refine ⟨fun c => ?_, ?_⟩
      · simp only [List.take_succ_cons, List.take_zero, List.drop_succ_cons, List.drop_zero]
        repeat (go_big_quiet_step (fail))
        exact wpQuiet_nil rfl
      refine wpH2_end (fun W5 hW5 => ⟨by kernel_rfl, ?_⟩)
      have hR := hRo.ext hW5
      have hRw : w1'.heap.size ≤ W2.heap.size := (Ext.trans X1 hW2).size
      have row := Row.of_own (own_ext hown hW5) HH.out.1.len HH.out.1.lt hnl
      have XE := Ext.trans X3 hW5
      generalize W2.heap.size = R at *
      have p0 := hR.cell 0
      have p1 := hR.cell 1
      have q0 := hR.frozen 0
      have q1 := hR.frozen 1
      simp only [List.getElem?_toArray, List.getElem?_cons_zero, List.getElem?_cons_succ] at p0 p1
      obtain ⟨bB, hWW⟩ := reborn2 hR XE hRw (.int .i64 M) (.slice A3 n c3)
      have rw' := (row.other ⟨R, 0, none⟩ (.int .i64 M) (row.apart hR)).other ⟨R, 1, none⟩ (.slice A3 n c3) (row.apart hR)
      have FX := Lib.hid (And.intro bB (And.intro hWW rw'))
      clear bB hWW rw' row XE hRw hR HD
      simp only [List.drop_succ_cons, List.drop_zero]
      go_wp2
      go_loopw [7] (fun i wr => ∃ (k : Nat) (cur : List Nat), i = .int .i64 k ∧ k ≤ M ∧ (∀ j, j < 32 * n → bit cur j = (bit ws j || (decide (j < k) && bit vs j))) ∧ Row w1'.heap.size wr A3 n cur ∧ Blk wr R #[.int .i64 M, .slice A3 n c3] 24 ∧ Ext w1' wr) (fun i _ => M - (intOf i).toNat)
      case atStart => exact ⟨0, ws, rfl, Nat.zero_le _, fun j _ => by simp, FX.out.2.2, FX.out.1, FX.out.2.1⟩
      case round =>
        obtain ⟨k, cur, rfl, hk2, hcur, hrow, hB, hE⟩ := hrel
        have hXA := at_old (Ext.trans (ext1 _ _) (Ext.trans h1' hE))
        have hXB := at_new2 (Ext.trans (ext1 _ _) (Ext.trans h1' hE))
        have r0 := hXA.cell 0
        have r1 := hXA.cell 1
        have s0 := hXB.cell 0
        have s1 := hXB.cell 1
        simp only [List.getElem?_toArray, List.getElem?_cons_zero, List.getElem?_cons_succ] at r0 r1 s0 s1
        by_cases hlt : k < M
        · have h5 : (k : Int) < M := by omega
          have hk32 : k < 32 * n := by omega
          have hOB := fun W (hW : Ext w W) => on_any M A2 n2 c2 vs k (by rw [HV.out.2.2]; exact hk32) W (HV.out.1.ext hW)
          have hOA := fun W (hW : Ext w W) => on_any M A n c ws k hk32 W (HH.out.1.ext hW)
          have EW := Lib.hid (Ext.trans H1.out hE)
          cases hbv : bit vs k
          · rw [hbv] at hOB
            have OB := Lib.hid hOB
            have RL := Lib.hid (And.intro (step_or_same hcur (Or.inr hbv)) (And.intro hrow (And.intro hB hE)))
            clear hOA hOB hbv hcur hrow hB hE hXA hXB
            go_wp2_with (go_at_call 40; (with_reducible refine (OB.out _ EW.out).mono ?_); rintro e w2 ⟨rfl, h2⟩)
            go_roundw
            case rel => exact ⟨k + 1, cur, by go_num, by omega, RL.out.1, RL.out.2.1.ext h2, RL.out.2.2.1.ext h2, Ext.trans RL.out.2.2.2 h2⟩
            case measure => simp [intOf]; omega
          · rw [hbv] at hOB
            have OB := Lib.hid hOB
            cases hav : bit ws k
            · rw [hav] at hOA
              have OA := Lib.hid hOA
              obtain ⟨g, cc, rfl, hg, hbk, hc⟩ := hrow.row (by omega)
              have ck := hc (k / 32) (by omega)
              obtain ⟨sa, sb⟩ := step_or hrow.lt hrow.len hk32 hcur hav hbv
              have WO := Lib.hid (worth_at k (by omega))
              have q1 : (k : Int) / 32 < n := by omega
              have q2 : ((k : Int) / 32).toNat = k / 32 := by omega
              have hwx := wd_lt hrow.lt (k / 32)
              generalize wd cur (k / 32) = x at *
              generalize 2 ^ (k % 32) = p at *
              have hqn : k / 32 < n := by omega
              generalize k / 32 = q at *
              have hgR : R ≠ g := fun e => (hrow.apart hB) (by omega) g rfl e.symm
              have RL := Lib.hid (And.intro sb (And.intro hrow (And.intro hB (And.intro hbk (And.intro hE (And.intro hXA hXB))))))
              have hgw : w1'.heap.size ≤ g := hg
              clear hOA hOB hbv hav hcur hrow hB hE hbk hc sb hg hXA hXB
              go_wp2_with (first
                | (go_at_call 40; (with_reducible refine (OB.out _ EW.out).mono ?_); rintro e w2 ⟨rfl, h2⟩; have r0 := (RL.out.2.2.2.2.2.1.ext h2).cell 0; have r1 := (RL.out.2.2.2.2.2.1.ext h2).cell 1; simp only [List.getElem?_toArray, List.getElem?_cons_zero, List.getElem?_cons_succ] at r0 r1)
                | (go_at_call 40; (with_reducible refine (OA.out _ (Ext.trans EW.out h2)).mono ?_); rintro e w3 ⟨rfl, h3⟩; have t0 := (RL.out.2.2.1.ext (Ext.trans h2 h3)).cell 0; have t1 := (RL.out.2.2.1.ext (Ext.trans h2 h3)).cell 1; have c3' := ((RL.out.2.2.2.1.ext (Ext.trans h2 h3)).cell q).trans ck; simp only [List.getElem?_toArray, List.getElem?_cons_zero, List.getElem?_cons_succ] at t0 t1))
              refine wp_region_tail 15 14 rfl (by kernel_rfl) (by kernel_rfl) (by kernel_rfl) ?_
              apply Exists.intro
              refine ⟨fun c => ?_, fun W6 hW6 => ?_⟩
              · have hx := fun (o : From c.w) p h => From.cell2 c.h o p h
                simp only [List.take_succ_cons, List.take_zero]
                repeat (go_big_quiet_step ((go_at_call 50; exact on_same WO.out _)))
                exact wpQuiet_nil rfl
              simp only [List.drop_succ_cons, List.drop_zero]
              have X6 := Ext.trans (Ext.trans h2 h3) hW6
              have cq := ((RL.out.2.2.2.1.ext X6).cell q).trans ck
              have fq := (RL.out.2.2.2.1.ext X6).frozen q
              have XB := (RL.out.2.2.1.ext X6).other ⟨g, q, none⟩ (.int .u32 ((x + p : Nat) : Int)) hgR
              have XR := (RL.out.2.1.ext X6).set q (x + p) hqn (by omega)
              have XE := (Ext.trans RL.out.2.2.2.2.1 X6).setCell (p := ⟨g, q, none⟩) hgw (.int .u32 ((x + p : Nat) : Int))
              rw [show ((x + p : Nat) : Int) = (x : Int) + p by omega] at XB XR XE
              have ZZ := Lib.hid (And.intro XB (And.intro XR XE))
              clear XB XR XE
              go_wp2
              go_roundw
              case rel => exact ⟨k + 1, _, by go_num, by omega, RL.out.1, ZZ.out.2.1, ZZ.out.1, ZZ.out.2.2⟩
              case measure => simp [intOf]; omega
            · rw [hav] at hOA
              have OA := Lib.hid hOA
              have RL := Lib.hid (And.intro (step_or_same hcur (Or.inl hav)) (And.intro hrow (And.intro hB (And.intro hE hXA))))
              clear hOA hOB hbv hav hcur hrow hB hE hXA hXB
              go_wp2_with (first
                | (go_at_call 40; (with_reducible refine (OB.out _ EW.out).mono ?_); rintro e w2 ⟨rfl, h2⟩; have r0 := (RL.out.2.2.2.2.ext h2).cell 0; have r1 := (RL.out.2.2.2.2.ext h2).cell 1; simp only [List.getElem?_toArray, List.getElem?_cons_zero, List.getElem?_cons_succ] at r0 r1)
                | (go_at_call 40; (with_reducible refine (OA.out _ (Ext.trans EW.out h2)).mono ?_); rintro e w3 ⟨rfl, h3⟩))
              go_roundw
              case rel => exact ⟨k + 1, cur, by go_num, by omega, RL.out.1, RL.out.2.1.ext (Ext.trans h2 h3), RL.out.2.2.1.ext (Ext.trans h2 h3), Ext.trans RL.out.2.2.2.1 (Ext.trans h2 h3)⟩
              case measure => simp [intOf]; omega
        · have hkT : k = M := by omega
          subst hkT
          have hRes := (at_new3 h1').ext hE
          have p0 := hRes.cell 0
          have p1 := hRes.cell 1
          have q0 := hRes.frozen 0
          have q1 := hRes.frozen 1
          have t0 := hB.cell 0
          have t1 := hB.cell 1
          simp only [List.getElem?_toArray, List.getElem?_cons_zero, List.getElem?_cons_succ] at p0 p1 t0 t1
          have h5 : ¬ (k : Int) < k := by omega
          have hj := or_end HH.out.1.lt HV.out.1.lt hrow.lt hrow.len HH.out.1.len (HV.out.1.len.trans HV.out.2.2) rfl HV.out.2.1 hcur
          have RL := Lib.hid (And.intro hj (And.intro hrow (And.intro hRes hE)))
          clear hcur hj hrow hB hE hRes hXA hXB
          go_wp2
          obtain ⟨rfl, hrow, hRes, hE⟩ := RL.out
          obtain ⟨s0, s1, hE'⟩ := res_store (w := w) (u := .int .i64 k) (v := .slice A3 n c3) hRes (Ext.trans H1.out hE) (by omega)
          have hz : w.heap.size + 1 + 1 < w1'.heap.size := by have := (at_new3 h1').lt; omega
          exact bodyPost_ret (v := .tuple #[.agg #[.int .i64 k, .slice A3 n c3], .int .i64 0]) (by simp [results, Tryd.results33, go_sem, s0, s1]) rfl ⟨A3, n, c3, rfl, ((hrow.other ⟨w.heap.size + 1 + 1, 0, none⟩ (.int .i64 k) (fun hn g e => by have := hrow.low hn g e; show g ≠ w.heap.size + 1 + 1; omega)).other ⟨w.heap.size + 1 + 1, 1, none⟩ (.slice A3 n c3) (fun hn g e => by have := hrow.low hn g e; show g ≠ w.heap.size + 1 + 1; omega)).bt, hE'⟩
  · intro W hW K hK
    go_simp
    have X1 := Ext.trans hW (ext1 W (.cells #[.int .i64 0, .slice none 0 0] 24))
    refine hK.out _ _ X1 ?_
    clear hK K
    refine wpH2_stepL 5 2 rfl rfl rfl (by kernel_rfl) ?_
    intro W2 hW2 K hK
    have MKR := MR.out
    go_simp
    have X2 := Ext.trans X1 (Ext.trans hW2 (ext1 W2 (.cells (encW (List.replicate n 0)) 47)))
    have own := World.ownsRow_made W2 (encW (List.replicate n 0)) n (Ext.trans X1 hW2).size (by unfold maxLen; omega) (by simp [encW]) (e := 47) (size := 1)
    refine hK.out _ _ X2 ?_
    clear hK K MKR
    refine wpH2_stepL 8 1 rfl rfl rfl (by kernel_rfl) ?_
    intro W2' hW2' K hK
    rw [if_pos (by kernel_rfl)]
    obtain ⟨v, W3, hr, hown, hg⟩ := append_words A n c ws w HH.out.1 W2' (Ext.trans H1.out (Ext.trans X2 hW2')) w1'.heap.size (by have := (Ext.trans X2 hW2').size; omega) _ (own_ext own hW2')
    refine wp_append_run (.tmp 29) (.tmp 31) 22 rfl rfl rfl hr ?_
    have X3 := Below.grown (Ext.trans X2 hW2') hg (by have := (Ext.trans X2 hW2').size; omega) (by intro k hk; simp [Value.ownBlock] at hk; have := (Ext.trans X1 hW2).size; omega)
    have hRo : Blk W3 W.heap.size #[.int .i64 0, .slice none 0 0] 24 := (hg.block _ ((at_new (Ext.trans hW2 (Ext.trans (ext1 _ _) hW2'))).lt) (by have := (at_new hW2).lt; simp [Value.ownBlock]; omega)).trans (at_new (Ext.trans hW2 (Ext.trans (ext1 _ _) hW2')))
    obtain ⟨A3, c3, rfl, _⟩ := rd_of_own hown
    refine hK.out _ _ X3 ?_
    clear hK K
    simp only [Act.put, List.setIfInBounds_toArray, List.set_cons_succ, List.set_cons_zero]
    refine wpH2_segL HD 9 1 0 rfl rfl X3 (by kernel_rfl) ?_
    apply Exists.intro
    refine ⟨fun c => ?_, ?_⟩
    · simp only [List.take_succ_cons, List.take_zero, List.drop_succ_cons, List.drop_zero]
      repeat (go_big_quiet_step (fail))
      exact wpQuiet_nil rfl
    refine wpH2_end (fun W5 hW5 => ⟨by kernel_rfl, ?_⟩)
    have hR := hRo.ext hW5
    have hRw : w1'.heap.size ≤ W.heap.size := hW.size
    have row := Row.of_own (own_ext hown hW5) HH.out.1.len HH.out.1.lt hnl
    have XE := Ext.trans X3 hW5
    generalize W.heap.size = R at *
    have p0 := hR.cell 0
    have p1 := hR.cell 1
    have q0 := hR.frozen 0
    have q1 := hR.frozen 1
    simp only [List.getElem?_toArray, List.getElem?_cons_zero, List.getElem?_cons_succ] at p0 p1
    obtain ⟨bB, hWW⟩ := reborn2 hR XE hRw (.int .i64 M) (.slice A3 n c3)
    have rw' := (row.other ⟨R, 0, none⟩ (.int .i64 M) (row.apart hR)).other ⟨R, 1, none⟩ (.slice A3 n c3) (row.apart hR)
    have FX := Lib.hid (And.intro bB (And.intro hWW rw'))
    clear bB hWW rw' row XE hRw hR HD
    simp only [List.drop_succ_cons, List.drop_zero]
    go_wp2
    go_loopw [7] (fun i wr => ∃ (k : Nat) (cur : List Nat), i = .int .i64 k ∧ k ≤ M ∧ (∀ j, j < 32 * n → bit cur j = (bit ws j || (decide (j < k) && bit vs j))) ∧ Row w1'.heap.size wr A3 n cur ∧ Blk wr R #[.int .i64 M, .slice A3 n c3] 24 ∧ Ext w1' wr) (fun i _ => M - (intOf i).toNat)
    case atStart => exact ⟨0, ws, rfl, Nat.zero_le _, fun j _ => by simp, FX.out.2.2, FX.out.1, FX.out.2.1⟩
    case round =>
      obtain ⟨k, cur, rfl, hk2, hcur, hrow, hB, hE⟩ := hrel
      have hXA := at_old (Ext.trans (ext1 _ _) (Ext.trans h1' hE))
      have hXB := at_new2 (Ext.trans (ext1 _ _) (Ext.trans h1' hE))
      have r0 := hXA.cell 0
      have r1 := hXA.cell 1
      have s0 := hXB.cell 0
      have s1 := hXB.cell 1
      simp only [List.getElem?_toArray, List.getElem?_cons_zero, List.getElem?_cons_succ] at r0 r1 s0 s1
      by_cases hlt : k < M
      · have h5 : (k : Int) < M := by omega
        have hk32 : k < 32 * n := by omega
        have hOB := fun W (hW : Ext w W) => on_any M A2 n2 c2 vs k (by rw [HV.out.2.2]; exact hk32) W (HV.out.1.ext hW)
        have hOA := fun W (hW : Ext w W) => on_any M A n c ws k hk32 W (HH.out.1.ext hW)
        have EW := Lib.hid (Ext.trans H1.out hE)
        cases hbv : bit vs k
        · rw [hbv] at hOB
          have OB := Lib.hid hOB
          have RL := Lib.hid (And.intro (step_or_same hcur (Or.inr hbv)) (And.intro hrow (And.intro hB hE)))
          clear hOA hOB hbv hcur hrow hB hE hXA hXB
          go_wp2_with (go_at_call 40; (with_reducible refine (OB.out _ EW.out).mono ?_); rintro e w2 ⟨rfl, h2⟩)
          go_roundw
          case rel => exact ⟨k + 1, cur, by go_num, by omega, RL.out.1, RL.out.2.1.ext h2, RL.out.2.2.1.ext h2, Ext.trans RL.out.2.2.2 h2⟩
          case measure => simp [intOf]; omega
        · rw [hbv] at hOB
          have OB := Lib.hid hOB
          cases hav : bit ws k
          · rw [hav] at hOA
            have OA := Lib.hid hOA
            obtain ⟨g, cc, rfl, hg, hbk, hc⟩ := hrow.row (by omega)
            have ck := hc (k / 32) (by omega)
            obtain ⟨sa, sb⟩ := step_or hrow.lt hrow.len hk32 hcur hav hbv
            have WO := Lib.hid (worth_at k (by omega))
            have q1 : (k : Int) / 32 < n := by omega
            have q2 : ((k : Int) / 32).toNat = k / 32 := by omega
            have hwx := wd_lt hrow.lt (k / 32)
            generalize wd cur (k / 32) = x at *
            generalize 2 ^ (k % 32) = p at *
            have hqn : k / 32 < n := by omega
            generalize k / 32 = q at *
            have hgR : R ≠ g := fun e => (hrow.apart hB) (by omega) g rfl e.symm
            have RL := Lib.hid (And.intro sb (And.intro hrow (And.intro hB (And.intro hbk (And.intro hE (And.intro hXA hXB))))))
            have hgw : w1'.heap.size ≤ g := hg
            clear hOA hOB hbv hav hcur hrow hB hE hbk hc sb hg hXA hXB
            go_wp2_with (first
              | (go_at_call 40; (with_reducible refine (OB.out _ EW.out).mono ?_); rintro e w2 ⟨rfl, h2⟩; have r0 := (RL.out.2.2.2.2.2.1.ext h2).cell 0; have r1 := (RL.out.2.2.2.2.2.1.ext h2).cell 1; simp only [List.getElem?_toArray, List.getElem?_cons_zero, List.getElem?_cons_succ] at r0 r1)
              | (go_at_call 40; (with_reducible refine (OA.out _ (Ext.trans EW.out h2)).mono ?_); rintro e w3 ⟨rfl, h3⟩; have t0 := (RL.out.2.2.1.ext (Ext.trans h2 h3)).cell 0; have t1 := (RL.out.2.2.1.ext (Ext.trans h2 h3)).cell 1; have c3' := ((RL.out.2.2.2.1.ext (Ext.trans h2 h3)).cell q).trans ck; simp only [List.getElem?_toArray, List.getElem?_cons_zero, List.getElem?_cons_succ] at t0 t1))
            refine wp_region_tail 15 14 rfl (by kernel_rfl) (by kernel_rfl) (by kernel_rfl) ?_
            apply Exists.intro
            refine ⟨fun c => ?_, fun W6 hW6 => ?_⟩
            · have hx := fun (o : From c.w) p h => From.cell2 c.h o p h
              simp only [List.take_succ_cons, List.take_zero]
              repeat (go_big_quiet_step ((go_at_call 50; exact on_same WO.out _)))
              exact wpQuiet_nil rfl
            simp only [List.drop_succ_cons, List.drop_zero]
            have X6 := Ext.trans (Ext.trans h2 h3) hW6
            have cq := ((RL.out.2.2.2.1.ext X6).cell q).trans ck
            have fq := (RL.out.2.2.2.1.ext X6).frozen q
            have XB := (RL.out.2.2.1.ext X6).other ⟨g, q, none⟩ (.int .u32 ((x + p : Nat) : Int)) hgR
            have XR := (RL.out.2.1.ext X6).set q (x + p) hqn (by omega)
            have XE := (Ext.trans RL.out.2.2.2.2.1 X6).setCell (p := ⟨g, q, none⟩) hgw (.int .u32 ((x + p : Nat) : Int))
            rw [show ((x + p : Nat) : Int) = (x : Int) + p by omega] at XB XR XE
            have ZZ := Lib.hid (And.intro XB (And.intro XR XE))
            clear XB XR XE
            go_wp2
            go_roundw
            case rel => exact ⟨k + 1, _, by go_num, by omega, RL.out.1, ZZ.out.2.1, ZZ.out.1, ZZ.out.2.2⟩
            case measure => simp [intOf]; omega
          · rw [hav] at hOA
            have OA := Lib.hid hOA
            have RL := Lib.hid (And.intro (step_or_same hcur (Or.inl hav)) (And.intro hrow (And.intro hB (And.intro hE hXA))))
            clear hOA hOB hbv hav hcur hrow hB hE hXA hXB
            go_wp2_with (first
              | (go_at_call 40; (with_reducible refine (OB.out _ EW.out).mono ?_); rintro e w2 ⟨rfl, h2⟩; have r0 := (RL.out.2.2.2.2.ext h2).cell 0; have r1 := (RL.out.2.2.2.2.ext h2).cell 1; simp only [List.getElem?_toArray, List.getElem?_cons_zero, List.getElem?_cons_succ] at r0 r1)
              | (go_at_call 40; (with_reducible refine (OA.out _ (Ext.trans EW.out h2)).mono ?_); rintro e w3 ⟨rfl, h3⟩))
            go_roundw
            case rel => exact ⟨k + 1, cur, by go_num, by omega, RL.out.1, RL.out.2.1.ext (Ext.trans h2 h3), RL.out.2.2.1.ext (Ext.trans h2 h3), Ext.trans RL.out.2.2.2.1 (Ext.trans h2 h3)⟩
            case measure => simp [intOf]; omega
      · have hkT : k = M := by omega
        subst hkT
        have hRes := (at_new3 h1').ext hE
        have p0 := hRes.cell 0
        have p1 := hRes.cell 1
        have q0 := hRes.frozen 0
        have q1 := hRes.frozen 1
        have t0 := hB.cell 0
        have t1 := hB.cell 1
        simp only [List.getElem?_toArray, List.getElem?_cons_zero, List.getElem?_cons_succ] at p0 p1 t0 t1
        have h5 : ¬ (k : Int) < k := by omega
        have hj := or_end HH.out.1.lt HV.out.1.lt hrow.lt hrow.len HH.out.1.len (HV.out.1.len.trans HV.out.2.2) rfl HV.out.2.1 hcur
        have RL := Lib.hid (And.intro hj (And.intro hrow (And.intro hRes hE)))
        clear hcur hj hrow hB hE hRes hXA hXB
        go_wp2
        obtain ⟨rfl, hrow, hRes, hE⟩ := RL.out
        obtain ⟨s0, s1, hE'⟩ := res_store (w := w) (u := .int .i64 k) (v := .slice A3 n c3) hRes (Ext.trans H1.out hE) (by omega)
        have hz : w.heap.size + 1 + 1 < w1'.heap.size := by have := (at_new3 h1').lt; omega
        exact bodyPost_ret (v := .tuple #[.agg #[.int .i64 k, .slice A3 n c3], .int .i64 0]) (by simp [results, Tryd.results33, go_sem, s0, s1]) rfl ⟨A3, n, c3, rfl, ((hrow.other ⟨w.heap.size + 1 + 1, 0, none⟩ (.int .i64 k) (fun hn g e => by have := hrow.low hn g e; show g ≠ w.heap.size + 1 + 1; omega)).other ⟨w.heap.size + 1 + 1, 1, none⟩ (.slice A3 n c3) (fun hn g e => by have := hrow.low hn g e; show g ≠ w.heap.size + 1 + 1; omega)).bt, hE'⟩
end
end Go.Proofs.YtichgkeglgagfaaDoor
