/- desc: its reader's number (made by gen_numd.py). -/
import Derived.Test.YtgmpcinlkiiboaaGreatDoorRead1
import Derived.ScopeJumps
import Derived.Lib.OthersKept
import Derived.Deep.LoopGhost
namespace Go.Proofs.YtgmpcinlkiiboaaGreatDoor
open Go.RowKit Go
theorem get_bang (X : ByteArray) (k : Nat) (h : k < X.size) : X.get! k = X[k] := by
  cases X with
  | mk a => exact getElem!_pos a k h
theorem decode_big (s : ByteArray) (i : Nat) (h : 128 ≤ (s.get! i).toNat) : 128 ≤ (Utf8.decode s i).1 := by
  unfold Utf8.decode
  simp only [Nat.add_zero]
  split
  · omega
  · split
    · split
      · rename_i h2; exact h2
      · simp [Utf8.runeError]
    · split
      · split
        · rename_i h2; simp at h2; show 128 ≤ _; omega
        · simp [Utf8.runeError]
      · split
        · split
          · rename_i h2; simp at h2; show 128 ≤ _; omega
          · simp [Utf8.runeError]
        · simp [Utf8.runeError]
section
set_option maxHeartbeats 8000000 in
set_option maxRecDepth 100000 in
theorem number_is (b : Nat) (st : St) (hl : st.1.length ≤ 100000) (w0 w : World) (hG : G w0) (hE : Ext w0 w) (hb : w0.heap.size ≤ b) (h : Rdr w b st) :
    Calls Tryz.prog 53 #[.pointer (some ⟨b, 0, none⟩)] w fun e w' => e = .returned (.int .i64 (numberQ st).1) ∧ Rdr w' b (numberQ st).2 ∧ Chg b w w' := by
  have hz := hG.sz
  have F := Lib.hid (fun (w1 : World) (k1 : Ext w w1) => fail_is b st w1 (hG.ext (Ext.trans hE k1)) (by omega) (h.ext k1))
  have HR := Lib.hid h
  obtain ⟨ev, hB, hv⟩ := h
  have p0 := hB.cell 0
  have q0 := hB.frozen 0
  simp only [List.getElem?_toArray, List.getElem?_cons_zero] at p0
  have hlt := hB.lt
  clear hB hv hG hE
  unfold tv at p0
  have hX : (ByteArray.mk st.1.toArray).size = st.1.length := bx_size _
  have hget : ∀ k (hk : k < (ByteArray.mk st.1.toArray).size), (ByteArray.mk st.1.toArray)[k] = st.1.getD k 0 := by
    intro k hk
    rw [List.getD_eq_getElem?_getD, List.getElem?_eq_getElem (by rw [← hX]; exact hk)]; rfl
  have hdr : ∀ k, (ByteArray.mk st.1.toArray).extract k (ByteArray.mk st.1.toArray).size = ⟨(st.1.drop k).toArray⟩ := fun k => bx_drop _ _
  have HX := Lib.hid (And.intro hX (And.intro hget hdr))
  have hXl : (ByteArray.mk st.1.toArray).size ≤ 100000 := by omega
  clear hX hget hdr
  generalize ByteArray.mk st.1.toArray = X at *
  go_enter Tryz.func53, Tryz.ntmps53
  go_wp2
  refine wp_scope_jumps 0 (fun a' w1 => ∃ (u1 u2 u3 u4 u5 u6 u7 u8 u9 u10 u11 u12 u13 u14 u15 u16 u17 u18 u19 u20 u21 u22 u23 u24 u25 u26 u27 u28 u29 u30 u31 u32 u33 u34 u35 u36 u37 u38 u39 u40 u41 u42 u43 u44 u45 u46 u47 u48 u49 u50 u51 u52 u53 : Value), a' = { tmps := #[.pointer (some ⟨b, 0, none⟩), u1, u2, u3, u4, u5, u6, u7, u8, u9, u10, u11, u12, u13, u14, u15, u16, u17, u18, u19, u20, u21, u22, u23, u24, u25, u26, u27, u28, u29, u30, u31, u32, u33, u34, u35, u36, u37, u38, u39, u40, u41, u42, u43, u44, u45, u46, u47, u48, u49, u50, u51, u52, u53], defers := [] } ∧ Ext w w1 ∧ scan 0 0 st.1 = none) (fun _ _ => 0) rfl ?_ ?_
  rotate_left
  · rintro a' w1 ⟨u1, u2, u3, u4, u5, u6, u7, u8, u9, u10, u11, u12, u13, u14, u15, u16, u17, u18, u19, u20, u21, u22, u23, u24, u25, u26, u27, u28, u29, u30, u31, u32, u33, u34, u35, u36, u37, u38, u39, u40, u41, u42, u43, u44, u45, u46, u47, u48, u49, u50, u51, u52, u53, rfl, k1, hs⟩
    have HN := Lib.hid (show numberQ st = (0, ([], true)) by unfold numberQ; rw [hs])
    have K1 := Lib.hid k1
    clear hs k1
    go_wp2_with (go_at_call 37; (with_reducible refine (F.out _ K1.out).mono ?_); rintro e w2 ⟨⟨v, rfl⟩, h2, k2⟩)
    simp only [Exit.jump]
    go_ret
    rw [HN.out]
    exact ⟨rfl, h2, (Chg.of_ext K1.out).trans k2⟩
  · go_wp2
    have hit0 : (w.alloc (.stringIter X 0)).heap[w.heap.size]? = some (.stringIter X 0) := World.alloc_heap_new w _
    go_loopg [3, 4] X.size (fun m n e wr => ∃ k N : Nat, k + m = X.size ∧ n = .int .i64 N ∧ e = .int .i64 k ∧ wr.heap[w.heap.size]? = some (.stringIter X k) ∧ scan 0 0 st.1 = scan N k (st.1.drop k) ∧ N ≤ 10249 ∧ (k = 0 → N = 0) ∧ Ext w wr)
    case atStart => exact ⟨0, 0, by omega, rfl, rfl, hit0, rfl, by omega, fun _ => rfl, ext1 _ _⟩
    case round =>
      obtain ⟨k, N, hk, rfl, rfl, hit, hsc, hN, hkN, hE⟩ := hrel
      by_cases hlt2 : k < X.size
      · have hd : st.1.drop k = X[k] :: st.1.drop (k + 1) := by
          have hk2 : k < st.1.length := by rw [← HX.out.1]; exact hlt2
          rw [List.drop_eq_getElem_cons hk2, HX.out.2.1 k hlt2, List.getD_eq_getElem?_getD, List.getElem?_eq_getElem hk2]; rfl
        have hd2 : X[k] :: st.1.drop (k + 1) = st.1.drop k := hd.symm
        rw [hd] at hsc
        simp only [scan] at hsc
        by_cases ha : X[k].toNat < 128
        · have hnext := fun ty => Lib.run_next_ascii_at (P := Tryz.prog) wr w.heap.size X k ty hit hlt2 ha
          have hit2 := Lib.iterAt_heap wr w.heap.size X k (k + 1) hit
          have hE2 := Lib.below_iterAt hE (Nat.le_refl _) X (k + 1)
          have pr := (extAt hE2 b 0 hlt).trans p0
          have qr : (wr.iterAt w.heap.size X (k + 1)).frozen? ⟨b, 0, none⟩ = false := by obtain ⟨ev, hB, _⟩ := HR.out; exact (hB.ext hE2).frozen 0
          generalize wr.iterAt w.heap.size X (k + 1) = wr2 at *
          by_cases hdg : isDig X[k] = true
          · rw [if_pos hdg] at hsc
            obtain ⟨q, hq, _, hq2, hq3⟩ := dig_byte hdg
            rw [hq2] at hsc
            clear hd hd2 hq2 hdg ha
            rw [hq3] at hnext
            have e0 : decide ((48 : Int) + q < 48) = false := decide_eq_false (by omega)
            have e1 : decide ((57 : Int) < 48 + q) = false := decide_eq_false (by omega)
            have e2 : ¬ ((48 : Int) + q < 48) := by omega
            have e3 : (48 : Int) + q ≤ 57 := by omega
            have e4 : decide (48 + q < 48) = false := decide_eq_false (by omega)
            have e5 : decide (57 < 48 + q) = false := decide_eq_false (by omega)
            have hc : ((48 + q : Nat) : Int) = 48 + (q : Int) := by push_cast; rfl
            rw [hc] at hnext
            clear hc
            rcases Nat.eq_zero_or_pos k with hk0 | hk0
            · obtain rfl := hkN hk0
              have d1 : decide (0 < k) = false := decide_eq_false (by omega)
              have d1' : decide ((0 : Int) < k) = false := decide_eq_false (by omega)
              rw [if_neg (by omega)] at hsc
              have HE := Lib.hid (And.intro hE2 (And.intro hsc (And.intro hit2 (And.intro hk hN))))
              have b1 : ((0 : Nat) : Int) ≤ 1024 := by omega
              have b2 : (q : Int) ≤ 9 := by omega
              have b3 : (k : Int) + 1 ≤ 1000000 := by omega
              clear hE2 hsc hit2 hit hk hN hE hq3
              go_wp2
              go_roundg (gk - 1)
              case measure => have := HE.out.2.2.2.1; omega
              case rel => exact ⟨k + 1, 10 * 0 + q, by have := HE.out.2.2.2.1; omega, by go_num, by go_num, HE.out.2.2.1, HE.out.2.1, by omega, fun h => by omega, HE.out.1⟩
            · have d1 : decide (0 < k) = true := decide_eq_true hk0
              have d1' : decide ((0 : Int) < k) = true := decide_eq_true (by omega)
              rcases Nat.eq_zero_or_pos N with hn0 | hn0
              · have d2 : ((N : Int) == 0) = true := by rw [beq_iff_eq]; omega
                have d2' : (N == 0) = true := by rw [beq_iff_eq]; exact hn0
                rw [if_pos (by omega)] at hsc
                have HE := Lib.hid (And.intro hE2 (And.intro hsc hk))
                clear hE2 hsc hit2 hit hk hN hE hq3
                go_wp2
                go_step3
                exact ⟨rfl, _, _, _, _, _, _, _, _, _, _, _, _, _, _, _, _, _, _, _, _, _, _, _, _, _, _, _, _, _, _, _, _, _, _, _, _, _, _, _, _, _, _, _, _, _, _, _, _, _, _, _, _, _, rfl, HE.out.1, HE.out.2.1⟩
              · have d2 : ((N : Int) == 0) = false := by rw [beq_eq_false_iff_ne]; omega
                have d2' : (N == 0) = false := by rw [beq_eq_false_iff_ne]; omega
                by_cases hb4 : 1024 < N
                · have d3 : decide (1024 < N) = true := decide_eq_true hb4
                  have d3' : decide ((1024 : Int) < N) = true := decide_eq_true (by omega)
                  rw [if_pos (by omega)] at hsc
                  have HE := Lib.hid (And.intro hE2 (And.intro hsc hk))
                  clear hE2 hsc hit2 hit hk hN hE hq3
                  go_wp2
                  go_step3
                  exact ⟨rfl, _, _, _, _, _, _, _, _, _, _, _, _, _, _, _, _, _, _, _, _, _, _, _, _, _, _, _, _, _, _, _, _, _, _, _, _, _, _, _, _, _, _, _, _, _, _, _, _, _, _, _, _, _, rfl, HE.out.1, HE.out.2.1⟩
                · have d3 : decide (1024 < N) = false := decide_eq_false hb4
                  have d3' : decide ((1024 : Int) < N) = false := decide_eq_false (by omega)
                  rw [if_neg (by omega)] at hsc
                  have HE := Lib.hid (And.intro hE2 (And.intro hsc (And.intro hit2 (And.intro hk hN))))
                  have b1 : ((N : Nat) : Int) ≤ 1024 := by omega
                  have b2 : (q : Int) ≤ 9 := by omega
                  have b3 : (k : Int) + 1 ≤ 1000000 := by omega
                  clear hE2 hsc hit2 hit hk hN hE hq3
                  go_wp2
                  go_roundg (gk - 1)
                  case measure => have := HE.out.2.2.2.1; omega
                  case rel => exact ⟨k + 1, 10 * N + q, by have := HE.out.2.2.2.1; omega, by go_num, by go_num, HE.out.2.2.1, HE.out.2.1, by omega, fun h => by omega, HE.out.1⟩
          · rw [if_neg hdg, hd2] at hsc
            have hnd : X[k].toNat < 48 ∨ 57 < X[k].toNat := by
              rcases Nat.lt_or_ge X[k].toNat 48 with h | h
              · exact .inl h
              · refine .inr (Nat.lt_of_not_le fun h2 => hdg ?_)
                rw [isDig, Bool.and_eq_true]; simp only [decide_eq_true_eq]; exact ⟨h, h2⟩
            clear hd hd2 hdg ha
            generalize X[k].toNat = z at *
            by_cases hz1 : z < 48
            · have e0 : decide (z < 48) = true := decide_eq_true hz1
              have e1 : decide ((z : Int) < 48) = true := decide_eq_true (by omega)
              have e2 : (z : Int) < 48 := by omega
              clear hnd
              rcases Nat.eq_zero_or_pos k with hk0 | hk0
              · rw [if_pos hk0] at hsc
                have z1 : ((k : Int) == 0) = true := by rw [beq_iff_eq]; omega
                have z2 : (k == 0) = true := by rw [beq_iff_eq]; exact hk0
                have HE := Lib.hid (And.intro hE2 (And.intro hsc hk))
                clear hE2 hsc hk0 hk hE hit hit2
                go_wp2
                go_step3
                exact ⟨rfl, _, _, _, _, _, _, _, _, _, _, _, _, _, _, _, _, _, _, _, _, _, _, _, _, _, _, _, _, _, _, _, _, _, _, _, _, _, _, _, _, _, _, _, _, _, _, _, _, _, _, _, _, _, rfl, HE.out.1, HE.out.2.1⟩
              · rw [if_neg (by omega)] at hsc
                have z1 : ((k : Int) == 0) = false := by rw [beq_eq_false_iff_ne]; omega
                have z2 : (k == 0) = false := by rw [beq_eq_false_iff_ne]; omega
                have z3 : (k : Int) ≤ X.size := by omega
                have HE := Lib.hid (And.intro hE2 (And.intro (show numberQ st = (N, (st.1.drop k, st.2)) by unfold numberQ; rw [hsc]) hk))
                clear hE2 hsc hk0 hk hE hit hit2
                go_wp2
                simp only [Exit.jump]
                go_ret
                rw [HE.out.2.1]
                obtain ⟨ev, hB, hv⟩ := HR.out
                refine ⟨rfl, ⟨ev, ?_, hv⟩, (Chg.of_ext HE.out.1).setCell 0 _⟩
                have h3 := (hB.ext HE.out.1).set 0 (.string (X.extract k X.size))
                simp only [List.setIfInBounds_toArray, List.set_cons_zero] at h3
                rw [HX.out.2.2 k] at h3 ⊢
                exact h3
            · have e0 : decide (z < 48) = false := decide_eq_false hz1
              have e1 : decide ((z : Int) < 48) = false := decide_eq_false (by omega)
              have e2 : ¬ (z : Int) < 48 := by omega
              have e3 : decide (57 < z) = true := decide_eq_true (by omega)
              have e4 : decide ((57 : Int) < z) = true := decide_eq_true (by omega)
              have e5 : (57 : Int) < z := by omega
              clear hnd
              rcases Nat.eq_zero_or_pos k with hk0 | hk0
              · rw [if_pos hk0] at hsc
                have z1 : ((k : Int) == 0) = true := by rw [beq_iff_eq]; omega
                have z2 : (k == 0) = true := by rw [beq_iff_eq]; exact hk0
                have HE := Lib.hid (And.intro hE2 (And.intro hsc hk))
                clear hE2 hsc hk0 hk hE hit hit2
                go_wp2
                go_step3
                exact ⟨rfl, _, _, _, _, _, _, _, _, _, _, _, _, _, _, _, _, _, _, _, _, _, _, _, _, _, _, _, _, _, _, _, _, _, _, _, _, _, _, _, _, _, _, _, _, _, _, _, _, _, _, _, _, _, rfl, HE.out.1, HE.out.2.1⟩
              · rw [if_neg (by omega)] at hsc
                have z1 : ((k : Int) == 0) = false := by rw [beq_eq_false_iff_ne]; omega
                have z2 : (k == 0) = false := by rw [beq_eq_false_iff_ne]; omega
                have z3 : (k : Int) ≤ X.size := by omega
                have HE := Lib.hid (And.intro hE2 (And.intro (show numberQ st = (N, (st.1.drop k, st.2)) by unfold numberQ; rw [hsc]) hk))
                clear hE2 hsc hk0 hk hE hit hit2
                go_wp2
                simp only [Exit.jump]
                go_ret
                rw [HE.out.2.1]
                obtain ⟨ev, hB, hv⟩ := HR.out
                refine ⟨rfl, ⟨ev, ?_, hv⟩, (Chg.of_ext HE.out.1).setCell 0 _⟩
                have h3 := (hB.ext HE.out.1).set 0 (.string (X.extract k X.size))
                simp only [List.setIfInBounds_toArray, List.set_cons_zero] at h3
                rw [HX.out.2.2 k] at h3 ⊢
                exact h3
        · have hnext := fun ty => Lib.run_next_any_at (P := Tryz.prog) wr w.heap.size X k ty hit hlt2
          have hbig := decode_big X k (by show 128 ≤ (X.get! k).toNat; rw [get_bang X k hlt2]; omega)
          have hE2 := Lib.below_iterAt hE (Nat.le_refl _) X (k + (Utf8.decode X k).2)
          have hdg : ¬ isDig X[k] = true := fun h => by obtain ⟨q, hq, _, _, hq3⟩ := dig_byte h; omega
          rw [if_neg hdg, hd2] at hsc
          have pr := (extAt hE2 b 0 hlt).trans p0
          have qr : (wr.iterAt w.heap.size X (k + (Utf8.decode X k).2)).frozen? ⟨b, 0, none⟩ = false := by obtain ⟨ev, hB, _⟩ := HR.out; exact (hB.ext hE2).frozen 0
          generalize wr.iterAt w.heap.size X (k + (Utf8.decode X k).2) = wr2 at *
          generalize (Utf8.decode X k).1 = z at *
          have hnd : z < 48 ∨ 57 < z := by omega
          clear hd hd2 hdg ha hbig
          by_cases hz1 : z < 48
          · have e0 : decide (z < 48) = true := decide_eq_true hz1
            have e1 : decide ((z : Int) < 48) = true := decide_eq_true (by omega)
            have e2 : (z : Int) < 48 := by omega
            clear hnd
            rcases Nat.eq_zero_or_pos k with hk0 | hk0
            · rw [if_pos hk0] at hsc
              have z1 : ((k : Int) == 0) = true := by rw [beq_iff_eq]; omega
              have z2 : (k == 0) = true := by rw [beq_iff_eq]; exact hk0
              have HE := Lib.hid (And.intro hE2 (And.intro hsc hk))
              clear hE2 hsc hk0 hk hE hit
              go_wp2
              go_step3
              exact ⟨rfl, _, _, _, _, _, _, _, _, _, _, _, _, _, _, _, _, _, _, _, _, _, _, _, _, _, _, _, _, _, _, _, _, _, _, _, _, _, _, _, _, _, _, _, _, _, _, _, _, _, _, _, _, _, rfl, HE.out.1, HE.out.2.1⟩
            · rw [if_neg (by omega)] at hsc
              have z1 : ((k : Int) == 0) = false := by rw [beq_eq_false_iff_ne]; omega
              have z2 : (k == 0) = false := by rw [beq_eq_false_iff_ne]; omega
              have z3 : (k : Int) ≤ X.size := by omega
              have HE := Lib.hid (And.intro hE2 (And.intro (show numberQ st = (N, (st.1.drop k, st.2)) by unfold numberQ; rw [hsc]) hk))
              clear hE2 hsc hk0 hk hE hit
              go_wp2
              simp only [Exit.jump]
              go_ret
              rw [HE.out.2.1]
              obtain ⟨ev, hB, hv⟩ := HR.out
              refine ⟨rfl, ⟨ev, ?_, hv⟩, (Chg.of_ext HE.out.1).setCell 0 _⟩
              have h3 := (hB.ext HE.out.1).set 0 (.string (X.extract k X.size))
              simp only [List.setIfInBounds_toArray, List.set_cons_zero] at h3
              rw [HX.out.2.2 k] at h3 ⊢
              exact h3
          · have e0 : decide (z < 48) = false := decide_eq_false hz1
            have e1 : decide ((z : Int) < 48) = false := decide_eq_false (by omega)
            have e2 : ¬ (z : Int) < 48 := by omega
            have e3 : decide (57 < z) = true := decide_eq_true (by omega)
            have e4 : decide ((57 : Int) < z) = true := decide_eq_true (by omega)
            have e5 : (57 : Int) < z := by omega
            clear hnd
            rcases Nat.eq_zero_or_pos k with hk0 | hk0
            · rw [if_pos hk0] at hsc
              have z1 : ((k : Int) == 0) = true := by rw [beq_iff_eq]; omega
              have z2 : (k == 0) = true := by rw [beq_iff_eq]; exact hk0
              have HE := Lib.hid (And.intro hE2 (And.intro hsc hk))
              clear hE2 hsc hk0 hk hE hit
              go_wp2
              go_step3
              exact ⟨rfl, _, _, _, _, _, _, _, _, _, _, _, _, _, _, _, _, _, _, _, _, _, _, _, _, _, _, _, _, _, _, _, _, _, _, _, _, _, _, _, _, _, _, _, _, _, _, _, _, _, _, _, _, _, rfl, HE.out.1, HE.out.2.1⟩
            · rw [if_neg (by omega)] at hsc
              have z1 : ((k : Int) == 0) = false := by rw [beq_eq_false_iff_ne]; omega
              have z2 : (k == 0) = false := by rw [beq_eq_false_iff_ne]; omega
              have z3 : (k : Int) ≤ X.size := by omega
              have HE := Lib.hid (And.intro hE2 (And.intro (show numberQ st = (N, (st.1.drop k, st.2)) by unfold numberQ; rw [hsc]) hk))
              clear hE2 hsc hk0 hk hE hit
              go_wp2
              simp only [Exit.jump]
              go_ret
              rw [HE.out.2.1]
              obtain ⟨ev, hB, hv⟩ := HR.out
              refine ⟨rfl, ⟨ev, ?_, hv⟩, (Chg.of_ext HE.out.1).setCell 0 _⟩
              have h3 := (hB.ext HE.out.1).set 0 (.string (X.extract k X.size))
              simp only [List.setIfInBounds_toArray, List.set_cons_zero] at h3
              rw [HX.out.2.2 k] at h3 ⊢
              exact h3
      · have hnext := fun ty => Lib.run_next_end_at (P := Tryz.prog) wr w.heap.size X k ty hit hlt2
        have hdn : st.1.drop k = [] := List.drop_eq_nil_of_le (by rw [← HX.out.1]; omega)
        have hE2 := hE
        have pr := (extAt hE2 b 0 hlt).trans p0
        have qr : wr.frozen? ⟨b, 0, none⟩ = false := by obtain ⟨ev, hB, _⟩ := HR.out; exact (hB.ext hE2).frozen 0
        replace hsc : scan 0 0 st.1 = if k = 0 then none else some (N, st.1.drop k) := by rw [hsc, hdn]; rfl
        clear hdn
        rcases Nat.eq_zero_or_pos k with hk0 | hk0
        · rw [if_pos hk0] at hsc
          have z1 : ((k : Int) == 0) = true := by rw [beq_iff_eq]; omega
          have z2 : (k == 0) = true := by rw [beq_iff_eq]; exact hk0
          have HE := Lib.hid (And.intro hE2 (And.intro hsc hk))
          clear hE2 hsc hk0 hk hE hit
          go_wp2
          go_step3
          exact ⟨rfl, _, _, _, _, _, _, _, _, _, _, _, _, _, _, _, _, _, _, _, _, _, _, _, _, _, _, _, _, _, _, _, _, _, _, _, _, _, _, _, _, _, _, _, _, _, _, _, _, _, _, _, _, _, rfl, HE.out.1, HE.out.2.1⟩
        · rw [if_neg (by omega)] at hsc
          have z1 : ((k : Int) == 0) = false := by rw [beq_eq_false_iff_ne]; omega
          have z2 : (k == 0) = false := by rw [beq_eq_false_iff_ne]; omega
          have z3 : (k : Int) ≤ X.size := by omega
          have HE := Lib.hid (And.intro hE2 (And.intro (show numberQ st = (N, (st.1.drop k, st.2)) by unfold numberQ; rw [hsc]) hk))
          clear hE2 hsc hk0 hk hE hit
          go_wp2
          simp only [Exit.jump]
          go_ret
          rw [HE.out.2.1]
          obtain ⟨ev, hB, hv⟩ := HR.out
          refine ⟨rfl, ⟨ev, ?_, hv⟩, (Chg.of_ext HE.out.1).setCell 0 _⟩
          have h3 := (hB.ext HE.out.1).set 0 (.string (X.extract k X.size))
          simp only [List.setIfInBounds_toArray, List.set_cons_zero] at h3
          rw [HX.out.2.2 k] at h3 ⊢
          exact h3
end
end Go.Proofs.YtgmpcinlkiiboaaGreatDoor
