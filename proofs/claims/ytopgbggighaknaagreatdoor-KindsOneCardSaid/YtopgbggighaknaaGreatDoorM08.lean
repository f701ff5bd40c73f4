/- Joined texts, in their order: NumD, PartQ. -/
import Derived.Test.YtopgbggighaknaaGreatDoorM07
import Derived.ScopeJumps
import Derived.Lib.OthersKept
import Derived.Deep.LoopGhost
import Derived.Test.YtopgbggighaknaaGreatDoorM05
/- desc: its reader's number (made by gen_numd.py). -/
namespace Go.Proofs.YtopgbggighaknaaGreatDoor
open Go.RowKit Go
theorem get_bang (X : ByteArray) (k : Nat) (h : k < X.size) : X.get! k = X[k] := by
  cases X with
  | mk a => exact getElem!_pos a k h
theorem decode_big (s : ByteArray) (i : Nat) (h : 128 ≤ (s.get! i).toNat) : 128 ≤ (Utf8.decode s i).1 := by
  unfold Utf8.decode
  simp only [Nat.add_zero]
  split
  · omega
  · split
    · split
      · rename_i h2; exact h2
      · simp [Utf8.runeError]
    · split
      · split
        · rename_i h2; simp at h2; show 128 ≤ _; omega
        · simp [Utf8.runeError]
      · split
        · split
          · rename_i h2; simp at h2; show 128 ≤ _; omega
          · simp [Utf8.runeError]
        · simp [Utf8.runeError]
section
set_option maxHeartbeats 8000000 in
set_option maxRecDepth 100000 in
theorem number_is (b : Nat) (st : St) (hl : st.1.length ≤ 100000) (w0 w : World) (hG : G w0) (hE : Ext w0 w) (hb : w0.heap.size ≤ b) (h : Rdr w b st) :
    Calls Tryz.prog 93 #[.pointer (some ⟨b, 0, none⟩)] w fun e w' => e = .returned (.int .i64 (numberQ st).1) ∧ Rdr w' b (numberQ st).2 ∧ Chg b w w' := by
  have hz := hG.sz
  have F := Lib.hid (fun (w1 : World) (k1 : Ext w w1) => fail_is b st w1 (hG.ext (Ext.trans hE k1)) (by omega) (h.ext k1))
  have HR := Lib.hid h
  obtain ⟨ev, hB, hv⟩ := h
  have p0 := hB.cell 0
  have q0 := hB.frozen 0
  simp only [List.getElem?_toArray, List.getElem?_cons_zero] at p0
  have hlt := hB.lt
  clear hB hv hG hE
  unfold tv at p0
  have hX : (ByteArray.mk st.1.toArray).size = st.1.length := bx_size _
  have hget : ∀ k (hk : k < (ByteArray.mk st.1.toArray).size), (ByteArray.mk st.1.toArray)[k] = st.1.getD k 0 := by
    intro k hk
    rw [List.getD_eq_getElem?_getD, List.getElem?_eq_getElem (by rw [← hX]; exact hk)]; rfl
  have hdr : ∀ k, (ByteArray.mk st.1.toArray).extract k (ByteArray.mk st.1.toArray).size = ⟨(st.1.drop k).toArray⟩ := fun k => bx_drop _ _
  have HX := Lib.hid (And.intro hX (And.intro hget hdr))
  have hXl : (ByteArray.mk st.1.toArray).size ≤ 100000 := by omega
  clear hX hget hdr
  generalize ByteArray.mk st.1.toArray = X at *
  go_enter Tryz.func93, Tryz.ntmps93
  go_wp2
  refine wp_scope_jumps 0 (fun a' w1 => ∃ (u1 u2 u3 u4 u5 u6 u7 u8 u9 u10 u11 u12 u13 u14 u15 u16 u17 u18 u19 u20 u21 u22 u23 u24 u25 u26 u27 u28 u29 u30 u31 u32 u33 u34 u35 u36 u37 u38 u39 u40 u41 u42 u43 u44 u45 u46 u47 u48 u49 u50 u51 u52 u53 : Value), a' = { tmps := #[.pointer (some ⟨b, 0, none⟩), u1, u2, u3, u4, u5, u6, u7, u8, u9, u10, u11, u12, u13, u14, u15, u16, u17, u18, u19, u20, u21, u22, u23, u24, u25, u26, u27, u28, u29, u30, u31, u32, u33, u34, u35, u36, u37, u38, u39, u40, u41, u42, u43, u44, u45, u46, u47, u48, u49, u50, u51, u52, u53], defers := [] } ∧ Ext w w1 ∧ scan 0 0 st.1 = none) (fun _ _ => 0) rfl ?_ ?_
  rotate_left
  · rintro a' w1 ⟨u1, u2, u3, u4, u5, u6, u7, u8, u9, u10, u11, u12, u13, u14, u15, u16, u17, u18, u19, u20, u21, u22, u23, u24, u25, u26, u27, u28, u29, u30, u31, u32, u33, u34, u35, u36, u37, u38, u39, u40, u41, u42, u43, u44, u45, u46, u47, u48, u49, u50, u51, u52, u53, rfl, k1, hs⟩
    have HN := Lib.hid (show numberQ st = (0, ([], true)) by unfold numberQ; rw [hs])
    have K1 := Lib.hid k1
    clear hs k1
    go_wp2_with (go_at_call 87; (with_reducible refine (F.out _ K1.out).mono ?_); rintro e w2 ⟨⟨v, rfl⟩, h2, k2⟩)
    simp only [Exit.jump]
    go_ret
    rw [HN.out]
    exact ⟨rfl, h2, (Chg.of_ext K1.out).trans k2⟩
  · go_wp2
    have hit0 : (w.alloc (.stringIter X 0)).heap[w.heap.size]? = some (.stringIter X 0) := World.alloc_heap_new w _
    go_loopg [3, 4] X.size (fun m n e wr => ∃ k N : Nat, k + m = X.size ∧ n = .int .i64 N ∧ e = .int .i64 k ∧ wr.heap[w.heap.size]? = some (.stringIter X k) ∧ scan 0 0 st.1 = scan N k (st.1.drop k) ∧ N ≤ 10249 ∧ (k = 0 → N = 0) ∧ Ext w wr)
    case atStart => exact ⟨0, 0, by omega, rfl, rfl, hit0, rfl, by omega, fun _ => rfl, ext1 _ _⟩
    case round =>
      obtain ⟨k, N, hk, rfl, rfl, hit, hsc, hN, hkN, hE⟩ := hrel
      by_cases hlt2 : k < X.size
      · have hd : st.1.drop k = X[k] :: st.1.drop (k + 1) := by
          have hk2 : k < st.1.length := by rw [← HX.out.1]; exact hlt2
          rw [List.drop_eq_getElem_cons hk2, HX.out.2.1 k hlt2, List.getD_eq_getElem?_getD, List.getElem?_eq_getElem hk2]; rfl
        have hd2 : X[k] :: st.1.drop (k + 1) = st.1.drop k := hd.symm
        rw [hd] at hsc
        simp only [scan] at hsc
        by_cases ha : X[k].toNat < 128
        · have hnext := fun ty => Lib.run_next_ascii_at (P := Tryz.prog) wr w.heap.size X k ty hit hlt2 ha
          have hit2 := Lib.iterAt_heap wr w.heap.size X k (k + 1) hit
          have hE2 := Lib.below_iterAt hE (Nat.le_refl _) X (k + 1)
          have pr := (extAt hE2 b 0 hlt).trans p0
          have qr : (wr.iterAt w.heap.size X (k + 1)).frozen? ⟨b, 0, none⟩ = false := by obtain ⟨ev, hB, _⟩ := HR.out; exact (hB.ext hE2).frozen 0
          generalize wr.iterAt w.heap.size X (k + 1) = wr2 at *
          by_cases hdg : isDig X[k] = true
          · rw [if_pos hdg] at hsc
            obtain ⟨q, hq, _, hq2, hq3⟩ := dig_byte hdg
            rw [hq2] at hsc
            clear hd hd2 hq2 hdg ha
            rw [hq3] at hnext
            have e0 : decide ((48 : Int) + q < 48) = false := decide_eq_false (by omega)
            have e1 : decide ((57 : Int) < 48 + q) = false := decide_eq_false (by omega)
            have e2 : ¬ ((48 : Int) + q < 48) := by omega
            have e3 : (48 : Int) + q ≤ 57 := by omega
            have e4 : decide (48 + q < 48) = false := decide_eq_false (by omega)
            have e5 : decide (57 < 48 + q) = false := decide_eq_false (by omega)
            have hc : ((48 + q : Nat) : Int) = 48 + (q : Int) := by push_cast; rfl
            rw [hc] at hnext
            clear hc
            rcases Nat.eq_zero_or_pos k with hk0 | hk0
            · obtain rfl := hkN hk0
              have d1 : decide (0 < k) = false := decide_eq_false (by omega)
              have d1' : decide ((0 : Int) < k) = false := decide_eq_false (by omega)
              rw [if_neg (by omega)] at hsc
              have HE := Lib.hid (And.intro hE2 (And.intro hsc (And.intro hit2 (And.intro hk hN))))
              have b1 : ((0 : Nat) : Int) ≤ 1024 := by omega
              have b2 : (q : Int) ≤ 9 := by omega
              have b3 : (k : Int) + 1 ≤ 1000000 := by omega
              clear hE2 hsc hit2 hit hk hN hE hq3
              go_wp2
              go_roundg (gk - 1)
              case measure => have := HE.out.2.2.2.1; omega
              case rel => exact ⟨k + 1, 10 * 0 + q, by have := HE.out.2.2.2.1; omega, by go_num, by go_num, HE.out.2.2.1, HE.out.2.1, by omega, fun h => by omega, HE.out.1⟩
            · have d1 : decide (0 < k) = true := decide_eq_true hk0
              have d1' : decide ((0 : Int) < k) = true := decide_eq_true (by omega)
              rcases Nat.eq_zero_or_pos N with hn0 | hn0
              · have d2 : ((N : Int) == 0) = true := by rw [beq_iff_eq]; omega
                have d2' : (N == 0) = true := by rw [beq_iff_eq]; exact hn0
                rw [if_pos (by omega)] at hsc
                have HE := Lib.hid (And.intro hE2 (And.intro hsc hk))
                clear hE2 hsc hit2 hit hk hN hE hq3
                go_wp2
                go_step3
                exact ⟨rfl, _, _, _, _, _, _, _, _, _, _, _, _, _, _, _, _, _, _, _, _, _, _, _, _, _, _, _, _, _, _, _, _, _, _, _, _, _, _, _, _, _, _, _, _, _, _, _, _, _, _, _, _, _, rfl, HE.out.1, HE.out.2.1⟩
              · have d2 : ((N : Int) == 0) = false := by rw [beq_eq_false_iff_ne]; omega
                have d2' : (N == 0) = false := by rw [beq_eq_false_iff_ne]; omega
                by_cases hb4 : 1024 < N
                · have d3 : decide (1024 < N) = true := decide_eq_true hb4
                  have d3' : decide ((1024 : Int) < N) = true := decide_eq_true (by omega)
                  rw [if_pos (by omega)] at hsc
                  have HE := Lib.hid (And.intro hE2 (And.intro hsc hk))
                  clear hE2 hsc hit2 hit hk hN hE hq3
                  go_wp2
                  go_step3
                  exact ⟨rfl, _, _, _, _, _, _, _, _, _, _, _, _, _, _, _, _, _, _, _, _, _, _, _, _, _, _, _, _, _, _, _, _, _, _, _, _, _, _, _, _, _, _, _, _, _, _, _, _, _, _, _, _, _, rfl, HE.out.1, HE.out.2.1⟩
                · have d3 : decide (1024 < N) = false := decide_eq_false hb4
                  have d3' : decide ((1024 : Int) < N) = false := decide_eq_false (by omega)
                  rw [if_neg (by omega)] at hsc
                  have HE := Lib.hid (And.intro hE2 (And.intro hsc (And.intro hit2 (And.intro hk hN))))
                  have b1 : ((N : Nat) : Int) ≤ 1024 := by omega
                  have b2 : (q : Int) ≤ 9 := by omega
                  have b3 : (k : Int) + 1 ≤ 1000000 := by omega
                  clear hE2 hsc hit2 hit hk hN hE hq3
                  go_wp2
                  go_roundg (gk - 1)
                  case measure => have := HE.out.2.2.2.1; omega
                  case rel => exact ⟨k + 1, 10 * N + q, by have := HE.out.2.2.2.1; omega, by go_num, by go_num, HE.out.2.2.1, HE.out.2.1, by omega, fun h => by omega, HE.out.1⟩
          · rw [if_neg hdg, hd2] at hsc
            have hnd : X[k].toNat < 48 ∨ 57 < X[k].toNat := by
              rcases Nat.lt_or_ge X[k].toNat 48 with h | h
              · exact .inl h
              · refine .inr (Nat.lt_of_not_le fun h2 => hdg ?_)
                rw [isDig, Bool.and_eq_true]; simp only [decide_eq_true_eq]; exact ⟨h, h2⟩
            clear hd hd2 hdg ha
            generalize X[k].toNat = z at *
            by_cases hz1 : z < 48
            · have e0 : decide (z < 48) = true := decide_eq_true hz1
              have e1 : decide ((z : Int) < 48) = true := decide_eq_true (by omega)
              have e2 : (z : Int) < 48 := by omega
              clear hnd
              rcases Nat.eq_zero_or_pos k with hk0 | hk0
              · rw [if_pos hk0] at hsc
                have z1 : ((k : Int) == 0) = true := by rw [beq_iff_eq]; omega
                have z2 : (k == 0) = true := by rw [beq_iff_eq]; exact hk0
                have HE := Lib.hid (And.intro hE2 (And.intro hsc hk))
                clear hE2 hsc hk0 hk hE hit hit2
                go_wp2
                go_step3
                exact ⟨rfl, _, _, _, _, _, _, _, _, _, _, _, _, _, _, _, _, _, _, _, _, _, _, _, _, _, _, _, _, _, _, _, _, _, _, _, _, _, _, _, _, _, _, _, _, _, _, _, _, _, _, _, _, _, rfl, HE.out.1, HE.out.2.1⟩
              · rw [if_neg (by omega)] at hsc
                have z1 : ((k : Int) == 0) = false := by rw [beq_eq_false_iff_ne]; omega
                have z2 : (k == 0) = false := by rw [beq_eq_false_iff_ne]; omega
                have z3 : (k : Int) ≤ X.size := by omega
                have HE := Lib.hid (And.intro hE2 (And.intro (show numberQ st = (N, (st.1.drop k, st.2)) by unfold numberQ; rw [hsc]) hk))
                clear hE2 hsc hk0 hk hE hit hit2
                go_wp2
                simp only [Exit.jump]
                go_ret
                rw [HE.out.2.1]
                obtain ⟨ev, hB, hv⟩ := HR.out
                refine ⟨rfl, ⟨ev, ?_, hv⟩, (Chg.of_ext HE.out.1).setCell 0 _⟩
                have h3 := (hB.ext HE.out.1).set 0 (.string (X.extract k X.size))
                simp only [List.setIfInBounds_toArray, List.set_cons_zero] at h3
                rw [HX.out.2.2 k] at h3 ⊢
                exact h3
            · have e0 : decide (z < 48) = false := decide_eq_false hz1
              have e1 : decide ((z : Int) < 48) = false := decide_eq_false (by omega)
              have e2 : ¬ (z : Int) < 48 := by omega
              have e3 : decide (57 < z) = true := decide_eq_true (by omega)
              have e4 : decide ((57 : Int) < z) = true := decide_eq_true (by omega)
              have e5 : (57 : Int) < z := by omega
              clear hnd
              rcases Nat.eq_zero_or_pos k with hk0 | hk0
              · rw [if_pos hk0] at hsc
                have z1 : ((k : Int) == 0) = true := by rw [beq_iff_eq]; omega
                have z2 : (k == 0) = true := by rw [beq_iff_eq]; exact hk0
                have HE := Lib.hid (And.intro hE2 (And.intro hsc hk))
                clear hE2 hsc hk0 hk hE hit hit2
                go_wp2
                go_step3
                exact ⟨rfl, _, _, _, _, _, _, _, _, _, _, _, _, _, _, _, _, _, _, _, _, _, _, _, _, _, _, _, _, _, _, _, _, _, _, _, _, _, _, _, _, _, _, _, _, _, _, _, _, _, _, _, _, _, rfl, HE.out.1, HE.out.2.1⟩
              · rw [if_neg (by omega)] at hsc
                have z1 : ((k : Int) == 0) = false := by rw [beq_eq_false_iff_ne]; omega
                have z2 : (k == 0) = false := by rw [beq_eq_false_iff_ne]; omega
                have z3 : (k : Int) ≤ X.size := by omega
                have HE := Lib.hid (And.intro hE2 (And.intro (show numberQ st = (N, (st.1.drop k, st.2)) by unfold numberQ; rw [hsc]) hk))
                clear hE2 hsc hk0 hk hE hit hit2
                go_wp2
                simp only [Exit.jump]
                go_ret
                rw [HE.out.2.1]
                obtain ⟨ev, hB, hv⟩ := HR.out
                refine ⟨rfl, ⟨ev, ?_, hv⟩, (Chg.of_ext HE.out.1).setCell 0 _⟩
                have h3 := (hB.ext HE.out.1).set 0 (.string (X.extract k X.size))
                simp only [List.setIfInBounds_toArray, List.set_cons_zero] at h3
                rw [HX.out.2.2 k] at h3 ⊢
                exact h3
        · have hnext := fun ty => Lib.run_next_any_at (P := Tryz.prog) wr w.heap.size X k ty hit hlt2
          have hbig := decode_big X k (by show 128 ≤ (X.get! k).toNat; rw [get_bang X k hlt2]; omega)
          have hE2 := Lib.below_iterAt hE (Nat.le_refl _) X (k + (Utf8.decode X k).2)
          have hdg : ¬ isDig X[k] = true := fun h => by obtain ⟨q, hq, _, _, hq3⟩ := dig_byte h; omega
          rw [if_neg hdg, hd2] at hsc
          have pr := (extAt hE2 b 0 hlt).trans p0
          have qr : (wr.iterAt w.heap.size X (k + (Utf8.decode X k).2)).frozen? ⟨b, 0, none⟩ = false := by obtain ⟨ev, hB, _⟩ := HR.out; exact (hB.ext hE2).frozen 0
          generalize wr.iterAt w.heap.size X (k + (Utf8.decode X k).2) = wr2 at *
          generalize (Utf8.decode X k).1 = z at *
          have hnd : z < 48 ∨ 57 < z := by omega
          clear hd hd2 hdg ha hbig
          by_cases hz1 : z < 48
          · have e0 : decide (z < 48) = true := decide_eq_true hz1
            have e1 : decide ((z : Int) < 48) = true := decide_eq_true (by omega)
            have e2 : (z : Int) < 48 := by omega
            clear hnd
            rcases Nat.eq_zero_or_pos k with hk0 | hk0
            · rw [if_pos hk0] at hsc
              have z1 : ((k : Int) == 0) = true := by rw [beq_iff_eq]; omega
              have z2 : (k == 0) = true := by rw [beq_iff_eq]; exact hk0
              have HE := Lib.hid (And.intro hE2 (And.intro hsc hk))
              clear hE2 hsc hk0 hk hE hit
              go_wp2
              go_step3
              exact ⟨rfl, _, _, _, _, _, _, _, _, _, _, _, _, _, _, _, _, _, _, _, _, _, _, _, _, _, _, _, _, _, _, _, _, _, _, _, _, _, _, _, _, _, _, _, _, _, _, _, _, _, _, _, _, _, rfl, HE.out.1, HE.out.2.1⟩
            · rw [if_neg (by omega)] at hsc
              have z1 : ((k : Int) == 0) = false := by rw [beq_eq_false_iff_ne]; omega
              have z2 : (k == 0) = false := by rw [beq_eq_false_iff_ne]; omega
              have z3 : (k : Int) ≤ X.size := by omega
              have HE := Lib.hid (And.intro hE2 (And.intro (show numberQ st = (N, (st.1.drop k, st.2)) by unfold numberQ; rw [hsc]) hk))
              clear hE2 hsc hk0 hk hE hit
              go_wp2
              simp only [Exit.jump]
              go_ret
              rw [HE.out.2.1]
              obtain ⟨ev, hB, hv⟩ := HR.out
              refine ⟨rfl, ⟨ev, ?_, hv⟩, (Chg.of_ext HE.out.1).setCell 0 _⟩
              have h3 := (hB.ext HE.out.1).set 0 (.string (X.extract k X.size))
              simp only [List.setIfInBounds_toArray, List.set_cons_zero] at h3
              rw [HX.out.2.2 k] at h3 ⊢
              exact h3
          · have e0 : decide (z < 48) = false := decide_eq_false hz1
            have e1 : decide ((z : Int) < 48) = false := decide_eq_false (by omega)
            have e2 : ¬ (z : Int) < 48 := by omega
            have e3 : decide (57 < z) = true := decide_eq_true (by omega)
            have e4 : decide ((57 : Int) < z) = true := decide_eq_true (by omega)
            have e5 : (57 : Int) < z := by omega
            clear hnd
            rcases Nat.eq_zero_or_pos k with hk0 | hk0
            · rw [if_pos hk0] at hsc
              have z1 : ((k : Int) == 0) = true := by rw [beq_iff_eq]; omega
              have z2 : (k == 0) = true := by rw [beq_iff_eq]; exact hk0
              have HE := Lib.hid (And.intro hE2 (And.intro hsc hk))
              clear hE2 hsc hk0 hk hE hit
              go_wp2
              go_step3
              exact ⟨rfl, _, _, _, _, _, _, _, _, _, _, _, _, _, _, _, _, _, _, _, _, _, _, _, _, _, _, _, _, _, _, _, _, _, _, _, _, _, _, _, _, _, _, _, _, _, _, _, _, _, _, _, _, _, rfl, HE.out.1, HE.out.2.1⟩
            · rw [if_neg (by omega)] at hsc
              have z1 : ((k : Int) == 0) = false := by rw [beq_eq_false_iff_ne]; omega
              have z2 : (k == 0) = false := by rw [beq_eq_false_iff_ne]; omega
              have z3 : (k : Int) ≤ X.size := by omega
              have HE := Lib.hid (And.intro hE2 (And.intro (show numberQ st = (N, (st.1.drop k, st.2)) by unfold numberQ; rw [hsc]) hk))
              clear hE2 hsc hk0 hk hE hit
              go_wp2
              simp only [Exit.jump]
              go_ret
              rw [HE.out.2.1]
              obtain ⟨ev, hB, hv⟩ := HR.out
              refine ⟨rfl, ⟨ev, ?_, hv⟩, (Chg.of_ext HE.out.1).setCell 0 _⟩
              have h3 := (hB.ext HE.out.1).set 0 (.string (X.extract k X.size))
              simp only [List.setIfInBounds_toArray, List.set_cons_zero] at h3
              rw [HX.out.2.2 k] at h3 ⊢
              exact h3
      · have hnext := fun ty => Lib.run_next_end_at (P := Tryz.prog) wr w.heap.size X k ty hit hlt2
        have hdn : st.1.drop k = [] := List.drop_eq_nil_of_le (by rw [← HX.out.1]; omega)
        have hE2 := hE
        have pr := (extAt hE2 b 0 hlt).trans p0
        have qr : wr.frozen? ⟨b, 0, none⟩ = false := by obtain ⟨ev, hB, _⟩ := HR.out; exact (hB.ext hE2).frozen 0
        replace hsc : scan 0 0 st.1 = if k = 0 then none else some (N, st.1.drop k) := by rw [hsc, hdn]; rfl
        clear hdn
        rcases Nat.eq_zero_or_pos k with hk0 | hk0
        · rw [if_pos hk0] at hsc
          have z1 : ((k : Int) == 0) = true := by rw [beq_iff_eq]; omega
          have z2 : (k == 0) = true := by rw [beq_iff_eq]; exact hk0
          have HE := Lib.hid (And.intro hE2 (And.intro hsc hk))
          clear hE2 hsc hk0 hk hE hit
          go_wp2
          go_step3
          exact ⟨rfl, _, _, _, _, _, _, _, _, _, _, _, _, _, _, _, _, _, _, _, _, _, _, _, _, _, _, _, _, _, _, _, _, _, _, _, _, _, _, _, _, _, _, _, _, _, _, _, _, _, _, _, _, _, rfl, HE.out.1, HE.out.2.1⟩
        · rw [if_neg (by omega)] at hsc
          have z1 : ((k : Int) == 0) = false := by rw [beq_eq_false_iff_ne]; omega
          have z2 : (k == 0) = false := by rw [beq_eq_false_iff_ne]; omega
          have z3 : (k : Int) ≤ X.size := by omega
          have HE := Lib.hid (And.intro hE2 (And.intro (show numberQ st = (N, (st.1.drop k, st.2)) by unfold numberQ; rw [hsc]) hk))
          clear hE2 hsc hk0 hk hE hit
          go_wp2
          simp only [Exit.jump]
          go_ret
          rw [HE.out.2.1]
          obtain ⟨ev, hB, hv⟩ := HR.out
          refine ⟨rfl, ⟨ev, ?_, hv⟩, (Chg.of_ext HE.out.1).setCell 0 _⟩
          have h3 := (hB.ext HE.out.1).set 0 (.string (X.extract k X.size))
          simp only [List.setIfInBounds_toArray, List.set_cons_zero] at h3
          rw [HX.out.2.2 k] at h3 ⊢
          exact h3
end
end Go.Proofs.YtopgbggighaknaaGreatDoor
/- desc: its reader's part. -/
namespace Go.Proofs.YtopgbggighaknaaGreatDoor
open Go.RowKit Go
theorem scan_le : ∀ (s : List UInt8) (N k : Nat), N ≤ 10249 → ∀ n r, scan N k s = some (n, r) → n ≤ 10249 ∧ r.length ≤ s.length
  | [], N, k, hN, n, r, h => by
    simp only [scan] at h
    split at h
    · cases h
    · cases h; exact ⟨hN, by simp⟩
  | c :: s, N, k, hN, n, r, h => by
    simp only [scan] at h
    split at h
    · rename_i hd
      split at h
      · cases h
      · obtain ⟨q, hq, _, hq2, _⟩ := dig_byte hd
        have := scan_le s _ _ (by omega) n r h
        exact ⟨this.1, by simp; omega⟩
    · split at h
      · cases h
      · cases h; exact ⟨hN, by simp⟩
theorem num_len (st : St) : (numberQ st).1 ≤ 10249 ∧ (numberQ st).2.1.length ≤ st.1.length := by
  unfold numberQ
  split
  · rename_i n r h; exact scan_le _ _ _ (by omega) _ _ h
  · exact ⟨by decide, by simp⟩
theorem must_len (g : List UInt8) (st : St) : (mustQ g st).1.length ≤ st.1.length := by
  unfold mustQ; split <;> simp
theorem loop_len : ∀ (f : Nat) (l : List Nat) (st : St), (loopQ f l st).2.1.length ≤ st.1.length ∧ (loopQ f l st).1.length ≤ l.length + f
  | 0, l, st => by simp [loopQ]
  | f + 1, l, st => by
    by_cases h : hasQ [32] st.1 = true
    · simp only [loopQ, h, if_true]
      have h1 := loop_len f (l ++ [(numberQ (st.1.drop 1, st.2)).1]) (numberQ (st.1.drop 1, st.2)).2
      have h2 := (num_len (st.1.drop 1, st.2)).2
      simp at h1 h2 ⊢
      omega
    · simp only [loopQ, h]
      simp
theorem part_len (st : St) : (partQ st).1 ≤ 10249 ∧ (partQ st).2.1.length ≤ 10249 ∧ (partQ st).2.2.1.length ≤ st.1.length := by
  unfold partQ
  have h1 := num_len st
  have h2 := must_len [58] (numberQ st).2
  have h3 := loop_len (numberQ st).1 [] (mustQ [58] (numberQ st).2)
  simp at h3 ⊢
  omega
theorem Chg.under {b S : Nat} {a w w' : World} (h : Chg b a w) (k : Below S w w') (hS : a.heap.size ≤ S) : Chg b a w' :=
  ⟨k.os.trans h.os, k.tape.trans h.tape, k.output.trans h.output, Nat.le_trans h.size k.size, fun i hi hne => (k.block i (by omega)).trans (h.block i hi hne)⟩
theorem Rdr.below {S : Nat} {w w' : World} {b : Nat} {st : St} (h : Rdr w b st) (k : Below S w w') (hb : b < S) : Rdr w' b st := by
  obtain ⟨ev, h1, h2⟩ := h
  exact ⟨ev, h1.below k hb, h2⟩
def encM (l : List Nat) : List Value := l.map fun x => Value.int .i64 (x : Nat)
theorem ilm_of_own {w w' : World} {base : Nat} {L : List Nat} {v : Value} (h : w.ownsRow base 3 1 v L.length (encM L)) (he : Ext w w') :
    ∃ A c, v = .slice A L.length c ∧ L.length ≤ c ∧ c ≤ maxLen ∧ (∀ ad, A = some ad → base ≤ ad.block) ∧ Il w' A L.length (L.map Int.ofNat) := by
  obtain ⟨A, c, rfl, hr⟩ := rd_of_own h
  have hc : L.length ≤ c ∧ c ≤ maxLen ∧ (∀ ad, A = some ad → base ≤ ad.block) := by
    rcases h.2 with ⟨e, h0⟩ | ⟨g, cap, cur, e, hgb, _, h1, h2, _⟩
    · simp only [Value.slice.injEq] at e; obtain ⟨e1, e2, e3⟩ := e; exact ⟨by omega, by unfold maxLen; omega, fun ad h => by rw [h] at e1; cases e1⟩
    · simp only [Value.slice.injEq] at e; obtain ⟨e1, e2, rfl⟩ := e; exact ⟨by omega, h2, fun ad h => (by rw [h] at e1; cases e1; exact hgb)⟩
  refine ⟨A, c, rfl, hc.1, hc.2.1, hc.2.2, by simp, fun hn => ?_⟩
  obtain ⟨ad, e, hb, hcl⟩ := (hr.ext he) hn
  refine ⟨ad, e, hb, fun j hj => ?_⟩
  rw [hcl j hj]
  simp [encM, hj]
theorem loop_stop {f : Nat} {l : List Nat} {st : St} (h : hasQ [32] st.1 = false) : loopQ f l st = (l, st) := by
  cases f with
  | zero => rfl
  | succ f => simp only [loopQ, h]; rfl
theorem loop_more {f : Nat} {l : List Nat} {st : St} (h : hasQ [32] st.1 = true) : loopQ (f + 1) l st = loopQ f (l ++ [(numberQ (cutQ [32] st.1, st.2)).1]) (numberQ (cutQ [32] st.1, st.2)).2 := by
  simp only [loopQ, h, if_true, cutQ]; rfl
/-- What part answers. -/
def PartR (w : World) (b : Nat) (st : St) (e : Ending) (w' : World) : Prop :=
  ∃ A c, e = .returned (.tuple #[.int .i64 ((partQ st).1 : Nat), .slice A (partQ st).2.1.length c]) ∧ (partQ st).2.1.length ≤ c ∧ c ≤ maxLen ∧ (∀ ad, A = some ad → w.heap.size ≤ ad.block) ∧
    Il w' A (partQ st).2.1.length ((partQ st).2.1.map Int.ofNat) ∧ Rdr w' b (partQ st).2.2 ∧ Chg b w w'
section
set_option maxHeartbeats 4000000 in
theorem dpart_is (b : Nat) (st : St) (hl : st.1.length ≤ 100000) (w0 w : World) (hG : G w0) (hE : Ext w0 w) (hb : w0.heap.size ≤ b) (h : Rdr w b st) :
    Calls Tryz.prog 85 #[.pointer (some ⟨b, 0, none⟩)] w (PartR w b st) := by
  have hlt := h.lt
  have hz := hE.size
  have C1 := Lib.hid (number_is b st hl w0 w hG hE hb h)
  obtain ⟨N, hN⟩ : ∃ N, (numberQ st).1 = N := ⟨_, rfl⟩
  obtain ⟨s1, hs1⟩ : ∃ s1, (numberQ st).2 = s1 := ⟨_, rfl⟩
  have hn1 := num_len st
  rw [hN, hs1] at hn1
  have C2 := Lib.hid (fun (w1 : World) (h1 : Rdr w1 b s1) (k1 : Chg b w w1) => must_is b s1 [58] (by omega) (by decide) w0 w1 hG (Chg.below hE k1 hE.size hb) hb h1)
  have C3 := Lib.hid (fun (w1 : World) (stk : St) (hk : stk.1.length ≤ 100000) (h1 : Rdr w1 b stk) => has_is b stk [32] hk (by decide) w1 h1)
  have C4 := Lib.hid (fun (w1 : World) (stk : St) (hk : stk.1.length ≤ 100000) (h1 : Rdr w1 b stk) (k1 : Chg b w w1) => number_is b stk hk w0 w1 hG (Chg.below hE k1 hE.size hb) hb h1)
  have HP := Lib.hid (show partQ st = (N, loopQ N [] (mustQ [58] s1)) by unfold partQ; rw [hN, hs1])
  have hm := must_len [58] s1
  obtain ⟨s2, hs2⟩ : ∃ s2, mustQ [58] s1 = s2 := ⟨_, rfl⟩
  rw [hN, hs1] at C1
  rw [hs2] at C2 HP hm
  obtain ⟨i0, hi, hzz⟩ := Option.map_eq_some_iff.1 infoZ
  simp only [Prod.mk.injEq] at hzz
  obtain ⟨hz0, hz1, hz2⟩ := hzz
  have HI := Lib.hid (And.intro hi (And.intro hz0 (And.intro hz1 hz2)))
  have hl2 : s2.1.length ≤ 100000 := by omega
  have hNl : N ≤ 10249 := hn1.1
  clear hi hz0 hz1 hz2 hG hE h hm hn1 hN hs1 hs2
  unfold tv at *
  go_enter Tryz.func85, Tryz.ntmps85
  go_wp2_with (first | (go_at_call 93; (with_reducible refine C1.out.mono ?_); rintro e w1 ⟨rfl, h1, k1⟩) | (go_at_call 86; (refine (C2.out _ h1 k1).mono ?_); rintro e w2 ⟨⟨v, rfl⟩, h2, k2⟩; have K2 := Lib.hid (And.intro h2 (k1.trans k2)); clear h1 h2 k1 k2))
  go_loopg [4] N (fun mm v wr => ∃ (l : List Nat) (stk : St), l.length + mm = N ∧ wr.ownsRow w.heap.size 3 1 v l.length (encM l) ∧ Rdr wr b stk ∧ Chg b w wr ∧ loopQ N [] s2 = loopQ mm l stk ∧ stk.1.length ≤ 100000)
  case atStart => exact ⟨[], s2, by simp, World.ownsRow_nil _ _ _ _, K2.out.1, K2.out.2, rfl, hl2⟩
  case round =>
    obtain ⟨l, stk, hk, hown, hr, hC, hq, hlk⟩ := hrel
    obtain ⟨A', c', rfl, hle, hc2, hfr, hil⟩ := ilm_of_own hown (Ext.refl _)
    by_cases hlt2 : l.length < N
    · have h5 : (l.length : Int) < N := by omega
      have D3 := Lib.hid (C3.out wr stk hlk hr)
      obtain ⟨mm, rfl⟩ : ∃ q, gk = q + 1 := ⟨gk - 1, by omega⟩
      cases hh : hasQ [32] stk.1
      · rw [hh] at D3
        have HQ := Lib.hid (And.intro (hq.trans (loop_stop hh)) (And.intro hown (And.intro hC (And.intro hle (And.intro hc2 (And.intro hfr hk))))))
        have HW := Lib.hid (show cutQ [32] stk.1 = stk.1 by rw [cutQ, hh]; rfl)
        clear hq hown hC hr hh hil hle hc2 hfr hk
        go_wp2_with (go_at_call 94; (refine D3.out.mono ?_); rintro e w3 ⟨rfl, h3, k3⟩; have K3 := Lib.hid (And.intro h3 k3); clear h3 k3)
        go_ret2
        obtain ⟨q1, q2, q3, q4, q5, q6, q7⟩ := HQ.out
        have hw3 := HW.out
        have hown3 := own_keep q2 (w' := w3) (fun g hg hgl hv => K3.out.2.block g hgl (by omega))
        obtain ⟨A2, c2, e2, r1, r2, r3, r4⟩ := ilm_of_own hown3 (Ext.refl _)
        cases e2
        refine ⟨A', c', ?_, ?_, r2, r3, ?_, ?_, q3.trans K3.out.2⟩
        · rw [HP.out, q1]; rfl
        · rw [HP.out, q1]; exact r1
        · rw [HP.out, q1]; exact r4
        · rw [HP.out, q1]; have := K3.out.1; rw [hw3] at this; exact this
      · rw [hh] at D3
        have hcl : (cutQ [32] stk.1).length ≤ stk.1.length := by unfold cutQ; split <;> simp
        have hnl := num_len (cutQ [32] stk.1, stk.2)
        have HQ := Lib.hid (And.intro (hq.trans (loop_more hh)) (And.intro hown (And.intro hC (And.intro hle (And.intro hc2 (And.intro hfr hk))))))
        have HL := Lib.hid (And.intro hcl (And.intro hnl hlk))
        have hlN : l.length ≤ 10249 := by omega
        clear hq hown hC hr hh hil hle hc2 hfr hk hcl hnl hlk
        go_wp2_with (first | (go_at_call 94; (refine D3.out.mono ?_); rintro e w3 ⟨rfl, h3, k3⟩; have K3 := Lib.hid (And.intro h3 k3); clear h3 k3) | (go_at_call 93; (refine (C4.out _ _ (Nat.le_trans HL.out.1 HL.out.2.2) K3.out.1 (HQ.out.2.2.1.trans K3.out.2)).mono ?_); rintro e w4 ⟨rfl, h4, k4⟩; have K4 := Lib.hid (And.intro h4 (K3.out.2.trans k4)); have hown4 := Lib.hid (own_keep HQ.out.2.1 (w' := w4) (fun g hg hgl hv => K4.out.2.block g hgl (by omega))); clear h4 k4) | (at_builtin; refine wpList_append_own _ rfl _ _ 23 rfl w.heap.size 3 i0 (.int .i64 0) 1 8 Tryz.underlying23 HI.out.1 HI.out.2.1 HI.out.2.2.1 HI.out.2.2.2 rfl (by decide) _ _ _ rfl (own_ext hown4.out (ext1 _ _)) ⟨w4.heap.size, 0, none⟩ 1 1 [.int .i64 ((numberQ (cutQ [32] stk.1, stk.2)).1 : Nat)] rfl rfl (cell_one_new _ _ _) (by simp [Value.oneCell']) (by unfold maxLen; omega) (by omega) (by have := HQ.out.2.2.1.size; have := K4.out.2.size; simp; omega) ?_; intro v' w5 hown5 hgrow _))
        obtain ⟨q1, q2, q3, q4, q5, q6, q7⟩ := HQ.out
        have hob := own_block hown4.out
        have hz4 := K4.out.2.size
        have hz3 := q3.size
        have hB5 : Below w.heap.size (w4.alloc (.cells #[.int .i64 ((numberQ (cutQ [32] stk.1, stk.2)).1 : Nat)] 3)) w5 := Below.grown (Below.refl _ _) hgrow (by simp; omega) hob
        go_roundg mm
        case measure => omega
        case rel =>
          refine ⟨l ++ [(numberQ (cutQ [32] stk.1, stk.2)).1], (numberQ (cutQ [32] stk.1, stk.2)).2, by simp; omega, ?_, (K4.out.1.ext (ext1 _ _)).below hB5 hlt, ((q3.trans K4.out.2).ext (ext1 _ _)).under hB5 (Nat.le_refl _), q1, Nat.le_trans HL.out.2.1.2 (Nat.le_trans HL.out.1 HL.out.2.2)⟩
          simpa [encM] using hown5
    · have h5 : ¬ (l.length : Int) < N := by omega
      obtain rfl : gk = 0 := by omega
      have HQ := Lib.hid (And.intro (show loopQ N [] s2 = (l, stk) from hq) (And.intro hown (And.intro hC (And.intro hle (And.intro hc2 (And.intro hfr (And.intro hil hr)))))))
      clear hq hown hC hr hil hle hc2 hfr hk
      go_wp2
      go_ret2
      obtain ⟨q1, q2, q3, r1, r2, r3, r4, r5⟩ := HQ.out
      refine ⟨A', c', ?_, ?_, r2, r3, ?_, ?_, q3⟩
      · rw [HP.out, q1]; rfl
      · rw [HP.out, q1]; exact r1
      · rw [HP.out, q1]; exact r4
      · rw [HP.out, q1]; exact r5
end
end Go.Proofs.YtopgbggighaknaaGreatDoor
