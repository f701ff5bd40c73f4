/- selionlaw04.DescSlots: the walk (made by gen_laws.py). -/
import Derived.Test.YtgmpcinlkiiboaaDoorLaw0
import Derived.Test.YtgmpcinlkiiboaaDoorSlotsD
import Derived.Test.YtgmpcinlkiiboaaDoorKindD2
import Derived.Test.YtgmpcinlkiiboaaDoorCell
namespace Go.Proofs.YtgmpcinlkiiboaaDoor
open Go.RowKit Go
theorem bytes_e (d : DescR) (n : Int) : bytesE d n = 0 ∨ bytesE d n = 40 ∨ bytesE d n = 41 := by
  unfold bytesE; split
  · split <;> simp
  · simp
theorem bytes_ok {d : DescR} {n : Int} (h : bytesE d n = 0) : rightB d = true ∧ lenB d n = true := by
  unfold bytesE at h
  split at h
  · rename_i hr; split at h
    · rename_i hl; exact ⟨hr, hl⟩
    · cases h
  · cases h
theorem fields_40 (d : DescR) (n x : Int) (h : bytesE d n = 40) : rightB d = false ∧ kindV d n x = 0 := by
  unfold bytesE at h
  split at h
  · split at h <;> cases h
  · rename_i hr; have hr' : rightB d = false := by simpa using hr
    exact ⟨hr', by simp [kindV, hr']⟩
theorem fields_41 (d : DescR) (n x : Int) (h : bytesE d n = 41) : rightB d = true ∧ kindV d n x = 0 := by
  unfold bytesE at h
  split at h
  · rename_i hr
    split at h
    · cases h
    · rename_i hl; have hl' : lenB d n = false := by simpa using hl
      exact ⟨hr, by simp [kindV, hl']⟩
  · cases h
theorem slots_none {d : DescR} {n : Int} {v : Int} (h : bytesE d n = v) (hv : v ≠ 0) : slotsV d n = [] := by
  unfold bytesE at h
  unfold slotsV
  split at h
  · rename_i hr
    split at h
    · exact absurd h.symm hv
    · rename_i hl; rw [if_neg (by rw [hr]; simpa using hl)]
  · rename_i hr; rw [if_neg (by rw [Bool.and_eq_true]; exact fun e => hr e.1)]
theorem take_one (L : List Int) (k : Nat) (hk : k < L.length) : L.take (k + 1) = L.take k ++ [L.getD k 0] := by
  rw [List.take_add_one, List.getD_eq_getElem?_getD, List.getElem?_eq_getElem hk]; rfl
theorem slots_facts (d : DescR) (n x : Int) (h1 : bytesE d n = 0) : 0 ≤ n ∧ n ≤ 131072 ∧ (∀ k, 0 < k → k < (slotsV d n).length → (slotsV d n).getD (k - 1) 0 < (slotsV d n).getD k 0) ∧ ((slotsV d n).length : Int) = (d.ptrs.length : Int) + n * (d.eptrs.length : Int) ∧
    (x ∈ slotsV d n → kindV d n x = 2) ∧ (¬ x ∈ slotsV d n → kindV d n x ≠ 2) := by
  obtain ⟨hr, hl⟩ := bytes_ok h1
  have hR := right_of hr
  have hle := lenB_le hl
  have k1 : kindV d n x = kindP d n x := by simp [kindV, hr, hl]
  have e1 : slotsV d n = slotsF d n.toNat := by simp [slotsV, hr, hl]
  have e2 : ((n.toNat : Nat) : Int) = n := Int.toNat_of_nonneg hle.1
  have hm := mem_slots hR n.toNat x
  rw [e2] at hm
  rw [e1, k1]
  refine ⟨hle.1, hle.2, fun k h0 hk => ?_, ?_, hm.1, fun h e => h (hm.2 e)⟩
  · have hp := (sorted_slots hR n.toNat).1
    rw [List.getD_eq_getElem?_getD, List.getD_eq_getElem?_getD, List.getElem?_eq_getElem hk, List.getElem?_eq_getElem (show k - 1 < _ by omega)]
    exact List.pairwise_iff_getElem.1 hp (k - 1) k (by omega) hk (by omega)
  · rw [slots_len]; push_cast; rw [e2]
section
set_option maxHeartbeats 4000000 in
set_option maxRecDepth 100000 in
theorem slots_le40 (A B : Option Addr) (n m c c' : Nat) (s t y x : Int) (l r : List Int) (w : World) (hA : Arg w A n c l) (hB : Arg w B m c' r) (hG : G w) (hy : y ≤ 300) (h1 : bytesE ⟨s, l.take 20, t, r.take 20⟩ y = 40) :
    Calls Tryd.prog 6 #[.agg #[.int .i64 s, .slice A n c, .int .i64 t, .slice B m c'], .int .i64 y, .int .i64 x] w fun e w' => e = .returned (.bool true) ∧ Ext w w' := by
  have E1 := ext1 w (.cells #[.int .i64 s, .slice A n c, .int .i64 t, .slice B m c'] 24)
  have HE := Lib.hid E1
  have SH := Lib.hid (fun W (hW : Ext w W) => shown_is W (hG.ext hW))
  have CU := Lib.hid (fun W => cutd_is A B n m c c' s t hA.z hB.z hA.n hB.n hA.c hB.c W)
  obtain ⟨g1, g2⟩ := fields_40 ⟨s, l.take 20, t, r.take 20⟩ y x h1
  have g3 := slots_none h1 (by decide)
  have S := Lib.hid (fun W (hW : Ext w W) => dslots_is A B (min n 20) (min m 20) c c' s t y (l.take 20) (r.take 20) (by omega) (by omega) W (hG.ext hW) ((hA.il.take 20).ext hW) ((hB.il.take 20).ext hW))
  have K := Lib.hid (fun W (hW : Ext w W) => dkind_is A B (min n 20) (min m 20) c c' s t y x (l.take 20) (r.take 20) (by omega) (by omega) W (hG.ext hW) ((hA.il.take 20).ext hW) ((hB.il.take 20).ext hW))
  unfold SlotsR at S
  rw [h1, g3] at S
  rw [h1, g2] at K
  clear hG hA hB h1 g1 g2 g3
  generalize min n 20 = n' at *
  generalize min m 20 = m' at *
  go_enter Tryd.func6, Tryd.ntmps6
  go_wp2_with (first | (go_at_call 8; refine (SH.out _ HE.out).mono ?_; rintro e w1 ⟨rfl, k1⟩; obtain ⟨⟨q0, q1, q2, q3⟩, f0, f1, f2, f3⟩ := cells4 (at_new k1)) | (go_at_call 9; refine (CU.out _).mono ?_; rintro e w2 ⟨rfl, k2⟩; have k3 := Ext.trans k1 k2; clear q0 q1 q2 q3 f0 f1 f2 f3 k1 k2; obtain ⟨⟨q0, q1, q2, q3⟩, f0, f1, f2, f3⟩ := cells4 (at_new k3)) | (go_at_call 14; refine (S.out _ (box_set4 (at_new k3) (Ext.trans HE.out k3) (Nat.le_refl _)).2).mono ?_; rintro e w3 ⟨X1, c1, rfl, i1, k4⟩; have bx := (box_set4 (at_new k3) (Ext.trans HE.out k3) (Nat.le_refl _)).1.ext k4; have kx := Ext.trans (box_set4 (at_new k3) (Ext.trans HE.out k3) (Nat.le_refl _)).2 k4; clear q0 q1 q2 q3 f0 f1 f2 f3 k3 k4; obtain ⟨⟨q0, q1, q2, q3⟩, f0, f1, f2, f3⟩ := cells4 bx; clear S) | (go_at_call 12; refine (K.out _ kx).mono ?_; rintro e w3 ⟨rfl, k4⟩; replace bx := bx.ext k4; replace kx := Ext.trans kx k4; replace i1 := Lib.hid (i1.ext k4); clear q0 q1 q2 q3 f0 f1 f2 f3 k4; obtain ⟨⟨q0, q1, q2, q3⟩, f0, f1, f2, f3⟩ := cells4 bx; clear K))
  all_goals (go_ret; exact ⟨rfl, kx⟩)
end
section
set_option maxHeartbeats 4000000 in
set_option maxRecDepth 100000 in
theorem slots_le41 (A B : Option Addr) (n m c c' : Nat) (s t y x : Int) (l r : List Int) (w : World) (hA : Arg w A n c l) (hB : Arg w B m c' r) (hG : G w) (hy : y ≤ 300) (h1 : bytesE ⟨s, l.take 20, t, r.take 20⟩ y = 41) :
    Calls Tryd.prog 6 #[.agg #[.int .i64 s, .slice A n c, .int .i64 t, .slice B m c'], .int .i64 y, .int .i64 x] w fun e w' => e = .returned (.bool true) ∧ Ext w w' := by
  have E1 := ext1 w (.cells #[.int .i64 s, .slice A n c, .int .i64 t, .slice B m c'] 24)
  have HE := Lib.hid E1
  have SH := Lib.hid (fun W (hW : Ext w W) => shown_is W (hG.ext hW))
  have CU := Lib.hid (fun W => cutd_is A B n m c c' s t hA.z hB.z hA.n hB.n hA.c hB.c W)
  obtain ⟨g1, g2⟩ := fields_41 ⟨s, l.take 20, t, r.take 20⟩ y x h1
  have g3 := slots_none h1 (by decide)
  have S := Lib.hid (fun W (hW : Ext w W) => dslots_is A B (min n 20) (min m 20) c c' s t y (l.take 20) (r.take 20) (by omega) (by omega) W (hG.ext hW) ((hA.il.take 20).ext hW) ((hB.il.take 20).ext hW))
  have K := Lib.hid (fun W (hW : Ext w W) => dkind_is A B (min n 20) (min m 20) c c' s t y x (l.take 20) (r.take 20) (by omega) (by omega) W (hG.ext hW) ((hA.il.take 20).ext hW) ((hB.il.take 20).ext hW))
  unfold SlotsR at S
  rw [h1, g3] at S
  rw [h1, g2] at K
  clear hG hA hB h1 g1 g2 g3
  generalize min n 20 = n' at *
  generalize min m 20 = m' at *
  go_enter Tryd.func6, Tryd.ntmps6
  go_wp2_with (first | (go_at_call 8; refine (SH.out _ HE.out).mono ?_; rintro e w1 ⟨rfl, k1⟩; obtain ⟨⟨q0, q1, q2, q3⟩, f0, f1, f2, f3⟩ := cells4 (at_new k1)) | (go_at_call 9; refine (CU.out _).mono ?_; rintro e w2 ⟨rfl, k2⟩; have k3 := Ext.trans k1 k2; clear q0 q1 q2 q3 f0 f1 f2 f3 k1 k2; obtain ⟨⟨q0, q1, q2, q3⟩, f0, f1, f2, f3⟩ := cells4 (at_new k3)) | (go_at_call 14; refine (S.out _ (box_set4 (at_new k3) (Ext.trans HE.out k3) (Nat.le_refl _)).2).mono ?_; rintro e w3 ⟨X1, c1, rfl, i1, k4⟩; have bx := (box_set4 (at_new k3) (Ext.trans HE.out k3) (Nat.le_refl _)).1.ext k4; have kx := Ext.trans (box_set4 (at_new k3) (Ext.trans HE.out k3) (Nat.le_refl _)).2 k4; clear q0 q1 q2 q3 f0 f1 f2 f3 k3 k4; obtain ⟨⟨q0, q1, q2, q3⟩, f0, f1, f2, f3⟩ := cells4 bx; clear S) | (go_at_call 12; refine (K.out _ kx).mono ?_; rintro e w3 ⟨rfl, k4⟩; replace bx := bx.ext k4; replace kx := Ext.trans kx k4; replace i1 := Lib.hid (i1.ext k4); clear q0 q1 q2 q3 f0 f1 f2 f3 k4; obtain ⟨⟨q0, q1, q2, q3⟩, f0, f1, f2, f3⟩ := cells4 bx; clear K))
  all_goals (go_ret; exact ⟨rfl, kx⟩)
end
section
set_option maxHeartbeats 4000000 in
set_option maxRecDepth 100000 in
theorem slots_lein (A B : Option Addr) (n m c c' : Nat) (s t y x : Int) (l r : List Int) (w : World) (hA : Arg w A n c l) (hB : Arg w B m c' r) (hG : G w) (hy : y ≤ 300) (h1 : bytesE ⟨s, l.take 20, t, r.take 20⟩ y = 0) (hx : x ∈ slotsV ⟨s, l.take 20, t, r.take 20⟩ y) :
    Calls Tryd.prog 6 #[.agg #[.int .i64 s, .slice A n c, .int .i64 t, .slice B m c'], .int .i64 y, .int .i64 x] w fun e w' => e = .returned (.bool true) ∧ Ext w w' := by
  have E1 := ext1 w (.cells #[.int .i64 s, .slice A n c, .int .i64 t, .slice B m c'] 24)
  have HE := Lib.hid E1
  have SH := Lib.hid (fun W (hW : Ext w W) => shown_is W (hG.ext hW))
  have CU := Lib.hid (fun W => cutd_is A B n m c c' s t hA.z hB.z hA.n hB.n hA.c hB.c W)
  obtain ⟨g1, g2, g3, g4, g5, g6⟩ := slots_facts ⟨s, l.take 20, t, r.take 20⟩ y x h1
  have u1 : 0 ≤ y * ((min m 20 : Nat) : Int) := Int.mul_nonneg g1 (by omega)
  have u2 : y * ((min m 20 : Nat) : Int) ≤ 300 * 20 := Int.mul_le_mul (by omega) (by omega) (by omega) (by omega)
  have hlen : ((slotsV ⟨s, l.take 20, t, r.take 20⟩ y).length : Int) = ((min n 20 : Nat) : Int) + y * ((min m 20 : Nat) : Int) := by
    rw [g4]; simp only [List.length_take, hA.il.1, hB.il.1]; rw [Nat.min_comm 20, Nat.min_comm 20]
  have hnm : min n 20 ≤ 20 ∧ min m 20 ≤ 20 := by omega
  obtain ⟨hn20, hm20⟩ := hnm
  have S := Lib.hid (fun W (hW : Ext w W) => dslots_is A B (min n 20) (min m 20) c c' s t y (l.take 20) (r.take 20) (by omega) (by omega) W (hG.ext hW) ((hA.il.take 20).ext hW) ((hB.il.take 20).ext hW))
  have K := Lib.hid (fun W (hW : Ext w W) => dkind_is A B (min n 20) (min m 20) c c' s t y x (l.take 20) (r.take 20) (by omega) (by omega) W (hG.ext hW) ((hA.il.take 20).ext hW) ((hB.il.take 20).ext hW))
  unfold SlotsR at S
  rw [h1] at S K
  rw [g5 hx] at K
  have HX := Lib.hid hx
  have HL := Lib.hid hlen
  have HS := Lib.hid g3
  clear hG hA hB h1 g2 g3 g4 g5 g6 hx hlen
  generalize min n 20 = n' at *
  generalize min m 20 = m' at *
  generalize slotsV ⟨s, l.take 20, t, r.take 20⟩ y = L at *
  have hL6 : (L.length : Int) ≤ 7000 := by have := HL.out; omega
  go_enter Tryd.func6, Tryd.ntmps6
  go_wp2_with (first | (go_at_call 8; refine (SH.out _ HE.out).mono ?_; rintro e w1 ⟨rfl, k1⟩; obtain ⟨⟨q0, q1, q2, q3⟩, f0, f1, f2, f3⟩ := cells4 (at_new k1)) | (go_at_call 9; refine (CU.out _).mono ?_; rintro e w2 ⟨rfl, k2⟩; have k3 := Ext.trans k1 k2; clear q0 q1 q2 q3 f0 f1 f2 f3 k1 k2; obtain ⟨⟨q0, q1, q2, q3⟩, f0, f1, f2, f3⟩ := cells4 (at_new k3)) | (go_at_call 14; refine (S.out _ (box_set4 (at_new k3) (Ext.trans HE.out k3) (Nat.le_refl _)).2).mono ?_; rintro e w3 ⟨X1, c1, rfl, i1, k4⟩; have bx := (box_set4 (at_new k3) (Ext.trans HE.out k3) (Nat.le_refl _)).1.ext k4; have kx := Ext.trans (box_set4 (at_new k3) (Ext.trans HE.out k3) (Nat.le_refl _)).2 k4; clear q0 q1 q2 q3 f0 f1 f2 f3 k3 k4; obtain ⟨⟨q0, q1, q2, q3⟩, f0, f1, f2, f3⟩ := cells4 bx; clear S) | (go_at_call 12; refine (K.out _ kx).mono ?_; rintro e w3 ⟨rfl, k4⟩; replace bx := bx.ext k4; replace kx := Ext.trans kx k4; replace i1 := Lib.hid (i1.ext k4); clear q0 q1 q2 q3 f0 f1 f2 f3 k4; obtain ⟨⟨q0, q1, q2, q3⟩, f0, f1, f2, f3⟩ := cells4 bx; clear K))
  have HB := Lib.hid (And.intro bx kx)
  clear q0 q1 q2 q3 f0 f1 f2 f3 bx kx
  go_loopg [12, 13] L.length (fun m u i wr => ∃ k : Nat, k + m = L.length ∧ i = .int .i64 k ∧ u = .bool (decide (x ∈ L.take k)) ∧ Ext w3 wr)
  case atStart => exact ⟨0, by omega, rfl, by simp, Ext.refl _⟩
  case round =>
    obtain ⟨k, hk, rfl, rfl, hE⟩ := hrel
    by_cases hlt : k < L.length
    · obtain ⟨ad, rfl, hb, hcell⟩ := (i1.out.ext hE).at_ hlt
      have ck := hcell k hlt
      have h5 : (k : Int) < (L.length : Int) := by omega
      have HK := Lib.hid hk
      have HE2 := Lib.hid hE
      have tk := take_one L k hlt
      have HN := Lib.hid (show decide (x ∈ L.take (k + 1)) = (decide (x ∈ L.take k) || decide (L.getD k 0 = x)) by rw [tk, Bool.eq_iff_iff, decide_eq_true_iff, List.mem_append, List.mem_singleton, Bool.or_eq_true, decide_eq_true_iff, decide_eq_true_iff, eq_comm (a := x)])
      have hsort := HS.out k
      clear hE hk tk
      rcases Nat.eq_zero_or_pos k with h0 | h0
      · subst h0
        replace ck : wr.cell? ad = _ := ck
        have ck' := on_cell ck
        generalize hv : L.getD 0 0 = v at *
        have h50 : (0 : Int) < (L.length : Int) := h5
        clear hcell hsort hv h5
        by_cases hvx : v = x
        · subst hvx
          go_wp2
          refine wp_region_on (by kernel_rfl) (by kernel_rfl) ?_
          repeat (go_big_quiet_step (fail))
          refine wpQuiet_nil ?_
          intro W hW
          go_wp2
          go_roundg (gk - 1)
          case measure => have := HK.out; omega
          case rel => exact ⟨1, by have := HK.out; omega, by go_num, by rw [show 1 = 0 + 1 from rfl, HN.out]; simp, Ext.trans HE2.out hW⟩
        · have hvx' : (v == x) = false := by simpa using hvx
          go_wp2
          refine wp_region_on (by kernel_rfl) (by kernel_rfl) ?_
          repeat (go_big_quiet_step (fail))
          refine wpQuiet_nil ?_
          intro W hW
          go_wp2
          go_roundg (gk - 1)
          case measure => have := HK.out; omega
          case rel => exact ⟨1, by have := HK.out; omega, by go_num, by rw [show 1 = 0 + 1 from rfl, HN.out]; simp [hvx], Ext.trans HE2.out hW⟩
      · have cj := hcell (k - 1) (by omega)
        have cj2 : wr.cell? (ad.add ((k : Int) - 1).toNat) = some (.int .i64 (L.getD (k - 1) 0)) := by rw [show ((k : Int) - 1).toNat = k - 1 by omega]; exact cj
        have ck' := on_cell ck
        have cj' := on_cell cj
        have cj2' := on_cell cj2
        have hs : L.getD (k - 1) 0 < L.getD k 0 := hsort h0 hlt
        generalize hv : L.getD k 0 = v at *
        generalize hu : L.getD (k - 1) 0 = u at *
        have hle : decide (v ≤ u) = false := by simpa using hs
        have hle' : ¬ v ≤ u := by omega
        have hd : decide ((0 : Int) < (k : Int)) = true := by simpa using h0
        have h52 : (1 : Int) ≤ (k : Int) := by omega
        have h53 : (k : Int) - 1 < (L.length : Int) := by omega
        have h54 : (0 : Int) ≤ (k : Int) - 1 := by omega
        have hdN : decide (0 < k) = true := by simpa using h0
        have h0i : (0 : Int) < (k : Int) := by omega
        clear hcell hsort hs
        generalize hb : decide (x ∈ L.take k) = b at *
        clear hv hu hb
        by_cases hb : b = true
        · subst hb
          go_wp2
          refine wp_region_on (by kernel_rfl) (by kernel_rfl) ?_
          repeat (go_big_quiet_step (fail))
          refine wpQuiet_nil ?_
          intro W hW
          go_wp2
          go_roundg (gk - 1)
          case measure => have := HK.out; omega
          case rel => exact ⟨k + 1, by have := HK.out; omega, by go_num, by rw [HN.out]; simp, Ext.trans HE2.out hW⟩
        · obtain rfl : b = false := by simpa using hb
          clear hb
          by_cases hvx : v = x
          · subst hvx
            go_wp2
            refine wp_region_on (by kernel_rfl) (by kernel_rfl) ?_
            repeat (go_big_quiet_step (fail))
            refine wpQuiet_nil ?_
            intro W hW
            go_wp2
            go_roundg (gk - 1)
            case measure => have := HK.out; omega
            case rel => exact ⟨k + 1, by have := HK.out; omega, by go_num, by rw [HN.out]; simp, Ext.trans HE2.out hW⟩
          · have hvx' : (v == x) = false := by simpa using hvx
            go_wp2
            refine wp_region_on (by kernel_rfl) (by kernel_rfl) ?_
            repeat (go_big_quiet_step (fail))
            refine wpQuiet_nil ?_
            intro W hW
            go_wp2
            go_roundg (gk - 1)
            case measure => have := HK.out; omega
            case rel => exact ⟨k + 1, by have := HK.out; omega, by go_num, by rw [HN.out]; simp [hvx], Ext.trans HE2.out hW⟩
    · obtain rfl : k = L.length := by omega
      have h5 : ¬ (L.length : Int) < (L.length : Int) := by omega
      rw [show decide (x ∈ L.take L.length) = true by rw [List.take_length]; simpa using HX.out]
      obtain ⟨bx, kx⟩ := HB.out
      obtain ⟨⟨q0, q1, q2, q3⟩, f0, f1, f2, f3⟩ := cells4 (bx.ext hE)
      have hle : ((L.length : Int) == (n' : Int) + y * (m' : Int)) = true := by simpa using HL.out
      replace kx := Lib.hid (Ext.trans kx hE)
      clear hE hk bx
      go_wp2
      go_ret
      exact ⟨rfl, kx.out⟩
end
section
set_option maxHeartbeats 4000000 in
set_option maxRecDepth 100000 in
theorem slots_leout (A B : Option Addr) (n m c c' : Nat) (s t y x : Int) (l r : List Int) (w : World) (hA : Arg w A n c l) (hB : Arg w B m c' r) (hG : G w) (hy : y ≤ 300) (h1 : bytesE ⟨s, l.take 20, t, r.take 20⟩ y = 0) (hx : ¬ x ∈ slotsV ⟨s, l.take 20, t, r.take 20⟩ y) :
    Calls Tryd.prog 6 #[.agg #[.int .i64 s, .slice A n c, .int .i64 t, .slice B m c'], .int .i64 y, .int .i64 x] w fun e w' => e = .returned (.bool true) ∧ Ext w w' := by
  have E1 := ext1 w (.cells #[.int .i64 s, .slice A n c, .int .i64 t, .slice B m c'] 24)
  have HE := Lib.hid E1
  have SH := Lib.hid (fun W (hW : Ext w W) => shown_is W (hG.ext hW))
  have CU := Lib.hid (fun W => cutd_is A B n m c c' s t hA.z hB.z hA.n hB.n hA.c hB.c W)
  obtain ⟨g1, g2, g3, g4, g5, g6⟩ := slots_facts ⟨s, l.take 20, t, r.take 20⟩ y x h1
  have u1 : 0 ≤ y * ((min m 20 : Nat) : Int) := Int.mul_nonneg g1 (by omega)
  have u2 : y * ((min m 20 : Nat) : Int) ≤ 300 * 20 := Int.mul_le_mul (by omega) (by omega) (by omega) (by omega)
  have hlen : ((slotsV ⟨s, l.take 20, t, r.take 20⟩ y).length : Int) = ((min n 20 : Nat) : Int) + y * ((min m 20 : Nat) : Int) := by
    rw [g4]; simp only [List.length_take, hA.il.1, hB.il.1]; rw [Nat.min_comm 20, Nat.min_comm 20]
  have hnm : min n 20 ≤ 20 ∧ min m 20 ≤ 20 := by omega
  obtain ⟨hn20, hm20⟩ := hnm
  have S := Lib.hid (fun W (hW : Ext w W) => dslots_is A B (min n 20) (min m 20) c c' s t y (l.take 20) (r.take 20) (by omega) (by omega) W (hG.ext hW) ((hA.il.take 20).ext hW) ((hB.il.take 20).ext hW))
  have K := Lib.hid (fun W (hW : Ext w W) => dkind_is A B (min n 20) (min m 20) c c' s t y x (l.take 20) (r.take 20) (by omega) (by omega) W (hG.ext hW) ((hA.il.take 20).ext hW) ((hB.il.take 20).ext hW))
  unfold SlotsR at S
  rw [h1] at S K
  have hz := g6 hx
  generalize kindV ⟨s, l.take 20, t, r.take 20⟩ y x = z at *
  have hz' : (z == 2) = false := by simpa using hz
  have HX := Lib.hid hx
  have HL := Lib.hid hlen
  have HS := Lib.hid g3
  clear hG hA hB h1 g2 g3 g4 g5 g6 hx hlen
  generalize min n 20 = n' at *
  generalize min m 20 = m' at *
  generalize slotsV ⟨s, l.take 20, t, r.take 20⟩ y = L at *
  have hL6 : (L.length : Int) ≤ 7000 := by have := HL.out; omega
  go_enter Tryd.func6, Tryd.ntmps6
  go_wp2_with (first | (go_at_call 8; refine (SH.out _ HE.out).mono ?_; rintro e w1 ⟨rfl, k1⟩; obtain ⟨⟨q0, q1, q2, q3⟩, f0, f1, f2, f3⟩ := cells4 (at_new k1)) | (go_at_call 9; refine (CU.out _).mono ?_; rintro e w2 ⟨rfl, k2⟩; have k3 := Ext.trans k1 k2; clear q0 q1 q2 q3 f0 f1 f2 f3 k1 k2; obtain ⟨⟨q0, q1, q2, q3⟩, f0, f1, f2, f3⟩ := cells4 (at_new k3)) | (go_at_call 14; refine (S.out _ (box_set4 (at_new k3) (Ext.trans HE.out k3) (Nat.le_refl _)).2).mono ?_; rintro e w3 ⟨X1, c1, rfl, i1, k4⟩; have bx := (box_set4 (at_new k3) (Ext.trans HE.out k3) (Nat.le_refl _)).1.ext k4; have kx := Ext.trans (box_set4 (at_new k3) (Ext.trans HE.out k3) (Nat.le_refl _)).2 k4; clear q0 q1 q2 q3 f0 f1 f2 f3 k3 k4; obtain ⟨⟨q0, q1, q2, q3⟩, f0, f1, f2, f3⟩ := cells4 bx; clear S) | (go_at_call 12; refine (K.out _ kx).mono ?_; rintro e w3 ⟨rfl, k4⟩; replace bx := bx.ext k4; replace kx := Ext.trans kx k4; replace i1 := Lib.hid (i1.ext k4); clear q0 q1 q2 q3 f0 f1 f2 f3 k4; obtain ⟨⟨q0, q1, q2, q3⟩, f0, f1, f2, f3⟩ := cells4 bx; clear K))
  have HB := Lib.hid (And.intro bx kx)
  clear q0 q1 q2 q3 f0 f1 f2 f3 bx kx
  go_loopg [12, 13] L.length (fun m u i wr => ∃ k : Nat, k + m = L.length ∧ i = .int .i64 k ∧ u = .bool (decide (x ∈ L.take k)) ∧ Ext w3 wr)
  case atStart => exact ⟨0, by omega, rfl, by simp, Ext.refl _⟩
  case round =>
    obtain ⟨k, hk, rfl, rfl, hE⟩ := hrel
    by_cases hlt : k < L.length
    · obtain ⟨ad, rfl, hb, hcell⟩ := (i1.out.ext hE).at_ hlt
      have ck := hcell k hlt
      have h5 : (k : Int) < (L.length : Int) := by omega
      have HK := Lib.hid hk
      have HE2 := Lib.hid hE
      have tk := take_one L k hlt
      have HN := Lib.hid (show decide (x ∈ L.take (k + 1)) = (decide (x ∈ L.take k) || decide (L.getD k 0 = x)) by rw [tk, Bool.eq_iff_iff, decide_eq_true_iff, List.mem_append, List.mem_singleton, Bool.or_eq_true, decide_eq_true_iff, decide_eq_true_iff, eq_comm (a := x)])
      have hsort := HS.out k
      clear hE hk tk
      rcases Nat.eq_zero_or_pos k with h0 | h0
      · subst h0
        replace ck : wr.cell? ad = _ := ck
        have ck' := on_cell ck
        generalize hv : L.getD 0 0 = v at *
        have h50 : (0 : Int) < (L.length : Int) := h5
        clear hcell hsort hv h5
        by_cases hvx : v = x
        · subst hvx
          go_wp2
          refine wp_region_on (by kernel_rfl) (by kernel_rfl) ?_
          repeat (go_big_quiet_step (fail))
          refine wpQuiet_nil ?_
          intro W hW
          go_wp2
          go_roundg (gk - 1)
          case measure => have := HK.out; omega
          case rel => exact ⟨1, by have := HK.out; omega, by go_num, by rw [show 1 = 0 + 1 from rfl, HN.out]; simp, Ext.trans HE2.out hW⟩
        · have hvx' : (v == x) = false := by simpa using hvx
          go_wp2
          refine wp_region_on (by kernel_rfl) (by kernel_rfl) ?_
          repeat (go_big_quiet_step (fail))
          refine wpQuiet_nil ?_
          intro W hW
          go_wp2
          go_roundg (gk - 1)
          case measure => have := HK.out; omega
          case rel => exact ⟨1, by have := HK.out; omega, by go_num, by rw [show 1 = 0 + 1 from rfl, HN.out]; simp [hvx], Ext.trans HE2.out hW⟩
      · have cj := hcell (k - 1) (by omega)
        have cj2 : wr.cell? (ad.add ((k : Int) - 1).toNat) = some (.int .i64 (L.getD (k - 1) 0)) := by rw [show ((k : Int) - 1).toNat = k - 1 by omega]; exact cj
        have ck' := on_cell ck
        have cj' := on_cell cj
        have cj2' := on_cell cj2
        have hs : L.getD (k - 1) 0 < L.getD k 0 := hsort h0 hlt
        generalize hv : L.getD k 0 = v at *
        generalize hu : L.getD (k - 1) 0 = u at *
        have hle : decide (v ≤ u) = false := by simpa using hs
        have hle' : ¬ v ≤ u := by omega
        have hd : decide ((0 : Int) < (k : Int)) = true := by simpa using h0
        have h52 : (1 : Int) ≤ (k : Int) := by omega
        have h53 : (k : Int) - 1 < (L.length : Int) := by omega
        have h54 : (0 : Int) ≤ (k : Int) - 1 := by omega
        have hdN : decide (0 < k) = true := by simpa using h0
        have h0i : (0 : Int) < (k : Int) := by omega
        clear hcell hsort hs
        generalize hb : decide (x ∈ L.take k) = b at *
        clear hv hu hb
        by_cases hb : b = true
        · subst hb
          go_wp2
          refine wp_region_on (by kernel_rfl) (by kernel_rfl) ?_
          repeat (go_big_quiet_step (fail))
          refine wpQuiet_nil ?_
          intro W hW
          go_wp2
          go_roundg (gk - 1)
          case measure => have := HK.out; omega
          case rel => exact ⟨k + 1, by have := HK.out; omega, by go_num, by rw [HN.out]; simp, Ext.trans HE2.out hW⟩
        · obtain rfl : b = false := by simpa using hb
          clear hb
          by_cases hvx : v = x
          · subst hvx
            go_wp2
            refine wp_region_on (by kernel_rfl) (by kernel_rfl) ?_
            repeat (go_big_quiet_step (fail))
            refine wpQuiet_nil ?_
            intro W hW
            go_wp2
            go_roundg (gk - 1)
            case measure => have := HK.out; omega
            case rel => exact ⟨k + 1, by have := HK.out; omega, by go_num, by rw [HN.out]; simp, Ext.trans HE2.out hW⟩
          · have hvx' : (v == x) = false := by simpa using hvx
            go_wp2
            refine wp_region_on (by kernel_rfl) (by kernel_rfl) ?_
            repeat (go_big_quiet_step (fail))
            refine wpQuiet_nil ?_
            intro W hW
            go_wp2
            go_roundg (gk - 1)
            case measure => have := HK.out; omega
            case rel => exact ⟨k + 1, by have := HK.out; omega, by go_num, by rw [HN.out]; simp [hvx], Ext.trans HE2.out hW⟩
    · obtain rfl : k = L.length := by omega
      have h5 : ¬ (L.length : Int) < (L.length : Int) := by omega
      rw [show decide (x ∈ L.take L.length) = false by rw [List.take_length]; simpa using HX.out]
      obtain ⟨bx, kx⟩ := HB.out
      obtain ⟨⟨q0, q1, q2, q3⟩, f0, f1, f2, f3⟩ := cells4 (bx.ext hE)
      have hle : ((L.length : Int) == (n' : Int) + y * (m' : Int)) = true := by simpa using HL.out
      replace kx := Lib.hid (Ext.trans kx hE)
      clear hE hk bx
      go_wp2
      go_ret
      exact ⟨rfl, kx.out⟩
end
section
set_option maxHeartbeats 4000000 in
set_option maxRecDepth 100000 in
theorem slots_gt40 (A B : Option Addr) (n m c c' : Nat) (s t y x : Int) (l r : List Int) (w : World) (hA : Arg w A n c l) (hB : Arg w B m c' r) (hG : G w) (hy : 300 < y) (h1 : bytesE ⟨s, l.take 20, t, r.take 20⟩ 300 = 40) :
    Calls Tryd.prog 6 #[.agg #[.int .i64 s, .slice A n c, .int .i64 t, .slice B m c'], .int .i64 y, .int .i64 x] w fun e w' => e = .returned (.bool true) ∧ Ext w w' := by
  have E1 := ext1 w (.cells #[.int .i64 s, .slice A n c, .int .i64 t, .slice B m c'] 24)
  have HE := Lib.hid E1
  have SH := Lib.hid (fun W (hW : Ext w W) => shown_is W (hG.ext hW))
  have CU := Lib.hid (fun W => cutd_is A B n m c c' s t hA.z hB.z hA.n hB.n hA.c hB.c W)
  obtain ⟨g1, g2⟩ := fields_40 ⟨s, l.take 20, t, r.take 20⟩ 300 x h1
  have g3 := slots_none h1 (by decide)
  have S := Lib.hid (fun W (hW : Ext w W) => dslots_is A B (min n 20) (min m 20) c c' s t 300 (l.take 20) (r.take 20) (by omega) (by omega) W (hG.ext hW) ((hA.il.take 20).ext hW) ((hB.il.take 20).ext hW))
  have K := Lib.hid (fun W (hW : Ext w W) => dkind_is A B (min n 20) (min m 20) c c' s t 300 x (l.take 20) (r.take 20) (by omega) (by omega) W (hG.ext hW) ((hA.il.take 20).ext hW) ((hB.il.take 20).ext hW))
  unfold SlotsR at S
  rw [h1, g3] at S
  rw [h1, g2] at K
  clear hG hA hB h1 g1 g2 g3
  generalize min n 20 = n' at *
  generalize min m 20 = m' at *
  go_enter Tryd.func6, Tryd.ntmps6
  go_wp2_with (first | (go_at_call 8; refine (SH.out _ HE.out).mono ?_; rintro e w1 ⟨rfl, k1⟩; obtain ⟨⟨q0, q1, q2, q3⟩, f0, f1, f2, f3⟩ := cells4 (at_new k1)) | (go_at_call 9; refine (CU.out _).mono ?_; rintro e w2 ⟨rfl, k2⟩; have k3 := Ext.trans k1 k2; clear q0 q1 q2 q3 f0 f1 f2 f3 k1 k2; obtain ⟨⟨q0, q1, q2, q3⟩, f0, f1, f2, f3⟩ := cells4 (at_new k3)) | (go_at_call 14; refine (S.out _ (box_set4 (at_new k3) (Ext.trans HE.out k3) (Nat.le_refl _)).2).mono ?_; rintro e w3 ⟨X1, c1, rfl, i1, k4⟩; have bx := (box_set4 (at_new k3) (Ext.trans HE.out k3) (Nat.le_refl _)).1.ext k4; have kx := Ext.trans (box_set4 (at_new k3) (Ext.trans HE.out k3) (Nat.le_refl _)).2 k4; clear q0 q1 q2 q3 f0 f1 f2 f3 k3 k4; obtain ⟨⟨q0, q1, q2, q3⟩, f0, f1, f2, f3⟩ := cells4 bx; clear S) | (go_at_call 12; refine (K.out _ kx).mono ?_; rintro e w3 ⟨rfl, k4⟩; replace bx := bx.ext k4; replace kx := Ext.trans kx k4; replace i1 := Lib.hid (i1.ext k4); clear q0 q1 q2 q3 f0 f1 f2 f3 k4; obtain ⟨⟨q0, q1, q2, q3⟩, f0, f1, f2, f3⟩ := cells4 bx; clear K))
  all_goals (go_ret; exact ⟨rfl, kx⟩)
end
section
set_option maxHeartbeats 4000000 in
set_option maxRecDepth 100000 in
theorem slots_gt41 (A B : Option Addr) (n m c c' : Nat) (s t y x : Int) (l r : List Int) (w : World) (hA : Arg w A n c l) (hB : Arg w B m c' r) (hG : G w) (hy : 300 < y) (h1 : bytesE ⟨s, l.take 20, t, r.take 20⟩ 300 = 41) :
    Calls Tryd.prog 6 #[.agg #[.int .i64 s, .slice A n c, .int .i64 t, .slice B m c'], .int .i64 y, .int .i64 x] w fun e w' => e = .returned (.bool true) ∧ Ext w w' := by
  have E1 := ext1 w (.cells #[.int .i64 s, .slice A n c, .int .i64 t, .slice B m c'] 24)
  have HE := Lib.hid E1
  have SH := Lib.hid (fun W (hW : Ext w W) => shown_is W (hG.ext hW))
  have CU := Lib.hid (fun W => cutd_is A B n m c c' s t hA.z hB.z hA.n hB.n hA.c hB.c W)
  obtain ⟨g1, g2⟩ := fields_41 ⟨s, l.take 20, t, r.take 20⟩ 300 x h1
  have g3 := slots_none h1 (by decide)
  have S := Lib.hid (fun W (hW : Ext w W) => dslots_is A B (min n 20) (min m 20) c c' s t 300 (l.take 20) (r.take 20) (by omega) (by omega) W (hG.ext hW) ((hA.il.take 20).ext hW) ((hB.il.take 20).ext hW))
  have K := Lib.hid (fun W (hW : Ext w W) => dkind_is A B (min n 20) (min m 20) c c' s t 300 x (l.take 20) (r.take 20) (by omega) (by omega) W (hG.ext hW) ((hA.il.take 20).ext hW) ((hB.il.take 20).ext hW))
  unfold SlotsR at S
  rw [h1, g3] at S
  rw [h1, g2] at K
  clear hG hA hB h1 g1 g2 g3
  generalize min n 20 = n' at *
  generalize min m 20 = m' at *
  go_enter Tryd.func6, Tryd.ntmps6
  go_wp2_with (first | (go_at_call 8; refine (SH.out _ HE.out).mono ?_; rintro e w1 ⟨rfl, k1⟩; obtain ⟨⟨q0, q1, q2, q3⟩, f0, f1, f2, f3⟩ := cells4 (at_new k1)) | (go_at_call 9; refine (CU.out _).mono ?_; rintro e w2 ⟨rfl, k2⟩; have k3 := Ext.trans k1 k2; clear q0 q1 q2 q3 f0 f1 f2 f3 k1 k2; obtain ⟨⟨q0, q1, q2, q3⟩, f0, f1, f2, f3⟩ := cells4 (at_new k3)) | (go_at_call 14; refine (S.out _ (box_set4 (at_new k3) (Ext.trans HE.out k3) (Nat.le_refl _)).2).mono ?_; rintro e w3 ⟨X1, c1, rfl, i1, k4⟩; have bx := (box_set4 (at_new k3) (Ext.trans HE.out k3) (Nat.le_refl _)).1.ext k4; have kx := Ext.trans (box_set4 (at_new k3) (Ext.trans HE.out k3) (Nat.le_refl _)).2 k4; clear q0 q1 q2 q3 f0 f1 f2 f3 k3 k4; obtain ⟨⟨q0, q1, q2, q3⟩, f0, f1, f2, f3⟩ := cells4 bx; clear S) | (go_at_call 12; refine (K.out _ kx).mono ?_; rintro e w3 ⟨rfl, k4⟩; replace bx := bx.ext k4; replace kx := Ext.trans kx k4; replace i1 := Lib.hid (i1.ext k4); clear q0 q1 q2 q3 f0 f1 f2 f3 k4; obtain ⟨⟨q0, q1, q2, q3⟩, f0, f1, f2, f3⟩ := cells4 bx; clear K))
  all_goals (go_ret; exact ⟨rfl, kx⟩)
end
section
set_option maxHeartbeats 4000000 in
set_option maxRecDepth 100000 in
theorem slots_gtin (A B : Option Addr) (n m c c' : Nat) (s t y x : Int) (l r : List Int) (w : World) (hA : Arg w A n c l) (hB : Arg w B m c' r) (hG : G w) (hy : 300 < y) (h1 : bytesE ⟨s, l.take 20, t, r.take 20⟩ 300 = 0) (hx : x ∈ slotsV ⟨s, l.take 20, t, r.take 20⟩ 300) :
    Calls Tryd.prog 6 #[.agg #[.int .i64 s, .slice A n c, .int .i64 t, .slice B m c'], .int .i64 y, .int .i64 x] w fun e w' => e = .returned (.bool true) ∧ Ext w w' := by
  have E1 := ext1 w (.cells #[.int .i64 s, .slice A n c, .int .i64 t, .slice B m c'] 24)
  have HE := Lib.hid E1
  have SH := Lib.hid (fun W (hW : Ext w W) => shown_is W (hG.ext hW))
  have CU := Lib.hid (fun W => cutd_is A B n m c c' s t hA.z hB.z hA.n hB.n hA.c hB.c W)
  obtain ⟨g1, g2, g3, g4, g5, g6⟩ := slots_facts ⟨s, l.take 20, t, r.take 20⟩ 300 x h1
  have u1 : 0 ≤ 300 * ((min m 20 : Nat) : Int) := Int.mul_nonneg g1 (by omega)
  have u2 : 300 * ((min m 20 : Nat) : Int) ≤ 300 * 20 := Int.mul_le_mul (by omega) (by omega) (by omega) (by omega)
  have hlen : ((slotsV ⟨s, l.take 20, t, r.take 20⟩ 300).length : Int) = ((min n 20 : Nat) : Int) + 300 * ((min m 20 : Nat) : Int) := by
    rw [g4]; simp only [List.length_take, hA.il.1, hB.il.1]; rw [Nat.min_comm 20, Nat.min_comm 20]
  have hnm : min n 20 ≤ 20 ∧ min m 20 ≤ 20 := by omega
  obtain ⟨hn20, hm20⟩ := hnm
  have S := Lib.hid (fun W (hW : Ext w W) => dslots_is A B (min n 20) (min m 20) c c' s t 300 (l.take 20) (r.take 20) (by omega) (by omega) W (hG.ext hW) ((hA.il.take 20).ext hW) ((hB.il.take 20).ext hW))
  have K := Lib.hid (fun W (hW : Ext w W) => dkind_is A B (min n 20) (min m 20) c c' s t 300 x (l.take 20) (r.take 20) (by omega) (by omega) W (hG.ext hW) ((hA.il.take 20).ext hW) ((hB.il.take 20).ext hW))
  unfold SlotsR at S
  rw [h1] at S K
  rw [g5 hx] at K
  have HX := Lib.hid hx
  have HL := Lib.hid hlen
  have HS := Lib.hid g3
  clear hG hA hB h1 g2 g3 g4 g5 g6 hx hlen
  generalize min n 20 = n' at *
  generalize min m 20 = m' at *
  generalize slotsV ⟨s, l.take 20, t, r.take 20⟩ 300 = L at *
  have hL6 : (L.length : Int) ≤ 7000 := by have := HL.out; omega
  go_enter Tryd.func6, Tryd.ntmps6
  go_wp2_with (first | (go_at_call 8; refine (SH.out _ HE.out).mono ?_; rintro e w1 ⟨rfl, k1⟩; obtain ⟨⟨q0, q1, q2, q3⟩, f0, f1, f2, f3⟩ := cells4 (at_new k1)) | (go_at_call 9; refine (CU.out _).mono ?_; rintro e w2 ⟨rfl, k2⟩; have k3 := Ext.trans k1 k2; clear q0 q1 q2 q3 f0 f1 f2 f3 k1 k2; obtain ⟨⟨q0, q1, q2, q3⟩, f0, f1, f2, f3⟩ := cells4 (at_new k3)) | (go_at_call 14; refine (S.out _ (box_set4 (at_new k3) (Ext.trans HE.out k3) (Nat.le_refl _)).2).mono ?_; rintro e w3 ⟨X1, c1, rfl, i1, k4⟩; have bx := (box_set4 (at_new k3) (Ext.trans HE.out k3) (Nat.le_refl _)).1.ext k4; have kx := Ext.trans (box_set4 (at_new k3) (Ext.trans HE.out k3) (Nat.le_refl _)).2 k4; clear q0 q1 q2 q3 f0 f1 f2 f3 k3 k4; obtain ⟨⟨q0, q1, q2, q3⟩, f0, f1, f2, f3⟩ := cells4 bx; clear S) | (go_at_call 12; refine (K.out _ kx).mono ?_; rintro e w3 ⟨rfl, k4⟩; replace bx := bx.ext k4; replace kx := Ext.trans kx k4; replace i1 := Lib.hid (i1.ext k4); clear q0 q1 q2 q3 f0 f1 f2 f3 k4; obtain ⟨⟨q0, q1, q2, q3⟩, f0, f1, f2, f3⟩ := cells4 bx; clear K))
  have HB := Lib.hid (And.intro bx kx)
  clear q0 q1 q2 q3 f0 f1 f2 f3 bx kx
  go_loopg [12, 13] L.length (fun m u i wr => ∃ k : Nat, k + m = L.length ∧ i = .int .i64 k ∧ u = .bool (decide (x ∈ L.take k)) ∧ Ext w3 wr)
  case atStart => exact ⟨0, by omega, rfl, by simp, Ext.refl _⟩
  case round =>
    obtain ⟨k, hk, rfl, rfl, hE⟩ := hrel
    by_cases hlt : k < L.length
    · obtain ⟨ad, rfl, hb, hcell⟩ := (i1.out.ext hE).at_ hlt
      have ck := hcell k hlt
      have h5 : (k : Int) < (L.length : Int) := by omega
      have HK := Lib.hid hk
      have HE2 := Lib.hid hE
      have tk := take_one L k hlt
      have HN := Lib.hid (show decide (x ∈ L.take (k + 1)) = (decide (x ∈ L.take k) || decide (L.getD k 0 = x)) by rw [tk, Bool.eq_iff_iff, decide_eq_true_iff, List.mem_append, List.mem_singleton, Bool.or_eq_true, decide_eq_true_iff, decide_eq_true_iff, eq_comm (a := x)])
      have hsort := HS.out k
      clear hE hk tk
      rcases Nat.eq_zero_or_pos k with h0 | h0
      · subst h0
        replace ck : wr.cell? ad = _ := ck
        have ck' := on_cell ck
        generalize hv : L.getD 0 0 = v at *
        have h50 : (0 : Int) < (L.length : Int) := h5
        clear hcell hsort hv h5
        by_cases hvx : v = x
        · subst hvx
          go_wp2
          refine wp_region_on (by kernel_rfl) (by kernel_rfl) ?_
          repeat (go_big_quiet_step (fail))
          refine wpQuiet_nil ?_
          intro W hW
          go_wp2
          go_roundg (gk - 1)
          case measure => have := HK.out; omega
          case rel => exact ⟨1, by have := HK.out; omega, by go_num, by rw [show 1 = 0 + 1 from rfl, HN.out]; simp, Ext.trans HE2.out hW⟩
        · have hvx' : (v == x) = false := by simpa using hvx
          go_wp2
          refine wp_region_on (by kernel_rfl) (by kernel_rfl) ?_
          repeat (go_big_quiet_step (fail))
          refine wpQuiet_nil ?_
          intro W hW
          go_wp2
          go_roundg (gk - 1)
          case measure => have := HK.out; omega
          case rel => exact ⟨1, by have := HK.out; omega, by go_num, by rw [show 1 = 0 + 1 from rfl, HN.out]; simp [hvx], Ext.trans HE2.out hW⟩
      · have cj := hcell (k - 1) (by omega)
        have cj2 : wr.cell? (ad.add ((k : Int) - 1).toNat) = some (.int .i64 (L.getD (k - 1) 0)) := by rw [show ((k : Int) - 1).toNat = k - 1 by omega]; exact cj
        have ck' := on_cell ck
        have cj' := on_cell cj
        have cj2' := on_cell cj2
        have hs : L.getD (k - 1) 0 < L.getD k 0 := hsort h0 hlt
        generalize hv : L.getD k 0 = v at *
        generalize hu : L.getD (k - 1) 0 = u at *
        have hle : decide (v ≤ u) = false := by simpa using hs
        have hle' : ¬ v ≤ u := by omega
        have hd : decide ((0 : Int) < (k : Int)) = true := by simpa using h0
        have h52 : (1 : Int) ≤ (k : Int) := by omega
        have h53 : (k : Int) - 1 < (L.length : Int) := by omega
        have h54 : (0 : Int) ≤ (k : Int) - 1 := by omega
        have hdN : decide (0 < k) = true := by simpa using h0
        have h0i : (0 : Int) < (k : Int) := by omega
        clear hcell hsort hs
        generalize hb : decide (x ∈ L.take k) = b at *
        clear hv hu hb
        by_cases hb : b = true
        · subst hb
          go_wp2
          refine wp_region_on (by kernel_rfl) (by kernel_rfl) ?_
          repeat (go_big_quiet_step (fail))
          refine wpQuiet_nil ?_
          intro W hW
          go_wp2
          go_roundg (gk - 1)
          case measure => have := HK.out; omega
          case rel => exact ⟨k + 1, by have := HK.out; omega, by go_num, by rw [HN.out]; simp, Ext.trans HE2.out hW⟩
        · obtain rfl : b = false := by simpa using hb
          clear hb
          by_cases hvx : v = x
          · subst hvx
            go_wp2
            refine wp_region_on (by kernel_rfl) (by kernel_rfl) ?_
            repeat (go_big_quiet_step (fail))
            refine wpQuiet_nil ?_
            intro W hW
            go_wp2
            go_roundg (gk - 1)
            case measure => have := HK.out; omega
            case rel => exact ⟨k + 1, by have := HK.out; omega, by go_num, by rw [HN.out]; simp, Ext.trans HE2.out hW⟩
          · have hvx' : (v == x) = false := by simpa using hvx
            go_wp2
            refine wp_region_on (by kernel_rfl) (by kernel_rfl) ?_
            repeat (go_big_quiet_step (fail))
            refine wpQuiet_nil ?_
            intro W hW
            go_wp2
            go_roundg (gk - 1)
            case measure => have := HK.out; omega
            case rel => exact ⟨k + 1, by have := HK.out; omega, by go_num, by rw [HN.out]; simp [hvx], Ext.trans HE2.out hW⟩
    · obtain rfl : k = L.length := by omega
      have h5 : ¬ (L.length : Int) < (L.length : Int) := by omega
      rw [show decide (x ∈ L.take L.length) = true by rw [List.take_length]; simpa using HX.out]
      obtain ⟨bx, kx⟩ := HB.out
      obtain ⟨⟨q0, q1, q2, q3⟩, f0, f1, f2, f3⟩ := cells4 (bx.ext hE)
      have hle : ((L.length : Int) == (n' : Int) + 300 * (m' : Int)) = true := by simpa using HL.out
      replace kx := Lib.hid (Ext.trans kx hE)
      clear hE hk bx
      go_wp2
      go_ret
      exact ⟨rfl, kx.out⟩
end
section
set_option maxHeartbeats 4000000 in
set_option maxRecDepth 100000 in
theorem slots_gtout (A B : Option Addr) (n m c c' : Nat) (s t y x : Int) (l r : List Int) (w : World) (hA : Arg w A n c l) (hB : Arg w B m c' r) (hG : G w) (hy : 300 < y) (h1 : bytesE ⟨s, l.take 20, t, r.take 20⟩ 300 = 0) (hx : ¬ x ∈ slotsV ⟨s, l.take 20, t, r.take 20⟩ 300) :
    Calls Tryd.prog 6 #[.agg #[.int .i64 s, .slice A n c, .int .i64 t, .slice B m c'], .int .i64 y, .int .i64 x] w fun e w' => e = .returned (.bool true) ∧ Ext w w' := by
  have E1 := ext1 w (.cells #[.int .i64 s, .slice A n c, .int .i64 t, .slice B m c'] 24)
  have HE := Lib.hid E1
  have SH := Lib.hid (fun W (hW : Ext w W) => shown_is W (hG.ext hW))
  have CU := Lib.hid (fun W => cutd_is A B n m c c' s t hA.z hB.z hA.n hB.n hA.c hB.c W)
  obtain ⟨g1, g2, g3, g4, g5, g6⟩ := slots_facts ⟨s, l.take 20, t, r.take 20⟩ 300 x h1
  have u1 : 0 ≤ 300 * ((min m 20 : Nat) : Int) := Int.mul_nonneg g1 (by omega)
  have u2 : 300 * ((min m 20 : Nat) : Int) ≤ 300 * 20 := Int.mul_le_mul (by omega) (by omega) (by omega) (by omega)
  have hlen : ((slotsV ⟨s, l.take 20, t, r.take 20⟩ 300).length : Int) = ((min n 20 : Nat) : Int) + 300 * ((min m 20 : Nat) : Int) := by
    rw [g4]; simp only [List.length_take, hA.il.1, hB.il.1]; rw [Nat.min_comm 20, Nat.min_comm 20]
  have hnm : min n 20 ≤ 20 ∧ min m 20 ≤ 20 := by omega
  obtain ⟨hn20, hm20⟩ := hnm
  have S := Lib.hid (fun W (hW : Ext w W) => dslots_is A B (min n 20) (min m 20) c c' s t 300 (l.take 20) (r.take 20) (by omega) (by omega) W (hG.ext hW) ((hA.il.take 20).ext hW) ((hB.il.take 20).ext hW))
  have K := Lib.hid (fun W (hW : Ext w W) => dkind_is A B (min n 20) (min m 20) c c' s t 300 x (l.take 20) (r.take 20) (by omega) (by omega) W (hG.ext hW) ((hA.il.take 20).ext hW) ((hB.il.take 20).ext hW))
  unfold SlotsR at S
  rw [h1] at S K
  have hz := g6 hx
  generalize kindV ⟨s, l.take 20, t, r.take 20⟩ 300 x = z at *
  have hz' : (z == 2) = false := by simpa using hz
  have HX := Lib.hid hx
  have HL := Lib.hid hlen
  have HS := Lib.hid g3
  clear hG hA hB h1 g2 g3 g4 g5 g6 hx hlen
  generalize min n 20 = n' at *
  generalize min m 20 = m' at *
  generalize slotsV ⟨s, l.take 20, t, r.take 20⟩ 300 = L at *
  have hL6 : (L.length : Int) ≤ 7000 := by have := HL.out; omega
  go_enter Tryd.func6, Tryd.ntmps6
  go_wp2_with (first | (go_at_call 8; refine (SH.out _ HE.out).mono ?_; rintro e w1 ⟨rfl, k1⟩; obtain ⟨⟨q0, q1, q2, q3⟩, f0, f1, f2, f3⟩ := cells4 (at_new k1)) | (go_at_call 9; refine (CU.out _).mono ?_; rintro e w2 ⟨rfl, k2⟩; have k3 := Ext.trans k1 k2; clear q0 q1 q2 q3 f0 f1 f2 f3 k1 k2; obtain ⟨⟨q0, q1, q2, q3⟩, f0, f1, f2, f3⟩ := cells4 (at_new k3)) | (go_at_call 14; refine (S.out _ (box_set4 (at_new k3) (Ext.trans HE.out k3) (Nat.le_refl _)).2).mono ?_; rintro e w3 ⟨X1, c1, rfl, i1, k4⟩; have bx := (box_set4 (at_new k3) (Ext.trans HE.out k3) (Nat.le_refl _)).1.ext k4; have kx := Ext.trans (box_set4 (at_new k3) (Ext.trans HE.out k3) (Nat.le_refl _)).2 k4; clear q0 q1 q2 q3 f0 f1 f2 f3 k3 k4; obtain ⟨⟨q0, q1, q2, q3⟩, f0, f1, f2, f3⟩ := cells4 bx; clear S) | (go_at_call 12; refine (K.out _ kx).mono ?_; rintro e w3 ⟨rfl, k4⟩; replace bx := bx.ext k4; replace kx := Ext.trans kx k4; replace i1 := Lib.hid (i1.ext k4); clear q0 q1 q2 q3 f0 f1 f2 f3 k4; obtain ⟨⟨q0, q1, q2, q3⟩, f0, f1, f2, f3⟩ := cells4 bx; clear K))
  have HB := Lib.hid (And.intro bx kx)
  clear q0 q1 q2 q3 f0 f1 f2 f3 bx kx
  go_loopg [12, 13] L.length (fun m u i wr => ∃ k : Nat, k + m = L.length ∧ i = .int .i64 k ∧ u = .bool (decide (x ∈ L.take k)) ∧ Ext w3 wr)
  case atStart => exact ⟨0, by omega, rfl, by simp, Ext.refl _⟩
  case round =>
    obtain ⟨k, hk, rfl, rfl, hE⟩ := hrel
    by_cases hlt : k < L.length
    · obtain ⟨ad, rfl, hb, hcell⟩ := (i1.out.ext hE).at_ hlt
      have ck := hcell k hlt
      have h5 : (k : Int) < (L.length : Int) := by omega
      have HK := Lib.hid hk
      have HE2 := Lib.hid hE
      have tk := take_one L k hlt
      have HN := Lib.hid (show decide (x ∈ L.take (k + 1)) = (decide (x ∈ L.take k) || decide (L.getD k 0 = x)) by rw [tk, Bool.eq_iff_iff, decide_eq_true_iff, List.mem_append, List.mem_singleton, Bool.or_eq_true, decide_eq_true_iff, decide_eq_true_iff, eq_comm (a := x)])
      have hsort := HS.out k
      clear hE hk tk
      rcases Nat.eq_zero_or_pos k with h0 | h0
      · subst h0
        replace ck : wr.cell? ad = _ := ck
        have ck' := on_cell ck
        generalize hv : L.getD 0 0 = v at *
        have h50 : (0 : Int) < (L.length : Int) := h5
        clear hcell hsort hv h5
        by_cases hvx : v = x
        · subst hvx
          go_wp2
          refine wp_region_on (by kernel_rfl) (by kernel_rfl) ?_
          repeat (go_big_quiet_step (fail))
          refine wpQuiet_nil ?_
          intro W hW
          go_wp2
          go_roundg (gk - 1)
          case measure => have := HK.out; omega
          case rel => exact ⟨1, by have := HK.out; omega, by go_num, by rw [show 1 = 0 + 1 from rfl, HN.out]; simp, Ext.trans HE2.out hW⟩
        · have hvx' : (v == x) = false := by simpa using hvx
          go_wp2
          refine wp_region_on (by kernel_rfl) (by kernel_rfl) ?_
          repeat (go_big_quiet_step (fail))
          refine wpQuiet_nil ?_
          intro W hW
          go_wp2
          go_roundg (gk - 1)
          case measure => have := HK.out; omega
          case rel => exact ⟨1, by have := HK.out; omega, by go_num, by rw [show 1 = 0 + 1 from rfl, HN.out]; simp [hvx], Ext.trans HE2.out hW⟩
      · have cj := hcell (k - 1) (by omega)
        have cj2 : wr.cell? (ad.add ((k : Int) - 1).toNat) = some (.int .i64 (L.getD (k - 1) 0)) := by rw [show ((k : Int) - 1).toNat = k - 1 by omega]; exact cj
        have ck' := on_cell ck
        have cj' := on_cell cj
        have cj2' := on_cell cj2
        have hs : L.getD (k - 1) 0 < L.getD k 0 := hsort h0 hlt
        generalize hv : L.getD k 0 = v at *
        generalize hu : L.getD (k - 1) 0 = u at *
        have hle : decide (v ≤ u) = false := by simpa using hs
        have hle' : ¬ v ≤ u := by omega
        have hd : decide ((0 : Int) < (k : Int)) = true := by simpa using h0
        have h52 : (1 : Int) ≤ (k : Int) := by omega
        have h53 : (k : Int) - 1 < (L.length : Int) := by omega
        have h54 : (0 : Int) ≤ (k : Int) - 1 := by omega
        have hdN : decide (0 < k) = true := by simpa using h0
        have h0i : (0 : Int) < (k : Int) := by omega
        clear hcell hsort hs
        generalize hb : decide (x ∈ L.take k) = b at *
        clear hv hu hb
        by_cases hb : b = true
        · subst hb
          go_wp2
          refine wp_region_on (by kernel_rfl) (by kernel_rfl) ?_
          repeat (go_big_quiet_step (fail))
          refine wpQuiet_nil ?_
          intro W hW
          go_wp2
          go_roundg (gk - 1)
          case measure => have := HK.out; omega
          case rel => exact ⟨k + 1, by have := HK.out; omega, by go_num, by rw [HN.out]; simp, Ext.trans HE2.out hW⟩
        · obtain rfl : b = false := by simpa using hb
          clear hb
          by_cases hvx : v = x
          · subst hvx
            go_wp2
            refine wp_region_on (by kernel_rfl) (by kernel_rfl) ?_
            repeat (go_big_quiet_step (fail))
            refine wpQuiet_nil ?_
            intro W hW
            go_wp2
            go_roundg (gk - 1)
            case measure => have := HK.out; omega
            case rel => exact ⟨k + 1, by have := HK.out; omega, by go_num, by rw [HN.out]; simp, Ext.trans HE2.out hW⟩
          · have hvx' : (v == x) = false := by simpa using hvx
            go_wp2
            refine wp_region_on (by kernel_rfl) (by kernel_rfl) ?_
            repeat (go_big_quiet_step (fail))
            refine wpQuiet_nil ?_
            intro W hW
            go_wp2
            go_roundg (gk - 1)
            case measure => have := HK.out; omega
            case rel => exact ⟨k + 1, by have := HK.out; omega, by go_num, by rw [HN.out]; simp [hvx], Ext.trans HE2.out hW⟩
    · obtain rfl : k = L.length := by omega
      have h5 : ¬ (L.length : Int) < (L.length : Int) := by omega
      rw [show decide (x ∈ L.take L.length) = false by rw [List.take_length]; simpa using HX.out]
      obtain ⟨bx, kx⟩ := HB.out
      obtain ⟨⟨q0, q1, q2, q3⟩, f0, f1, f2, f3⟩ := cells4 (bx.ext hE)
      have hle : ((L.length : Int) == (n' : Int) + 300 * (m' : Int)) = true := by simpa using HL.out
      replace kx := Lib.hid (Ext.trans kx hE)
      clear hE hk bx
      go_wp2
      go_ret
      exact ⟨rfl, kx.out⟩
end
section
set_option maxHeartbeats 4000000 in
set_option maxRecDepth 100000 in
theorem slots_walk (A B : Option Addr) (n m c c' : Nat) (s t y x : Int) (l r : List Int) (w : World) (hA : Arg w A n c l) (hB : Arg w B m c' r) (hG : G w)  :
    Calls Tryd.prog 6 #[.agg #[.int .i64 s, .slice A n c, .int .i64 t, .slice B m c'], .int .i64 y, .int .i64 x] w fun e w' => e = .returned (.bool true) ∧ Ext w w' := by
  by_cases hy : y ≤ 300
  · rcases bytes_e ⟨s, l.take 20, t, r.take 20⟩ y with h1 | h1 | h1
    · by_cases hx : x ∈ slotsV ⟨s, l.take 20, t, r.take 20⟩ y
      · exact slots_lein A B n m c c' s t y x l r w hA hB hG hy h1 hx
      · exact slots_leout A B n m c c' s t y x l r w hA hB hG hy h1 hx
    · exact slots_le40 A B n m c c' s t y x l r w hA hB hG hy h1
    · exact slots_le41 A B n m c c' s t y x l r w hA hB hG hy h1
  · replace hy : 300 < y := by omega
    rcases bytes_e ⟨s, l.take 20, t, r.take 20⟩ 300 with h1 | h1 | h1
    · by_cases hx : x ∈ slotsV ⟨s, l.take 20, t, r.take 20⟩ 300
      · exact slots_gtin A B n m c c' s t y x l r w hA hB hG hy h1 hx
      · exact slots_gtout A B n m c c' s t y x l r w hA hB hG hy h1 hx
    · exact slots_gt40 A B n m c c' s t y x l r w hA hB hG hy h1
    · exact slots_gt41 A B n m c c' s t y x l r w hA hB hG hy h1
end
end Go.Proofs.YtgmpcinlkiiboaaDoor
