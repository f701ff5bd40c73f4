/- selionref04: in, kind. -/
import Derived.Test.YtgmpcinlkiiboaaDoorSameR
import Derived.Test.YtgmpcinlkiiboaaDoorCell
namespace Go.Proofs.YtgmpcinlkiiboaaDoor
open Go.RowKit Go
theorem drop_get (l : List Int) (k : Nat) (hk : k < l.length) : l.drop k = l.getD k 0 :: l.drop (k + 1) := by
  rw [List.drop_eq_getElem_cons hk, List.getD_eq_getElem?_getD, List.getElem?_eq_getElem hk]; rfl
section
set_option maxHeartbeats 4000000 in
set_option maxRecDepth 100000 in
theorem in_is (A : Option Addr) (n c : Nat) (l : List Int) (x : Int) (hn : n ≤ 1000000) (w : World) (h : Il w A n l) :
    Calls Tryd.prog 45 #[.slice A n c, .int .i64 x] w fun e w' => e = .returned (.bool (decide (x ∈ l))) ∧ Ext w w' := by
  have H := Lib.hid h
  clear h
  go_enter Tryd.func45, Tryd.ntmps45
  go_wp2
  go_loopg [5] n (fun m i wr => ∃ k : Nat, k + m = n ∧ i = .int .i64 k ∧ decide (x ∈ l) = decide (x ∈ l.drop k) ∧ Ext w wr)
  case atStart => exact ⟨0, by omega, rfl, rfl, Ext.refl _⟩
  case round =>
    obtain ⟨k, hk, rfl, ht, hE⟩ := hrel
    by_cases hlt : k < n
    · obtain ⟨ad, rfl, hb, hcell⟩ := (H.out.ext hE).at_ hlt
      have ck := hcell k hlt
      have h5 : (k : Int) < n := by omega
      have h6 : (k : Int) + 1 ≤ 1000000 := by omega
      rw [drop_get l k (by rw [H.out.1]; exact hlt)] at ht
      have HE := Lib.hid (And.intro hE (And.intro hk ht))
      clear hE hcell hk ht
      generalize hy : l.getD k 0 = y at *
      by_cases hxy : y = x
      · subst hxy
        have hb1 : (y == y) = true := by simp
        have HN := Lib.hid (show true = decide (y ∈ l) by rw [HE.out.2.2]; simp)
        clear hy
        go_wp2
        go_ret
        exact ⟨rb HN.out, HE.out.1⟩
      · have hb1 : (y == x) = false := by simpa using hxy
        have HN := Lib.hid (show decide (x ∈ l) = decide (x ∈ l.drop (k + 1)) by rw [HE.out.2.2, Bool.eq_iff_iff]; simp [Ne.symm hxy])
        clear hy hxy
        go_wp2
        go_roundg (gk - 1)
        case measure => have := HE.out.2.1; omega
        case rel => exact ⟨k + 1, by have := HE.out.2.1; omega, by go_num, HN.out, HE.out.1⟩
    · obtain rfl : k = n := by omega
      have h5 : ¬ (k : Int) < k := by omega
      have HN := Lib.hid (show false = decide (x ∈ l) by rw [ht, List.drop_eq_nil_of_le (by rw [H.out.1]; exact Nat.le_refl _)]; simp)
      have HE := Lib.hid hE
      clear hE ht hk
      go_wp2
      go_ret
      exact ⟨rb HN.out, HE.out⟩
end
section
set_option maxHeartbeats 4000000 in
set_option maxRecDepth 100000 in
theorem kind_is (A B : Option Addr) (n m c e : Nat) (S T : Nat) (l r : List Int) (hn : n ≤ 1000000) (hm : m ≤ 1000000) (X : Nat) (hX : X ≤ 131072) (x : Int) (w : World) (h : Il w A n l) (h' : Il w B m r) (hr : rightB ⟨S, l, T, r⟩ = true) :
    Calls Tryd.prog 28 #[.agg #[.int .i64 S, .slice A n c, .int .i64 T, .slice B m e], .int .i64 X, .int .i64 x] w fun e w' => e = .returned (.int .i64 (kindP ⟨S, l, T, r⟩ X x)) ∧ Ext w w' := by
  have E1 := ext1 w (.cells #[.int .i64 (S : Int), .slice A n c, .int .i64 (T : Int), .slice B m e] 24)
  have hR := right_of hr
  have hS : (S : Int) ≤ 1024 := hR.s1
  have hT : (T : Int) ≤ 256 := hR.e1
  have u0 : (0 : Int) ≤ (X : Int) * T := Int.mul_nonneg (by omega) (by omega)
  have u1 : (X : Int) * T ≤ 33554432 := by have := Int.mul_le_mul (show (X : Int) ≤ 131072 by omega) hT (by omega) (by omega); omega
  have hTp : (T : Int) = 0 → (X : Int) * T = 0 := fun h0 => by rw [h0, Int.mul_zero]
  have HE := Lib.hid E1
  have B1 := Blk.new w #[.int .i64 (S : Int), .slice A n c, .int .i64 (T : Int), .slice B m e] 24
  have C0 := on_cell ((B1.cell 0).trans (show _ = some (Value.int .i64 (S : Int)) from rfl))
  have C2 := on_cell ((B1.cell 2).trans (show _ = some (Value.int .i64 (T : Int)) from rfl))
  have C3 := on_cell ((B1.cell 3).trans (show _ = some (Value.slice B m e) from rfl))
  have R1 := Lib.hid (fun W (hW : Ext (w.alloc (.cells #[.int .i64 (S : Int), .slice A n c, .int .i64 (T : Int), .slice B m e] 24)) W) => in_is A n c l x hn W (h.ext (Ext.trans E1 hW)))
  have R2 := Lib.hid (fun y W (hW : Ext (w.alloc (.cells #[.int .i64 (S : Int), .slice A n c, .int .i64 (T : Int), .slice B m e] 24)) W) => in_is B m e r y hm W (h'.ext (Ext.trans E1 hW)))
  have HK : kindP ⟨S, l, T, r⟩ X x = if x < 0 ∨ x % 4 ≠ 0 ∨ (S : Int) + X * T ≤ x then 0
    else if (x < S ∧ x ∈ l) ∨ ((S : Int) ≤ x ∧ (x - S) % T ∈ r) then 2 else 1 := rfl
  clear h h' E1 hr hR B1
  generalize hM : (X : Int) * T = M at *
  by_cases q1 : x < 0
  · have d1 : decide (x < 0) = true := decide_eq_true q1
    have HN := Lib.hid (show Value.int .i64 0 = .int .i64 (kindP ⟨S, l, T, r⟩ X x) by rw [HK, if_pos (Or.inl q1)])
    clear HK hTp
    go_enter Tryd.func28, Tryd.ntmps28
    go_wp2
    go_ret
    exact ⟨ret_val HN.out, HE.out⟩
  · obtain ⟨x, rfl⟩ : ∃ k : Nat, x = k := ⟨x.toNat, by omega⟩
    have d1 : decide ((x : Int) < 0) = false := decide_eq_false q1
    have n1 : (0 : Int) ≤ x := by omega
    by_cases q2 : (x : Int) % 4 = 0
    · have d2 : ((x : Int) % 4 != 0) = false := by simp [q2]
      have d2' : ((x : Int).tmod 4 != 0) = false := by rw [Int.tmod_eq_emod_of_nonneg n1]; exact d2
      by_cases q3 : (S : Int) + M ≤ x
      · have d3 : decide ((S : Int) + M ≤ x) = true := decide_eq_true q3
        have HN := Lib.hid (show Value.int .i64 0 = .int .i64 (kindP ⟨S, l, T, r⟩ X x) by rw [HK, if_pos (Or.inr (Or.inr q3))])
        clear HK hTp q2
        go_enter Tryd.func28, Tryd.ntmps28
        go_wp2
        go_ret
        exact ⟨ret_val HN.out, HE.out⟩
      · have d3 : decide ((S : Int) + M ≤ x) = false := decide_eq_false q3
        have HC : ¬ ((x : Int) < 0 ∨ (x : Int) % 4 ≠ 0 ∨ (S : Int) + M ≤ x) := by omega
        rw [if_neg HC] at HK
        clear HC
        by_cases q4 : (x : Int) < S
        · have d4 : decide ((x : Int) < S) = true := decide_eq_true q4
          have d4' : decide (x < S) = true := decide_eq_true (by omega)
          have d5 : decide ((S : Int) ≤ x) = false := decide_eq_false (by omega)
          have d5' : decide (S ≤ x) = false := decide_eq_false (by omega)
          cases hl : decide ((x : Int) ∈ l)
          · rw [hl] at R1
            have hl' := of_decide_eq_false hl
            have HN := Lib.hid (show Value.int .i64 1 = .int .i64 (kindP ⟨S, l, T, r⟩ X x) by rw [HK, if_neg (fun h => h.elim (fun h => hl' h.2) (fun h => by have := h.1; omega))])
            clear HK hTp q2 hl hl'
            go_enter Tryd.func28, Tryd.ntmps28
            go_wp2_with (go_at_call 45; with_reducible refine (R1.out _ (Ext.refl _)).mono ?_; rintro e w1 ⟨rfl, k1⟩)
            have c0 := on_cell (((at_new k1).cell 0).trans rfl)
            refine wp_region_on (by kernel_rfl) (by kernel_rfl) ?_
            repeat (go_big_quiet_step (fail))
            refine wpQuiet_nil ?_
            intro W hW
            go_wp2
            go_ret
            exact ⟨ret_val HN.out, Ext.trans HE.out (Ext.trans k1 hW)⟩
          · rw [hl] at R1
            have hl' := of_decide_eq_true hl
            have HN := Lib.hid (show Value.int .i64 2 = .int .i64 (kindP ⟨S, l, T, r⟩ X x) by rw [HK, if_pos (Or.inl ⟨q4, hl'⟩)])
            clear HK hTp q2 hl hl'
            go_enter Tryd.func28, Tryd.ntmps28
            go_wp2_with (go_at_call 45; with_reducible refine (R1.out _ (Ext.refl _)).mono ?_; rintro e w1 ⟨rfl, k1⟩)
            go_ret
            exact ⟨ret_val HN.out, Ext.trans HE.out k1⟩
        · have d4 : decide ((x : Int) < S) = false := decide_eq_false q4
          have d4' : decide (x < S) = false := decide_eq_false (by omega)
          have d5 : decide ((S : Int) ≤ x) = true := decide_eq_true (by omega)
          have d5' : decide (S ≤ x) = true := decide_eq_true (by omega)
          have d6 : (T : Int) ≠ 0 := fun h0 => by have := hTp h0; omega
          have d7 : (0 : Int) < T := by omega
          have d8 : (0 : Int) ≤ (x : Int) - S := by omega
          have d9 : ((x : Int) - S).tmod T = ((x : Int) - S) % T := Int.tmod_eq_emod_of_nonneg d8
          have f1 := Int.emod_nonneg ((x : Int) - S) d6
          have f2 := Int.emod_lt_of_pos ((x : Int) - S) d7
          have R3 := Lib.hid (R2.out (((x : Int) - S) % T))
          clear R1 R2
          cases hl : decide (((x : Int) - S) % T ∈ r)
          · rw [hl] at R3
            have hl' := of_decide_eq_false hl
            have HN := Lib.hid (show Value.int .i64 1 = .int .i64 (kindP ⟨S, l, T, r⟩ X x) by rw [HK, if_neg (fun h => h.elim (fun h => q4 h.1) (fun h => hl' h.2))])
            clear HK hTp q2 hl hl'
            go_enter Tryd.func28, Tryd.ntmps28
            go_wp2
            refine wp_region_on (by kernel_rfl) (by kernel_rfl) ?_
            repeat (go_big_quiet_step ((go_at_call 45; exact on_call R3.out _)))
            refine wpQuiet_nil ?_
            intro W hW
            go_wp2
            go_ret
            exact ⟨ret_val HN.out, Ext.trans HE.out hW⟩
          · rw [hl] at R3
            have hl' := of_decide_eq_true hl
            have HN := Lib.hid (show Value.int .i64 2 = .int .i64 (kindP ⟨S, l, T, r⟩ X x) by rw [HK, if_pos (Or.inr ⟨by omega, hl'⟩)])
            clear HK hTp q2 hl hl'
            go_enter Tryd.func28, Tryd.ntmps28
            go_wp2
            refine wp_region_on (by kernel_rfl) (by kernel_rfl) ?_
            repeat (go_big_quiet_step ((go_at_call 45; exact on_call R3.out _)))
            refine wpQuiet_nil ?_
            intro W hW
            go_wp2
            go_ret
            exact ⟨ret_val HN.out, Ext.trans HE.out hW⟩
    · have d2 : ((x : Int) % 4 != 0) = true := by simpa using q2
      have d2' : ((x : Int).tmod 4 != 0) = true := by rw [Int.tmod_eq_emod_of_nonneg n1]; exact d2
      have HN := Lib.hid (show Value.int .i64 0 = .int .i64 (kindP ⟨S, l, T, r⟩ X x) by rw [HK, if_pos (Or.inr (Or.inl q2))])
      clear HK hTp q2
      go_enter Tryd.func28, Tryd.ntmps28
      go_wp2
      go_ret
      exact ⟨ret_val HN.out, HE.out⟩
end
end Go.Proofs.YtgmpcinlkiiboaaDoor
