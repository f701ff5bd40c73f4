/- selionref04: Bytes. -/
import Derived.Test.YtgmpcinlkiiboaaDoorRightR
namespace Go.Proofs.YtgmpcinlkiiboaaDoor
open Go.RowKit Go
section
set_option maxHeartbeats 4000000 in
set_option maxRecDepth 100000 in
theorem bytes_is (A B : Option Addr) (n m c e : Nat) (s t : Int) (l r : List Int) (hn : n ≤ 1000000) (hm : m ≤ 1000000) (x : Int) (w : World) (h : Il w A n l) (h' : Il w B m r) :
    Calls Tryd.prog 11 #[.agg #[.int .i64 s, .slice A n c, .int .i64 t, .slice B m e], .int .i64 x] w fun e w' => e = .returned (.tuple #[.int .i64 (bytesV ⟨s, l, t, r⟩ x), .int .i64 (bytesE ⟨s, l, t, r⟩ x)]) ∧ Ext w w' := by
  have E1 := ext1 w (.cells #[.int .i64 s, .slice A n c, .int .i64 t, .slice B m e] 24)
  have RR := Lib.hid (fun W (hW : Ext (w.alloc (.cells #[.int .i64 s, .slice A n c, .int .i64 t, .slice B m e] 24)) W) => right_is A B n m c e s t l r hn hm W (h.ext (Ext.trans E1 hW)) (h'.ext (Ext.trans E1 hW)))
  have HE := Lib.hid E1
  clear h h' E1
  by_cases hr : rightB ⟨s, l, t, r⟩ = true
  · have hR := right_of hr
    obtain ⟨S, rfl⟩ : ∃ k : Nat, s = k := ⟨s.toNat, by have : 0 ≤ s := hR.s0; omega⟩
    obtain ⟨T, rfl⟩ : ∃ k : Nat, t = k := ⟨t.toNat, by have : 0 ≤ t := hR.e0; omega⟩
    have hS : (S : Int) ≤ 1024 := hR.s1
    have hT : (T : Int) ≤ 256 := hR.e1
    have HQ : lenB ⟨S, l, T, r⟩ x = (decide (0 ≤ x) && (decide (x ≤ 0) || !decide ((T : Int) = 0)) && decide (x ≤ 131072) && decide ((8 + (S : Int) + x * T + 7) / 8 * 8 ≤ 131072)) := rfl
    have hV : ∀ b, lenB ⟨S, l, T, r⟩ x = b → bytesV ⟨S, l, T, r⟩ x = (if b then (8 + (S : Int) + x * T + 7) / 8 * 8 else 0) ∧ bytesE ⟨S, l, T, r⟩ x = (if b then 0 else 41) := by rintro b rfl; unfold bytesV bytesE; rw [hr]; exact ⟨rfl, rfl⟩
    rw [hr] at RR
    clear hr hR
    by_cases c1 : x < 0
    · have d1 : decide (x < 0) = true := decide_eq_true c1
      have HL : lenB ⟨S, l, T, r⟩ x = false := by rw [HQ]; rw [show decide (0 ≤ x) = false from decide_eq_false (by omega)]; rfl
      have HN := Lib.hid (show Value.tuple #[.int .i64 (0), .int .i64 (41)] = .tuple #[.int .i64 (bytesV ⟨S, l, T, r⟩ x), .int .i64 (bytesE ⟨S, l, T, r⟩ x)] by rw [(hV _ HL).1, (hV _ HL).2]; rfl)
      clear hV HQ HL
      go_enter Tryd.func11, Tryd.ntmps11
      go_wp2_with (go_at_call 17; with_reducible refine (RR.out _ (Ext.refl _)).mono ?_; rintro e w1 ⟨rfl, k1⟩; have p0 := (at_new k1).cell 0; have p2 := (at_new k1).cell 2; simp at p0 p2)
      go_ret2
      exact ⟨ret_val HN.out, Ext.trans HE.out k1⟩
    · obtain ⟨X, rfl⟩ : ∃ k : Nat, x = k := ⟨x.toNat, by omega⟩
      rcases Nat.eq_zero_or_pos X with c2 | c2
      · have d2 : decide (0 < X) = false := decide_eq_false (by omega)
        have d4 : decide (131072 < (X : Int)) = false := decide_eq_false (by omega)
        have d4' : decide (131072 < X) = false := decide_eq_false (by omega)
        have u0 : (X : Int) * T = 0 := by rw [c2]; simp
        generalize hM : (X : Int) * T = M at *
        have u1 : (0 : Int) ≤ M := by omega
        have u2 : M ≤ 33554432 := by omega
        have d5 : decide (131072 < (8 + (S : Int) + M + 7) / 8 * 8) = false := decide_eq_false (by omega)
        have HL : lenB ⟨S, l, T, r⟩ X = true := by rw [HQ, show decide (0 ≤ (X : Int)) = true from decide_eq_true (by omega), show decide ((X : Int) ≤ 0) = true from decide_eq_true (by omega), show decide ((X : Int) ≤ 131072) = true from decide_eq_true (by omega), show decide ((8 + (S : Int) + M + 7) / 8 * 8 ≤ 131072) = true from decide_eq_true (by omega)]; simp
        have HN := Lib.hid (show Value.tuple #[.int .i64 ((8 + (S : Int) + M + 7) / 8 * 8), .int .i64 (0)] = .tuple #[.int .i64 (bytesV ⟨S, l, T, r⟩ X), .int .i64 (bytesE ⟨S, l, T, r⟩ X)] by rw [(hV _ HL).1, (hV _ HL).2]; rfl)
        clear hV HQ HL u0 c2
        go_enter Tryd.func11, Tryd.ntmps11
        go_wp2_with (go_at_call 17; with_reducible refine (RR.out _ (Ext.refl _)).mono ?_; rintro e w1 ⟨rfl, k1⟩; have p0 := (at_new k1).cell 0; have p2 := (at_new k1).cell 2; simp at p0 p2)
        go_ret2
        exact ⟨ret_val HN.out, Ext.trans HE.out k1⟩
      · have d2 : decide (0 < X) = true := decide_eq_true c2
        rcases Nat.eq_zero_or_pos T with c3 | c3
        · have b3 : ((T : Int) == 0) = true := by rw [beq_iff_eq]; omega
          have b3' : (T == 0) = true := by rw [beq_iff_eq]; exact c3
          have HL : lenB ⟨S, l, T, r⟩ X = false := by rw [HQ]; rw [show decide ((X : Int) ≤ 0) = false from decide_eq_false (by omega), show decide ((T : Int) = 0) = true from decide_eq_true (by omega)]; simp
          have HN := Lib.hid (show Value.tuple #[.int .i64 (0), .int .i64 (41)] = .tuple #[.int .i64 (bytesV ⟨S, l, T, r⟩ X), .int .i64 (bytesE ⟨S, l, T, r⟩ X)] by rw [(hV _ HL).1, (hV _ HL).2]; rfl)
          clear hV HQ HL c3
          go_enter Tryd.func11, Tryd.ntmps11
          go_wp2_with (go_at_call 17; with_reducible refine (RR.out _ (Ext.refl _)).mono ?_; rintro e w1 ⟨rfl, k1⟩; have p0 := (at_new k1).cell 0; have p2 := (at_new k1).cell 2; simp at p0 p2)
          go_ret2
          exact ⟨ret_val HN.out, Ext.trans HE.out k1⟩
        · have b3 : ((T : Int) == 0) = false := by rw [beq_eq_false_iff_ne]; omega
          have b3' : (T == 0) = false := by rw [beq_eq_false_iff_ne]; omega
          by_cases c4 : 131072 < (X : Int)
          · have d4 : decide (131072 < (X : Int)) = true := decide_eq_true c4
            have d4' : decide (131072 < X) = true := decide_eq_true (by omega)
            have HL : lenB ⟨S, l, T, r⟩ X = false := by rw [HQ]; rw [show decide ((X : Int) ≤ 131072) = false from decide_eq_false (by omega), Bool.and_false]; rfl
            have HN := Lib.hid (show Value.tuple #[.int .i64 (0), .int .i64 (41)] = .tuple #[.int .i64 (bytesV ⟨S, l, T, r⟩ X), .int .i64 (bytesE ⟨S, l, T, r⟩ X)] by rw [(hV _ HL).1, (hV _ HL).2]; rfl)
            clear hV HQ HL
            go_enter Tryd.func11, Tryd.ntmps11
            go_wp2_with (go_at_call 17; with_reducible refine (RR.out _ (Ext.refl _)).mono ?_; rintro e w1 ⟨rfl, k1⟩; have p0 := (at_new k1).cell 0; have p2 := (at_new k1).cell 2; simp at p0 p2)
            go_ret2
            exact ⟨ret_val HN.out, Ext.trans HE.out k1⟩
          · have d4 : decide (131072 < (X : Int)) = false := decide_eq_false c4
            have d4' : decide (131072 < X) = false := decide_eq_false (by omega)
            have u0 : (0 : Int) ≤ (X : Int) * T := Int.mul_nonneg (by omega) (by omega)
            have u1 : (X : Int) * T ≤ 33554432 := by have := Int.mul_le_mul (show (X : Int) ≤ 131072 by omega) hT (by omega) (by omega); omega
            generalize hM : (X : Int) * T = M at *
            by_cases c5 : 131072 < (8 + (S : Int) + M + 7) / 8 * 8
            · have d5 : decide (131072 < (8 + (S : Int) + M + 7) / 8 * 8) = true := decide_eq_true c5
              have HL : lenB ⟨S, l, T, r⟩ X = false := by rw [HQ]; rw [show decide ((8 + (S : Int) + M + 7) / 8 * 8 ≤ 131072) = false from decide_eq_false (by omega), Bool.and_false]
              have HN := Lib.hid (show Value.tuple #[.int .i64 (0), .int .i64 (41)] = .tuple #[.int .i64 (bytesV ⟨S, l, T, r⟩ X), .int .i64 (bytesE ⟨S, l, T, r⟩ X)] by rw [(hV _ HL).1, (hV _ HL).2]; rfl)
              clear hV HQ HL
              go_enter Tryd.func11, Tryd.ntmps11
              go_wp2_with (go_at_call 17; with_reducible refine (RR.out _ (Ext.refl _)).mono ?_; rintro e w1 ⟨rfl, k1⟩; have p0 := (at_new k1).cell 0; have p2 := (at_new k1).cell 2; simp at p0 p2)
              go_ret2
              exact ⟨ret_val HN.out, Ext.trans HE.out k1⟩
            · have d5 : decide (131072 < (8 + (S : Int) + M + 7) / 8 * 8) = false := decide_eq_false c5
              have HL : lenB ⟨S, l, T, r⟩ X = true := by rw [HQ, show decide (0 ≤ (X : Int)) = true from decide_eq_true (by omega), show decide ((T : Int) = 0) = false from decide_eq_false (by omega), show decide ((X : Int) ≤ 131072) = true from decide_eq_true (by omega), show decide ((8 + (S : Int) + M + 7) / 8 * 8 ≤ 131072) = true from decide_eq_true (by omega)]; simp
              have HN := Lib.hid (show Value.tuple #[.int .i64 ((8 + (S : Int) + M + 7) / 8 * 8), .int .i64 (0)] = .tuple #[.int .i64 (bytesV ⟨S, l, T, r⟩ X), .int .i64 (bytesE ⟨S, l, T, r⟩ X)] by rw [(hV _ HL).1, (hV _ HL).2]; rfl)
              clear hV HQ HL
              go_enter Tryd.func11, Tryd.ntmps11
              go_wp2_with (go_at_call 17; with_reducible refine (RR.out _ (Ext.refl _)).mono ?_; rintro e w1 ⟨rfl, k1⟩; have p0 := (at_new k1).cell 0; have p2 := (at_new k1).cell 2; simp at p0 p2)
              go_ret2
              exact ⟨ret_val HN.out, Ext.trans HE.out k1⟩
  · have hr' : rightB ⟨s, l, t, r⟩ = false := by simpa using hr
    have HN := Lib.hid (show Value.tuple #[.int .i64 (0), .int .i64 (40)] = .tuple #[.int .i64 (bytesV ⟨s, l, t, r⟩ x), .int .i64 (bytesE ⟨s, l, t, r⟩ x)] by unfold bytesV bytesE; rw [hr']; rfl)
    rw [hr'] at RR
    clear hr hr'
    go_enter Tryd.func11, Tryd.ntmps11
    go_wp2_with (go_at_call 17; with_reducible refine (RR.out _ (Ext.refl _)).mono ?_; rintro e w1 ⟨rfl, k1⟩; have p0 := (at_new k1).cell 0; have p2 := (at_new k1).cell 2; simp at p0 p2)
    go_ret2
    exact ⟨ret_val HN.out, Ext.trans HE.out k1⟩
end
end Go.Proofs.YtgmpcinlkiiboaaDoor
