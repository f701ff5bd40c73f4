/- selionref04: Slots. -/
import Derived.Test.YtgmpcinlkiiboaaDoorKind2R
import Derived.Test.YtgmpcinlkiiboaaDoorApp
import Derived.Laws.OwnMore
namespace Go.Proofs.YtgmpcinlkiiboaaDoor
open Go.RowKit Go
theorem slotsW_succ (d : DescR) (N k : Nat) : slotsW d N (k + 1) = if kindP d N (4 * (k : Int)) = 2 then slotsW d N k ++ [4 * (k : Int)] else slotsW d N k := by
  unfold slotsW
  rw [List.range_succ, List.map_append, List.filter_append, List.map_singleton, List.filter_cons, List.filter_nil]
  by_cases h : kindP d N (4 * (k : Int)) = 2
  · rw [if_pos h, h]; rfl
  · rw [if_neg h, show (kindP d N (4 * (k : Int)) == 2) = false by simpa using h]; simp
theorem slotsW_len (d : DescR) (n : Nat) (k : Nat) : (slotsW d n k).length ≤ k := by
  have := List.length_filter_le (fun x => kindP d n x == 2) ((List.range k).map fun (j : Nat) => 4 * (j : Int))
  simpa [slotsW] using this
section
set_option maxHeartbeats 4000000 in
set_option maxRecDepth 100000 in
theorem slots_is (A B : Option Addr) (n m c e : Nat) (s t : Int) (l r : List Int) (hn : n ≤ 1000000) (hm : m ≤ 1000000) (y : Int) (w : World) (h : Il w A n l) (h' : Il w B m r) :
    Calls Tryd.prog 15 #[.agg #[.int .i64 s, .slice A n c, .int .i64 t, .slice B m e], .int .i64 y] w (SlotsR w ⟨s, l, t, r⟩ y) := by
  have E1 := ext1 w (.cells #[.int .i64 s, .slice A n c, .int .i64 t, .slice B m e] 24)
  have HE := Lib.hid E1
  have RB := Lib.hid (fun W (hW : Ext (w.alloc (.cells #[.int .i64 s, .slice A n c, .int .i64 t, .slice B m e] 24)) W) => bytes_is A B n m c e s t l r hn hm y W (h.ext (Ext.trans E1 hW)) (h'.ext (Ext.trans E1 hW)))
  by_cases hok : (rightB ⟨s, l, t, r⟩ && lenB ⟨s, l, t, r⟩ y) = true
  · have hk := hok
    rw [Bool.and_eq_true] at hk
    obtain ⟨hr, hl⟩ := hk
    have hle := lenB_le hl
    have hR := right_of hr
    obtain ⟨S, rfl⟩ : ∃ k : Nat, s = k := ⟨s.toNat, by have : 0 ≤ s := hR.s0; omega⟩
    obtain ⟨T, rfl⟩ : ∃ k : Nat, t = k := ⟨t.toNat, by have : 0 ≤ t := hR.e0; omega⟩
    obtain ⟨X, rfl⟩ : ∃ k : Nat, y = k := ⟨y.toNat, by omega⟩
    have hS : (S : Int) ≤ 1024 := hR.s1
    have hT : (T : Int) ≤ 256 := hR.e1
    have u0 : (0 : Int) ≤ (X : Int) * T := Int.mul_nonneg (by omega) (by omega)
    have u1 : (X : Int) * T ≤ 33554432 := by have := Int.mul_le_mul (show (X : Int) ≤ 131072 by omega) hT (by omega) (by omega); omega
    have u4 : ((X : Int) * T) % 4 = 0 := by rw [Int.mul_emod, show (T : Int) % 4 = 0 from hR.e4]; simp
    have s4 : (S : Int) % 4 = 0 := hR.s4
    obtain ⟨K, hK⟩ : ∃ K : Nat, (S : Int) + X * T = 4 * K := ⟨(((S : Int) + X * T) / 4).toNat, by omega⟩
    have hall := slots_all hR X K (by show (S : Int) + X * T ≤ _; omega)
    have hV : slotsV ⟨S, l, T, r⟩ X = slotsW ⟨S, l, T, r⟩ X K := by rw [slotsV, if_pos hok, hall]; rfl
    have RK := Lib.hid (fun W (hW : Ext (w.alloc (.cells #[.int .i64 (S : Int), .slice A n c, .int .i64 (T : Int), .slice B m e] 24)) W) (x : Int) => kind_is A B n m c e S T l r hn hm X (by omega) x W (h.ext (Ext.trans E1 hW)) (h'.ext (Ext.trans E1 hW)) hr)
    have he : bytesE ⟨S, l, T, r⟩ X = 0 := by unfold bytesE; rw [hr, hl]; rfl
    rw [he] at RB
    have HV := Lib.hid (And.intro hV he)
    obtain ⟨i0, hi, hz⟩ := Option.map_eq_some_iff.1 infoZ
    simp only [Prod.mk.injEq] at hz
    obtain ⟨hz0, hz1, hz2⟩ := hz
    have HI := Lib.hid (And.intro hi (And.intro hz0 (And.intro hz1 hz2)))
    clear hi hz0 hz1 hz2 hR hr hl hle hok he h h' E1 hV hall s4 u4
    generalize hM : (X : Int) * T = M at *
    go_enter Tryd.func15, Tryd.ntmps15
    go_wp2_with (first | (go_at_call 11; with_reducible refine (RB.out _ (Ext.refl _)).mono ?_; rintro e w1 ⟨rfl, k1⟩))
    have hb1 := Lib.hid (And.intro (at_new k1) k1)
    clear k1
    go_loopw [8, 9] (fun v i wr => ∃ k : Nat, i = .int .i64 (4 * (k : Int)) ∧ k ≤ K ∧ wr.ownsRow w1.heap.size 3 1 v (slotsW ⟨S, l, T, r⟩ X k).length (encZ (slotsW ⟨S, l, T, r⟩ X k)) ∧ Ext w1 wr) (fun _ i _ => 4 * K - (intOf i).toNat)
    case atStart => exact ⟨0, rfl, by omega, World.ownsRow_nil _ _ _ _, Ext.refl _⟩
    case round =>
      obtain ⟨k, rfl, hk, hown, hE⟩ := hrel
      have p0 := (hb1.out.1.ext hE).cell 0
      have p1 := (hb1.out.1.ext hE).cell 1
      have p2 := (hb1.out.1.ext hE).cell 2
      have p3 := (hb1.out.1.ext hE).cell 3
      simp at p0 p1 p2 p3
      have hEw := Ext.trans hb1.out.2 hE
      by_cases hlt : k < K
      · have h5 : decide (4 * (k : Int) < (S : Int) + M) = true := decide_eq_true (by omega)
        have h6 : 4 * (k : Int) + 4 ≤ 40000000 := by omega
        have h7 : 0 ≤ 4 * (k : Int) := by omega
        have hs := slotsW_succ ⟨S, l, T, r⟩ X k
        have hpl := slotsW_len ⟨S, l, T, r⟩ X k
        have RK1 := Lib.hid (RK.out _ hEw (4 * (k : Int)))
        have e4 : 4 * (k : Int) + 4 = 4 * ((k + 1 : Nat) : Int) := by omega
        by_cases hb : kindP ⟨S, l, T, r⟩ X (4 * (k : Int)) = 2
        · rw [hb] at RK1
          rw [if_pos hb] at hs
          have HH := Lib.hid (And.intro hs (And.intro hown (And.intro hE (And.intro hEw e4))))
          clear hb hs hown hE hEw e4 RK
          go_wp2_with (first | (go_at_call 28; with_reducible refine RK1.out.mono ?_; rintro e w2 ⟨rfl, h2⟩) | (at_builtin; refine wpList_append_own _ rfl _ _ 22 rfl w1.heap.size 3 i0 (.int .i64 0) 1 8 Tryd.underlying22 HI.out.1 HI.out.2.1 HI.out.2.2.1 HI.out.2.2.2 rfl (by decide) _ _ _ rfl (own_ext HH.out.2.1 (Ext.trans h2 (ext1 _ _))) ⟨w2.heap.size, 0, none⟩ 1 1 [.int .i64 (4 * (k : Int))] rfl rfl (cell_one_new _ _ _) (by simp [Value.oneCell']) (by unfold maxLen; omega) (by omega) (by have := h2.size; have := HH.out.2.2.1.size; simp; omega) ?_; intro v' w3 hown3 hgrow _))
          refine ⟨⟨k + 1, by rw [HH.out.2.2.2.2], by omega, ?_, ?_⟩, by simp [intOf]; omega⟩
          · rw [HH.out.1]
            simpa [encZ] using hown3
          · exact Below.grown (Ext.trans HH.out.2.2.1 (Ext.trans h2 (ext1 _ _))) hgrow (by have := h2.size; have := HH.out.2.2.1.size; simp; omega) (own_block HH.out.2.1)
        · have hb1 : (kindP ⟨S, l, T, r⟩ X (4 * (k : Int)) == 2) = false := by simpa using hb
          rw [if_neg hb] at hs
          have HH := Lib.hid (And.intro hs (And.intro hown (And.intro hE (And.intro hEw e4))))
          clear hb hs hown hE hEw e4 RK
          generalize kindP ⟨S, l, T, r⟩ X (4 * (k : Int)) = z at *
          go_wp2_with (go_at_call 28; with_reducible refine RK1.out.mono ?_; rintro e w2 ⟨rfl, h2⟩)
          go_roundw
          case rel => exact ⟨k + 1, by rw [HH.out.2.2.2.2], by omega, by rw [HH.out.1]; exact own_ext HH.out.2.1 h2, Ext.trans HH.out.2.2.1 h2⟩
          case measure => simp [intOf]; omega
      · obtain rfl : k = K := by omega
        have h5 : decide (4 * (k : Int) < (S : Int) + M) = false := decide_eq_false (by omega)
        have HH := Lib.hid (And.intro hown (And.intro hE hEw))
        clear hown hE hEw RK
        go_wp2
        go_ret2
        unfold SlotsR
        rw [HV.out.1, HV.out.2]
        obtain ⟨A', c', rfl, hil⟩ := il_of_own HH.out.1 (Ext.refl _)
        exact ⟨A', c', rfl, hil, Ext.trans HE.out HH.out.2.2⟩
  · have he : (bytesE ⟨s, l, t, r⟩ y != 0) = true := by
      unfold bytesE
      cases hr : rightB ⟨s, l, t, r⟩
      · rfl
      · cases hl : lenB ⟨s, l, t, r⟩ y
        · rfl
        · rw [hr, hl] at hok; simp at hok
    have hV : slotsV ⟨s, l, t, r⟩ y = [] := by rw [slotsV, if_neg hok]
    have HV := Lib.hid hV
    clear hok h h' E1 hV
    unfold SlotsR
    generalize bytesE ⟨s, l, t, r⟩ y = z at *
    generalize bytesV ⟨s, l, t, r⟩ y = z2 at *
    generalize slotsV ⟨s, l, t, r⟩ y = V at *
    go_enter Tryd.func15, Tryd.ntmps15
    go_wp2_with (go_at_call 11; with_reducible refine (RB.out _ (Ext.refl _)).mono ?_; rintro e w1 ⟨rfl, k1⟩)
    go_ret2
    rw [HV.out]
    exact ⟨none, 0, rfl, ⟨rfl, fun hn => absurd hn (by simp)⟩, Ext.trans HE.out k1⟩
end
end Go.Proofs.YtgmpcinlkiiboaaDoor
