/- selionref04: rising, Right, Same, Bytes, in, kind, Kind. -/
import Derived.Test.YtgmpcinlkiiboaaGreatDoorRisP
namespace Go.Proofs.YtgmpcinlkiiboaaGreatDoor
open Go.RowKit Go
section
set_option maxHeartbeats 4000000 in
set_option maxRecDepth 100000 in
theorem rising_is (A : Option Addr) (n c : Nat) (l : List Int) (size : Int) (hn : n ≤ 1000000) (w : World) (h : Il w A n l) :
    Calls Tryz.prog 33 #[.slice A n c, .int .i64 size] w fun e w' => e = .returned (.bool (risB l size)) ∧ Ext w w' := by
  have H := Lib.hid h
  clear h
  go_enter Tryz.func33, Tryz.ntmps33
  go_wp2
  go_loopg [5] n (fun m i wr => ∃ k : Nat, k + m = n ∧ i = .int .i64 k ∧ risB l size = risF size (prevL l k) (l.drop k) ∧ Ext w wr)
  case atStart => exact ⟨0, by omega, rfl, rfl, Ext.refl _⟩
  case round =>
    obtain ⟨k, hk, rfl, ht, hE⟩ := hrel
    by_cases hlt : k < n
    · obtain ⟨ad, rfl, hb, hcell⟩ := (H.out.ext hE).at_ hlt
      have ck := hcell k hlt
      have h5 : (k : Int) < n := by omega
      have h6 : (k : Int) + 1 ≤ 1000000 := by omega
      rw [ris_step l size k (by rw [H.out.1]; exact hlt)] at ht
      have hpx : ∀ j, k = j + 1 → wr.cell? (ad.add j) = some (.int .i64 (prevL l k)) := by rintro j rfl; exact hcell j (by omega)
      have hp0 : k = 0 → prevL l k = -1 := by rintro rfl; rfl
      have hpn : prevL l (k + 1) = l.getD k 0 := rfl
      have ck' := fun (o : From wr) => (From.cell o (ad.add k) (by rw [ck]; rfl)).trans ck
      have hpx' := fun (j : Nat) (hj : k = j + 1) (o : From wr) => (From.cell o (ad.add j) (by rw [hpx j hj]; rfl)).trans (hpx j hj)
      have HE := Lib.hid (And.intro hE (And.intro hk (And.intro ht (And.intro hpx' (And.intro hp0 hpn)))))
      clear hE hcell hk ht hpx hp0 hpn hpx' ck
      generalize hx : l.getD k 0 = x at *
      generalize hp : prevL l k = p at *
      by_cases h1 : x < 0
      · have d1 : decide (x < 0) = true := decide_eq_true h1
        have HN := Lib.hid (show false = risB l size by rw [HE.out.2.2.1]; rw [show decide (0 ≤ x) = false from decide_eq_false (by omega)]; rfl)
        clear hx hp
        go_wp2
        refine wp_region_on (by kernel_rfl) (by kernel_rfl) ?_
        iterate 10 (try go_big_quiet_step (fail))
        iterate 10 (try go_big_quiet_step (fail))
        iterate 10 (try go_big_quiet_step (fail))
        iterate 10 (try go_big_quiet_step (fail))
        refine wpQuiet_nil ?_
        intro W hW
        go_wp2
        go_ret
        exact ⟨rb HN.out, Ext.trans HE.out.1 hW⟩
      · obtain ⟨y, rfl⟩ : ∃ y : Nat, x = y := ⟨x.toNat, by omega⟩
        have h1' : (0 : Int) ≤ y := by omega
        have d1 : decide ((y : Int) < 0) = false := decide_eq_false h1
        by_cases h2 : (y : Int) % 4 = 0
        · have hb1 : ((y : Int) % 4 != 0) = false := by simp [h2]
          have hb2 : ((y : Int).tmod 4 != 0) = false := by rw [Int.tmod_eq_emod_of_nonneg h1']; exact hb1
          by_cases h3 : size ≤ y
          · have d3 : decide (size ≤ y) = true := decide_eq_true h3
            have HN := Lib.hid (show false = risB l size by rw [HE.out.2.2.1]; rw [show decide ((y : Int) < size) = false from decide_eq_false (by omega), Bool.and_false]; rfl)
            clear hx hp h2
            go_wp2
            refine wp_region_on (by kernel_rfl) (by kernel_rfl) ?_
            iterate 10 (try go_big_quiet_step (fail))
            iterate 10 (try go_big_quiet_step (fail))
            iterate 10 (try go_big_quiet_step (fail))
            iterate 10 (try go_big_quiet_step (fail))
            refine wpQuiet_nil ?_
            intro W hW
            go_wp2
            go_ret
            exact ⟨rb HN.out, Ext.trans HE.out.1 hW⟩
          · have d3 : decide (size ≤ y) = false := decide_eq_false h3
            rcases Nat.eq_zero_or_pos k with hk0 | hk0
            · have hp1 := HE.out.2.2.2.2.1 hk0
              have d4 : decide (0 < k) = false := decide_eq_false (by omega)
              have HN := Lib.hid (show risB l size = risF size (prevL l (k + 1)) (l.drop (k + 1)) by rw [HE.out.2.2.1, hp1, show decide (0 ≤ (y : Int)) = true from decide_eq_true h1', h2, show decide ((y : Int) < size) = true from decide_eq_true (by omega), show decide (-1 < (y : Int)) = true from decide_eq_true (by omega)]; rfl)
              clear hx hp h2 hp1 hk0
              go_wp2
              refine wp_region_on (by kernel_rfl) (by kernel_rfl) ?_
              iterate 10 (try go_big_quiet_step (fail))
              iterate 10 (try go_big_quiet_step (fail))
              iterate 10 (try go_big_quiet_step (fail))
              iterate 10 (try go_big_quiet_step (fail))
              refine wpQuiet_nil ?_
              intro W hW
              go_wp2
              go_roundg (gk - 1)
              case measure => have := HE.out.2.1; omega
              case rel => exact ⟨k + 1, by have := HE.out.2.1; omega, by go_num, HN.out, Ext.trans HE.out.1 hW⟩
            · obtain ⟨j, hj⟩ : ∃ j, k = j + 1 := ⟨k - 1, by omega⟩
              have cj := HE.out.2.2.2.1 j hj
              have e1 : ((k : Int) - 1).toNat = j := by omega
              have d4 : decide (0 < k) = true := decide_eq_true (by omega)
              have g1 : (0 : Int) ≤ (k : Int) - 1 := by omega
              have g2 : (k : Int) - 1 < n := by omega
              by_cases h6 : (y : Int) ≤ p
              · have d6 : decide ((y : Int) ≤ p) = true := decide_eq_true h6
                have HN := Lib.hid (show false = risB l size by rw [HE.out.2.2.1]; rw [show decide (p < (y : Int)) = false from decide_eq_false (by omega), Bool.and_false]; rfl)
                clear hx hp h2 hj hk0
                go_wp2
                refine wp_region_on (by kernel_rfl) (by kernel_rfl) ?_
                iterate 10 (try go_big_quiet_step (fail))
                iterate 10 (try go_big_quiet_step (fail))
                iterate 10 (try go_big_quiet_step (fail))
                iterate 10 (try go_big_quiet_step (fail))
                refine wpQuiet_nil ?_
                intro W hW
                go_wp2
                go_ret
                exact ⟨rb HN.out, Ext.trans HE.out.1 hW⟩
              · have d6 : decide ((y : Int) ≤ p) = false := decide_eq_false h6
                have HN := Lib.hid (show risB l size = risF size (prevL l (k + 1)) (l.drop (k + 1)) by rw [HE.out.2.2.1, show decide (0 ≤ (y : Int)) = true from decide_eq_true h1', h2, show decide ((y : Int) < size) = true from decide_eq_true (by omega), show decide (p < (y : Int)) = true from decide_eq_true (by omega)]; rfl)
                clear hx hp h2 hj hk0
                go_wp2
                refine wp_region_on (by kernel_rfl) (by kernel_rfl) ?_
                iterate 10 (try go_big_quiet_step (fail))
                iterate 10 (try go_big_quiet_step (fail))
                iterate 10 (try go_big_quiet_step (fail))
                iterate 10 (try go_big_quiet_step (fail))
                refine wpQuiet_nil ?_
                intro W hW
                go_wp2
                go_roundg (gk - 1)
                case measure => have := HE.out.2.1; omega
                case rel => exact ⟨k + 1, by have := HE.out.2.1; omega, by go_num, HN.out, Ext.trans HE.out.1 hW⟩
        · have hb1 : ((y : Int) % 4 != 0) = true := by simpa using h2
          have hb2 : ((y : Int).tmod 4 != 0) = true := by rw [Int.tmod_eq_emod_of_nonneg h1']; exact hb1
          have HN := Lib.hid (show false = risB l size by rw [HE.out.2.2.1]; rw [show decide ((y : Int) % 4 = 0) = false from decide_eq_false h2, Bool.and_false]; rfl)
          clear hx hp h2
          go_wp2
          refine wp_region_on (by kernel_rfl) (by kernel_rfl) ?_
          iterate 10 (try go_big_quiet_step (fail))
          iterate 10 (try go_big_quiet_step (fail))
          iterate 10 (try go_big_quiet_step (fail))
          iterate 10 (try go_big_quiet_step (fail))
          refine wpQuiet_nil ?_
          intro W hW
          go_wp2
          go_ret
          exact ⟨rb HN.out, Ext.trans HE.out.1 hW⟩
    · obtain rfl : k = n := by omega
      have h5 : ¬ (k : Int) < k := by omega
      rw [ris_end l size k (by rw [H.out.1]; exact Nat.le_refl _)] at ht
      have HN := Lib.hid ht.symm
      have HE := Lib.hid hE
      clear hE ht hk
      go_wp2
      go_ret
      exact ⟨rb HN.out, HE.out⟩
end
end Go.Proofs.YtgmpcinlkiiboaaGreatDoor
