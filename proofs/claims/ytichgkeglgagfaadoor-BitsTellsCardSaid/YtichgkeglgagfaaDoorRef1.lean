/- The reference's Right, Has, Make, Same, Ints. -/
import Derived.Test.YtichgkeglgagfaaDoorRight
import Derived.RegionTactic
namespace Go.Proofs.YtichgkeglgagfaaDoor
open Go.RowKit Go
section
set_option maxHeartbeats 2000000 in
theorem refRight_any (N : Int) (A : Option Addr) (n c : Nat) (ws : List Nat) (w : World) (h : Bt w A n ws) :
    Calls Tryd.prog 16 #[.agg #[.int .i64 N, .slice A n c]] w fun e w' => e = .returned (.bool (rightB N ws)) ∧ Ext w w' := by
  have hl := h.len
  have hn := h.le
  have E1 : Ext w (w.alloc (.cells #[.int .i64 N, .slice A n c] 24)) := (Ext.refl w).alloc (Nat.le_refl _) _
  by_cases h0 : 0 ≤ N
  · by_cases h1 : N ≤ 20000
    · by_cases he : (n : Int) = (N + 31) / 32
      · have e1 : ((n : Int) != (N + 31) / 32) = false := by simp [he]
        obtain ⟨M, rfl⟩ := Int.eq_ofNat_of_zero_le h0
        have H := Lib.hid (And.intro h (And.intro hl he))
        clear h hl he
        go_enter Tryd.func16, Tryd.ntmps16
        go_wp2
        go_loopw [3] (fun i wr => ∃ k : Nat, i = .int .i64 k ∧ M ≤ k ∧ k ≤ max M (32 * n) ∧ (∀ j, M ≤ j → j < k → bit ws j = false) ∧ Ext (w.alloc (.cells #[.int .i64 M, .slice A n c] 24)) wr) (fun i _ => max M (32 * n) - (intOf i).toNat)
        case atStart => exact ⟨M, rfl, by omega, by omega, fun j h1 h2 => by omega, Ext.refl _⟩
        case round =>
          obtain ⟨k, rfl, hk1, hk2, hbits, hE⟩ := hrel
          have c0 : wr.cell? ⟨w.heap.size, 0, none⟩ = some (.int .i64 M) := by rw [extAt hE _ _ (by simp)]; exact (Blk.new w _ _).cell 0
          have c1 : wr.cell? ⟨w.heap.size, 1, none⟩ = some (.slice A n c) := by rw [extAt hE _ _ (by simp)]; exact (Blk.new w _ _).cell 1
          have HE := Lib.hid hE
          have HB := Lib.hid hbits
          clear hE hbits
          by_cases hlt : k < 32 * n
          · have h5 : (k : Int) < 32 * n := by omega
            have hO := fun W (hW : Ext w W) => on_any M A n c ws k hlt W (H.out.1.ext hW)
            by_cases hb : bit ws k = true
            · have hO' := Lib.hid (hb ▸ hO)
              have HBK := Lib.hid hb
              clear hO hb
              go_wp2_with (go_at_call 40; refine (hO'.out _ (Ext.trans E1 HE.out)).mono ?_; rintro e w1 ⟨rfl, h1⟩)
              go_ret
              refine ⟨ret_bool ?_, Ext.trans (Ext.trans E1 HE.out) h1⟩
              rw [not_right fun hr => ?_]
              have := hr.off k (by rw [H.out.2.1]; exact hlt) (by omega)
              rw [HBK.out] at this
              cases this
            · have hb' : bit ws k = false := by simpa using hb
              have hO' := Lib.hid (hb' ▸ hO)
              have HBK := Lib.hid hb'
              clear hO hb hb'
              go_wp2_with (go_at_call 40; refine (hO'.out _ (Ext.trans E1 HE.out)).mono ?_; rintro e w1 ⟨rfl, h1⟩)
              go_roundw
              case rel => exact ⟨k + 1, by go_num, by omega, by omega, fun j h1 h2 => by
                by_cases hj : j = k
                · rw [hj]; exact HBK.out
                · exact HB.out j h1 (by omega), Ext.trans HE.out h1⟩
              case measure => simp [intOf]; omega
          · have h5 : ¬ (k : Int) < 32 * n := by omega
            go_wp2
            go_ret
            exact ⟨ret_bool (Right.b ⟨by omega, by omega, by rw [H.out.2.1]; exact H.out.2.2, fun i hi hni => HB.out i (by omega) (by rw [H.out.2.1] at hi; omega)⟩).symm, Ext.trans E1 HE.out⟩
      · have e1 : ((n : Int) != (N + 31) / 32) = true := by simp [he]
        have R := Lib.hid (show rightB N ws = false from not_right fun h => he (by have := h.len; rw [hl] at this; exact this))
        clear he h hl
        go_enter Tryd.func16, Tryd.ntmps16
        go_wp2
        go_ret
        exact ⟨ret_bool R.out.symm, E1⟩
    · have R := Lib.hid (show rightB N ws = false from not_right fun h => h1 h.n1)
      have h1' : 20000 < N := by omega
      clear h hl h1
      go_enter Tryd.func16, Tryd.ntmps16
      go_wp2
      go_ret
      exact ⟨ret_bool R.out.symm, E1⟩
  · have R := Lib.hid (show rightB N ws = false from not_right fun h => h0 h.n0)
    have h1' : N < 0 := by omega
    clear h hl h0
    go_enter Tryd.func16, Tryd.ntmps16
    go_wp2
    go_ret
    exact ⟨ret_bool R.out.symm, E1⟩
end
end Go.Proofs.YtichgkeglgagfaaDoor
