/- selionlaw05: the walk of a law (made by gen_laws.py): LawOne. -/
import Derived.Test.YtopgbggighaknaaGreatDoorOne5
namespace Go.Proofs.YtopgbggighaknaaGreatDoor
open Go.RowKit Go
theorem few_len5 (n : Nat) (xs : List DRow) (L : List DescR) (w : World) (A : Option Addr) (h : Dl w A n xs L) : (fewD L).length = min n 62 := by
  rw [fewD, List.length_map, List.length_take, h.2.1]; omega
set_option maxHeartbeats 8000000 in
set_option maxRecDepth 100000 in
theorem one_walk (A : Option Addr) (n c : Nat) (xs : List DRow) (L : List DescR) (w : World) (h : Dl w A n xs L) (hz : Zs xs) (hG : K.G w) (hTab : HTab w) :
    Calls Tryz.prog 7 #[.slice A n c] w fun e w' => e = .returned (.bool true) ∧ Ext w w' := by
  have SH := Lib.hid (shown5_is w hG hTab)
  have HG := Lib.hid (fun W (hW : Ext w W) => hG.ext hW)
  have HB := Lib.hid (fun W (hW : Ext w W) => hTab.ext hW)
  obtain ⟨N, hN⟩ : ∃ N, min n 62 = N := ⟨_, rfl⟩
  have h62 : N ≤ 62 := by omega
  have HN := Lib.hid hN
  have HI := Lib.hid (And.intro h hz)
  clear h hz hG hTab hN
  have hlen := few_len5 n xs L w A HI.out.1
  rw [HN.out] at hlen
  go_enter Tryz.func7, Tryz.ntmps7
  go_wp2_with (first | (go_at_call 8; refine SH.out.mono ?_; rintro e w1 ⟨rfl, kx⟩; clear SH) | (go_at_call 9; have FW := few_is A n c xs L _ (HI.out.1.ext kx) HI.out.2; rw [HN.out] at FW; refine FW.mono ?_; clear FW; unfold RowP; rintro e w2 ⟨A1, c1, xs1, rfl, h1, h2, h3, h4, k2⟩; have D1 := Lib.hid h2; have F1 := Lib.hid (And.intro h1 (And.intro h3 h4)); replace kx := Ext.trans kx k2; clear h1 h2 h3 h4 k2))
  generalize fewD L = L1 at *
  have HLN := Lib.hid hlen
  clear hlen
  go_loopg [4, 5, 6] N (fun m v b i wr => ∃ (k : Nat) (bk : Bool) (A' : Option Addr) (n' c' : Nat) (xs' : List DRow) (M : List DescR), k + m = N ∧ i = .int .i64 k ∧ b = .bool bk ∧ v = .slice A' n' c' ∧ Ext w2 wr ∧ n' = M.length ∧ n' ≤ c' ∧ Dl wr A' n' xs' M ∧ Small xs' ∧ One5 L1 k M bk)
  case atStart => exact ⟨0, true, none, 0, 0, [], [], by omega, rfl, rfl, rfl, Ext.refl _, rfl, Nat.le_refl _, Dl.nil _, Small.nil, One5.start L1⟩
  case round =>
    obtain ⟨k, bk, A', n', c', xs', M, hk, rfl, rfl, rfl, hE, hn', hc', hd', hs', hone⟩ := hrel
    have hML := ((rightK_iff _).1 hone.r).2.2
    by_cases hlt : k < N
    · obtain ⟨ad, x, d, rfl, hb, hx, hd, hdn, e0, e1, e2, e3⟩ := (D1.out.ext hE).at_ (show k < N by omega)
      have hsx := F1.out.2.1 k x hx
      have AD := kadd_is A' n' c' xs' M x d (by omega) hc' hs' hsx.1 hsx.2 wr (HG.out _ (Ext.trans kx hE)) hd' hdn
      have h1 : (k : Int) < N := by omega
      have st := hone.step d hd
      have HH := Lib.hid (And.intro hE hk)
      have HM := Lib.hid (And.intro hn' (And.intro hc' (And.intro hs' hML)))
      have HD' := Lib.hid hd'
      unfold AddR at AD
      simp only [DRow.cells] at AD
      generalize hKK : ((addK M d : Nat) : Int) = KK at AD st
      clear hE hk hn' hc' hd' hs' hone hML hx hd hdn hb hlt hsx hKK
      rcases st with ⟨q1, ⟨rfl, rfl, q3⟩ | ⟨rfl, q3⟩ | ⟨rfl, q2, q3⟩⟩ | ⟨q1, q3⟩
      · rw [q1] at AD
        replace AD := Lib.hid AD
        have Q3 := Lib.hid q3
        clear q1 q3
        go_wp2_with (first | (go_at_call 11; refine AD.out.mono ?_; clear AD; rintro e w9 ⟨A9, n9, c9, xs9, rfl, rfl, g1, g2, g3, k9⟩))
        go_roundg (gk - 1)
        case measure => have := HH.out.2; omega
        case rel => exact ⟨k + 1, true, A9, _, c9, xs9, _, by have := HH.out.2; omega, by go_num, rfl, rfl, Ext.trans HH.out.1 k9, rfl, g1, g2, g3, Q3.out⟩
      · rw [q1] at AD
        replace AD := Lib.hid AD
        have Q3 := Lib.hid q3
        clear q1 q3
        go_wp2_with (first | (go_at_call 11; refine AD.out.mono ?_; clear AD; rintro e w9 ⟨A9, n9, c9, xs9, rfl, rfl, g1, g2, g3, k9⟩))
        go_roundg (gk - 1)
        case measure => have := HH.out.2; omega
        case rel => exact ⟨k + 1, false, A9, _, c9, xs9, _, by have := HH.out.2; omega, by go_num, rfl, rfl, Ext.trans HH.out.1 k9, rfl, g1, g2, g3, Q3.out⟩
      · rw [q1] at AD
        replace AD := Lib.hid AD
        have Q3 := Lib.hid q3
        clear q1 q3
        go_wp2_with (first | (go_at_call 11; refine AD.out.mono ?_; clear AD; rintro e w9 ⟨A9, n9, c9, xs9, rfl, rfl, g1, g2, g3, k9⟩))
        go_roundg (gk - 1)
        case measure => have := HH.out.2; omega
        case rel => exact ⟨k + 1, false, A9, _, c9, xs9, _, by have := HH.out.2; omega, by go_num, rfl, rfl, Ext.trans HH.out.1 k9, rfl, g1, g2, g3, Q3.out⟩
      · generalize addE M d = EE at AD q1
        replace AD := Lib.hid AD
        have Q3 := Lib.hid q3
        clear q3
        have q4 : (EE != 0) = true := by simpa using q1
        have q5 : ¬ EE = 0 := by simpa using q1
        cases bk
        · go_wp2_with (first | (go_at_call 11; refine AD.out.mono ?_; clear AD; rintro e w9 ⟨A9, n9, c9, xs9, rfl, rfl, g1, g2, g3, k9⟩))
          go_roundg (gk - 1)
          case measure => have := HH.out.2; omega
          case rel => exact ⟨k + 1, false, A', n', c', xs', M, by have := HH.out.2; omega, by go_num, rfl, rfl, Ext.trans HH.out.1 k9, HM.out.1, HM.out.2.1, HD'.out.ext k9, HM.out.2.2.1, Q3.out⟩
        · go_wp2_with (first | (go_at_call 11; refine AD.out.mono ?_; clear AD; rintro e w9 ⟨A9, n9, c9, xs9, rfl, rfl, g1, g2, g3, k9⟩))
          go_roundg (gk - 1)
          case measure => have := HH.out.2; omega
          case rel => exact ⟨k + 1, false, A', n', c', xs', M, by have := HH.out.2; omega, by go_num, rfl, rfl, Ext.trans HH.out.1 k9, HM.out.1, HM.out.2.1, HD'.out.ext k9, HM.out.2.2.1, Q3.out⟩
    · obtain rfl : k = N := by omega
      have h1 : ¬ (k : Int) < k := by omega
      have RK := Lib.hid (fun W (hW : Ext w2 W) => kright_is A1 k c1 xs1 L1 (by omega) F1.out.1 F1.out.2.1 W (HG.out _ (Ext.trans kx hW)) (D1.out.ext hW))
      have RM := Lib.hid (fun W (hW : Ext wr W) => kright_is A' n' c' xs' M (by omega) hc' hs' W (HG.out _ (Ext.trans kx (Ext.trans hE hW))) (hd'.ext hW))
      have SM := Lib.hid (fun W (hW : Ext wr W) => ksame_is A' A1 n' k c' c1 xs' xs1 M L1 (by omega) hs' F1.out.2.1 W (hd'.ext hW) (D1.out.ext (Ext.trans hE hW)))
      have ht : L1.take k = L1 := List.take_of_length_le (by rw [HLN.out]; exact Nat.le_refl _)
      have hb := hone.f
      have he := hone.e
      rw [ht] at hb he
      rw [← hb] at RK
      rw [hone.r] at RM
      have HE := Lib.hid hE
      clear hb ht hone hML hn' hc' hd' hs' hlt hE hk
      cases bk
      · go_wp2_with (first | (go_at_call 17; refine (RK.out _ HE.out).mono ?_; rintro e w5 ⟨rfl, k5⟩; clear RK) | (go_at_call 17; refine (RM.out _ k5).mono ?_; rintro e w6 ⟨rfl, k6⟩; clear RM))
        go_ret
        exact ⟨rfl, Ext.trans kx (Ext.trans HE.out (Ext.trans k5 k6))⟩
      · rw [decide_eq_true (he rfl)] at SM
        clear he
        go_wp2_with (first | (go_at_call 17; refine (RK.out _ HE.out).mono ?_; rintro e w5 ⟨rfl, k5⟩; clear RK) | (go_at_call 21; refine (SM.out _ k5).mono ?_; rintro e w7 ⟨rfl, k7⟩; replace k5 := Ext.trans k5 k7) | (go_at_call 17; refine (RM.out _ k5).mono ?_; rintro e w6 ⟨rfl, k6⟩; clear RM))
        go_ret
        exact ⟨rfl, Ext.trans kx (Ext.trans HE.out (Ext.trans k5 k6))⟩
end Go.Proofs.YtopgbggighaknaaGreatDoor
