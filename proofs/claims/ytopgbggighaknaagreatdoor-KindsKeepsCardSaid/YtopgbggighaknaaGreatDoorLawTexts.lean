/- selionlaw05: the walk of a law (made by gen_laws.py): LawTexts. -/
import Derived.Test.YtopgbggighaknaaGreatDoorLaw5
namespace Go.Proofs.YtopgbggighaknaaGreatDoor
open Go.RowKit Go
theorem par_len (s : List UInt8) : (parL s).length ≤ 1000 := by
  unfold parL
  split
  · rename_i l h
    obtain ⟨m, rfl, _, _, h4⟩ := readK_done _ s (Nat.le_refl _) [] 0 _ h (by decide)
    omega
  · simp
set_option maxHeartbeats 8000000 in
set_option maxRecDepth 100000 in
theorem texts_walk (A : Option Addr) (n c : Nat) (xs : List DRow) (L : List DescR) (l : List UInt8) (w : World) (h : Dl w A n xs L) (hz : Zs xs) (hG : K.G w) (hTab : HTab w) :
    Calls Tryz.prog 4 #[.slice A n c, .string ⟨l.toArray⟩] w fun e w' => e = .returned (.bool true) ∧ Ext w w' := by
  have SH := Lib.hid (shown5_is w hG hTab)
  have HG := Lib.hid (fun W (hW : Ext w W) => hG.ext hW)
  have HB := Lib.hid (fun W (hW : Ext w W) => hTab.ext hW)
  obtain ⟨N, hN⟩ : ∃ N, min n 62 = N := ⟨_, rfl⟩
  have h62 : N ≤ 62 := by omega
  have HN := Lib.hid hN
  have HI := Lib.hid (And.intro h hz)
  clear h hz hG hTab hN
  have HT1 := Lib.hid (fun h => Nat.le_trans (few_len L h) (by decide : 100000 ≤ 900000))
  have HL := Lib.hid (show (l.take 800).length ≤ 1000 by simp; omega)
  have RP := Lib.hid (fun W (_ : Ext w W) => rparse5_is (l.take 800) HL.out W)
  generalize hv1 : textKV (fewD L) = v1
  generalize hv2 : textKE (fewD L) = v2
  generalize hv3 : parE (l.take 800) = v3
  generalize hv4 : parN (l.take 800) = v4
  generalize hv5 : parL (l.take 800) = v5
  have HP := Lib.hid (show v5.length ≤ 1000 by rw [← hv5]; exact par_len _)
  have HV := Lib.hid (And.intro hv1 (And.intro hv2 (And.intro hv3 (And.intro hv4 hv5))))
  clear hv1 hv2 hv3 hv4 hv5
  go_enter Tryz.func4, Tryz.ntmps4
  go_wp2_with (first | (go_at_call 8; refine SH.out.mono ?_; rintro e w1 ⟨rfl, kx⟩; clear SH) | (go_at_call 9; have FW := few_is A n c xs L _ (HI.out.1.ext kx) HI.out.2; rw [HN.out] at FW; refine FW.mono ?_; clear FW; unfold RowP; rintro e w2 ⟨A1, c1, xs1, rfl, h1, h2, h3, h4, k2⟩; have D1 := Lib.hid h2; have F1 := Lib.hid (And.intro h1 (And.intro h3 h4)); replace kx := Ext.trans kx k2; clear h1 h2 h3 h4 k2) | (go_at_call 22; have PR := kprint_is A1 N c1 xs1 (fewD L) (by omega) F1.out.1 F1.out.2.1 HT1.out _ (HG.out _ kx) (HB.out _ kx) D1.out; rw [HV.out.1, HV.out.2.1] at PR; refine PR.mono ?_; clear PR; rintro e w4 ⟨rfl, k4⟩; replace kx := Ext.trans kx k4; replace D1 := Lib.hid (D1.out.ext k4); clear k4) | (go_at_call 23; have PR := rprint5_is A1 N c1 xs1 (fewD L) (by omega) F1.out.1 F1.out.2.1 _ D1.out; rw [HV.out.1, HV.out.2.1] at PR; refine PR.mono ?_; clear PR; rintro e w5 ⟨rfl, k5⟩; replace kx := Ext.trans kx k5; replace D1 := Lib.hid (D1.out.ext k5); clear k5) | (go_at_call 25; refine (cut5_is l _).mono ?_; rintro e w3 ⟨rfl, k3⟩; replace kx := Ext.trans kx k3; replace D1 := Lib.hid (D1.out.ext k3); (try replace D7 := Lib.hid (D7.out.ext k3)); clear k3) | (go_at_call 24; have PA := kparse_is (l.take 800) (Nat.le_trans HL.out (by decide)) _ (HG.out _ kx); unfold KParseR at PA; rw [HV.out.2.2.1, HV.out.2.2.2.1, HV.out.2.2.2.2] at PA; refine PA.mono ?_; clear PA; rintro e w6 ⟨A7, n7, c7, xs7, rfl, hn7, g1, g2, g3, k6⟩; have D7 := Lib.hid g2; have F7 := Lib.hid (And.intro g1 (And.intro g3 hn7)); replace kx := Ext.trans kx k6; replace D1 := Lib.hid (D1.out.ext k6); clear g1 g2 g3 k6 hn7) | (go_at_call 26; have PA := RP.out _ kx; unfold KParseR at PA; rw [HV.out.2.2.1, HV.out.2.2.2.1, HV.out.2.2.2.2] at PA; refine PA.mono ?_; clear PA; rintro e w6 ⟨A8, n8, c8, xs8, rfl, hn8, g1, g2, g3, k6⟩; have D8 := Lib.hid g2; have F8 := Lib.hid (And.intro g1 (And.intro g3 hn8)); replace kx := Ext.trans kx k6; replace D1 := Lib.hid (D1.out.ext k6); replace D7 := Lib.hid (D7.out.ext k6); clear g1 g2 g3 k6 hn8) | (go_at_call 19; have SM := rsame5_is A7 A8 n7 n8 c7 c8 xs7 xs8 v5 v5 (by have := F7.out.2.2; have := HP.out; omega) F7.out.2.1 F8.out.2.1 _ D7.out D8.out; rw [decide_eq_true rfl] at SM; refine SM.mono ?_; clear SM; rintro e w9 ⟨rfl, k9⟩))
  go_ret
  exact ⟨rfl, Ext.trans kx k9⟩
end Go.Proofs.YtopgbggighaknaaGreatDoor
