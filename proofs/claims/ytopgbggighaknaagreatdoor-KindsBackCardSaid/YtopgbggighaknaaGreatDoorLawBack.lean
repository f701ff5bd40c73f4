/- selionlaw05: the walk of a law (made by gen_laws.py): LawBack. -/
import Derived.Test.YtopgbggighaknaaGreatDoorLawTexts
namespace Go.Proofs.YtopgbggighaknaaGreatDoor
open Go.RowKit Go
theorem back_a (L : List DescR) : (rightK L = true ∧ textKE L = 0 ∧ parE (textKV L) = 0 ∧ parN (textKV L) = 0 ∧ parL (textKV L) = L) ∨ (rightK L = false ∧ textKE L = 50 ∧ parE (textKV L) = 0 ∧ parN (textKV L) = 0) := by
  cases hr : rightK L with
  | true =>
    have hf : freshK [] L = true := by have := hr; unfold rightK at this; simp only [Bool.and_eq_true] at this; exact this.1
    have hl := ((rightK_iff _).1 hr).2.2
    have e := readK_text L [] 0 hf (by simpa using hl)
    have p := par_done e
    have t : textKV L = textK L := by rw [textKV, if_pos hr]
    exact .inl ⟨rfl, by rw [textKE, if_pos hr], by rw [t]; exact p.1, by rw [t]; exact p.2.1, by rw [t]; simpa using p.2.2⟩
  | false =>
    have t : textKV L = [] := by rw [textKV, hr]; rfl
    have e : readK [] 0 [] = .done [] := by rw [readK, if_pos (by simp)]
    have p := par_done e
    exact .inr ⟨rfl, by rw [textKE, hr]; rfl, by rw [t]; exact p.1, by rw [t]; exact p.2.1⟩
theorem back_b (s : List UInt8) : (parE s = 0 ∧ parN s = 0 ∧ textKE (parL s) = 0 ∧ textKV (parL s) = s ∧ textK (parL s) = s) ∨ (0 < parN s ∧ (parE s = 40 ∨ parE s = 52 ∨ parE s = 53) ∧ parL s = []) := by
  cases hr : readK [] 0 s with
  | done l =>
    obtain ⟨p1, p2, p3⟩ := par_done hr
    obtain ⟨m, e1, h2, h3, h4⟩ := readK_done _ s (Nat.le_refl _) [] 0 _ hr (by decide)
    obtain rfl : l = m := by simpa using e1
    have hR : rightK l = true := by unfold rightK; simp only [Bool.and_eq_true]; exact ⟨h3, by simpa using h4⟩
    exact .inl ⟨p1, p2, by rw [p3, textKE, if_pos hR], by rw [p3, textKV, if_pos hR]; exact h2, by rw [p3]; exact h2⟩
  | bad k e =>
    obtain ⟨p1, p2, p3⟩ := par_bad hr
    obtain ⟨h1, h2⟩ := readK_bad _ s (Nat.le_refl _) [] 0 k e hr
    exact .inr ⟨by rw [p2]; exact h1, by rw [p1]; exact h2, p3⟩
set_option maxHeartbeats 8000000 in
set_option maxRecDepth 100000 in
theorem back_walk (A : Option Addr) (n c : Nat) (xs : List DRow) (L : List DescR) (l : List UInt8) (w : World) (h : Dl w A n xs L) (hz : Zs xs) (hG : K.G w) (hTab : HTab w) :
    Calls Tryz.prog 6 #[.slice A n c, .string ⟨l.toArray⟩] w fun e w' => e = .returned (.bool true) ∧ Ext w w' := by
  have SH := Lib.hid (shown5_is w hG hTab)
  have HG := Lib.hid (fun W (hW : Ext w W) => hG.ext hW)
  have HB := Lib.hid (fun W (hW : Ext w W) => hTab.ext hW)
  obtain ⟨N, hN⟩ : ∃ N, min n 62 = N := ⟨_, rfl⟩
  have h62 : N ≤ 62 := by omega
  have HN := Lib.hid hN
  have HI := Lib.hid (And.intro h hz)
  clear h hz hG hTab hN
  have HT1 := Lib.hid (fun h => Nat.le_trans (few_len L h) (by decide : 100000 ≤ 900000))
  have ha := back_a (fewD L)
  have hlt : (textKV (fewD L)).length ≤ 100000 := by
    unfold textKV
    split
    · rename_i h; exact few_len L h
    · simp
  have hls : (l.take 800).length ≤ 1000 := by simp; omega
  have hb := back_b (l.take 800)
  have ho := par_len (l.take 800)
  generalize hT : textKV (fewD L) = T at ha hlt
  generalize hE : textKE (fewD L) = E at ha
  generalize hR : rightK (fewD L) = b at ha
  generalize hQ : parL T = Q at ha
  generalize hE1 : parE T = E1 at ha
  generalize hN1 : parN T = N1 at ha
  generalize hS : l.take 800 = S at hb hls ho
  generalize hO : parL S = O at hb ho
  generalize hE2 : parE S = E2 at hb
  generalize hN2 : parN S = N2 at hb
  generalize hU : textKV O = U at hb
  generalize hV : textKE O = V at hb
  have KP := Lib.hid (fun W (hW : Ext w W) => kparse_is T hlt W (HG.out W hW))
  have KQ := Lib.hid (fun W (hW : Ext w W) => kparse_is S (Nat.le_trans hls (by decide)) W (HG.out W hW))
  have CU := Lib.hid (fun W => cut5_is l W)
  have HT2 := Lib.hid (show rightK O = true → (textK O).length ≤ 900000 from fun _ => by
    rcases hb with ⟨_, _, _, _, e⟩ | ⟨_, _, e⟩
    · rw [e]; omega
    · rw [e]; simp [textK])
  unfold KParseR at KP KQ
  simp only [hQ, hE1, hN1] at KP
  simp only [hO, hE2, hN2] at KQ
  simp only [hS] at CU
  have HTE := Lib.hid (And.intro hT hE)
  have HUV := Lib.hid (And.intro hU hV)
  have HRR := Lib.hid hR
  have HO := Lib.hid ho
  clear hT hE hR hQ hE1 hN1 hS hO hE2 hN2 hU hV hlt hls ho
  rcases ha with ⟨rfl, rfl, rfl, rfl, hQ⟩ | ⟨rfl, rfl, rfl, rfl⟩
  · have HQ := Lib.hid hQ.symm
    clear hQ
    rcases hb with ⟨rfl, rfl, rfl, hu, _⟩ | ⟨h1, h2, rfl⟩
    · subst hu
      go_enter Tryz.func6, Tryz.ntmps6
      go_wp2_with (first | (go_at_call 8; refine SH.out.mono ?_; rintro e w1 ⟨rfl, kx⟩; clear SH) | (go_at_call 9; have FW := few_is A n c xs L _ (HI.out.1.ext kx) HI.out.2; rw [HN.out] at FW; refine FW.mono ?_; clear FW; unfold RowP; rintro e w2 ⟨A1, c1, xs1, rfl, h1, h2, h3, h4, k2⟩; have D1 := Lib.hid h2; have F1 := Lib.hid (And.intro h1 (And.intro h3 h4)); replace kx := Ext.trans kx k2; clear h1 h2 h3 h4 k2) | (go_at_call 22; have PR := kprint_is A1 N c1 xs1 (fewD L) (by omega) F1.out.1 F1.out.2.1 HT1.out _ (HG.out _ kx) (HB.out _ kx) D1.out; rw [HTE.out.1, HTE.out.2] at PR; refine PR.mono ?_; clear PR HT1; rintro e w4 ⟨rfl, k4⟩; replace kx := Ext.trans kx k4; replace D1 := Lib.hid (D1.out.ext k4); clear k4) | (go_at_call 22; have PR := kprint_is A8 _ c8 xs8 _ (by have := HO.out; have := F8.out.2.2; omega) F8.out.1 F8.out.2.1 HT2.out _ (HG.out _ kx) (HB.out _ kx) D8.out; rw [HUV.out.1, HUV.out.2] at PR; refine PR.mono ?_; clear PR; rintro e w4 ⟨rfl, k4⟩; replace kx := Ext.trans kx k4; replace D1 := Lib.hid (D1.out.ext k4); clear k4) | (go_at_call 24; refine (KP.out _ kx).mono ?_; clear KP; rintro e w6 ⟨A7, n7, c7, xs7, rfl, hn7, g1, g2, g3, k6⟩; have D7 := Lib.hid g2; have F7 := Lib.hid (And.intro g1 (And.intro g3 hn7)); replace kx := Ext.trans kx k6; replace D1 := Lib.hid (D1.out.ext k6); clear g1 g2 g3 k6 hn7) | (go_at_call 24; refine (KQ.out _ kx).mono ?_; clear KQ; rintro e w6 ⟨A8, n8, c8, xs8, rfl, hn8, g1, g2, g3, k6⟩; have D8 := Lib.hid g2; have F8 := Lib.hid (And.intro g1 (And.intro g3 hn8)); replace kx := Ext.trans kx k6; replace D1 := Lib.hid (D1.out.ext k6); clear g1 g2 g3 k6 hn8) | (go_at_call 25; refine (CU.out _).mono ?_; rintro e w3 ⟨rfl, k3⟩; replace kx := Ext.trans kx k3; replace D1 := Lib.hid (D1.out.ext k3); clear k3) | (go_at_call 21; have SM := ksame_is A1 A7 N n7 c1 c7 xs1 xs7 (fewD L) Q (by omega) F1.out.2.1 F7.out.2.1 _ D1.out D7.out; rw [decide_eq_true HQ.out] at SM; refine SM.mono ?_; clear SM; rintro e w9 ⟨rfl, k9⟩; replace kx := Ext.trans kx k9; replace D1 := Lib.hid (D1.out.ext k9); clear k9) | (go_at_call 17; have RG := kright_is A1 N c1 xs1 (fewD L) (by omega) F1.out.1 F1.out.2.1 _ (HG.out _ kx) D1.out; rw [HRR.out] at RG; refine RG.mono ?_; clear RG; rintro e w9 ⟨rfl, k9⟩; replace kx := Ext.trans kx k9; replace D1 := Lib.hid (D1.out.ext k9); clear k9))
      go_ret
      exact ⟨rfl, kx⟩
    · have hk : (0 : Int) < (N2 : Nat) := by omega
      clear h1
      rcases h2 with rfl | rfl | rfl
      · go_enter Tryz.func6, Tryz.ntmps6
        go_wp2_with (first | (go_at_call 8; refine SH.out.mono ?_; rintro e w1 ⟨rfl, kx⟩; clear SH) | (go_at_call 9; have FW := few_is A n c xs L _ (HI.out.1.ext kx) HI.out.2; rw [HN.out] at FW; refine FW.mono ?_; clear FW; unfold RowP; rintro e w2 ⟨A1, c1, xs1, rfl, h1, h2, h3, h4, k2⟩; have D1 := Lib.hid h2; have F1 := Lib.hid (And.intro h1 (And.intro h3 h4)); replace kx := Ext.trans kx k2; clear h1 h2 h3 h4 k2) | (go_at_call 22; have PR := kprint_is A1 N c1 xs1 (fewD L) (by omega) F1.out.1 F1.out.2.1 HT1.out _ (HG.out _ kx) (HB.out _ kx) D1.out; rw [HTE.out.1, HTE.out.2] at PR; refine PR.mono ?_; clear PR HT1; rintro e w4 ⟨rfl, k4⟩; replace kx := Ext.trans kx k4; replace D1 := Lib.hid (D1.out.ext k4); clear k4) | (go_at_call 22; have PR := kprint_is A8 _ c8 xs8 _ (by have := HO.out; have := F8.out.2.2; omega) F8.out.1 F8.out.2.1 HT2.out _ (HG.out _ kx) (HB.out _ kx) D8.out; rw [HUV.out.1, HUV.out.2] at PR; refine PR.mono ?_; clear PR; rintro e w4 ⟨rfl, k4⟩; replace kx := Ext.trans kx k4; replace D1 := Lib.hid (D1.out.ext k4); clear k4) | (go_at_call 24; refine (KP.out _ kx).mono ?_; clear KP; rintro e w6 ⟨A7, n7, c7, xs7, rfl, hn7, g1, g2, g3, k6⟩; have D7 := Lib.hid g2; have F7 := Lib.hid (And.intro g1 (And.intro g3 hn7)); replace kx := Ext.trans kx k6; replace D1 := Lib.hid (D1.out.ext k6); clear g1 g2 g3 k6 hn7) | (go_at_call 24; refine (KQ.out _ kx).mono ?_; clear KQ; rintro e w6 ⟨A8, n8, c8, xs8, rfl, hn8, g1, g2, g3, k6⟩; have hz8 : n8 = 0 := hn8; subst hz8; have D8 := Lib.hid g2; have F8 := Lib.hid (And.intro g1 (And.intro g3 hn8)); replace kx := Ext.trans kx k6; replace D1 := Lib.hid (D1.out.ext k6); clear g1 g2 g3 k6 hn8) | (go_at_call 25; refine (CU.out _).mono ?_; rintro e w3 ⟨rfl, k3⟩; replace kx := Ext.trans kx k3; replace D1 := Lib.hid (D1.out.ext k3); clear k3) | (go_at_call 21; have SM := ksame_is A1 A7 N n7 c1 c7 xs1 xs7 (fewD L) Q (by omega) F1.out.2.1 F7.out.2.1 _ D1.out D7.out; rw [decide_eq_true HQ.out] at SM; refine SM.mono ?_; clear SM; rintro e w9 ⟨rfl, k9⟩; replace kx := Ext.trans kx k9; replace D1 := Lib.hid (D1.out.ext k9); clear k9) | (go_at_call 17; have RG := kright_is A1 N c1 xs1 (fewD L) (by omega) F1.out.1 F1.out.2.1 _ (HG.out _ kx) D1.out; rw [HRR.out] at RG; refine RG.mono ?_; clear RG; rintro e w9 ⟨rfl, k9⟩; replace kx := Ext.trans kx k9; replace D1 := Lib.hid (D1.out.ext k9); clear k9))
        go_ret
        exact ⟨rfl, kx⟩
      · go_enter Tryz.func6, Tryz.ntmps6
        go_wp2_with (first | (go_at_call 8; refine SH.out.mono ?_; rintro e w1 ⟨rfl, kx⟩; clear SH) | (go_at_call 9; have FW := few_is A n c xs L _ (HI.out.1.ext kx) HI.out.2; rw [HN.out] at FW; refine FW.mono ?_; clear FW; unfold RowP; rintro e w2 ⟨A1, c1, xs1, rfl, h1, h2, h3, h4, k2⟩; have D1 := Lib.hid h2; have F1 := Lib.hid (And.intro h1 (And.intro h3 h4)); replace kx := Ext.trans kx k2; clear h1 h2 h3 h4 k2) | (go_at_call 22; have PR := kprint_is A1 N c1 xs1 (fewD L) (by omega) F1.out.1 F1.out.2.1 HT1.out _ (HG.out _ kx) (HB.out _ kx) D1.out; rw [HTE.out.1, HTE.out.2] at PR; refine PR.mono ?_; clear PR HT1; rintro e w4 ⟨rfl, k4⟩; replace kx := Ext.trans kx k4; replace D1 := Lib.hid (D1.out.ext k4); clear k4) | (go_at_call 22; have PR := kprint_is A8 _ c8 xs8 _ (by have := HO.out; have := F8.out.2.2; omega) F8.out.1 F8.out.2.1 HT2.out _ (HG.out _ kx) (HB.out _ kx) D8.out; rw [HUV.out.1, HUV.out.2] at PR; refine PR.mono ?_; clear PR; rintro e w4 ⟨rfl, k4⟩; replace kx := Ext.trans kx k4; replace D1 := Lib.hid (D1.out.ext k4); clear k4) | (go_at_call 24; refine (KP.out _ kx).mono ?_; clear KP; rintro e w6 ⟨A7, n7, c7, xs7, rfl, hn7, g1, g2, g3, k6⟩; have D7 := Lib.hid g2; have F7 := Lib.hid (And.intro g1 (And.intro g3 hn7)); replace kx := Ext.trans kx k6; replace D1 := Lib.hid (D1.out.ext k6); clear g1 g2 g3 k6 hn7) | (go_at_call 24; refine (KQ.out _ kx).mono ?_; clear KQ; rintro e w6 ⟨A8, n8, c8, xs8, rfl, hn8, g1, g2, g3, k6⟩; have hz8 : n8 = 0 := hn8; subst hz8; have D8 := Lib.hid g2; have F8 := Lib.hid (And.intro g1 (And.intro g3 hn8)); replace kx := Ext.trans kx k6; replace D1 := Lib.hid (D1.out.ext k6); clear g1 g2 g3 k6 hn8) | (go_at_call 25; refine (CU.out _).mono ?_; rintro e w3 ⟨rfl, k3⟩; replace kx := Ext.trans kx k3; replace D1 := Lib.hid (D1.out.ext k3); clear k3) | (go_at_call 21; have SM := ksame_is A1 A7 N n7 c1 c7 xs1 xs7 (fewD L) Q (by omega) F1.out.2.1 F7.out.2.1 _ D1.out D7.out; rw [decide_eq_true HQ.out] at SM; refine SM.mono ?_; clear SM; rintro e w9 ⟨rfl, k9⟩; replace kx := Ext.trans kx k9; replace D1 := Lib.hid (D1.out.ext k9); clear k9) | (go_at_call 17; have RG := kright_is A1 N c1 xs1 (fewD L) (by omega) F1.out.1 F1.out.2.1 _ (HG.out _ kx) D1.out; rw [HRR.out] at RG; refine RG.mono ?_; clear RG; rintro e w9 ⟨rfl, k9⟩; replace kx := Ext.trans kx k9; replace D1 := Lib.hid (D1.out.ext k9); clear k9))
        go_ret
        exact ⟨rfl, kx⟩
      · go_enter Tryz.func6, Tryz.ntmps6
        go_wp2_with (first | (go_at_call 8; refine SH.out.mono ?_; rintro e w1 ⟨rfl, kx⟩; clear SH) | (go_at_call 9; have FW := few_is A n c xs L _ (HI.out.1.ext kx) HI.out.2; rw [HN.out] at FW; refine FW.mono ?_; clear FW; unfold RowP; rintro e w2 ⟨A1, c1, xs1, rfl, h1, h2, h3, h4, k2⟩; have D1 := Lib.hid h2; have F1 := Lib.hid (And.intro h1 (And.intro h3 h4)); replace kx := Ext.trans kx k2; clear h1 h2 h3 h4 k2) | (go_at_call 22; have PR := kprint_is A1 N c1 xs1 (fewD L) (by omega) F1.out.1 F1.out.2.1 HT1.out _ (HG.out _ kx) (HB.out _ kx) D1.out; rw [HTE.out.1, HTE.out.2] at PR; refine PR.mono ?_; clear PR HT1; rintro e w4 ⟨rfl, k4⟩; replace kx := Ext.trans kx k4; replace D1 := Lib.hid (D1.out.ext k4); clear k4) | (go_at_call 22; have PR := kprint_is A8 _ c8 xs8 _ (by have := HO.out; have := F8.out.2.2; omega) F8.out.1 F8.out.2.1 HT2.out _ (HG.out _ kx) (HB.out _ kx) D8.out; rw [HUV.out.1, HUV.out.2] at PR; refine PR.mono ?_; clear PR; rintro e w4 ⟨rfl, k4⟩; replace kx := Ext.trans kx k4; replace D1 := Lib.hid (D1.out.ext k4); clear k4) | (go_at_call 24; refine (KP.out _ kx).mono ?_; clear KP; rintro e w6 ⟨A7, n7, c7, xs7, rfl, hn7, g1, g2, g3, k6⟩; have D7 := Lib.hid g2; have F7 := Lib.hid (And.intro g1 (And.intro g3 hn7)); replace kx := Ext.trans kx k6; replace D1 := Lib.hid (D1.out.ext k6); clear g1 g2 g3 k6 hn7) | (go_at_call 24; refine (KQ.out _ kx).mono ?_; clear KQ; rintro e w6 ⟨A8, n8, c8, xs8, rfl, hn8, g1, g2, g3, k6⟩; have hz8 : n8 = 0 := hn8; subst hz8; have D8 := Lib.hid g2; have F8 := Lib.hid (And.intro g1 (And.intro g3 hn8)); replace kx := Ext.trans kx k6; replace D1 := Lib.hid (D1.out.ext k6); clear g1 g2 g3 k6 hn8) | (go_at_call 25; refine (CU.out _).mono ?_; rintro e w3 ⟨rfl, k3⟩; replace kx := Ext.trans kx k3; replace D1 := Lib.hid (D1.out.ext k3); clear k3) | (go_at_call 21; have SM := ksame_is A1 A7 N n7 c1 c7 xs1 xs7 (fewD L) Q (by omega) F1.out.2.1 F7.out.2.1 _ D1.out D7.out; rw [decide_eq_true HQ.out] at SM; refine SM.mono ?_; clear SM; rintro e w9 ⟨rfl, k9⟩; replace kx := Ext.trans kx k9; replace D1 := Lib.hid (D1.out.ext k9); clear k9) | (go_at_call 17; have RG := kright_is A1 N c1 xs1 (fewD L) (by omega) F1.out.1 F1.out.2.1 _ (HG.out _ kx) D1.out; rw [HRR.out] at RG; refine RG.mono ?_; clear RG; rintro e w9 ⟨rfl, k9⟩; replace kx := Ext.trans kx k9; replace D1 := Lib.hid (D1.out.ext k9); clear k9))
        go_ret
        exact ⟨rfl, kx⟩
  · rcases hb with ⟨rfl, rfl, rfl, hu, _⟩ | ⟨h1, h2, rfl⟩
    · subst hu
      go_enter Tryz.func6, Tryz.ntmps6
      go_wp2_with (first | (go_at_call 8; refine SH.out.mono ?_; rintro e w1 ⟨rfl, kx⟩; clear SH) | (go_at_call 9; have FW := few_is A n c xs L _ (HI.out.1.ext kx) HI.out.2; rw [HN.out] at FW; refine FW.mono ?_; clear FW; unfold RowP; rintro e w2 ⟨A1, c1, xs1, rfl, h1, h2, h3, h4, k2⟩; have D1 := Lib.hid h2; have F1 := Lib.hid (And.intro h1 (And.intro h3 h4)); replace kx := Ext.trans kx k2; clear h1 h2 h3 h4 k2) | (go_at_call 22; have PR := kprint_is A1 N c1 xs1 (fewD L) (by omega) F1.out.1 F1.out.2.1 HT1.out _ (HG.out _ kx) (HB.out _ kx) D1.out; rw [HTE.out.1, HTE.out.2] at PR; refine PR.mono ?_; clear PR HT1; rintro e w4 ⟨rfl, k4⟩; replace kx := Ext.trans kx k4; replace D1 := Lib.hid (D1.out.ext k4); clear k4) | (go_at_call 22; have PR := kprint_is A8 _ c8 xs8 _ (by have := HO.out; have := F8.out.2.2; omega) F8.out.1 F8.out.2.1 HT2.out _ (HG.out _ kx) (HB.out _ kx) D8.out; rw [HUV.out.1, HUV.out.2] at PR; refine PR.mono ?_; clear PR; rintro e w4 ⟨rfl, k4⟩; replace kx := Ext.trans kx k4; replace D1 := Lib.hid (D1.out.ext k4); clear k4) | (go_at_call 24; refine (KP.out _ kx).mono ?_; clear KP; rintro e w6 ⟨A7, n7, c7, xs7, rfl, hn7, g1, g2, g3, k6⟩; have D7 := Lib.hid g2; have F7 := Lib.hid (And.intro g1 (And.intro g3 hn7)); replace kx := Ext.trans kx k6; replace D1 := Lib.hid (D1.out.ext k6); clear g1 g2 g3 k6 hn7) | (go_at_call 24; refine (KQ.out _ kx).mono ?_; clear KQ; rintro e w6 ⟨A8, n8, c8, xs8, rfl, hn8, g1, g2, g3, k6⟩; have D8 := Lib.hid g2; have F8 := Lib.hid (And.intro g1 (And.intro g3 hn8)); replace kx := Ext.trans kx k6; replace D1 := Lib.hid (D1.out.ext k6); clear g1 g2 g3 k6 hn8) | (go_at_call 25; refine (CU.out _).mono ?_; rintro e w3 ⟨rfl, k3⟩; replace kx := Ext.trans kx k3; replace D1 := Lib.hid (D1.out.ext k3); clear k3) | (go_at_call 21; have SM := ksame_is A1 A7 N n7 c1 c7 xs1 xs7 (fewD L) Q (by omega) F1.out.2.1 F7.out.2.1 _ D1.out D7.out; rw [decide_eq_true HQ.out] at SM; refine SM.mono ?_; clear SM; rintro e w9 ⟨rfl, k9⟩; replace kx := Ext.trans kx k9; replace D1 := Lib.hid (D1.out.ext k9); clear k9) | (go_at_call 17; have RG := kright_is A1 N c1 xs1 (fewD L) (by omega) F1.out.1 F1.out.2.1 _ (HG.out _ kx) D1.out; rw [HRR.out] at RG; refine RG.mono ?_; clear RG; rintro e w9 ⟨rfl, k9⟩; replace kx := Ext.trans kx k9; replace D1 := Lib.hid (D1.out.ext k9); clear k9))
      go_ret
      exact ⟨rfl, kx⟩
    · have hk : (0 : Int) < (N2 : Nat) := by omega
      clear h1
      rcases h2 with rfl | rfl | rfl
      · go_enter Tryz.func6, Tryz.ntmps6
        go_wp2_with (first | (go_at_call 8; refine SH.out.mono ?_; rintro e w1 ⟨rfl, kx⟩; clear SH) | (go_at_call 9; have FW := few_is A n c xs L _ (HI.out.1.ext kx) HI.out.2; rw [HN.out] at FW; refine FW.mono ?_; clear FW; unfold RowP; rintro e w2 ⟨A1, c1, xs1, rfl, h1, h2, h3, h4, k2⟩; have D1 := Lib.hid h2; have F1 := Lib.hid (And.intro h1 (And.intro h3 h4)); replace kx := Ext.trans kx k2; clear h1 h2 h3 h4 k2) | (go_at_call 22; have PR := kprint_is A1 N c1 xs1 (fewD L) (by omega) F1.out.1 F1.out.2.1 HT1.out _ (HG.out _ kx) (HB.out _ kx) D1.out; rw [HTE.out.1, HTE.out.2] at PR; refine PR.mono ?_; clear PR HT1; rintro e w4 ⟨rfl, k4⟩; replace kx := Ext.trans kx k4; replace D1 := Lib.hid (D1.out.ext k4); clear k4) | (go_at_call 22; have PR := kprint_is A8 _ c8 xs8 _ (by have := HO.out; have := F8.out.2.2; omega) F8.out.1 F8.out.2.1 HT2.out _ (HG.out _ kx) (HB.out _ kx) D8.out; rw [HUV.out.1, HUV.out.2] at PR; refine PR.mono ?_; clear PR; rintro e w4 ⟨rfl, k4⟩; replace kx := Ext.trans kx k4; replace D1 := Lib.hid (D1.out.ext k4); clear k4) | (go_at_call 24; refine (KP.out _ kx).mono ?_; clear KP; rintro e w6 ⟨A7, n7, c7, xs7, rfl, hn7, g1, g2, g3, k6⟩; have D7 := Lib.hid g2; have F7 := Lib.hid (And.intro g1 (And.intro g3 hn7)); replace kx := Ext.trans kx k6; replace D1 := Lib.hid (D1.out.ext k6); clear g1 g2 g3 k6 hn7) | (go_at_call 24; refine (KQ.out _ kx).mono ?_; clear KQ; rintro e w6 ⟨A8, n8, c8, xs8, rfl, hn8, g1, g2, g3, k6⟩; have hz8 : n8 = 0 := hn8; subst hz8; have D8 := Lib.hid g2; have F8 := Lib.hid (And.intro g1 (And.intro g3 hn8)); replace kx := Ext.trans kx k6; replace D1 := Lib.hid (D1.out.ext k6); clear g1 g2 g3 k6 hn8) | (go_at_call 25; refine (CU.out _).mono ?_; rintro e w3 ⟨rfl, k3⟩; replace kx := Ext.trans kx k3; replace D1 := Lib.hid (D1.out.ext k3); clear k3) | (go_at_call 21; have SM := ksame_is A1 A7 N n7 c1 c7 xs1 xs7 (fewD L) Q (by omega) F1.out.2.1 F7.out.2.1 _ D1.out D7.out; rw [decide_eq_true HQ.out] at SM; refine SM.mono ?_; clear SM; rintro e w9 ⟨rfl, k9⟩; replace kx := Ext.trans kx k9; replace D1 := Lib.hid (D1.out.ext k9); clear k9) | (go_at_call 17; have RG := kright_is A1 N c1 xs1 (fewD L) (by omega) F1.out.1 F1.out.2.1 _ (HG.out _ kx) D1.out; rw [HRR.out] at RG; refine RG.mono ?_; clear RG; rintro e w9 ⟨rfl, k9⟩; replace kx := Ext.trans kx k9; replace D1 := Lib.hid (D1.out.ext k9); clear k9))
        go_ret
        exact ⟨rfl, kx⟩
      · go_enter Tryz.func6, Tryz.ntmps6
        go_wp2_with (first | (go_at_call 8; refine SH.out.mono ?_; rintro e w1 ⟨rfl, kx⟩; clear SH) | (go_at_call 9; have FW := few_is A n c xs L _ (HI.out.1.ext kx) HI.out.2; rw [HN.out] at FW; refine FW.mono ?_; clear FW; unfold RowP; rintro e w2 ⟨A1, c1, xs1, rfl, h1, h2, h3, h4, k2⟩; have D1 := Lib.hid h2; have F1 := Lib.hid (And.intro h1 (And.intro h3 h4)); replace kx := Ext.trans kx k2; clear h1 h2 h3 h4 k2) | (go_at_call 22; have PR := kprint_is A1 N c1 xs1 (fewD L) (by omega) F1.out.1 F1.out.2.1 HT1.out _ (HG.out _ kx) (HB.out _ kx) D1.out; rw [HTE.out.1, HTE.out.2] at PR; refine PR.mono ?_; clear PR HT1; rintro e w4 ⟨rfl, k4⟩; replace kx := Ext.trans kx k4; replace D1 := Lib.hid (D1.out.ext k4); clear k4) | (go_at_call 22; have PR := kprint_is A8 _ c8 xs8 _ (by have := HO.out; have := F8.out.2.2; omega) F8.out.1 F8.out.2.1 HT2.out _ (HG.out _ kx) (HB.out _ kx) D8.out; rw [HUV.out.1, HUV.out.2] at PR; refine PR.mono ?_; clear PR; rintro e w4 ⟨rfl, k4⟩; replace kx := Ext.trans kx k4; replace D1 := Lib.hid (D1.out.ext k4); clear k4) | (go_at_call 24; refine (KP.out _ kx).mono ?_; clear KP; rintro e w6 ⟨A7, n7, c7, xs7, rfl, hn7, g1, g2, g3, k6⟩; have D7 := Lib.hid g2; have F7 := Lib.hid (And.intro g1 (And.intro g3 hn7)); replace kx := Ext.trans kx k6; replace D1 := Lib.hid (D1.out.ext k6); clear g1 g2 g3 k6 hn7) | (go_at_call 24; refine (KQ.out _ kx).mono ?_; clear KQ; rintro e w6 ⟨A8, n8, c8, xs8, rfl, hn8, g1, g2, g3, k6⟩; have hz8 : n8 = 0 := hn8; subst hz8; have D8 := Lib.hid g2; have F8 := Lib.hid (And.intro g1 (And.intro g3 hn8)); replace kx := Ext.trans kx k6; replace D1 := Lib.hid (D1.out.ext k6); clear g1 g2 g3 k6 hn8) | (go_at_call 25; refine (CU.out _).mono ?_; rintro e w3 ⟨rfl, k3⟩; replace kx := Ext.trans kx k3; replace D1 := Lib.hid (D1.out.ext k3); clear k3) | (go_at_call 21; have SM := ksame_is A1 A7 N n7 c1 c7 xs1 xs7 (fewD L) Q (by omega) F1.out.2.1 F7.out.2.1 _ D1.out D7.out; rw [decide_eq_true HQ.out] at SM; refine SM.mono ?_; clear SM; rintro e w9 ⟨rfl, k9⟩; replace kx := Ext.trans kx k9; replace D1 := Lib.hid (D1.out.ext k9); clear k9) | (go_at_call 17; have RG := kright_is A1 N c1 xs1 (fewD L) (by omega) F1.out.1 F1.out.2.1 _ (HG.out _ kx) D1.out; rw [HRR.out] at RG; refine RG.mono ?_; clear RG; rintro e w9 ⟨rfl, k9⟩; replace kx := Ext.trans kx k9; replace D1 := Lib.hid (D1.out.ext k9); clear k9))
        go_ret
        exact ⟨rfl, kx⟩
      · go_enter Tryz.func6, Tryz.ntmps6
        go_wp2_with (first | (go_at_call 8; refine SH.out.mono ?_; rintro e w1 ⟨rfl, kx⟩; clear SH) | (go_at_call 9; have FW := few_is A n c xs L _ (HI.out.1.ext kx) HI.out.2; rw [HN.out] at FW; refine FW.mono ?_; clear FW; unfold RowP; rintro e w2 ⟨A1, c1, xs1, rfl, h1, h2, h3, h4, k2⟩; have D1 := Lib.hid h2; have F1 := Lib.hid (And.intro h1 (And.intro h3 h4)); replace kx := Ext.trans kx k2; clear h1 h2 h3 h4 k2) | (go_at_call 22; have PR := kprint_is A1 N c1 xs1 (fewD L) (by omega) F1.out.1 F1.out.2.1 HT1.out _ (HG.out _ kx) (HB.out _ kx) D1.out; rw [HTE.out.1, HTE.out.2] at PR; refine PR.mono ?_; clear PR HT1; rintro e w4 ⟨rfl, k4⟩; replace kx := Ext.trans kx k4; replace D1 := Lib.hid (D1.out.ext k4); clear k4) | (go_at_call 22; have PR := kprint_is A8 _ c8 xs8 _ (by have := HO.out; have := F8.out.2.2; omega) F8.out.1 F8.out.2.1 HT2.out _ (HG.out _ kx) (HB.out _ kx) D8.out; rw [HUV.out.1, HUV.out.2] at PR; refine PR.mono ?_; clear PR; rintro e w4 ⟨rfl, k4⟩; replace kx := Ext.trans kx k4; replace D1 := Lib.hid (D1.out.ext k4); clear k4) | (go_at_call 24; refine (KP.out _ kx).mono ?_; clear KP; rintro e w6 ⟨A7, n7, c7, xs7, rfl, hn7, g1, g2, g3, k6⟩; have D7 := Lib.hid g2; have F7 := Lib.hid (And.intro g1 (And.intro g3 hn7)); replace kx := Ext.trans kx k6; replace D1 := Lib.hid (D1.out.ext k6); clear g1 g2 g3 k6 hn7) | (go_at_call 24; refine (KQ.out _ kx).mono ?_; clear KQ; rintro e w6 ⟨A8, n8, c8, xs8, rfl, hn8, g1, g2, g3, k6⟩; have hz8 : n8 = 0 := hn8; subst hz8; have D8 := Lib.hid g2; have F8 := Lib.hid (And.intro g1 (And.intro g3 hn8)); replace kx := Ext.trans kx k6; replace D1 := Lib.hid (D1.out.ext k6); clear g1 g2 g3 k6 hn8) | (go_at_call 25; refine (CU.out _).mono ?_; rintro e w3 ⟨rfl, k3⟩; replace kx := Ext.trans kx k3; replace D1 := Lib.hid (D1.out.ext k3); clear k3) | (go_at_call 21; have SM := ksame_is A1 A7 N n7 c1 c7 xs1 xs7 (fewD L) Q (by omega) F1.out.2.1 F7.out.2.1 _ D1.out D7.out; rw [decide_eq_true HQ.out] at SM; refine SM.mono ?_; clear SM; rintro e w9 ⟨rfl, k9⟩; replace kx := Ext.trans kx k9; replace D1 := Lib.hid (D1.out.ext k9); clear k9) | (go_at_call 17; have RG := kright_is A1 N c1 xs1 (fewD L) (by omega) F1.out.1 F1.out.2.1 _ (HG.out _ kx) D1.out; rw [HRR.out] at RG; refine RG.mono ?_; clear RG; rintro e w9 ⟨rfl, k9⟩; replace kx := Ext.trans kx k9; replace D1 := Lib.hid (D1.out.ext k9); clear k9))
        go_ret
        exact ⟨rfl, kx⟩
end Go.Proofs.YtopgbggighaknaaGreatDoor
