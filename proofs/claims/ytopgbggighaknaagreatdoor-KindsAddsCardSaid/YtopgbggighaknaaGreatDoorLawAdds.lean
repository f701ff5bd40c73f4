/- selionlaw05: the walk of a law (made by gen_laws2.py): LawAdds. -/
import Derived.Test.YtopgbggighaknaaGreatDoorBox5
namespace Go.Proofs.YtopgbggighaknaaGreatDoor
open Go.RowKit Go
theorem rsame_dn (x y : DRow) (a b : DescR) (hn : x.n ≤ 1000000) (hm : x.m ≤ 1000000) (w : World) (h : Dn w x a) (h' : Dn w y b) :
    Calls Tryz.prog 20 #[.agg x.cells, .agg y.cells] w fun e w' => e = .returned (.bool (decide (a = b))) ∧ Ext w w' := by
  obtain ⟨s1, A1, n1, c1, t1, B1, m1, e1⟩ := x
  obtain ⟨s2, A2, n2, c2, t2, B2, m2, e2⟩ := y
  obtain ⟨a1, a2, a3, a4⟩ := a
  obtain ⟨b1, b2, b3, b4⟩ := b
  obtain rfl : s1 = a1 := h.s
  obtain rfl : t1 = a3 := h.t
  obtain rfl : s2 = b1 := h'.s
  obtain rfl : t2 = b3 := h'.t
  exact same_is A1 B1 n1 m1 c1 e1 s1 t1 a2 a4 hn hm A2 B2 n2 m2 c2 e2 s2 t2 b2 b4 w h.p h.q h'.p h'.q
theorem addL_len (L : List DescR) (d : DescR) (h : L.length ≤ 62) : (addL L d).length ≤ 100 := by
  unfold addL
  split
  · split
    · omega
    · rw [List.length_append]; simp; omega
  · simp
theorem few_len62 (L : List DescR) : (fewD L).length ≤ 62 := by rw [fewD, List.length_map, List.length_take]; omega
set_option maxHeartbeats 16000000 in
set_option maxRecDepth 100000 in
theorem adds_walk (A : Option Addr) (n c : Nat) (xs : List DRow) (L : List DescR) (B : Option Addr) (m c' : Nat) (ys : List DRow) (M : List DescR) (x : DRow) (d : DescR) (y : Int) (w : World) (h : Dl w A n xs L) (hz : Zs xs) (hx : Dn w x d) (hx0 : Dz x) (h' : Dl w B m ys M) (hz' : Zs ys) (hG : K.G w) (hTab : HTab w) :
    Calls Tryz.prog 3 #[.slice A n c, .slice B m c', .agg x.cells, .int .i64 y] w fun e w' => e = .returned (.bool true) ∧ Ext w w' := by
  obtain ⟨s1, A0, n0, c0, t1, B0, m0, z0⟩ := x
  obtain ⟨ds, dl, dt, dr⟩ := d
  obtain rfl : s1 = ds := hx.s
  obtain rfl : t1 = dt := hx.t
  simp only [DRow.cells]
  have SH := Lib.hid (fun W (hW : Ext w W) => shown5_is W (hG.ext hW) (hTab.ext hW))
  have HG := Lib.hid (fun W (hW : Ext w W) => hG.ext hW)
  have CU := Lib.hid (fun W => cutd_is A0 B0 n0 m0 c0 z0 s1 t1 hx0.1 hx0.2 hx.pc hx.qc hx.pm hx.qm W)
  have XH : Dn w ⟨s1, A0, min n0 20, c0, t1, B0, min m0 20, z0⟩ ⟨s1, dl.take 20, t1, dr.take 20⟩ := hx.cut
  have XZ : Dz ⟨s1, A0, min n0 20, c0, t1, B0, min m0 20, z0⟩ := hx0.cut
  have hn1 : min n0 20 ≤ 1000 := by omega
  have hm1 : min m0 20 ≤ 1000 := by omega
  clear hx hx0
  generalize min n0 20 = n' at *
  generalize min m0 20 = m' at *
  generalize dl.take 20 = l' at *
  generalize dr.take 20 = r' at *
  have XW := Lib.hid XH
  clear XH
  have HNM := Lib.hid (And.intro hn1 (And.intro hm1 XZ))
  clear hn1 hm1 XZ
  obtain ⟨N, hN⟩ : ∃ N, min n 62 = N := ⟨_, rfl⟩
  have h62 : N ≤ 62 := by omega
  have HN := Lib.hid hN
  have HI := Lib.hid (And.intro h (And.intro hz (Pz.of_dl h)))
  obtain ⟨N2, hN2⟩ : ∃ N, min m 62 = N := ⟨_, rfl⟩
  have HM := Lib.hid hN2
  have HJ := Lib.hid (And.intro h' (And.intro hz' (Pz.of_dl h')))
  have hl62 := few_len62 L
  clear h' hz' hN2
  have kx := ext1 w (.cells #[.int .i64 s1, .slice A0 n0 c0, .int .i64 t1, .slice B0 m0 z0] 25)
  have bd := Blk.new w #[.int .i64 s1, .slice A0 n0 c0, .int .i64 t1, .slice B0 m0 z0] 25
  obtain ⟨⟨cd0, cd1, cd2, cd3⟩, -⟩ := cells4 bd
  clear h hz hG hTab hN
  generalize hL : fewD L = L1 at *
  have HL1 := Lib.hid hL
  clear hL
  generalize hL2 : fewD M = L2 at *
  have HL2 := Lib.hid hL2
  have HLN := Lib.hid (addL_len L1 ⟨s1, l', t1, r'⟩ hl62)
  clear hL2 hl62
  have AD := Lib.hid (fun A c xs W hc hs hG h hx => kadd_is A N c xs L1 ⟨s1, A0, n', c0, t1, B0, m', z0⟩ ⟨s1, l', t1, r'⟩ (by omega) hc hs HNM.out.1 HNM.out.2.1 W hG h hx)
  have RA := Lib.hid (fun A c xs W hc hs hz h hx => radd_is A N c xs L1 ⟨s1, A0, n', c0, t1, B0, m', z0⟩ ⟨s1, l', t1, r'⟩ (by omega) hc hs hz HNM.out.1 HNM.out.2.1 HNM.out.2.2 W h hx)
  have OF1 := Lib.hid (fun A c xs W hc hs hG h => kof_is A N c xs L1 y (by omega) hc hs W hG h)
  have OF2 := Lib.hid (fun A c xs W hc hs hz h => rof_is A N c xs L1 y (by omega) hc hs hz W h)
  have FK := Lib.hid (fun A c xs W hs h h1 h2 => kfind_is A N c xs L1 (by omega) hs A0 B0 n' m' c0 z0 s1 t1 l' r' W h h1 h2)
  have FR := Lib.hid (fun A c xs W hs h h1 h2 => rfind_is A N c xs L1 (by omega) hs A0 B0 n' m' c0 z0 s1 t1 l' r' W h h1 h2)
  have RK := Lib.hid (fun A c xs W hc hs hG h => kright_is A N c xs L1 (by omega) hc hs W hG h)
  have RR := Lib.hid (fun A c xs W hc hs h => rright5_is A N c xs L1 (by omega) hc hs W h)
  have S1 := Lib.hid (fun A B n c c' xs ys W hs hs' h h' => ksame_is A B N n c c' xs ys L1 L2 (by omega) hs hs' W h h')
  have S2 := Lib.hid (fun A B n c c' xs ys W hs hs' h h' => rsame5_is A B N n c c' xs ys L1 L2 (by omega) hs hs' W h h')
  have S3 := Lib.hid (fun A c c' xs W hs h => ksame_is A A N N c c' xs xs L1 L1 (by omega) hs hs W h h)
  unfold AddR at AD RA
  unfold OfR at OF1 OF2
  rw [decide_eq_true (rfl : L1 = L1)] at S3
  generalize addL L1 ⟨s1, l', t1, r'⟩ = V1 at *
  generalize addK L1 ⟨s1, l', t1, r'⟩ = V2 at *
  generalize addE L1 ⟨s1, l', t1, r'⟩ = V3 at *
  generalize ofE L1 y = V4 at *
  generalize ofD L1 y = V5 at *
  generalize findK L1 ⟨s1, l', t1, r'⟩ = V6 at *
  generalize decide ((⟨s1, l', t1, r'⟩ : DescR) ∈ L1) = V7 at *
  generalize rightK L1 = V8 at *
  generalize decide (L1 = L2) = V9 at *
  go_enter Tryz.func3, Tryz.ntmps3
  go_wp2_with (first | (go_at_call 8; refine (SH.out _ kx).mono ?_; rintro e w1 ⟨rfl, k1⟩; replace kx := Ext.trans kx (k1); replace bd := bd.ext (k1); clear cd0 cd1 cd2 cd3; obtain ⟨⟨cd0, cd1, cd2, cd3⟩, -⟩ := cells4 bd; clear k1 SH) | (go_at_call 9; have FW := few_q (fun k => k < w.heap.size) A n c xs L _ (HI.out.1.ext kx) HI.out.2.1 HI.out.2.2; rw [HN.out, HL1.out] at FW; have hlt := bd.lt; refine FW.mono ?_; clear FW; unfold RowQ; rintro e w2 ⟨A1, c1, xs1, rfl, h1, h2, h3, h4, ⟨h5, h6⟩, k2⟩; replace kx := Ext.trans kx (k2); replace bd := bd.ext (k2); clear cd0 cd1 cd2 cd3; obtain ⟨⟨cd0, cd1, cd2, cd3⟩, -⟩ := cells4 bd; have D1 := Lib.hid h2; have F1 := Lib.hid (And.intro h1 (And.intro h3 h4)); have P1 := Lib.hid (And.intro (show ∀ ad, A1 = some ad → ¬ ad.block = w.heap.size from fun ad e h => by have := h5 ad e; omega) (show Pz (fun b => ¬ b = w.heap.size) xs1 from fun j y hy => ⟨fun h0 ad e h => by have h7 : ad.block < w.heap.size := (h6 j y hy).1 h0 ad e; omega, fun h0 ad e h => by have h7 : ad.block < w.heap.size := (h6 j y hy).2 h0 ad e; omega⟩)); clear h1 h2 h3 h4 h5 h6 k2 hlt HI) | (go_at_call 9; have FW := few_q (fun k => k < w.heap.size) B m c' ys M _ (HJ.out.1.ext kx) HJ.out.2.1 HJ.out.2.2; rw [HM.out, HL2.out] at FW; have hlt := bd.lt; refine FW.mono ?_; clear FW; unfold RowQ; rintro e w2 ⟨A2, c2, xs2, rfl, h1, h2, h3, h4, ⟨h5, h6⟩, k2⟩; replace kx := Ext.trans kx (k2); replace D1 := Lib.hid (D1.out.ext (k2)); replace bd := bd.ext (k2); clear cd0 cd1 cd2 cd3; obtain ⟨⟨cd0, cd1, cd2, cd3⟩, -⟩ := cells4 bd; have DM := Lib.hid h2; have F2 := Lib.hid (And.intro h1 (And.intro h3 h4)); have P2 := Lib.hid (And.intro (show ∀ ad, A2 = some ad → ¬ ad.block = w.heap.size from fun ad e h => by have := h5 ad e; omega) (show Pz (fun b => ¬ b = w.heap.size) xs2 from fun j y hy => ⟨fun h0 ad e h => by have h7 : ad.block < w.heap.size := (h6 j y hy).1 h0 ad e; omega, fun h0 ad e h => by have h7 : ad.block < w.heap.size := (h6 j y hy).2 h0 ad e; omega⟩)); clear h1 h2 h3 h4 h5 h6 k2 hlt HJ) | (go_at_call 10; refine (CU.out _).mono ?_; rintro e w3 ⟨rfl, k3⟩; replace kx := Ext.trans kx (k3); replace D1 := Lib.hid (D1.out.ext (k3)); replace DM := Lib.hid (DM.out.ext (k3)); replace bd := bd.ext (k3); clear cd0 cd1 cd2 cd3; obtain ⟨⟨cd0, cd1, cd2, cd3⟩, -⟩ := cells4 bd; obtain ⟨-, cf0, cf1, cf2, cf3⟩ := cells4 bd; clear k3) | (go_at_call 11; have BX := box5 (.int .i64 s1) (.slice A0 n' c0) (.int .i64 t1) (.slice B0 m' z0) bd kx (Nat.le_refl _); have D1n := Lib.hid (Dl.chgU D1.out BX.2.2 P1.out.1 P1.out.2); have DMn := Lib.hid (Dl.chgU DM.out BX.2.2 P2.out.1 P2.out.2); have XHn := Lib.hid (XW.out.ext BX.2.1); refine (AD.out A1 c1 xs1 _ F1.out.1 F1.out.2.1 (HG.out _ BX.2.1) D1n.out XHn.out).mono ?_; rintro e w4 ⟨A3, n3, c3, xs3, rfl, g0, g1, g2, g3, k4⟩; replace kx := Ext.trans BX.2.1 k4; replace bd := BX.1.ext k4; replace D1 := Lib.hid (D1n.out.ext k4); clear D1n; replace DM := Lib.hid (DMn.out.ext k4); clear DMn; have XH := Lib.hid (XHn.out.ext k4); clear XHn; clear cf0 cf1 cf2 cf3; clear cd0 cd1 cd2 cd3; obtain ⟨⟨cd0, cd1, cd2, cd3⟩, -⟩ := cells4 bd; have D2 := Lib.hid g2; have F3 := Lib.hid (And.intro g1 (And.intro g3 g0)); clear g0 g1 g2 g3 k4 BX AD) | (go_at_call 12; refine (RA.out A1 c1 xs1 _ F1.out.1 F1.out.2.1 F1.out.2.2 D1.out XH.out).mono ?_; rintro e w9 ⟨A4, n4, c4, xs4, rfl, g0, g1, g2, g3, k9⟩; replace kx := Ext.trans kx (k9); replace D1 := Lib.hid (D1.out.ext (k9)); replace DM := Lib.hid (DM.out.ext (k9)); replace D2 := Lib.hid (D2.out.ext (k9)); replace XH := Lib.hid (XH.out.ext (k9)); replace bd := bd.ext (k9); clear cd0 cd1 cd2 cd3; obtain ⟨⟨cd0, cd1, cd2, cd3⟩, -⟩ := cells4 bd; have D3 := Lib.hid g2; have F4 := Lib.hid (And.intro g3 g0); clear g0 g1 g2 g3 k9 RA) | (go_at_call 13; refine (OF1.out A1 c1 xs1 _ F1.out.1 F1.out.2.1 (HG.out _ kx) D1.out).mono ?_; clear OF1; rintro e w6 ⟨⟨s61, A61, n61, c61, t61, B61, m61, z61⟩, rfl, h1, h2, h3, k6⟩; simp only [DRow.cells]; have kB := ext1 w6 (.cells #[.int .i64 s61, .slice A61 n61 c61, .int .i64 t61, .slice B61 m61 z61] 25); replace kx := Ext.trans kx (Ext.trans k6 kB); replace D1 := Lib.hid (D1.out.ext (Ext.trans k6 kB)); replace DM := Lib.hid (DM.out.ext (Ext.trans k6 kB)); replace D2 := Lib.hid (D2.out.ext (Ext.trans k6 kB)); replace D3 := Lib.hid (D3.out.ext (Ext.trans k6 kB)); replace XH := Lib.hid (XH.out.ext (Ext.trans k6 kB)); replace bd := bd.ext (Ext.trans k6 kB); clear cd0 cd1 cd2 cd3; obtain ⟨⟨cd0, cd1, cd2, cd3⟩, -⟩ := cells4 bd; have X61 := Lib.hid (h1.ext kB); have F61 := Lib.hid (And.intro h2 h3); have bu := Blk.new w6 #[.int .i64 s61, .slice A61 n61 c61, .int .i64 t61, .slice B61 m61 z61] 25; obtain ⟨⟨cu0, cu1, cu2, cu3⟩, -⟩ := cells4 bu; clear h1 h2 h3 k6 kB) | (go_at_call 14; refine (OF2.out A1 c1 xs1 _ F1.out.1 F1.out.2.1 F1.out.2.2 D1.out).mono ?_; clear OF2; rintro e w6 ⟨⟨s62, A62, n62, c62, t62, B62, m62, z62⟩, rfl, h1, h2, h3, k6⟩; simp only [DRow.cells]; have kB := ext1 w6 (.cells #[.int .i64 s62, .slice A62 n62 c62, .int .i64 t62, .slice B62 m62 z62] 25); replace kx := Ext.trans kx (Ext.trans k6 kB); replace D1 := Lib.hid (D1.out.ext (Ext.trans k6 kB)); replace DM := Lib.hid (DM.out.ext (Ext.trans k6 kB)); replace D2 := Lib.hid (D2.out.ext (Ext.trans k6 kB)); replace D3 := Lib.hid (D3.out.ext (Ext.trans k6 kB)); replace XH := Lib.hid (XH.out.ext (Ext.trans k6 kB)); replace X61 := Lib.hid (X61.out.ext (Ext.trans k6 kB)); replace bd := bd.ext (Ext.trans k6 kB); clear cd0 cd1 cd2 cd3; obtain ⟨⟨cd0, cd1, cd2, cd3⟩, -⟩ := cells4 bd; replace bu := bu.ext (Ext.trans k6 kB); clear cu0 cu1 cu2 cu3; obtain ⟨⟨cu0, cu1, cu2, cu3⟩, -⟩ := cells4 bu; have X62 := Lib.hid (h1.ext kB); have F62 := Lib.hid (And.intro h2 h3); have bv := Blk.new w6 #[.int .i64 s62, .slice A62 n62 c62, .int .i64 t62, .slice B62 m62 z62] 25; obtain ⟨⟨cv0, cv1, cv2, cv3⟩, -⟩ := cells4 bv; clear h1 h2 h3 k6 kB) | (go_at_call 15; refine (FK.out A1 c1 xs1 _ F1.out.2.1 D1.out XH.out.p XH.out.q).mono ?_; rintro e w9 ⟨rfl, k9⟩; replace kx := Ext.trans kx (k9); replace D1 := Lib.hid (D1.out.ext (k9)); replace DM := Lib.hid (DM.out.ext (k9)); replace D2 := Lib.hid (D2.out.ext (k9)); replace D3 := Lib.hid (D3.out.ext (k9)); replace XH := Lib.hid (XH.out.ext (k9)); replace X61 := Lib.hid (X61.out.ext (k9)); replace X62 := Lib.hid (X62.out.ext (k9)); replace bd := bd.ext (k9); clear cd0 cd1 cd2 cd3; obtain ⟨⟨cd0, cd1, cd2, cd3⟩, -⟩ := cells4 bd; replace bu := bu.ext (k9); clear cu0 cu1 cu2 cu3; obtain ⟨⟨cu0, cu1, cu2, cu3⟩, -⟩ := cells4 bu; replace bv := bv.ext (k9); clear cv0 cv1 cv2 cv3; obtain ⟨⟨cv0, cv1, cv2, cv3⟩, -⟩ := cells4 bv; clear k9) | (go_at_call 16; refine (FR.out A1 c1 xs1 _ F1.out.2.1 D1.out XH.out.p XH.out.q).mono ?_; rintro e w9 ⟨rfl, k9⟩; replace kx := Ext.trans kx (k9); replace D1 := Lib.hid (D1.out.ext (k9)); replace DM := Lib.hid (DM.out.ext (k9)); replace D2 := Lib.hid (D2.out.ext (k9)); replace D3 := Lib.hid (D3.out.ext (k9)); replace X61 := Lib.hid (X61.out.ext (k9)); replace X62 := Lib.hid (X62.out.ext (k9)); replace bu := bu.ext (k9); clear cu0 cu1 cu2 cu3; obtain ⟨⟨cu0, cu1, cu2, cu3⟩, -⟩ := cells4 bu; replace bv := bv.ext (k9); clear cv0 cv1 cv2 cv3; obtain ⟨⟨cv0, cv1, cv2, cv3⟩, -⟩ := cells4 bv; clear k9) | (go_at_call 17; refine (RK.out A1 c1 xs1 _ F1.out.1 F1.out.2.1 (HG.out _ kx) D1.out).mono ?_; rintro e w9 ⟨rfl, k9⟩; replace kx := Ext.trans kx (k9); replace D1 := Lib.hid (D1.out.ext (k9)); replace DM := Lib.hid (DM.out.ext (k9)); replace D2 := Lib.hid (D2.out.ext (k9)); replace D3 := Lib.hid (D3.out.ext (k9)); replace X61 := Lib.hid (X61.out.ext (k9)); replace X62 := Lib.hid (X62.out.ext (k9)); replace bu := bu.ext (k9); clear cu0 cu1 cu2 cu3; obtain ⟨⟨cu0, cu1, cu2, cu3⟩, -⟩ := cells4 bu; replace bv := bv.ext (k9); clear cv0 cv1 cv2 cv3; obtain ⟨⟨cv0, cv1, cv2, cv3⟩, -⟩ := cells4 bv; clear k9) | (go_at_call 18; refine (RR.out A1 c1 xs1 _ F1.out.1 F1.out.2.1 D1.out).mono ?_; rintro e w9 ⟨rfl, k9⟩; replace kx := Ext.trans kx (k9); replace D1 := Lib.hid (D1.out.ext (k9)); replace DM := Lib.hid (DM.out.ext (k9)); replace D2 := Lib.hid (D2.out.ext (k9)); replace D3 := Lib.hid (D3.out.ext (k9)); replace X61 := Lib.hid (X61.out.ext (k9)); replace X62 := Lib.hid (X62.out.ext (k9)); replace bu := bu.ext (k9); clear cu0 cu1 cu2 cu3; obtain ⟨⟨cu0, cu1, cu2, cu3⟩, -⟩ := cells4 bu; replace bv := bv.ext (k9); clear cv0 cv1 cv2 cv3; obtain ⟨⟨cv0, cv1, cv2, cv3⟩, -⟩ := cells4 bv; clear k9) | (go_at_call 19; have SM := rsame5_is A3 A4 n3 n4 c3 c4 xs3 xs4 V1 V1 (by have := F3.out.2.2; have := HLN.out; omega) F3.out.2.1 F4.out.1 _ D2.out D3.out; rw [decide_eq_true (rfl : V1 = V1)] at SM; refine (SM).mono ?_; rintro e w9 ⟨rfl, k9⟩; replace kx := Ext.trans kx (k9); replace D1 := Lib.hid (D1.out.ext (k9)); replace DM := Lib.hid (DM.out.ext (k9)); replace X61 := Lib.hid (X61.out.ext (k9)); replace X62 := Lib.hid (X62.out.ext (k9)); replace bu := bu.ext (k9); clear cu0 cu1 cu2 cu3; obtain ⟨⟨cu0, cu1, cu2, cu3⟩, -⟩ := cells4 bu; replace bv := bv.ext (k9); clear cv0 cv1 cv2 cv3; obtain ⟨⟨cv0, cv1, cv2, cv3⟩, -⟩ := cells4 bv; clear k9 SM D2 D3) | (go_at_call 19; refine (S2.out A1 A2 N2 c1 c2 xs1 xs2 _ F1.out.2.1 F2.out.2.1 D1.out DM.out).mono ?_; rintro e w9 ⟨rfl, k9⟩; replace kx := Ext.trans kx (k9); replace D1 := Lib.hid (D1.out.ext (k9)); clear k9 DM) | (go_at_call 20; have SM := rsame_dn ⟨s61, A61, n61, c61, t61, B61, m61, z61⟩ ⟨s62, A62, n62, c62, t62, B62, m62, z62⟩ V5 V5 (Nat.le_trans F61.out.1 (by decide)) (Nat.le_trans F61.out.2 (by decide)) _ X61.out X62.out; rw [decide_eq_true (rfl : V5 = V5)] at SM; refine (SM).mono ?_; rintro e w9 ⟨rfl, k9⟩; replace kx := Ext.trans kx (k9); replace D1 := Lib.hid (D1.out.ext (k9)); replace DM := Lib.hid (DM.out.ext (k9)); clear k9 SM) | (go_at_call 21; refine (S1.out A1 A2 N2 c1 c2 xs1 xs2 _ F1.out.2.1 F2.out.2.1 D1.out DM.out).mono ?_; rintro e w9 ⟨rfl, k9⟩; replace kx := Ext.trans kx (k9); replace D1 := Lib.hid (D1.out.ext (k9)); replace DM := Lib.hid (DM.out.ext (k9)); clear k9 S1) | (go_at_call 21; refine (S3.out A1 c1 c1 xs1 _ F1.out.2.1 D1.out).mono ?_; rintro e w9 ⟨rfl, k9⟩; replace kx := Ext.trans kx (k9); clear k9))
  go_ret
  exact ⟨rfl, kx⟩
end Go.Proofs.YtopgbggighaknaaGreatDoor
