/- selionlaw06.HeadPuts (made by gen_puts.py). -/
import Derived.Test.YtfpefffgegphnaaDoorLawBack
import Derived.Test.YtfpefffgegphnaaDoorRefP
namespace Go.Proofs.YtfpefffgegphnaaDoor
open Go.RowKit Go
namespace H
open HD
theorem putL_len (L : List UInt8) (x : Int) (m : MkR) : (putL L x m).length = L.length := by unfold putL; split <;> simp [wrL_len]
theorem cut_all (L : List UInt8) : cut L 0 L.length = L := by unfold cut; simp
section
variable {a b : Nat → Addr}
set_option maxHeartbeats 2000000 in
set_option maxRecDepth 100000 in
theorem puts_no (y : Int) (hy : ¬ (1 ≤ y ∧ y ≤ 32)) (hy' : -9223372036854775808 ≤ y ∧ y ≤ 9223372036854775807) (x z : Int) (m : MkR) (s : List UInt8) (w : World) (hG : G a b w) (hJ : JG w) :
    Calls Tryd.prog 4 #[.int .i64 y, .int .i64 x, .int .i64 z, mkV m, .string ⟨s.toArray⟩] w fun e w' => e = .returned (.bool true) ∧ Ext w w' := by
  have E1 := ext1 w (.cells (mkC m) 23)
  have b1 := Blk.new w (mkC m) 23
  have S := Lib.hid (shown_is _ (hG.ext E1))
  have N := Lib.hid (fun W (hW : Ext w W) => new_no (a := a) y hy hy' W (hG.ext hW).g (jg_ext hJ hW))
  have RN := Lib.hid (fun W => rnew_no y hy W)
  have GN := Lib.hid (fun W (hW : Ext w W) => get_nil (a := a) (b := b) x W (hG.ext hW))
  have PN := Lib.hid (fun W (hW : Ext w W) => put_nil (a := a) (b := b) m x W (hG.ext hW))
  have HE := Lib.hid (And.intro E1 b1)
  generalize (⟨s.toArray⟩ : ByteArray) = Z at *
  clear E1 b1 hG hJ hy hy'
  go_enter Tryd.func4, Tryd.ntmps4
  go_wp2_with (first
    | (go_at_call 9; refine S.out.mono ?_; rintro e w1 ⟨rfl, hX⟩)
    | (go_at_call 19; refine (N.out _ (Ext.trans HE.out.1 hX)).mono ?_; rintro e w2 ⟨rfl, h2⟩; replace hX := Ext.trans hX h2; clear h2)
    | (go_at_call 20; refine (RN.out _).mono ?_; rintro e w3 ⟨rfl, rfl⟩)
    | (go_at_call 21; refine (GN.out _ (Ext.trans HE.out.1 hX)).mono ?_; rintro e w4 ⟨rfl, h4⟩; replace hX := Ext.trans (Ext.trans hX h4) (ext1 w4 (.cells (mkC zM) 23)); obtain ⟨m0, m1, m2, m3⟩ := cells_mk (HE.out.2.ext hX); clear h4)
    | (go_at_call 22; refine (PN.out _ (Ext.trans HE.out.1 hX)).mono ?_; rintro e w5 ⟨rfl, h5⟩; replace hX := Ext.trans hX h5; clear h5))
  go_ret
  first | exact ⟨rfl, Ext.trans HE.out.1 hX⟩ | exact ⟨ret_bool (by simp), Ext.trans HE.out.1 hX⟩
set_option maxHeartbeats 8000000 in
set_option maxRecDepth 100000 in
theorem puts_ok (n : Nat) (n1 : 1 ≤ n) (n2 : n ≤ 32) (x z : Int) (m : MkR) (s : List UInt8) (w : World) (hG : G a b w) (hJ : JG w) :
    Calls Tryd.prog 4 #[.int .i64 (n : Nat), .int .i64 x, .int .i64 z, mkV m, .string ⟨s.toArray⟩] w fun e w' => e = .returned (.bool true) ∧ Ext w w' := by
  have E1 := ext1 w (.cells (mkC m) 23)
  have b1 := Blk.new w (mkC m) 23
  have S := Lib.hid (shown_is _ (hG.ext E1))
  obtain ⟨L, hL⟩ : ∃ L : List UInt8, List.replicate (4096 * n) 0 = L := ⟨_, rfl⟩
  have N := Lib.hid (fun W (hW : Ext w W) => new_ok (a := a) n n1 n2 W (hG.ext hW).g (jg_ext hJ hW))
  have RN := Lib.hid (fun W => rnew_ok n n1 n2 W)
  unfold NewR at N
  unfold RNewR at RN
  rw [hL] at N RN
  have CU := Lib.hid (fun W => cut_is s W)
  have WR := Lib.hid (fun p g W (hW : Ext w W) hA => write_any (a := a) p g L z (s.take 20) W (hG.ext hW).g hA)
  have RW := Lib.hid (fun p g W hA => rwrite_any p g L z (s.take 20) W hA)
  have GE := Lib.hid (fun p g W (hW : Ext w W) hA => get_is (a := a) (b := b) p g (wrL L z (s.take 20)) x W (hG.ext hW) hA)
  have RG := Lib.hid (fun p g W hA => rget_is p g (wrL L z (s.take 20)) x W hA)
  have PU := Lib.hid (fun p g W (hW : Ext w W) hA => put_is (a := a) (b := b) p g (wrL L z (s.take 20)) m x W (hG.ext hW) hA)
  have RP := Lib.hid (fun p g W hA => rput_is p g (wrL L z (s.take 20)) m x W hA)
  have SZ := Lib.hid (fun p g W (hW : Ext w W) hA => size_any (a := a) p g (putL (wrL L z (s.take 20)) x m) W (hG.ext hW).g hA)
  have RD := Lib.hid (fun p g W (hW : Ext w W) hA => read_ok (a := a) p g (putL (wrL L z (s.take 20)) x m) 0 (putL (wrL L z (s.take 20)) x m).length ⟨by omega, by omega, by omega⟩ W (hG.ext hW).g hA)
  rw [show (0 : Int).toNat = 0 from rfl, Int.toNat_natCast, cut_all] at RD
  obtain ⟨L1, hL1⟩ : ∃ L1, wrL L z (s.take 20) = L1 := ⟨_, rfl⟩
  obtain ⟨E0, hE0⟩ : ∃ E0, rdE L z (s.take 20).length = E0 := ⟨_, rfl⟩
  rw [hL1] at WR RW GE RG PU RP SZ RD
  rw [hE0] at WR RW
  obtain ⟨L2, hL2⟩ : ∃ L2, putL L1 x m = L2 := ⟨_, rfl⟩
  rw [hL2] at PU RP SZ RD
  have hK := Lib.hid (fun W g2 (hW : Blk W g2 (bts L2) 5) => run_text_of (P := Tryd.prog) W 47 9 5 (some ⟨g2, 0, none⟩) L2.length L2.length 0 g2 L2 5 Tryd.underlying47 Tryd.underlying5 Tryd.underlying9 hW (fun _ => rfl) (by omega))
  rw [cut_all] at hK
  have eq := fun W => eql_self (getM L1 x) W
  generalize getM L1 x = M at *
  generalize getE L1 x = gE at *
  generalize putE L1 x m = pE at *
  obtain ⟨k, hk⟩ : ∃ k : Nat, L2.length = k := ⟨_, rfl⟩
  rw [hk] at SZ RD hK
  have HLk := Lib.hid hk
  obtain ⟨Y, hY⟩ : ∃ Y : ByteArray, ⟨L2.toArray⟩ = Y := ⟨_, rfl⟩
  rw [hY] at RD hK
  obtain ⟨X, hXX⟩ : ∃ X : ByteArray, ⟨(s.take 20).toArray⟩ = X := ⟨_, rfl⟩
  rw [hXX] at CU WR RW
  generalize (⟨s.toArray⟩ : ByteArray) = Z at *
  have HE := Lib.hid (And.intro E1 b1)
  clear E1 b1 hG hJ hL n1 n2 hL1 hE0 hL2 hk hY hXX
  go_enter Tryd.func4, Tryd.ntmps4
  go_wp2_with (first
    | (go_at_call 9; refine S.out.mono ?_; rintro e w1 ⟨rfl, hX⟩)
    | (go_at_call 19; refine (N.out _ (Ext.trans HE.out.1 hX)).mono ?_; rintro e w2 ⟨p, g, rfl, hp, hg, h2, hA⟩; have HP := Lib.hid (And.intro (Nat.le_trans hX.size hp) (Nat.le_trans hX.size hg)); replace hX := Ext.trans hX h2; have AR := Lib.hid hA; clear h2 hp hg hA)
    | (go_at_call 20; refine (RN.out _).mono ?_; rintro e w3 ⟨p2, g2, rfl, hp, hg, h3, hR⟩; have HP2 := Lib.hid (And.intro (Nat.le_trans hX.size hp) (Nat.le_trans hX.size hg)); have D := Lib.hid (show (p ≠ g2 ∧ g ≠ g2) ∧ (p2 ≠ g ∧ g2 ≠ g) from by have := AR.out.p.lt; have := AR.out.b.lt; omega); replace hX := Ext.trans hX h3; replace AR := Lib.hid (AR.out.ext h3); have RR := Lib.hid hR; clear h3 hp hg hR)
    | (go_at_call 13; refine (CU.out _).mono ?_; rintro e w4 ⟨rfl, rfl⟩)
    | (go_at_call 23; refine (WR.out p g _ (Ext.trans HE.out.1 hX) AR.out).mono ?_; rintro e w5 ⟨rfl, hc, hA⟩; replace hX := Chg.below hX hc hX.size HP.out.2; replace RR := Lib.hid (RR.out.other hc D.out.2.1 D.out.2.2); replace AR := Lib.hid hA; clear hc hA)
    | (go_at_call 24; refine (RW.out p2 g2 _ RR.out).mono ?_; rintro e w6 ⟨rfl, hc, hR⟩; replace hX := Chg.below hX hc hX.size HP2.out.2; replace AR := Lib.hid (AR.out.other hc D.out.1.1 D.out.1.2); replace RR := Lib.hid hR; clear hc hR)
    | (go_at_call 21; refine (GE.out p g _ (Ext.trans HE.out.1 hX) AR.out).mono ?_; rintro e w7 ⟨rfl, h7⟩; have B7 := Lib.hid (And.intro (Blk.new w7 (mkC M) 23) (show g ≠ w7.heap.size ∧ g2 ≠ w7.heap.size from by have := (AR.out.ext h7).b.lt; have := (RR.out.ext h7).b.lt; omega)); replace h7 := Ext.trans h7 (ext1 w7 (.cells (mkC M) 23)); replace hX := Ext.trans hX h7; replace AR := Lib.hid (AR.out.ext h7); replace RR := Lib.hid (RR.out.ext h7); clear h7)
    | (go_at_call 25; refine (RG.out p2 g2 _ RR.out).mono ?_; rintro e w8 ⟨rfl, h8⟩; have B8 := Lib.hid (And.intro (Blk.new w8 (mkC M) 23) (show g ≠ w8.heap.size ∧ g2 ≠ w8.heap.size from by have := (AR.out.ext h8).b.lt; have := (RR.out.ext h8).b.lt; omega)); replace h8 := Ext.trans h8 (ext1 w8 (.cells (mkC M) 23)); replace B7 := Lib.hid (And.intro (B7.out.1.ext h8) B7.out.2); replace hX := Ext.trans hX h8; replace AR := Lib.hid (AR.out.ext h8); replace RR := Lib.hid (RR.out.ext h8); obtain ⟨m0, m1, m2, m3⟩ := cells_mk (HE.out.2.ext hX); clear h8)
    | (go_at_call 22; refine (PU.out p g _ (Ext.trans HE.out.1 hX) AR.out).mono ?_; rintro e w9 ⟨rfl, hc, hA⟩; replace hX := Chg.below hX hc hX.size HP.out.2; replace RR := Lib.hid (RR.out.other hc D.out.2.1 D.out.2.2); replace AR := Lib.hid hA; replace B7 := Lib.hid (And.intro (B7.out.1.chg hc (Ne.symm B7.out.2.1)) B7.out.2); replace B8 := Lib.hid (And.intro (B8.out.1.chg hc (Ne.symm B8.out.2.1)) B8.out.2); clear m0 m1 m2 m3; obtain ⟨m0, m1, m2, m3⟩ := cells_mk (HE.out.2.ext hX); clear hc hA)
    | (go_at_call 26; refine (RP.out p2 g2 _ RR.out).mono ?_; rintro e w10 ⟨rfl, hc, hR⟩; replace hX := Chg.below hX hc hX.size HP2.out.2; replace AR := Lib.hid (AR.out.other hc D.out.1.1 D.out.1.2); replace RR := Lib.hid hR; replace B7 := Lib.hid (And.intro (B7.out.1.chg hc (Ne.symm B7.out.2.2)) B7.out.2); replace B8 := Lib.hid (And.intro (B8.out.1.chg hc (Ne.symm B8.out.2.2)) B8.out.2); clear m0 m1 m2 m3 hc hR)
    | (go_at_call 28; refine (SZ.out p g _ (Ext.trans HE.out.1 hX) AR.out).mono ?_; rintro e w11 ⟨rfl, h11⟩; replace AR := Lib.hid (AR.out.ext h11); replace RR := Lib.hid (RR.out.ext h11); replace B7 := Lib.hid (And.intro (B7.out.1.ext h11) B7.out.2); replace B8 := Lib.hid (And.intro (B8.out.1.ext h11) B8.out.2); replace hX := Ext.trans hX h11; clear h11)
    | (go_at_call 27; refine (RD.out p g _ (Ext.trans HE.out.1 hX) AR.out).mono ?_; rintro e w12 ⟨rfl, h12⟩; replace RR := Lib.hid (RR.out.ext h12); replace hX := Ext.trans hX h12; obtain ⟨q0, q1, q2, q3⟩ := cells_mk (B7.out.1.ext h12); obtain ⟨r0, r1, r2, r3⟩ := cells_mk (B8.out.1.ext h12); have kc := hK.out w12 g2 RR.out.b; have c0 : w12.cell? ⟨p2, 0, none⟩ = some (.slice (some ⟨g2, 0, none⟩) k k) := (by have := RR.out.p.cell 0; rw [HLk.out] at this; exact this); clear h12))
  go_ret
  first | exact ⟨rfl, Ext.trans HE.out.1 hX⟩ | exact ⟨ret_bool (by simp), Ext.trans HE.out.1 hX⟩
theorem puts_walk (y x z : Int) (m : MkR) (s : List UInt8) (hy : -9223372036854775808 ≤ y ∧ y ≤ 9223372036854775807) (_hx : -9223372036854775808 ≤ x ∧ x ≤ 9223372036854775807) (_hz : -9223372036854775808 ≤ z ∧ z ≤ 9223372036854775807) (w : World) (hG : G a b w) (hJ : JG w) :
    Calls Tryd.prog 4 #[.int .i64 y, .int .i64 x, .int .i64 z, mkV m, .string ⟨s.toArray⟩] w fun e w' => e = .returned (.bool true) ∧ Ext w w' := by
  by_cases h : 1 ≤ y ∧ y ≤ 32
  · obtain ⟨n, rfl⟩ : ∃ n : Nat, y = n := ⟨y.toNat, by omega⟩
    exact puts_ok n (by omega) (by omega) x z m s w hG hJ
  · exact puts_no y h hy x z m s w hG hJ
end
end H
end Go.Proofs.YtfpefffgegphnaaDoor
