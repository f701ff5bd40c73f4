/- selionlaw03.ArenaPlays: the walk. -/
import Derived.Test.YtmehoieijelncaaDoorLawBack
import Derived.Test.YtmehoieijelncaaDoorWant
import Derived.Test.YtmehoieijelncaaDoorDraw3
import Derived.Deep.LoopGhost
namespace Go.Proofs.YtmehoieijelncaaDoor
open Go.RowKit Go
section
variable {a : Nat → Addr}
theorem zero_nil (w : World) (hG : G a w) :
    Calls Tryd.prog 15 #[.pointer none, .int .i64 0, .int .i64 0] w fun e w' => e = .returned (.int .i64 1) ∧ Ext w w' := by
  have N := Lib.hid (fun W (hW : Ext w W) => asErr (a := a) (eN a) rfl (noArena_nil W (hG.ext hW)))
  have O := Lib.hid (fun b t W (hW : Ext w W) (hB : Blk W b #[.int .i64 0, .int .i64 0] t) => outside_nil (a := a) b t W (hG.ext hW) hB)
  have T := Lib.hid (fun b t W (hW : Ext w W) (hB : Blk W b #[eN a, .nilIface] t) => (tell2 (a := a) 1 0 (by decide) (by decide) 1 rfl b t W (hG.ext hW) hB).mono fun e w' ⟨he, hw⟩ => (⟨he, hw ▸ hW⟩ : _ ∧ Ext w w'))
  clear hG
  go_enter Tryd.func15, Tryd.ntmps15
  go_wp2_with (first
    | (go_at_call 29; refine (N.out _ (Ext.refl _)).mono ?_; rintro e w1 ⟨rfl, hX⟩)
    | (go_at_call 30; refine (O.out _ _ _ (Ext.trans hX (ext1 _ _)) (Blk.new _ _ _)).mono ?_; rintro e w2 ⟨rfl, h2⟩; replace hX := Ext.trans (Ext.trans hX (ext1 _ _)) h2; clear h2)
    | (go_at_call 28; refine (T.out _ _ _ (Ext.trans hX (ext1 _ _)) (Blk.new _ _ _)).mono ?_; rintro e w3 ⟨rfl, h3⟩; replace hX := h3; clear h3))
  go_ret
  exact ⟨rfl, hX⟩

theorem held_said : Tryd.prog.stoodInHeld 36 = false := by kernel_rfl
theorem guard_said : Tryd.prog.eqGuardType Tryd.prog.depth 36 = false := by kernel_rfl
set_option maxHeartbeats 1000000 in
theorem said_neq (n : Int) (v : Nat) (s : List UInt8) (e : Int) (w : World) :
    (binOp .neq 36 (.agg #[.int .i64 n, .int .u32 (v : Nat), .string ⟨s.toArray⟩, .int .i64 e]) (.agg #[.int .i64 n, .int .u32 (v : Nat), .string ⟨s.toArray⟩, .int .i64 e])).run Tryd.prog w = .ok (.bool false) w := by
  have h := run_equalIn_agg (P := Tryd.prog) w 9999 36 #[.int .i64 n, .int .u32 (v : Nat), .string ⟨s.toArray⟩, .int .i64 e] #[.int .i64 n, .int .u32 (v : Nat), .string ⟨s.toArray⟩, .int .i64 e] (by kernel_rfl) held_said
  rw [run_neq_struct, h]
  simp [Op.eqFields, Program.fieldsOf, Tryd.underlying36, part, isAgg, Tryd.underlying3, Tryd.underlying34, Tryd.underlying9, Tryd.underlying26, run_equalIn_int, run_equalIn_string]

theorem cellF [F.Free] {b : World} {q : Addr} {v : Value} (h : b.cell? q = some v) (hn : ¬ F.Free.D q.block) (c : F.FromF b) (o : From c.w) : o.w.cell? q = some v := by
  have h1 := (c.h.cell (World.block_lt_of_cell? b q h) hn).trans h
  exact (o.h.cell (World.block_lt_of_cell? c.w q h1)).trans h1

abbrev PlaysPost (w : World) : Ending → World → Prop := fun e w' => e = .returned (.bool true) ∧ Ext w w'
set_option maxHeartbeats 4000000 in
set_option maxRecDepth 100000 in
theorem plays_no (b : Int) (hb : -9223372036854775808 ≤ b ∧ b ≤ 9223372036854775807) (h : ¬ (1 ≤ b ∧ b ≤ 32)) (A : Option Addr) (n c : Nat) (xs : List OpR) (w : World) (hO : OpsAt w A n xs) (hG : G a w) :
    Calls Tryd.prog 3 #[.int .i64 b, .slice A n c] w (PlaysPost w) := by
  have SH := Lib.hid (shown_any (a := a) w hG)
  have H := Lib.hid (fun W (hW : Ext w W) => hG.ext hW)
  have CU := Lib.hid (fun W (hW : Ext w W) => cut_any A n c xs W (hO.ext hW))
  have N := Lib.hid (fun W (hW : Ext w W) => new_no (a := a) b h hb W (hG.ext hW))
  have RN := Lib.hid (fun W => rnew_no b h W)
  clear hG hO h hb
  go_enter Tryd.func3, Tryd.ntmps3
  go_wp2_with (first
    | (go_at_call 10; refine (SH.out).mono ?_; rintro e w1 ⟨rfl, hX⟩)
    | (go_at_call 11; refine (CU.out _ hX).mono ?_; rintro e w2 ⟨A', c', rfl, h2, _, _⟩; replace hX := Ext.trans hX h2; clear h2)
    | (go_at_call 12; refine (N.out _ hX).mono ?_; rintro e w2 ⟨rfl, h2⟩; replace hX := Ext.trans hX h2; clear h2)
    | (go_at_call 13; refine (RN.out _).mono ?_; rintro e w2 ⟨rfl, rfl⟩)
    | (go_at_call 14; refine (size_nil (a := a) _ (H.out _ hX)).mono ?_; rintro e w2 ⟨rfl, h2⟩; replace hX := Ext.trans hX h2; clear h2)
    | (go_at_call 15; refine (zero_nil (a := a) _ (H.out _ hX)).mono ?_; rintro e w2 ⟨rfl, h2⟩; replace hX := Ext.trans hX h2; clear h2))
  go_ret
  exact ⟨rfl, hX⟩

set_option maxHeartbeats 8000000 in
set_option maxRecDepth 100000 in
theorem plays_ok (b : Nat) (h1 : 1 ≤ b) (h2 : b ≤ 32) (A : Option Addr) (n c m : Nat) (xs ys : List OpR) (hm : min n 20 = m) (hys : (xs.take 20).map cutR = ys) (w : World) (hO : OpsAt w A n xs) (hG : G a w) :
    Calls Tryd.prog 3 #[.int .i64 (b : Nat), .slice A n c] w (PlaysPost w) := by
  have SH := Lib.hid (shown_any (a := a) w hG)
  have H := Lib.hid (fun W (hW : Ext w W) => hG.ext hW)
  have CU := Lib.hid (fun W (hW : Ext w W) => cut_any' A n c xs m ys hm hys W (hO.ext hW))
  have N := Lib.hid (fun W (hW : Ext w W) => new_ok (a := a) b h1 h2 W (hG.ext hW))
  have RN := Lib.hid (fun W => rnew_ok b h1 h2 W)
  have M20 := Lib.hid (show m ≤ 20 by omega)
  have HB := Lib.hid (And.intro h1 h2)
  clear hG hO hm hys h1 h2
  go_enter Tryd.func3, Tryd.ntmps3
  go_wp2_with (first
    | (go_at_call 10; refine (SH.out).mono ?_; rintro e w1 ⟨rfl, hX⟩)
    | (go_at_call 11; refine (CU.out _ hX).mono ?_; rintro e w2 ⟨A', c', rfl, hc2, hops, _⟩; replace hX := Ext.trans hX hc2; have OP := Lib.hid hops; clear hc2 hops)
    | (go_at_call 12; refine (N.out _ hX).mono ?_; rintro e w3 ⟨p, g, rfl, hp, hg, h3, hA⟩; have HP := Lib.hid (And.intro (Nat.le_trans hX.size hp) (Nat.le_trans hX.size hg)); have D0 := Lib.hid (show ∀ ad, A' = some ad → 0 < m → ad.block < g from fun ad e hm => by obtain ⟨ad', e', hb', _⟩ := OP.out.2.2 hm; rw [e] at e'; cases e'; omega); replace hX := Ext.trans hX h3; replace OP := Lib.hid (OP.out.ext h3); have AR := Lib.hid hA; clear h3 hA hp hg)
    | (go_at_call 13; refine (RN.out _).mono ?_; rintro e w4 ⟨p2, g2, rfl, hp, hg, h3, hA⟩; have HP2 := Lib.hid (And.intro (Nat.le_trans hX.size hp) (Nat.le_trans hX.size hg)); have D := Lib.hid (show (p ≠ g2 ∧ g ≠ g2) ∧ (p2 ≠ g ∧ g2 ≠ g) ∧ (g < g2) from by have := AR.out.p.lt; have := AR.out.b.lt; omega); replace hX := Ext.trans hX h3; replace OP := Lib.hid (OP.out.ext h3); replace AR := Lib.hid (AR.out.ext h3); have RR := Lib.hid hA; clear h3 hA hp hg))
  go_loopg [10] m (fun d i wr => ∃ k : Nat, k + d = m ∧ i = .int .i64 k ∧ Ext w wr ∧ OpsAt wr A' m ys ∧ Ar wr p g ((ys.take k).foldl doL (List.replicate (4096 * b) 0)) ∧ Rr wr p2 g2 ((ys.take k).foldl doL (List.replicate (4096 * b) 0)))
  case atStart => exact ⟨0, by omega, rfl, hX, OP.out, AR.out, RR.out⟩
  case round =>
    clear AR RR OP hX
    obtain ⟨k, hk, rfl, hX, hops, hA, hR⟩ := hrel
    by_cases hlt : k < m
    · obtain ⟨ad, rfl, hb, _⟩ := hops.2.2 (by omega)
      obtain ⟨x, hx, hxv⟩ := hops.get hlt
      obtain ⟨e0, e1, e2, e3, e4⟩ := hops.at_ k hlt x hx
      have hadg : ad.block < g := D0.out ad rfl (by omega)
      have hi : (k : Int) < m := by omega
      have hi2 : (k : Int) + 1 ≤ 20 := by have := M20.out; omega
      letI fr : F.Free := ⟨fun j => j = g ∨ j = g2⟩
      have hnf : ¬ F.Free.D (ad.add (k * 5)).block := by
        rw [block_of_add]
        rintro (h | h)
        · omega
        · have := D.out.2.2; omega
      have q0 := Lib.hid (fun cc oo => cellF e0 hnf cc oo)
      have q1 := Lib.hid (fun cc oo => cellF e1 hnf cc oo)
      have q2 := Lib.hid (fun cc oo => cellF e2 hnf cc oo)
      have q3 := Lib.hid (fun cc oo => cellF e3 hnf cc oo)
      have q4 := Lib.hid (fun cc oo => cellF e4 hnf cc oo)
      have HH := Lib.hid (And.intro hX (And.intro hx (And.intro hk (And.intro hxv (And.intro hops (And.intro hA hR))))))
      have HLk : ∃ Lk, (ys.take k).foldl doL (List.replicate (4096 * b) 0) = Lk := ⟨_, rfl⟩
      obtain ⟨Lk, hLk⟩ := HLk
      have HLK := Lib.hid hLk
      clear hX hops hA hR hlt hx hk e0 e1 e2 e3 e4 hxv hb hadg hLk
      go_wp2
      refine F.wp_region_XT2 13 12 rfl (by kernel_rfl) (by kernel_rfl) ?_
      intro HD
      refine F.wpH2_segL HD 0 5 7 rfl rfl (F.ExtF.refl _) (by kernel_rfl) ?_
      apply Exists.intro
      refine ⟨fun cc => ?_, ?_⟩
      · have r0 := fun oo => q0.out cc oo
        have r1 := fun oo => q1.out cc oo
        have r2 := fun oo => q2.out cc oo
        have r3 := fun oo => q3.out cc oo
        have r4 := fun oo => q4.out cc oo
        simp only [List.take_succ_cons, List.take_zero, List.drop_zero]
        repeat (go_big_quiet_step (fail))
        exact wpQuiet_nil rfl
      refine F.wpH2_segL HD 6 5 2 rfl rfl (F.ExtF.refl _) (by kernel_rfl) ?_
      apply Exists.intro
      refine ⟨fun cc => ?_, ?_⟩
      · skip
        have r0 := fun oo => q0.out cc oo
        have r1 := fun oo => q1.out cc oo
        have r2 := fun oo => q2.out cc oo
        have r3 := fun oo => q3.out cc oo
        have r4 := fun oo => q4.out cc oo
        simp only [List.take_succ_cons, List.take_zero, List.drop_succ_cons, List.drop_zero]
        repeat (go_big_quiet_step (fail))
        exact wpQuiet_nil rfl
      refine F.wpH2_stepL 5 1 rfl rfl rfl (by kernel_rfl) ?_
      intro V hV K hK
      go_simp
      refine (do_any (a := a) p g Lk x HH.out.2.2.2.1 V (H.out _ (Ext.trans HH.out.1 hV)) (by have := HH.out.2.2.2.2.2.1.ext hV; rw [HLK.out] at this; exact this)).mono ?_
      rintro e V2 ⟨rfl, hc2, hA2⟩
      have X2 : F.ExtF wr V2 := (F.ExtF.of_ext hV).trans (F.ExtF.of_chg (Or.inl rfl) hc2)
      have R2 : Rr V2 p2 g2 Lk := by have := (HH.out.2.2.2.2.2.2.ext hV).other hc2 D.out.2.1.1 D.out.2.1.2; rw [HLK.out] at this; exact this
      refine hK.out _ _ X2 ?_
      clear hK K
      refine F.wpH2_stepL 11 0 rfl rfl rfl (by kernel_rfl) ?_
      intro V3 hV3 K hK
      go_simp
      refine (want_any (a := a) p2 g2 Lk x HH.out.2.2.2.1 V3 (H.out _ (Chg.below (Ext.trans HH.out.1 hV) (hc2.ext hV3) (Ext.trans HH.out.1 hV).size HP.out.2)) (R2.ext hV3)).mono ?_
      rintro e V4 ⟨rfl, hc4, hR4⟩
      have X4 : F.ExtF wr V4 := (X2.trans (F.ExtF.of_ext hV3)).trans (F.ExtF.of_chg (Or.inr rfl) hc4)
      have hX4 := Chg.below (Chg.below (Ext.trans HH.out.1 hV) (hc2.ext hV3) (Ext.trans HH.out.1 hV).size HP.out.2) hc4 (Chg.below (Ext.trans HH.out.1 hV) (hc2.ext hV3) (Ext.trans HH.out.1 hV).size HP.out.2).size HP2.out.2
      have A4 := (hA2.ext hV3).other hc4 D.out.1.1 D.out.1.2
      have O4 := (((HH.out.2.2.2.2.1.ext hV).chg hc2 (fun ad' h => by cases h; have := D0.out ad rfl (by have := HH.out.2.2.1; omega); omega)).ext hV3).chg hc4 (fun ad' h => by cases h; have := D0.out ad rfl (by have := HH.out.2.2.1; omega); have := D.out.2.2; omega)
      refine hK.out _ _ X4 ?_
      clear hK K
      refine F.wpH2_end (fun V7 hV7 => ⟨by kernel_rfl, ?_⟩)
      simp only [List.drop_succ_cons, List.drop_zero]
      have hne := fun w => said_neq (doN Lk x) (doV Lk x) (doS Lk x) (doE Lk x) w
      have HZ := Lib.hid (And.intro (Ext.trans hX4 hV7) (And.intro (O4.ext hV7) (And.intro (A4.ext hV7) (hR4.ext hV7))))
      clear hX4 O4 A4 hR4 X4 X2 R2 hc2 hA2 hc4 hV hV3 hV7
      simp only [doC]
      go_wp2
      go_roundg (gk - 1)
      case measure => have := HH.out.2.2.1; omega
      case rel =>
        refine ⟨k + 1, by have := HH.out.2.2.1; omega, by go_num, HZ.out.1, HZ.out.2.1, ?_⟩
        rw [List.take_add_one, HH.out.2.1]
        simp only [Option.toList_some, List.foldl_append, List.foldl_cons, List.foldl_nil]
        rw [HLK.out]
        exact HZ.out.2.2
    · obtain rfl : k = m := by omega
      have hyl : ys.length = k := hops.1
      rw [List.take_of_length_le (by omega)] at hA hR
      have hi : ¬ (k : Int) < k := by omega
      obtain ⟨L, hL⟩ : ∃ L, ys.foldl doL (List.replicate (4096 * b) 0) = L := ⟨_, rfl⟩
      have hLl : L.length = 4096 * b := by rw [← hL]; exact behind_len b ys
      rw [hL] at hA hR
      obtain ⟨N9, hN9⟩ : ∃ N9, L.length = N9 := ⟨_, rfl⟩
      have hn := Lib.hid (show (L.length : Int) = (N9 : Nat) by omega)
      have K := Lib.hid (rd_all L N9 hN9)
      have hk2 := Lib.hid (show ((nz L : Nat) : Int) = ((nz L : Nat) : Int) from rfl)
      have AR := Lib.hid hA
      have RR := Lib.hid hR
      have HL9 := Lib.hid hN9
      clear hA hR hops hyl hlt hk hL hLl hN9
      go_wp2_with (first
        | (go_at_call 14; refine (size_is (a := a) p g _ _ hn.out _ (H.out _ hX) AR.out).mono ?_; rintro e w4 ⟨rfl, h4⟩; replace hX := Ext.trans hX h4; replace AR := Lib.hid (AR.out.ext h4); replace RR := Lib.hid (RR.out.ext h4); clear h4)
        | (go_at_call 18; refine (read_is (a := a) p g _ 0 (N9 : Nat) _ _ K.out.1 K.out.2 _ (H.out _ hX) AR.out).mono ?_; rintro e w5 ⟨rfl, h4⟩; replace hX := Ext.trans hX h4; replace AR := Lib.hid (AR.out.ext h4); replace RR := Lib.hid (RR.out.ext h4); clear h4))
      have c0 : w5.cell? ⟨p2, 0, none⟩ = some (.slice (some ⟨g2, 0, none⟩) N9 N9) := by have := RR.out.p.cell 0; rw [HL9.out] at this; exact this
      have hx := fun (o : From w5) p h => From.cell o p h
      have SZ := Lib.hid (fun W (hW : Ext w5 W) => size_is (a := a) p g L N9 hn.out W (H.out _ (Ext.trans hX hW)) (AR.out.ext hW))
      have CT := Lib.hid (fun W (hW : Ext w5 W) => count_is (a := a) p g L _ rfl W (H.out _ (Ext.trans hX hW)) (AR.out.ext hW))
      have RC := Lib.hid (fun W (hW : Ext w5 W) => (rcount_any p2 g2 L W (RR.out.ext hW)).mono fun e w' (hh : e = _ ∧ W = w') => (⟨hh.1, hh.2 ▸ Ext.refl _⟩ : _ ∧ Ext W w'))
      have kc := fun (o : From w5) => (show (convert 43 9 (.slice (some ⟨g2, 0, none⟩) N9 N9)).run Tryd.prog o.w = .ok (.string ⟨L.toArray⟩) o.w from by
        have := run_text_of (P := Tryd.prog) o.w 43 9 5 (some ⟨g2, 0, none⟩) N9 N9 0 g2 L 5 Tryd.underlying43 Tryd.underlying5 Tryd.underlying9 (RR.out.ext o.h).b (fun _ => rfl) (by have := HL9.out; omega)
        rw [show cut L 0 N9 = L by rw [← HL9.out]; exact cut_all L] at this
        exact this)
      have hXX := Lib.hid hX
      clear hX
      refine wp_region_on (by kernel_rfl) (by kernel_rfl) ?_
      repeat (go_big_quiet_step ((first | (go_at_call 14; with_reducible exact on_call SZ.out _) | (go_at_call 19; with_reducible exact on_call CT.out _) | (go_at_call 20; with_reducible exact on_call RC.out _))))
      refine wpQuiet_nil ?_
      intro W hW
      go_wp2
      go_ret
      exact ⟨rfl, Ext.trans hXX.out hW⟩
theorem plays_walk (b : Int) (A : Option Addr) (n c : Nat) (xs : List OpR) (hb : -9223372036854775808 ≤ b ∧ b ≤ 9223372036854775807) (w : World) (hO : OpsAt w A n xs) (hG : G a w) :
    Calls Tryd.prog 3 #[.int .i64 b, .slice A n c] w (PlaysPost w) := by
  by_cases h : 1 ≤ b ∧ b ≤ 32
  · obtain ⟨b, rfl⟩ : ∃ k : Nat, b = k := ⟨b.toNat, by omega⟩
    exact plays_ok (a := a) b (by omega) (by omega) A n c (min n 20) xs _ rfl rfl w hO hG
  · exact plays_no (a := a) b hb h A n c xs w hO hG
end
end Go.Proofs.YtmehoieijelncaaDoor
