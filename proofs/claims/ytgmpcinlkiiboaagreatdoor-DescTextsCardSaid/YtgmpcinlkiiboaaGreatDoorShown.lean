/- selionlaw04: shown. -/
import Derived.Test.YtgmpcinlkiiboaaGreatDoorParseD
import Derived.Test.YtgmpcinlkiiboaaGreatDoorSlotsD
import Derived.Test.YtgmpcinlkiiboaaGreatDoorKindD
namespace Go.Proofs.YtgmpcinlkiiboaaGreatDoor
open Go.RowKit Go
theorem num_low (n : Nat) (h : n < 10) : numS n = [dg n] := by rw [numS, dif_pos h]
theorem num_12 : numS 12 = [49, 50] := by
  rw [numS, dif_neg (by decide), show (12 : Nat) / 10 = 1 from rfl, num_low 1 (by decide)]; rfl
theorem parse_s : parseP [56, 58, 32, 52, 59, 32, 49, 50, 58, 32, 48, 32, 56] = some ⟨8, [4], 12, [0, 8]⟩ := by
  rw [parse_iff]
  refine ⟨by decide, ?_⟩
  show (numS 8 ++ 58 :: ((32 :: numS 4) ++ [])) ++ 59 :: 32 :: (numS 12 ++ 58 :: ((32 :: numS 0) ++ ((32 :: numS 8) ++ []))) = _
  rw [num_12, num_low 8 (by decide), num_low 4 (by decide), num_low 0 (by decide)]
  rfl
theorem parse_no : parseP [56, 58, 32, 56, 59, 32, 48, 58] = none := by
  have h1 : cutAt [56, 58, 32, 56, 59, 32, 48, 58] = some ([56, 58, 32, 56], [59, 32, 48, 58]) := by decide
  have h2 : nums [56, 58, 32, 56] = [8, 8] := by decide
  have h3 : nums [59, 32, 48, 58] = [0] := by decide
  have h4 : rightB ⟨8, [8], 0, []⟩ = false := by decide
  unfold parseP
  rw [h1]
  show (match nums [56, 58, 32, 56], nums [59, 32, 48, 58] with
    | x :: xs, y :: ys =>
      let d : DescR := ⟨x, xs.map Int.ofNat, y, ys.map Int.ofNat⟩
      if rightB d && textS d == _ then some d else none
    | _, _ => none) = none
  rw [h2, h3]
  show (if rightB ⟨8, [8], 0, []⟩ && _ then _ else none) = none
  rw [h4]; rfl
theorem il_lit (l : List Int) (w : World) (ty : TypeId) : Il (w.alloc (.cells (l.map (Value.int .i64)).toArray ty)) (some ⟨w.heap.size, 0, none⟩) l.length l := by
  refine ⟨rfl, fun hn => ⟨_, rfl, by show w.heap.size < (w.alloc _).heap.size; rw [World.size_alloc]; omega, fun j hj => ?_⟩⟩
  have h0 := (Blk.new w (l.map (Value.int .i64)).toArray ty).cell j
  have e : (⟨w.heap.size, 0, none⟩ : Addr).add j = ⟨w.heap.size, j, none⟩ := by unfold Addr.add; split <;> simp_all
  rw [e, h0]
  simp [hj]
section
set_option maxHeartbeats 4000000 in
set_option maxRecDepth 100000 in
theorem shown_is (w : World) (hG : G w) :
    Calls Tryz.prog 4 #[] w fun e w' => e = .returned (.bool true) ∧ Ext w w' := by
  have HG := Lib.hid (fun W (hW : Ext w W) => hG.ext hW)
  have P1 := Lib.hid (fun W (hW : Ext w W) => dparse_is [56, 58, 32, 52, 59, 32, 49, 50, 58, 32, 48, 32, 56] (by decide) W (hG.ext hW))
  have P2 := Lib.hid (fun W (hW : Ext w W) => dparse_is [56, 58, 32, 56, 59, 32, 48, 58] (by decide) W (hG.ext hW))
  have p1 := parse_s
  have p2 := parse_no
  have v1 : bytesV ⟨8, [4], 12, [0, 8]⟩ 2 = 40 := by decide
  have v2 : bytesE ⟨8, [4], 12, [0, 8]⟩ 2 = 0 := by decide
  have v3 : kindV ⟨8, [4], 12, [0, 8]⟩ 2 12 = 1 := by decide
  have v4 : slotsV ⟨8, [4], 12, [0, 8]⟩ 2 = [4, 8, 16, 20, 28] := by decide
  have v5 : bytesV ⟨0, [], 0, []⟩ 1 = 0 := by decide
  have v6 : bytesE ⟨0, [], 0, []⟩ 1 = 41 := by decide
  have CB := Lib.hid (fun A B c c' W (hG : G W) (i1 : Il W A 1 [4]) (i2 : Il W B 2 [0, 8]) => v1 ▸ v2 ▸ dbytes_is A B 1 2 c c' 8 12 2 [4] [0, 8] (by decide) (by decide) W hG i1 i2)
  have CK := Lib.hid (fun A B c c' W (hG : G W) (i1 : Il W A 1 [4]) (i2 : Il W B 2 [0, 8]) => v3 ▸ v2 ▸ dkind_is A B 1 2 c c' 8 12 2 12 [4] [0, 8] (by decide) (by decide) W hG i1 i2)
  have CS := Lib.hid (fun A B c c' W (hG : G W) (i1 : Il W A 1 [4]) (i2 : Il W B 2 [0, 8]) => dslots_is A B 1 2 c c' 8 12 2 [4] [0, 8] (by decide) (by decide) W hG i1 i2)
  have C0 := Lib.hid (fun W (hG : G W) => v5 ▸ v6 ▸ dbytes_is none none 0 0 0 0 0 0 1 [] [] (by decide) (by decide) W hG ⟨rfl, fun h => absurd h (by decide)⟩ ⟨rfl, fun h => absurd h (by decide)⟩)
  clear hG
  go_enter Tryz.func4, Tryz.ntmps4
  go_wp2_with (first | (go_at_call 8; refine (P1.out _ (Ext.refl _)).mono ?_; unfold DParseR; rw [p1]; rintro e w1 ⟨A, c, B, c', rfl, h1, h2, h3, h4, i1, i2, k1⟩; clear P1; have kO := ext1 w1 (.cells #[.int .i64 8, .slice A 1 c, .int .i64 12, .slice B 2 c'] 24); replace i1 := Lib.hid (fun W (hW : Ext (w1.alloc (.cells #[.int .i64 8, .slice A 1 c, .int .i64 12, .slice B 2 c'] 24)) W) => Il.ext i1 (Ext.trans kO hW)); replace i2 := Lib.hid (fun W (hW : Ext (w1.alloc (.cells #[.int .i64 8, .slice A 1 c, .int .i64 12, .slice B 2 c'] 24)) W) => Il.ext i2 (Ext.trans kO hW)); replace HG := Lib.hid (fun W (hW : Ext (w1.alloc (.cells #[.int .i64 8, .slice A 1 c, .int .i64 12, .slice B 2 c'] 24)) W) => HG.out W (Ext.trans (Ext.trans k1 kO) hW)); replace k1 := Ext.trans k1 kO; clear kO) | (go_at_call 12; refine (CB.out A B c c' _ (HG.out _ (Ext.refl _)) (i1.out _ (Ext.refl _)) (i2.out _ (Ext.refl _))).mono ?_; rintro e w2 ⟨rfl, k2⟩; clear CB; have q0 := (at_new k2).cell 0; have q1 := (at_new k2).cell 1; have q2 := (at_new k2).cell 2; have q3 := (at_new k2).cell 3; simp at q0 q1 q2 q3) | (go_at_call 13; refine (CS.out A B c c' _ (HG.out _ k2) (i1.out _ k2) (i2.out _ k2)).mono ?_; unfold SlotsR; rw [v4, v2]; rintro e w3 ⟨A5, c5, rfl, i5, k3⟩; clear CS q0 q1 q2 q3; replace i5 := Lib.hid i5; replace k3 := Ext.trans k2 k3; have q0 := (at_new k3).cell 0; have q1 := (at_new k3).cell 1; have q2 := (at_new k3).cell 2; have q3 := (at_new k3).cell 3; simp at q0 q1 q2 q3) | (go_at_call 14; refine (CK.out A B c c' _ (HG.out _ k3) (i1.out _ k3) (i2.out _ k3)).mono ?_; rintro e w4 ⟨rfl, k4⟩; clear CK q0 q1 q2 q3; have k5 := Ext.trans k3 k4) | (go_at_call 8; refine (P2.out _ (Ext.trans k1 k5)).mono ?_; unfold DParseR; rw [p2]; rintro e w5 ⟨rfl, k6⟩) | (go_at_call 12; refine (C0.out _ (HG.out _ (Ext.trans k5 (Ext.trans k6 (ext1 _ _))))).mono ?_; rintro e w6 ⟨rfl, k7⟩; clear C0) | (go_at_call 15; refine (ints_is A5 _ 5 5 c5 5 [4, 8, 16, 20, 28] [4, 8, 16, 20, 28] (by decide) _ (i5.out.ext (Ext.trans k4 (Ext.trans k6 (Ext.trans (ext1 _ _) (Ext.trans k7 (ext1 _ _)))))) (il_lit [4, 8, 16, 20, 28] _ _)).mono ?_; rintro e w7 ⟨rfl, k8⟩; simp only [decide_true]))
  go_ret
  exact ⟨rfl, Ext.trans k1 (Ext.trans k5 (Ext.trans k6 (Ext.trans (ext1 _ _) (Ext.trans k7 (Ext.trans (ext1 _ _) k8)))))⟩
end
end Go.Proofs.YtgmpcinlkiiboaaGreatDoor
