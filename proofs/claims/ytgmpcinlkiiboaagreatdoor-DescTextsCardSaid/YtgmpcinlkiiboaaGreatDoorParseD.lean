/- desc: Parse. -/
import Derived.Test.YtgmpcinlkiiboaaGreatDoorReadQ
import Derived.Test.YtgmpcinlkiiboaaGreatDoorSlotsD
namespace Go.Proofs.YtgmpcinlkiiboaaGreatDoor
open Go.RowKit Go
/-- What Parse answers. -/
def DParseR (w : World) (s : List UInt8) (e : Ending) (w' : World) : Prop :=
  match parseP s with
  | none => e = .returned (.tuple #[.agg #[.int .i64 0, .slice none 0 0, .int .i64 0, .slice none 0 0], .int .i64 40]) ∧ Ext w w'
  | some d => ∃ A c B c', e = .returned (.tuple #[.agg #[.int .i64 d.size, .slice A d.ptrs.length c, .int .i64 d.elem, .slice B d.eptrs.length c'], .int .i64 0]) ∧
      d.ptrs.length ≤ c ∧ d.eptrs.length ≤ c' ∧ c ≤ maxLen ∧ c' ≤ maxLen ∧ Il w' A d.ptrs.length d.ptrs ∧ Il w' B d.eptrs.length d.eptrs ∧ Ext w w'
theorem told2_new (j k : Int) (u v : Value) (w : World) (hG : G w) (hu : Code u j) (hv : Code v k) :
    Calls Tryz.prog 16 #[.slice (some ⟨w.heap.size, 0, none⟩) 2 2] (w.alloc (.cells #[u, v] 43)) fun e w' => e = .returned (.int .i64 (first2 j k)) ∧ Ext (w.alloc (.cells #[u, v] 43)) w' :=
  told2_is j k u v _ 43 _ (hG.ext (ext1 _ _)) (Blk.new w _ _) hu hv
theorem some_read {s : List UInt8} {d : DescR} (h : parseP s = some d) : readF s = false ∧ readD s = d ∧ rightB (readD s) = true := by
  obtain ⟨h1, rfl⟩ := parse_some h
  have hR := right_of h1
  have hl := lens_of hR
  have a1 := hR.s0
  have a2 := hR.e0
  obtain ⟨h2, h3⟩ := read_of h1 (by omega) (by omega)
  exact ⟨h2, h3, by rw [h3]; exact h1⟩
theorem none_read {s : List UInt8} (h : parseP s = none) : readF s = true ∨ rightB (readD s) = false := by
  cases hF : readF s
  · right
    cases hR : rightB (readD s)
    · rfl
    · exact absurd (text_of hF) ((parse_none s).1 h _ hR)
  · exact .inl rfl
section
set_option maxHeartbeats 4000000 in
theorem dparse_is (s : List UInt8) (hl : s.length ≤ 100000) (w : World) (hG : G w) :
    Calls Tryz.prog 8 #[tv s] w (DParseR w s) := by
  have E1 := ext1 w (.cells #[.int .i64 0, .slice none 0 0, .int .i64 0, .slice none 0 0] 24)
  have R := Lib.hid (read_is s hl _ (hG.ext E1))
  have l1 := part_len (s, false)
  have l3 := part_len (mustQ [59, 32] (readQ1 s).2.2)
  have HL := Lib.hid (show (readQ1 s).2.1.length ≤ 1000000 ∧ (readQ2 s).2.1.length ≤ 1000000 from ⟨Nat.le_trans l1.2.1 (by decide), Nat.le_trans l3.2.1 (by decide)⟩)
  have HG := Lib.hid (fun W (hW : Ext w W) => hG.ext hW)
  have HE := Lib.hid E1
  clear E1 hG l1 l3
  unfold DParseR
  cases hp : parseP s with
  | none =>
    have HN := Lib.hid (none_read hp)
    cases hF : readF s
    · cases hR : rightB (readD s)
      · have ND := Lib.hid (fun (W : World) (hW : Ext w W) (A B : Option Addr) (c c' : Nat) (hA : Il W A _ _) (hB : Il W B _ _) => noDesc_is A B (readQ1 s).2.1.length (readQ2 s).2.1.length c c' ((readQ1 s).1 : Nat) ((readQ2 s).1 : Nat) ((readQ1 s).2.1.map Int.ofNat) ((readQ2 s).2.1.map Int.ofNat) HL.out.1 HL.out.2 W (HG.out W hW) hA hB)
        rw [show rightB ⟨((readQ1 s).1 : Nat), (readQ1 s).2.1.map Int.ofNat, ((readQ2 s).1 : Nat), (readQ2 s).2.1.map Int.ofNat⟩ = false from hR] at ND
        have HD := Lib.hid hF
        clear hp hF hR
        go_enter Tryz.func8, Tryz.ntmps8
        go_wp2_with (first | (go_at_call 21; (with_reducible refine R.out.mono ?_); rintro e w1 ⟨A, c, B, c', ev, rfl, a1, a2, a3, a4, a5, a6, a7, a8, a9, a10⟩; rw [HD.out] at a7; have H7 := Lib.hid (show Code ev 0 from a7); obtain rfl := code_nil H7.out rfl; have K1 := Lib.hid (And.intro a1 (And.intro a2 (And.intro a3 (And.intro a4 (And.intro a5 (And.intro a6 a8)))))); clear a1 a2 a3 a4 a5 a6 a7 a8 a9 a10) | (go_at_call 17; (with_reducible refine (ND.out _ (Ext.trans (Ext.trans HE.out K1.out.2.2.2.2.2.2) (ext1 _ _)) A B c c' (K1.out.2.2.2.2.1.ext (ext1 _ _)) (K1.out.2.2.2.2.2.1.ext (ext1 _ _))).mono ?_); rintro e w2 ⟨⟨v, rfl, hv⟩, k2⟩; have H8 := Lib.hid (show Code v 40 from hv); obtain ⟨te8, pe8, rfl⟩ := code_err H8.out (by decide); have K2 := Lib.hid k2; clear hv k2) | (go_at_call 16; (with_reducible refine (told2_new 0 40 _ _ w2 (HG.out _ (Ext.trans (Ext.trans HE.out K1.out.2.2.2.2.2.2) (Ext.trans (ext1 _ _) K2.out))) H7.out H8.out).mono ?_); rintro e w3 ⟨rfl, k3⟩; have K3 := Lib.hid (Ext.trans (Ext.trans (ext1 _ _) K2.out) (Ext.trans (ext1 _ _) k3)); clear k3; obtain ⟨⟨r0, r1, r2, r3⟩, g0, g1, g2, g3⟩ := cells4 (at_new (Ext.trans K1.out.2.2.2.2.2.2 K3.out))))
        obtain ⟨s0, s1, s2, s3, hE⟩ := res_store4D (u0 := .int .i64 0) (u1 := .slice none 0 0) (u2 := .int .i64 0) (u3 := .slice none 0 0) (at_new (Ext.trans K1.out.2.2.2.2.2.2 K3.out)) (Ext.trans (Ext.trans HE.out K1.out.2.2.2.2.2.2) K3.out) (Nat.le_refl _)
        exact bodyPost_ret (v := .tuple #[.agg #[.int .i64 0, .slice none 0 0, .int .i64 0, .slice none 0 0], .int .i64 40]) (by simp [results, Tryz.results8, go_sem, s0, s1, s2, s3, first2]) rfl ⟨rfl, hE⟩
      · exact absurd HN.out (by rw [hF, hR]; simp)
    · cases hR : rightB (readD s)
      · have ND := Lib.hid (fun (W : World) (hW : Ext w W) (A B : Option Addr) (c c' : Nat) (hA : Il W A _ _) (hB : Il W B _ _) => noDesc_is A B (readQ1 s).2.1.length (readQ2 s).2.1.length c c' ((readQ1 s).1 : Nat) ((readQ2 s).1 : Nat) ((readQ1 s).2.1.map Int.ofNat) ((readQ2 s).2.1.map Int.ofNat) HL.out.1 HL.out.2 W (HG.out W hW) hA hB)
        rw [show rightB ⟨((readQ1 s).1 : Nat), (readQ1 s).2.1.map Int.ofNat, ((readQ2 s).1 : Nat), (readQ2 s).2.1.map Int.ofNat⟩ = false from hR] at ND
        have HD := Lib.hid hF
        clear hp hF hR
        go_enter Tryz.func8, Tryz.ntmps8
        go_wp2_with (first | (go_at_call 21; (with_reducible refine R.out.mono ?_); rintro e w1 ⟨A, c, B, c', ev, rfl, a1, a2, a3, a4, a5, a6, a7, a8, a9, a10⟩; rw [HD.out] at a7; have H7 := Lib.hid (show Code ev 40 from a7); obtain ⟨te7, pe7, rfl⟩ := code_err H7.out (by decide); have K1 := Lib.hid (And.intro a1 (And.intro a2 (And.intro a3 (And.intro a4 (And.intro a5 (And.intro a6 a8)))))); clear a1 a2 a3 a4 a5 a6 a7 a8 a9 a10) | (go_at_call 17; (with_reducible refine (ND.out _ (Ext.trans (Ext.trans HE.out K1.out.2.2.2.2.2.2) (ext1 _ _)) A B c c' (K1.out.2.2.2.2.1.ext (ext1 _ _)) (K1.out.2.2.2.2.2.1.ext (ext1 _ _))).mono ?_); rintro e w2 ⟨⟨v, rfl, hv⟩, k2⟩; have H8 := Lib.hid (show Code v 40 from hv); obtain ⟨te8, pe8, rfl⟩ := code_err H8.out (by decide); have K2 := Lib.hid k2; clear hv k2) | (go_at_call 16; (with_reducible refine (told2_new 40 40 _ _ w2 (HG.out _ (Ext.trans (Ext.trans HE.out K1.out.2.2.2.2.2.2) (Ext.trans (ext1 _ _) K2.out))) H7.out H8.out).mono ?_); rintro e w3 ⟨rfl, k3⟩; have K3 := Lib.hid (Ext.trans (Ext.trans (ext1 _ _) K2.out) (Ext.trans (ext1 _ _) k3)); clear k3; obtain ⟨⟨r0, r1, r2, r3⟩, g0, g1, g2, g3⟩ := cells4 (at_new (Ext.trans K1.out.2.2.2.2.2.2 K3.out))))
        obtain ⟨s0, s1, s2, s3, hE⟩ := res_store4D (u0 := .int .i64 0) (u1 := .slice none 0 0) (u2 := .int .i64 0) (u3 := .slice none 0 0) (at_new (Ext.trans K1.out.2.2.2.2.2.2 K3.out)) (Ext.trans (Ext.trans HE.out K1.out.2.2.2.2.2.2) K3.out) (Nat.le_refl _)
        exact bodyPost_ret (v := .tuple #[.agg #[.int .i64 0, .slice none 0 0, .int .i64 0, .slice none 0 0], .int .i64 40]) (by simp [results, Tryz.results8, go_sem, s0, s1, s2, s3, first2]) rfl ⟨rfl, hE⟩
      · have ND := Lib.hid (fun (W : World) (hW : Ext w W) (A B : Option Addr) (c c' : Nat) (hA : Il W A _ _) (hB : Il W B _ _) => noDesc_is A B (readQ1 s).2.1.length (readQ2 s).2.1.length c c' ((readQ1 s).1 : Nat) ((readQ2 s).1 : Nat) ((readQ1 s).2.1.map Int.ofNat) ((readQ2 s).2.1.map Int.ofNat) HL.out.1 HL.out.2 W (HG.out W hW) hA hB)
        rw [show rightB ⟨((readQ1 s).1 : Nat), (readQ1 s).2.1.map Int.ofNat, ((readQ2 s).1 : Nat), (readQ2 s).2.1.map Int.ofNat⟩ = true from hR] at ND
        have HD := Lib.hid hF
        clear hp hF hR
        go_enter Tryz.func8, Tryz.ntmps8
        go_wp2_with (first | (go_at_call 21; (with_reducible refine R.out.mono ?_); rintro e w1 ⟨A, c, B, c', ev, rfl, a1, a2, a3, a4, a5, a6, a7, a8, a9, a10⟩; rw [HD.out] at a7; have H7 := Lib.hid (show Code ev 40 from a7); obtain ⟨te7, pe7, rfl⟩ := code_err H7.out (by decide); have K1 := Lib.hid (And.intro a1 (And.intro a2 (And.intro a3 (And.intro a4 (And.intro a5 (And.intro a6 a8)))))); clear a1 a2 a3 a4 a5 a6 a7 a8 a9 a10) | (go_at_call 17; (with_reducible refine (ND.out _ (Ext.trans (Ext.trans HE.out K1.out.2.2.2.2.2.2) (ext1 _ _)) A B c c' (K1.out.2.2.2.2.1.ext (ext1 _ _)) (K1.out.2.2.2.2.2.1.ext (ext1 _ _))).mono ?_); rintro e w2 ⟨⟨v, rfl, hv⟩, k2⟩; have H8 := Lib.hid (show Code v 0 from hv); obtain rfl := code_nil H8.out rfl; have K2 := Lib.hid k2; clear hv k2) | (go_at_call 16; (with_reducible refine (told2_new 40 0 _ _ w2 (HG.out _ (Ext.trans (Ext.trans HE.out K1.out.2.2.2.2.2.2) (Ext.trans (ext1 _ _) K2.out))) H7.out H8.out).mono ?_); rintro e w3 ⟨rfl, k3⟩; have K3 := Lib.hid (Ext.trans (Ext.trans (ext1 _ _) K2.out) (Ext.trans (ext1 _ _) k3)); clear k3; obtain ⟨⟨r0, r1, r2, r3⟩, g0, g1, g2, g3⟩ := cells4 (at_new (Ext.trans K1.out.2.2.2.2.2.2 K3.out))))
        obtain ⟨s0, s1, s2, s3, hE⟩ := res_store4D (u0 := .int .i64 0) (u1 := .slice none 0 0) (u2 := .int .i64 0) (u3 := .slice none 0 0) (at_new (Ext.trans K1.out.2.2.2.2.2.2 K3.out)) (Ext.trans (Ext.trans HE.out K1.out.2.2.2.2.2.2) K3.out) (Nat.le_refl _)
        exact bodyPost_ret (v := .tuple #[.agg #[.int .i64 0, .slice none 0 0, .int .i64 0, .slice none 0 0], .int .i64 40]) (by simp [results, Tryz.results8, go_sem, s0, s1, s2, s3, first2]) rfl ⟨rfl, hE⟩
  | some d =>
    obtain ⟨hF, hD, hR⟩ := some_read hp
    have ND := Lib.hid (fun (W : World) (hW : Ext w W) (A B : Option Addr) (c c' : Nat) (hA : Il W A _ _) (hB : Il W B _ _) => noDesc_is A B (readQ1 s).2.1.length (readQ2 s).2.1.length c c' ((readQ1 s).1 : Nat) ((readQ2 s).1 : Nat) ((readQ1 s).2.1.map Int.ofNat) ((readQ2 s).2.1.map Int.ofNat) HL.out.1 HL.out.2 W (HG.out W hW) hA hB)
    rw [show rightB ⟨((readQ1 s).1 : Nat), (readQ1 s).2.1.map Int.ofNat, ((readQ2 s).1 : Nat), (readQ2 s).2.1.map Int.ofNat⟩ = true from hR] at ND
    have HD := Lib.hid (And.intro hD hF)
    clear hp hF hD hR
    go_enter Tryz.func8, Tryz.ntmps8
    go_wp2_with (first | (go_at_call 21; (with_reducible refine R.out.mono ?_); rintro e w1 ⟨A, c, B, c', ev, rfl, a1, a2, a3, a4, a5, a6, a7, a8, a9, a10⟩; rw [HD.out.2] at a7; obtain rfl := code_nil a7 rfl; have K1 := Lib.hid (And.intro a1 (And.intro a2 (And.intro a3 (And.intro a4 (And.intro a5 (And.intro a6 a8)))))); have K9 := Lib.hid (And.intro a9 a10); clear a1 a2 a3 a4 a5 a6 a7 a8 a9 a10) | (go_at_call 17; (with_reducible refine (ND.out _ (Ext.trans (Ext.trans HE.out K1.out.2.2.2.2.2.2) (ext1 _ _)) A B c c' (K1.out.2.2.2.2.1.ext (ext1 _ _)) (K1.out.2.2.2.2.2.1.ext (ext1 _ _))).mono ?_); rintro e w2 ⟨⟨v, rfl, hv⟩, k2⟩; obtain rfl := code_nil hv rfl; have K2 := Lib.hid k2; clear hv k2) | (go_at_call 16; (with_reducible refine (told2_new 0 0 _ _ w2 (HG.out _ (Ext.trans (Ext.trans HE.out K1.out.2.2.2.2.2.2) (Ext.trans (ext1 _ _) K2.out))) code_0 code_0).mono ?_); rintro e w3 ⟨rfl, k3⟩; have K3 := Lib.hid (Ext.trans (Ext.trans (ext1 _ _) K2.out) (Ext.trans (ext1 _ _) k3)); have K4 := Lib.hid (Ext.trans K2.out (Ext.trans (ext1 _ _) k3)); clear k3; obtain ⟨⟨p0, p1, p2, p3⟩, f0, f1, f2, f3⟩ := cells4 (at_new K4.out); obtain ⟨⟨r0, r1, r2, r3⟩, g0, g1, g2, g3⟩ := cells4 (at_new (Ext.trans K1.out.2.2.2.2.2.2 K3.out))))
    obtain ⟨s0, s1, s2, s3, hE⟩ := res_store4D (u0 := .int .i64 ((readQ1 s).1 : Nat)) (u1 := .slice A (readQ1 s).2.1.length c) (u2 := .int .i64 ((readQ2 s).1 : Nat)) (u3 := .slice B (readQ2 s).2.1.length c') (at_new (Ext.trans K1.out.2.2.2.2.2.2 K3.out)) (Ext.trans (Ext.trans HE.out K1.out.2.2.2.2.2.2) K3.out) (Nat.le_refl _)
    have nA : ∀ ad, A = some ad → ad.block ≠ w.heap.size := fun ad e => by have := K9.out.1 ad e; simp at this; omega
    have nB : ∀ ad, B = some ad → ad.block ≠ w.heap.size := fun ad e => by have := K9.out.2 ad e; simp at this; omega
    have iA := ((((K1.out.2.2.2.2.1.ext K3.out).other ⟨w.heap.size, 0, none⟩ (.int .i64 ((readQ1 s).1 : Nat)) nA).other ⟨w.heap.size, 1, none⟩ (.slice A (readQ1 s).2.1.length c) nA).other ⟨w.heap.size, 2, none⟩ (.int .i64 ((readQ2 s).1 : Nat)) nA).other ⟨w.heap.size, 3, none⟩ (.slice B (readQ2 s).2.1.length c') nA
    have iB := ((((K1.out.2.2.2.2.2.1.ext K3.out).other ⟨w.heap.size, 0, none⟩ (.int .i64 ((readQ1 s).1 : Nat)) nB).other ⟨w.heap.size, 1, none⟩ (.slice A (readQ1 s).2.1.length c) nB).other ⟨w.heap.size, 2, none⟩ (.int .i64 ((readQ2 s).1 : Nat)) nB).other ⟨w.heap.size, 3, none⟩ (.slice B (readQ2 s).2.1.length c') nB
    refine bodyPost_ret (v := .tuple #[.agg #[.int .i64 ((readQ1 s).1 : Nat), .slice A (readQ1 s).2.1.length c, .int .i64 ((readQ2 s).1 : Nat), .slice B (readQ2 s).2.1.length c'], .int .i64 0]) (by simp [results, Tryz.results8, go_sem, s0, s1, s2, s3]) rfl ?_
    rw [← HD.out.1]
    simp only [readD, List.length_map]
    exact ⟨A, c, B, c', rfl, K1.out.1, K1.out.2.1, K1.out.2.2.1, K1.out.2.2.2.1, iA, iB, hE⟩
end
end Go.Proofs.YtgmpcinlkiiboaaGreatDoor
