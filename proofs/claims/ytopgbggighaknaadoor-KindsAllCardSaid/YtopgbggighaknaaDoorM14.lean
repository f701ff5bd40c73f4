/- Joined texts, in their order: KOf, KPrint, KKn, KLearn. -/
import Derived.Test.YtopgbggighaknaaDoorM13
import Derived.Test.YtopgbggighaknaaDoorM06
import Derived.Test.YtopgbggighaknaaDoorM12
import Derived.Test.YtopgbggighaknaaDoorM10
import Derived.Test.YtopgbggighaknaaDoorM09
import Derived.Test.YtopgbggighaknaaDoorM11
import Derived.Maps.OwnSet
import Derived.Test.YtopgbggighaknaaDoorM03
import Derived.Test.YtopgbggighaknaaDoorM04
import Derived.Maps.Own
import Derived.Maps.OwnOps
/- kinds: Of, case by case (made by gen_kof.py). -/
namespace Go.Proofs.YtopgbggighaknaaDoor
open Go.RowKit Go
theorem one_row {W : World} {x : DRow} {d : DescR} (hd : Dn W x d) {t : TypeId} : Dl (W.alloc (.cells x.cells t)) (some ⟨W.heap.size, 0, none⟩) 1 [x] [d] := by
  refine ⟨⟨rfl, fun _ => ⟨_, rfl, by simp, fun i j hi hj => ?_⟩⟩, rfl, fun i y d' h1 h2 => ?_⟩
  · obtain rfl : i = 0 := by omega
    have hl : x.cells.size = 4 := rfl
    have := new_cells1 W x.cells t j _ (Array.getElem?_eq_getElem (by omega))
    rw [show 0 * 4 + j = j by omega, this]
    exact (Array.getElem?_eq_getElem (by omega)).symm
  · have m1 := List.mem_of_getElem? h1
    have m2 := List.mem_of_getElem? h2
    obtain rfl : y = x := by simpa using m1
    obtain rfl : d' = d := by simpa using m2
    exact hd.ext (ext1 _ _)
theorem add_0 (a : Addr) : a.add 0 = a := by simp [Addr.add]
theorem small_one {x : DRow} (h : x.n ≤ 1000 ∧ x.m ≤ 1000) : Small [x] := fun i y hy => by
  have m := List.mem_of_getElem? hy
  obtain rfl : y = x := by simpa using m
  exact h
section
set_option maxHeartbeats 8000000 in
set_option maxRecDepth 100000 in
theorem kof_50a (A : Option Addr) (n c : Nat) (xs : List DRow) (L : List DescR) (y : Int) (hn : n ≤ 1000000) (hc : n ≤ c) (hs : Small xs) (w : World) (hG : K.G w) (h : Dl w A n xs L) (hr : rightK L = false) (hy : decide (1 ≤ y ∧ y ≤ (n : Int)) = false) :
    Calls Tryd.prog 6 #[.slice A n c, .int .i64 y] w fun e w' => e = .returned (.tuple #[.agg #[.int .i64 0, .slice none 0 0, .int .i64 0, .slice none 0 0], .int .i64 50]) ∧ Ext w w' := by
  have HE := Lib.hid (ext1 w (.cells #[.int .i64 0, .slice none 0 0, .int .i64 0, .slice none 0 0] 27))
  have HB := Lib.hid (Blk.new w #[.int .i64 0, .slice none 0 0, .int .i64 0, .slice none 0 0] 27)
  have HG := Lib.hid (fun W (hW : Ext w W) => hG.ext hW)
  have RK := Lib.hid (fun W (hW : Ext w W) => noKinds_is A n c xs L hn hc hs W (hG.ext hW) (h.ext hW))
  rw [hr] at RK
  clear h hs hG hr
  go_enter Tryd.func6, Tryd.ntmps6
  go_wp2_with (first | (go_at_call 16; refine (RK.out _ HE.out).mono ?_; rintro e w1 ⟨⟨v1, rfl, hv1⟩, k1⟩; have C1 := Lib.hid (show K.Code v1 50 from hv1); obtain ⟨te1, pe1, rfl⟩ := K.code_err C1.out (by decide); clear hv1; have kw := Ext.trans HE.out k1; have bR := HB.out.ext k1) | (go_at_call 17; refine (noKind_is _ _ _ (HG.out _ kw)).mono ?_; rintro e w2 ⟨⟨v2, rfl, hv2⟩, k2⟩; rw [hy] at hv2; have C2 := Lib.hid (show K.Code v2 51 from hv2); obtain ⟨te2, pe2, rfl⟩ := K.code_err C2.out (by decide); clear hv2; replace kw := Ext.trans kw k2; replace bR := bR.ext k2) | (go_at_call 15; (refine (K.told2_is 50 51 _ _ _ 45 _ (HG.out _ (Ext.trans kw (ext1 _ _))) (Blk.new _ _ _) C1.out C2.out).mono ?_); rintro e w3 ⟨rfl, k3⟩; replace kw := Ext.trans kw (Ext.trans (ext1 _ _) k3); replace bR := (bR.ext (ext1 _ _)).ext k3; obtain ⟨⟨q0, q1, q2, q3⟩, f0, f1, f2, f3⟩ := cells4 bR; have GG := Lib.hid (And.intro bR kw)))
  obtain ⟨s0, s1, s2, s3, hE⟩ := clone_store (u0 := .int .i64 0) (u1 := .slice none 0 0) (u2 := .int .i64 0) (u3 := .slice none 0 0) GG.out.1 GG.out.2 (Nat.le_refl _)
  exact bodyPost_ret (v := .tuple #[.agg #[.int .i64 0, .slice none 0 0, .int .i64 0, .slice none 0 0], .int .i64 50]) (by simp [results, Tryd.results6, go_sem, s0, s1, s2, s3, K.first2]) rfl ⟨rfl, hE⟩
set_option maxHeartbeats 8000000 in
set_option maxRecDepth 100000 in
theorem kof_50b (A : Option Addr) (n c : Nat) (xs : List DRow) (L : List DescR) (y : Int) (hn : n ≤ 1000000) (hc : n ≤ c) (hs : Small xs) (w : World) (hG : K.G w) (h : Dl w A n xs L) (hr : rightK L = false) (hy : decide (1 ≤ y ∧ y ≤ (n : Int)) = true) :
    Calls Tryd.prog 6 #[.slice A n c, .int .i64 y] w fun e w' => e = .returned (.tuple #[.agg #[.int .i64 0, .slice none 0 0, .int .i64 0, .slice none 0 0], .int .i64 50]) ∧ Ext w w' := by
  have HE := Lib.hid (ext1 w (.cells #[.int .i64 0, .slice none 0 0, .int .i64 0, .slice none 0 0] 27))
  have HB := Lib.hid (Blk.new w #[.int .i64 0, .slice none 0 0, .int .i64 0, .slice none 0 0] 27)
  have HG := Lib.hid (fun W (hW : Ext w W) => hG.ext hW)
  have RK := Lib.hid (fun W (hW : Ext w W) => noKinds_is A n c xs L hn hc hs W (hG.ext hW) (h.ext hW))
  rw [hr] at RK
  clear h hs hG hr
  go_enter Tryd.func6, Tryd.ntmps6
  go_wp2_with (first | (go_at_call 16; refine (RK.out _ HE.out).mono ?_; rintro e w1 ⟨⟨v1, rfl, hv1⟩, k1⟩; have C1 := Lib.hid (show K.Code v1 50 from hv1); obtain ⟨te1, pe1, rfl⟩ := K.code_err C1.out (by decide); clear hv1; have kw := Ext.trans HE.out k1; have bR := HB.out.ext k1) | (go_at_call 17; refine (noKind_is _ _ _ (HG.out _ kw)).mono ?_; rintro e w2 ⟨⟨v2, rfl, hv2⟩, k2⟩; rw [hy] at hv2; obtain rfl := K.code_nil hv2 rfl; clear hv2; have C2 := Lib.hid K.code_0; replace kw := Ext.trans kw k2; replace bR := bR.ext k2) | (go_at_call 15; (refine (K.told2_is 50 0 _ _ _ 45 _ (HG.out _ (Ext.trans kw (ext1 _ _))) (Blk.new _ _ _) C1.out C2.out).mono ?_); rintro e w3 ⟨rfl, k3⟩; replace kw := Ext.trans kw (Ext.trans (ext1 _ _) k3); replace bR := (bR.ext (ext1 _ _)).ext k3; obtain ⟨⟨q0, q1, q2, q3⟩, f0, f1, f2, f3⟩ := cells4 bR; have GG := Lib.hid (And.intro bR kw)))
  obtain ⟨s0, s1, s2, s3, hE⟩ := clone_store (u0 := .int .i64 0) (u1 := .slice none 0 0) (u2 := .int .i64 0) (u3 := .slice none 0 0) GG.out.1 GG.out.2 (Nat.le_refl _)
  exact bodyPost_ret (v := .tuple #[.agg #[.int .i64 0, .slice none 0 0, .int .i64 0, .slice none 0 0], .int .i64 50]) (by simp [results, Tryd.results6, go_sem, s0, s1, s2, s3, K.first2]) rfl ⟨rfl, hE⟩
set_option maxHeartbeats 8000000 in
set_option maxRecDepth 100000 in
theorem kof_51 (A : Option Addr) (n c : Nat) (xs : List DRow) (L : List DescR) (y : Int) (hn : n ≤ 1000000) (hc : n ≤ c) (hs : Small xs) (w : World) (hG : K.G w) (h : Dl w A n xs L) (hr : rightK L = true) (hy : decide (1 ≤ y ∧ y ≤ (n : Int)) = false) :
    Calls Tryd.prog 6 #[.slice A n c, .int .i64 y] w fun e w' => e = .returned (.tuple #[.agg #[.int .i64 0, .slice none 0 0, .int .i64 0, .slice none 0 0], .int .i64 51]) ∧ Ext w w' := by
  have HE := Lib.hid (ext1 w (.cells #[.int .i64 0, .slice none 0 0, .int .i64 0, .slice none 0 0] 27))
  have HB := Lib.hid (Blk.new w #[.int .i64 0, .slice none 0 0, .int .i64 0, .slice none 0 0] 27)
  have HG := Lib.hid (fun W (hW : Ext w W) => hG.ext hW)
  have RK := Lib.hid (fun W (hW : Ext w W) => noKinds_is A n c xs L hn hc hs W (hG.ext hW) (h.ext hW))
  rw [hr] at RK
  clear h hs hG hr
  go_enter Tryd.func6, Tryd.ntmps6
  go_wp2_with (first | (go_at_call 16; refine (RK.out _ HE.out).mono ?_; rintro e w1 ⟨⟨v1, rfl, hv1⟩, k1⟩; obtain rfl := K.code_nil hv1 rfl; clear hv1; have C1 := Lib.hid K.code_0; have kw := Ext.trans HE.out k1; have bR := HB.out.ext k1) | (go_at_call 17; refine (noKind_is _ _ _ (HG.out _ kw)).mono ?_; rintro e w2 ⟨⟨v2, rfl, hv2⟩, k2⟩; rw [hy] at hv2; have C2 := Lib.hid (show K.Code v2 51 from hv2); obtain ⟨te2, pe2, rfl⟩ := K.code_err C2.out (by decide); clear hv2; replace kw := Ext.trans kw k2; replace bR := bR.ext k2) | (go_at_call 15; (refine (K.told2_is 0 51 _ _ _ 45 _ (HG.out _ (Ext.trans kw (ext1 _ _))) (Blk.new _ _ _) C1.out C2.out).mono ?_); rintro e w3 ⟨rfl, k3⟩; replace kw := Ext.trans kw (Ext.trans (ext1 _ _) k3); replace bR := (bR.ext (ext1 _ _)).ext k3; obtain ⟨⟨q0, q1, q2, q3⟩, f0, f1, f2, f3⟩ := cells4 bR; have GG := Lib.hid (And.intro bR kw)))
  obtain ⟨s0, s1, s2, s3, hE⟩ := clone_store (u0 := .int .i64 0) (u1 := .slice none 0 0) (u2 := .int .i64 0) (u3 := .slice none 0 0) GG.out.1 GG.out.2 (Nat.le_refl _)
  exact bodyPost_ret (v := .tuple #[.agg #[.int .i64 0, .slice none 0 0, .int .i64 0, .slice none 0 0], .int .i64 51]) (by simp [results, Tryd.results6, go_sem, s0, s1, s2, s3, K.first2]) rfl ⟨rfl, hE⟩
set_option maxHeartbeats 8000000 in
set_option maxRecDepth 100000 in
theorem kof_ok (A : Option Addr) (n c : Nat) (xs : List DRow) (L : List DescR) (y : Int) (hn : n ≤ 1000000) (hc : n ≤ c) (hs : Small xs) (w : World) (hG : K.G w) (h : Dl w A n xs L) (k : Nat) (d : DescR) (hyk : y = (k : Int) + 1) (hk : k < n) (hd : L[k]? = some d) (hr : rightK L = true) :
    Calls Tryd.prog 6 #[.slice A n c, .int .i64 y] w fun e w' => ∃ r : DRow, e = .returned (.tuple #[.agg r.cells, .int .i64 0]) ∧ Dn w' r d ∧ r.n ≤ 1000 ∧ r.m ≤ 1000 ∧ Ext w w' := by
  have HE := Lib.hid (ext1 w (.cells #[.int .i64 0, .slice none 0 0, .int .i64 0, .slice none 0 0] 27))
  have HB := Lib.hid (Blk.new w #[.int .i64 0, .slice none 0 0, .int .i64 0, .slice none 0 0] 27)
  have HG := Lib.hid (fun W (hW : Ext w W) => hG.ext hW)
  have RK := Lib.hid (fun W (hW : Ext w W) => noKinds_is A n c xs L hn hc hs W (hG.ext hW) (h.ext hW))
  rw [hr] at RK
  subst hyk
  have hy : decide (1 ≤ (k : Int) + 1 ∧ (k : Int) + 1 ≤ (n : Int)) = true := decide_eq_true ⟨by omega, by omega⟩
  obtain ⟨ad, x, d', rfl, hb, hx, hd', hdn, e0, e1, e2, e3⟩ := h.at_ hk
  obtain rfl : d' = d := Option.some.inj (hd'.symm.trans hd)
  have hsm := hs k x hx
  have HX := Lib.hid (And.intro (show (ad.add (k * 4)).block < w.heap.size by rw [block_of_add]; exact hb) (And.intro hsm hdn))
  have cells := Lib.hid (And.intro e0 (And.intro e1 (And.intro e2 e3)))
  have h3 : (k : Int) < n := by omega
  have h4 : 0 ≤ (k : Int) := by omega
  clear hd hd' hdn e0 e1 e2 e3 hx hb hsm
  clear h hs hG hr
  go_enter Tryd.func6, Tryd.ntmps6
  go_wp2_with (first | (go_at_call 16; refine (RK.out _ HE.out).mono ?_; rintro e w1 ⟨⟨v1, rfl, hv1⟩, k1⟩; obtain rfl := K.code_nil hv1 rfl; clear hv1; have C1 := Lib.hid K.code_0; have kw := Ext.trans HE.out k1; have bR := HB.out.ext k1) | (go_at_call 17; refine (noKind_is _ _ _ (HG.out _ kw)).mono ?_; rintro e w2 ⟨⟨v2, rfl, hv2⟩, k2⟩; rw [hy] at hv2; obtain rfl := K.code_nil hv2 rfl; clear hv2; have C2 := Lib.hid K.code_0; replace kw := Ext.trans kw k2; replace bR := bR.ext k2) | (go_at_call 15; (refine (K.told2_is 0 0 _ _ _ 45 _ (HG.out _ (Ext.trans kw (ext1 _ _))) (Blk.new _ _ _) C1.out C2.out).mono ?_); rintro e w3 ⟨rfl, k3⟩; replace kw := Ext.trans kw (Ext.trans (ext1 _ _) k3); replace bR := (bR.ext (ext1 _ _)).ext k3; obtain ⟨⟨q0, q1, q2, q3⟩, f0, f1, f2, f3⟩ := cells4 bR; have GG := Lib.hid (And.intro bR kw); have e0 := (kw.cell (p := ad.add (k * 4)) HX.out.1).trans cells.out.1; have e1 := (kw.cell (p := ⟨(ad.add (k * 4)).block, (ad.add (k * 4)).off + 1, none⟩) HX.out.1).trans cells.out.2.1; have e2 := (kw.cell (p := ⟨(ad.add (k * 4)).block, (ad.add (k * 4)).off + 2, none⟩) HX.out.1).trans cells.out.2.2.1; have e3 := (kw.cell (p := ⟨(ad.add (k * 4)).block, (ad.add (k * 4)).off + 3, none⟩) HX.out.1).trans cells.out.2.2.2; have RO := Lib.hid (one_row (hd := HX.out.2.2.ext kw) (t := 27)); clear q0 q1 q2 q3 f0 f1 f2 f3) | (go_at_call 18; refine (copied_is _ 1 1 [x] [d'] (by decide) (small_one HX.out.2.1) _ RO.out).mono ?_; rintro e w4 ⟨ad', xs', rfl, g1, g2, g3, k4⟩; have hz := GG.out.2.size; have GI := Lib.hid (And.intro g1 k4); clear g1 k4; have bQ := (GG.out.1.ext (ext1 _ _)).ext GI.out.2; obtain ⟨⟨q0, q1, q2, q3⟩, f0, f1, f2, f3⟩ := cells4 bQ; obtain ⟨ad2, r, dr, er, hbr, hrx, hdr, hrn, z0, z1, z2, z3⟩ := GI.out.1.at_ (k := 0) (by decide); obtain rfl := Option.some.inj er; obtain rfl : d' = dr := (by simpa using hdr); rw [Nat.zero_mul, add_0] at z0 z1 z2 z3; have HR := Lib.hid (And.intro hrx (And.intro hrn (And.intro bQ (And.intro (g3.2 0 r hrx) (g2 0 r hrx))))); clear hrx hrn hdr bQ er g2 g3))
  have hz3 : w.heap.size < w3.heap.size := by have := GG.out.1.lt; omega
  have nA : ∀ a, r.A = some a → a.block ≠ w.heap.size := fun a e => by have := HR.out.2.2.2.1.1 a e; simp at this; omega
  have nB : ∀ a, r.B = some a → a.block ≠ w.heap.size := fun a e => by have := HR.out.2.2.2.1.2 a e; simp at this; omega
  obtain ⟨s0, s1, s2, s3, hE⟩ := clone_store (u0 := .int .i64 r.s) (u1 := .slice r.A r.n r.c) (u2 := .int .i64 r.t) (u3 := .slice r.B r.m r.e) HR.out.2.2.1 (Ext.trans GG.out.2 (Ext.trans (ext1 _ _) GI.out.2)) (Nat.le_refl _)
  refine bodyPost_ret (v := .tuple #[.agg r.cells, .int .i64 0]) (by simp [results, Tryd.results6, go_sem, s0, s1, s2, s3, DRow.cells]) rfl ?_
  exact ⟨r, rfl, HR.out.2.1.four w.heap.size 0 1 2 3 _ _ _ _ nA nB, HR.out.2.2.2.2.1, HR.out.2.2.2.2.2, hE⟩
end
theorem kof_is (A : Option Addr) (n c : Nat) (xs : List DRow) (L : List DescR) (y : Int) (hn : n ≤ 1000000) (hc : n ≤ c) (hs : Small xs) (w : World) (hG : K.G w) (h : Dl w A n xs L) :
    Calls Tryd.prog 6 #[.slice A n c, .int .i64 y] w (OfR w L y) := by
  have hll := h.2.1
  have zero : ∀ w' : World, Dn w' ⟨0, none, 0, 0, 0, none, 0, 0⟩ ⟨0, [], 0, []⟩ := fun w' => ⟨rfl, rfl, ⟨rfl, fun h => absurd h (by decide)⟩, ⟨rfl, fun h => absurd h (by decide)⟩, Nat.le_refl _, Nat.le_refl _, by decide, by decide⟩
  by_cases h0 : ofE L y = 0
  · obtain ⟨hr, k, d, hyk, hk, hd, hD, _⟩ := of_num L y h0
    refine (kof_ok A n c xs L y hn hc hs w hG h k d hyk (by omega) hd hr).mono ?_
    rintro e w' ⟨r, rfl, a1, a2, a3, k'⟩
    exact ⟨r, by rw [h0], by rw [hD]; exact a1, a2, a3, k'⟩
  · have hD : ofD L y = ⟨0, [], 0, []⟩ := by unfold ofD; rw [if_neg h0]
    rcases of_err L y h0 with ⟨hr, e⟩ | ⟨hr, e, hy⟩
    · cases hy : decide (1 ≤ y ∧ y ≤ (n : Int))
      · refine (kof_50a A n c xs L y hn hc hs w hG h hr hy).mono ?_
        rintro e' w' ⟨rfl, k⟩
        exact ⟨⟨0, none, 0, 0, 0, none, 0, 0⟩, by rw [e]; rfl, by rw [hD]; exact zero _, by decide, by decide, k⟩
      · refine (kof_50b A n c xs L y hn hc hs w hG h hr hy).mono ?_
        rintro e' w' ⟨rfl, k⟩
        exact ⟨⟨0, none, 0, 0, 0, none, 0, 0⟩, by rw [e]; rfl, by rw [hD]; exact zero _, by decide, by decide, k⟩
    · refine (kof_51 A n c xs L y hn hc hs w hG h hr (decide_eq_false (by omega))).mono ?_
      rintro e' w' ⟨rfl, k⟩
      exact ⟨⟨0, none, 0, 0, 0, none, 0, 0⟩, by rw [e]; rfl, by rw [hD]; exact zero _, by decide, by decide, k⟩
end Go.Proofs.YtopgbggighaknaaDoor
/- kinds: Print. -/
namespace Go.Proofs.YtopgbggighaknaaDoor
open Go.RowKit Go
theorem textK_take : ∀ (L : List DescR) (k : Nat), (textK (L.take k)).length ≤ (textK L).length
  | [], k => by simp
  | d :: L, 0 => by simp [textK]
  | d :: L, k + 1 => by
    have ih := textK_take L k
    have e1 : textK (d :: L) = textS d ++ [10] ++ textK L := by simp [textK]
    have e2 : textK ((d :: L).take (k + 1)) = textS d ++ [10] ++ textK (L.take k) := by simp [textK]
    rw [e1, e2]
    simp only [List.length_append]
    omega
section
set_option maxHeartbeats 8000000 in
set_option maxRecDepth 100000 in
theorem kprint_is (A : Option Addr) (n c : Nat) (xs : List DRow) (L : List DescR) (hn : n ≤ 1000) (hc : n ≤ c) (hs : Small xs) (hT : rightK L = true → (textK L).length ≤ 900000) (w : World) (hG : K.G w) (hTab : HTab w) (h : Dl w A n xs L) :
    Calls Tryd.prog 11 #[.slice A n c] w fun e w' => e = .returned (.tuple #[.string ⟨(textKV L).toArray⟩, .int .i64 (textKE L)]) ∧ Ext w w' := by
  have R := Lib.hid (noKinds_is A n c xs L (by omega) hc hs w hG h)
  have HG := Lib.hid (fun W (hW : Ext w W) => hG.ext hW)
  have HB := Lib.hid (fun W (hW : Ext w W) => hTab.ext hW)
  have H := Lib.hid (And.intro h hs)
  clear h hs hG hTab
  by_cases hr : rightK L = true
  · have hall := ((rightK_iff L).1 hr).1
    have HL := Lib.hid (And.intro hall (fun k => Nat.le_trans (textK_take L k) (hT hr)))
    have HV := Lib.hid (show Value.tuple #[.string ⟨(textK L).toArray⟩, .int .i64 0] = .tuple #[.string ⟨(textKV L).toArray⟩, .int .i64 (textKE L)] by rw [textKV, textKE, if_pos hr, if_pos hr])
    rw [hr] at R
    clear hall hT hr
    go_enter Tryd.func11, Tryd.ntmps11
    go_wp2_with (first | (go_at_call 16; refine R.out.mono ?_; rintro e w1 ⟨⟨v, rfl, hv⟩, k1⟩; obtain rfl := K.code_nil hv rfl; clear hv) | (go_at_call 15; (refine (K.told1_is 0 .nilIface _ 45 _ (HG.out _ (Ext.trans k1 (ext1 _ _))) (Blk.new _ _ _) K.code_0).mono ?_); rintro e w2 ⟨rfl, k2⟩))
    have k3 := Ext.trans k1 (Ext.trans (ext1 _ _) k2)
    have hB0 := Lib.fresh_isBuilder 56 5 w2
    have hle := k3.size
    go_loopg [7, 8, 9, 19] n (fun m v7 v8 v9 i wr => ∃ k : Nat, k + m = n ∧ i = .int .i64 k ∧ IsB w2.heap.size w2.heap.size (textK (L.take k)) wr ∧ Ext w wr ∧ w2.heap.size ≤ wr.heap.size)
    case atStart => exact ⟨0, by omega, rfl, hB0, Ext.trans k3 (ext1 _ _), by simp⟩
    case round =>
      obtain ⟨k, hk, rfl, hIB, hE, hz⟩ := hrel
      by_cases hlt : k < n
      · obtain ⟨ad, x, d, rfl, hb, hx, hd, hdn, e0, e1, e2, e3⟩ := (H.out.1.ext hE).at_ hlt
        have hsm := H.out.2 k x hx
        have hrd := HL.out.1 d (List.mem_of_getElem? hd)
        have EX := Lib.hid (ext1 wr (.cells #[.int .i64 x.s, .slice x.A x.n x.c, .int .i64 x.t, .slice x.B x.m x.e] 27))
        have RP := Lib.hid (dprint_is x.A x.B x.n x.m x.c x.e x.s x.t d.ptrs d.eptrs hsm.1 hsm.2 _ (HG.out _ (Ext.trans hE EX.out)).g (HB.out _ (Ext.trans hE EX.out)) (hdn.p.ext EX.out) (hdn.q.ext EX.out))
        rw [hdn.eq, textV, textE, if_pos hrd, if_pos hrd] at RP
        simp only [tvv] at RP
        have h5 : (k : Int) < n := by omega
        have h6 : (k : Int) + 1 ≤ 1000 := by omega
        have z2 : (textS d).length ≤ 20000 := textS_len d hrd (by rw [hdn.p.1]; exact hsm.1) (by rw [hdn.q.1]; exact hsm.2)
        have z3 : (⟨(textS d).toArray⟩ : ByteArray).size ≤ 20000 := by show (textS d).toArray.size ≤ _; simpa using z2
        have hst := textK_step L k d hd
        have W := Lib.hid (fun (W : World) (hE' : Ext wr W) => writeString_is w2.heap.size w2.heap.size (textK (L.take k)) (textS d ++ [10]) W (hIB.ext hE') (by have := HL.out.2 k; simp only [List.length_append, List.length_singleton]; omega) (Nat.le_trans hz hE'.size))
        have hcat : (⟨(textS d).toArray⟩ : ByteArray) ++ ⟨#[10]⟩ = ⟨(textS d ++ [10]).toArray⟩ := by rw [show ByteArray.mk #[10] = ⟨[10].toArray⟩ from rfl, cat_tv]
        have HK := Lib.hid (And.intro hk (And.intro hE (And.intro hst hcat)))
        clear hk hE hx hd hdn hsm hrd hb hst hIB hcat z2
        generalize (⟨(textS d).toArray⟩ : ByteArray) = X at *
        go_wp2_with (first | (go_at_call 23; refine RP.out.mono ?_; rintro e w4 ⟨rfl, k4⟩) | (go_at_call 24; rw [HK.out.2.2.2]; refine (W.out _ (Ext.trans EX.out k4)).mono ?_; rintro e w5 ⟨rfl, b5, k5⟩))
        go_roundg (gk - 1)
        case measure => have := HK.out.1; omega
        case rel =>
          refine ⟨k + 1, by have := HK.out.1; omega, by go_num, ?_, Below.trans (Ext.trans HK.out.2.1 (Ext.trans EX.out k4)) (k5.mono hle), Nat.le_trans hz (Nat.le_trans (Ext.trans EX.out k4).size k5.size)⟩
          rw [HK.out.2.2.1, List.append_assoc]; exact b5
      · obtain rfl : k = n := by omega
        have h5 : ¬ (k : Int) < k := by omega
        rw [List.take_of_length_le (by rw [H.out.1.2.1]; exact Nat.le_refl _)] at hIB
        have S := Lib.hid (Tryd.Builder_String_any w2.heap.size w2.heap.size (textK L) wr hIB hz)
        have HX := Lib.hid hE
        clear hE hk hIB
        go_wp2_with (go_at_call 25; (refine S.out.mono ?_); rintro e w4 ⟨rfl, k4⟩)
        go_ret2
        exact ⟨ret_val HV.out, Below.trans HX.out (k4.mono hle)⟩
  · have hr' : rightK L = false := by simpa using hr
    have HV := Lib.hid (show Value.tuple #[.string ⟨#[]⟩, .int .i64 50] = .tuple #[.string ⟨(textKV L).toArray⟩, .int .i64 (textKE L)] by rw [textKV, textKE, if_neg hr, if_neg hr])
    rw [hr'] at R
    clear hr hr' hT
    go_enter Tryd.func11, Tryd.ntmps11
    go_wp2_with (first | (go_at_call 16; refine R.out.mono ?_; rintro e w1 ⟨⟨v, rfl, hv⟩, k1⟩; have HC := Lib.hid (show K.Code v 50 from hv); obtain ⟨te, pe, rfl⟩ := K.code_err HC.out (by decide); clear hv) | (go_at_call 15; (refine (K.told1_is 50 _ _ 45 _ (HG.out _ (Ext.trans k1 (ext1 _ _))) (Blk.new _ _ _) HC.out).mono ?_); rintro e w2 ⟨rfl, k2⟩))
    go_ret2
    exact ⟨ret_val HV.out, Ext.trans k1 (Ext.trans (ext1 _ _) k2)⟩
end
end Go.Proofs.YtopgbggighaknaaDoor
/- kinds: what a reader has read, in memory; a change of some blocks. -/
namespace Go.Proofs.YtopgbggighaknaaDoor
open Go.RowKit Go
/-- Of the blocks that were there all but u's lie as they lay. -/
structure ChgU (u : Nat → Prop) (w w' : World) : Prop where
  os : w'.os = w.os
  tape : w'.tape = w.tape
  output : w'.output = w.output
  size : w.heap.size ≤ w'.heap.size
  block : ∀ k, k < w.heap.size → ¬ u k → w'.heap[k]? = w.heap[k]?
theorem ChgU.of_ext {u : Nat → Prop} {a b : World} (h : Ext a b) : ChgU u a b := ⟨h.os, h.tape, h.output, h.size, fun i hi _ => h.block i hi⟩
theorem ChgU.trans {u v : Nat → Prop} {a b c : World} (h : ChgU u a b) (k : ChgU v b c) (hv : ∀ i, i < a.heap.size → v i → u i) : ChgU u a c :=
  ⟨k.os.trans h.os, k.tape.trans h.tape, k.output.trans h.output, Nat.le_trans h.size k.size, fun i hi hn => (k.block i (Nat.lt_of_lt_of_le hi h.size) (fun hvi => hn (hv i hi hvi))).trans (h.block i hi hn)⟩
theorem ChgU.ext {u : Nat → Prop} {a b c : World} (h : ChgU u a b) (k : Ext b c) : ChgU u a c := h.trans (ChgU.of_ext (u := u) k) (fun _ _ h => h)
theorem ChgU.of_grown {a b : World} {o : Option Nat} (h : a.grownBy b o) : ChgU (fun k => o = some k) a b := ⟨h.os, h.tape, h.output, h.size, fun i hi hn => h.block i hi (fun e => hn e.symm)⟩
theorem ChgU.of_set (a : World) (p : Addr) (v : Value) : ChgU (fun k => k = p.block) a (a.setCell p v) := ⟨rfl, rfl, rfl, by simp, fun i _ hn => Below.heap_setCell _ _ _ _ hn⟩
theorem ChgU.below {u : Nat → Prop} {B : Nat} {a b c : World} (h : Below B a b) (k : ChgU u b c) (hu : ∀ i, u i → B ≤ i) (hB : B ≤ b.heap.size) : Below B a c :=
  h.trans ⟨k.os, k.tape, k.output, k.size, fun i hi => k.block i (by omega) (fun hui => by have := hu i hui; omega)⟩
theorem Blk.chgU {u : Nat → Prop} {W W' : World} {B : Nat} {cs : Array Value} {t : TypeId} (h : Blk W B cs t) (k : ChgU u W W') (hn : ¬ u B) : Blk W' B cs t := (k.block B h.lt hn).trans h
theorem Il.chgU {u : Nat → Prop} {W W' : World} {A : Option Addr} {n : Nat} {l : List Int} (h : Il W A n l) (k : ChgU u W W') (hn : 0 < n → ∀ ad, A = some ad → ¬ u ad.block) : Il W' A n l :=
  ⟨h.1, fun h0 => by
    obtain ⟨ad, e, hb, hc⟩ := h.2 h0
    exact ⟨ad, e, Nat.lt_of_lt_of_le hb k.size, fun j hj => (World.cell?_of_block (w := W) (a := ad.add j) (by rw [block_of_add]; exact k.block _ hb (hn h0 ad e))).trans (hc j hj)⟩⟩
theorem Dn.chgU {u : Nat → Prop} {W W' : World} {x : DRow} {d : DescR} (h : Dn W x d) (k : ChgU u W W') (hA : 0 < x.n → ∀ ad, x.A = some ad → ¬ u ad.block) (hB : 0 < x.m → ∀ ad, x.B = some ad → ¬ u ad.block) : Dn W' x d :=
  ⟨h.s, h.t, h.p.chgU k hA, h.q.chgU k hB, h.pc, h.qc, h.pm, h.qm⟩
theorem ownN_keep {w w' : World} {base : Nat} {e : TypeId} {size : Nat} {v : Value} {n : Nat} {xs : List Value} (h : w.ownsRow base e size v n xs) (k : ∀ g, v.ownBlock = some g → w'.heap[g]? = w.heap[g]?) : w'.ownsRow base e size v n xs := by
  obtain ⟨hl, h⟩ := h
  refine ⟨hl, ?_⟩
  rcases h with ⟨rfl, rfl⟩ | ⟨g, cap, cur, rfl, hb, hg, r⟩
  · exact .inl ⟨rfl, rfl⟩
  · exact .inr ⟨g, cap, cur, rfl, hb, (k g rfl).trans hg, r⟩
/-- What a reader at block b has read: its row, its map (block M). -/
structure Kn (W : World) (b M : Nat) (A : Option Addr) (n c : Nat) (ys : List DRow) (out : List DescR) (x2 x3 : Value) : Prop where
  blk : Blk W b #[.slice A n c, .map (some M), x2, x3] 65
  cnt : out.length = n
  own : W.ownsRow (b + 2) 27 4 (.slice A n c) n (flatD ys)
  len : ys.length = n
  rows : Ys W (.slice A n c) ys out
  far : ∀ (i : Nat) (y : DRow), ys[i]? = some y → (∀ ad, y.A = some ad → b < ad.block) ∧ (∀ ad, y.B = some ad → b < ad.block)
  small : Small ys
  mb : M < b
  map : ∃ D : DataW Unit, W.ownsMap Tryd.prog 9 (plainElem Tryd.prog 3) M n D ∧ ∀ t : List UInt8, Maps.has D (.string t) = decide (∃ d ∈ out, textS d = t)
theorem Kn.ext {W W' : World} {b M n c : Nat} {A : Option Addr} {ys : List DRow} {out : List DescR} {x2 x3 : Value} (h : Kn W b M A n c ys out x2 x3) (k : Ext W W') : Kn W' b M A n c ys out x2 x3 := by
  refine ⟨h.blk.ext k, h.cnt, ownN_ext h.own k, h.len, h.rows.ext k, h.far, h.small, h.mb, ?_⟩
  obtain ⟨D, hm, hD⟩ := h.map
  have hlt := hm.lt
  obtain ⟨es, clock, hb, r⟩ := hm
  exact ⟨D, ⟨es, clock, (k.block M hlt).trans hb, r⟩, hD⟩
/-- The reader's other two cells, set. -/
theorem Kn.set23 {W : World} {b M n c : Nat} {A : Option Addr} {ys : List DRow} {out : List DescR} {x2 x3 : Value} (h : Kn W b M A n c ys out x2 x3) (u2 u3 : Value) : Kn ((W.setCell ⟨b, 2, none⟩ u2).setCell ⟨b, 3, none⟩ u3) b M A n c ys out u2 u3 := by
  have hB := (h.blk.set 2 u2).set 3 u3
  simp only [List.setIfInBounds_toArray, List.set_cons_zero, List.set_cons_succ] at hB
  have hk : ChgU (fun k => k = b) W ((W.setCell ⟨b, 2, none⟩ u2).setCell ⟨b, 3, none⟩ u3) := (ChgU.of_set W ⟨b, 2, none⟩ u2).trans (ChgU.of_set _ ⟨b, 3, none⟩ u3) (fun _ _ h => h)
  have hown : ∀ g, (Value.slice A n c).ownBlock = some g → b + 2 ≤ g := fun g hg => ownN_block h.own g hg
  refine ⟨hB, h.cnt, ownN_keep h.own (fun g hg => hk.block g (World.ownsRow.lt h.own g hg).2 (by have := hown g hg; show ¬ g = b; omega)), h.len, fun i y d h1 h2 => ?_, h.far, h.small, h.mb, ?_⟩
  · obtain ⟨q1, q2⟩ := h.rows i y d h1 h2
    have f := h.far i y h1
    exact ⟨q1.chgU hk (fun _ ad e => by have := f.1 ad e; show ¬ ad.block = b; omega) (fun _ ad e => by have := f.2 ad e; show ¬ ad.block = b; omega), q2⟩
  · obtain ⟨D, hm, hD⟩ := h.map
    have := h.mb
    exact ⟨D, (hm.setCell (a := ⟨b, 2, none⟩) (by show M ≠ b; omega) u2).setCell (a := ⟨b, 3, none⟩) (by show M ≠ b; omega) u3, hD⟩
/-- The blocks that reading may turn. -/
def Ub (b M : Nat) (v : Value) : Nat → Prop := fun k => k = b ∨ k = M ∨ v.ownBlock = some k
theorem text_inj {d d' : DescR} (h : rightB d = true) (h' : rightB d' = true) (e : textS d = textS d') : d = d' := by
  have h1 := parse_text d h
  rw [e, parse_text d' h'] at h1
  exact (Option.some.inj h1).symm
theorem has_text {out : List DescR} {d : DescR} (hd : rightB d = true) (hall : ∀ x ∈ out, rightB x = true) : decide (∃ x ∈ out, textS x = textS d) = decide (d ∈ out) := by
  rw [decide_eq_decide]
  constructor
  · rintro ⟨x, hx, e⟩
    rw [← text_inj (hall x hx) hd e]; exact hx
  · intro h; exact ⟨d, h, rfl⟩
end Go.Proofs.YtopgbggighaknaaDoor
/- kinds: learn. -/
namespace Go.Proofs.YtopgbggighaknaaDoor
open Go.RowKit Go Go.Maps Go.WideMaps
theorem strKeyed : Keyed Tryd.prog 9 := string_keyed Tryd.underlying9
theorem zeroI (w : World) : (zeroValue 3).run Tryd.prog w = .ok (.int .i64 0) w := by kernel_rfl
theorem keyT (t : List UInt8) (h : t.length ≤ 1000000) : keyOf Tryd.prog 9 (.string ⟨t.toArray⟩) = some (.string t) :=
  keyOf_string_mk Tryd.underlying9 (by show t.toArray.size ≤ _; simp [maxLen]; omega)
section
variable (b M : Nat) (A : Option Addr) (n c : Nat) (ys : List DRow) (out : List DescR) (x2 x3 : Value) (x : DRow) (d : DescR) (t : List UInt8)
set_option maxHeartbeats 8000000 in
set_option maxRecDepth 100000 in
theorem learn_twice (w : World) (hG : K.G w) (h : Kn w b M A n c ys out x2 x3) (ht : t.length ≤ 1000000) (hh : decide (∃ d ∈ out, textS d = t) = true) :
    Calls Tryd.prog 48 #[.pointer (some ⟨b, 0, none⟩), .string ⟨t.toArray⟩, .agg x.cells] w fun e w' => (∃ v, e = .returned v ∧ K.Code v 52) ∧ Ext w w' := by
  obtain ⟨te, pe, g0⟩ := hG.k2
  obtain ⟨D, hown, hD⟩ := h.map
  have hhas := (hD t).trans hh
  have E1 := ext1 w (.cells x.cells 27)
  have c1 := (h.blk.ext E1).cell 1
  have gT := hG.glob (by decide) g0 E1
  have HE := Lib.hid E1
  have HK := Lib.hid (keyT t ht)
  have HO := Lib.hid (hown.alloc (.cells x.cells 27))
  simp only [List.getElem?_toArray, List.getElem?_cons_zero, List.getElem?_cons_succ] at c1
  simp only [DRow.cells] at *
  clear h hD hh hown hG g0 E1
  go_enter Tryd.func48, Tryd.ntmps48
  go_wp2_with (at_lookup; refine wpList_lookup_own_ok_int _ rfl _ _ 61 rfl 9 3 .i64 strKeyed Tryd.underlying61 Tryd.underlying3 (zeroI _) M n D rfl HO.out _ _ rfl HK.out ?_; intro cc hat hwc; clear hat hwc)
  go_ret
  exact ⟨⟨_, rfl, K.code_errW 52 (by decide) _ _⟩, HE.out⟩
set_option maxHeartbeats 8000000 in
set_option maxRecDepth 100000 in
theorem learn_many (w : World) (hG : K.G w) (h : Kn w b M A n c ys out x2 x3) (hn : n = 60) (ht : t.length ≤ 1000000) (hh : decide (∃ d ∈ out, textS d = t) = false) :
    Calls Tryd.prog 48 #[.pointer (some ⟨b, 0, none⟩), .string ⟨t.toArray⟩, .agg x.cells] w fun e w' => (∃ v, e = .returned v ∧ K.Code v 53) ∧ Ext w w' := by
  obtain ⟨D, hown, hD⟩ := h.map
  have hhas := (hD t).trans hh
  have E1 := ext1 w (.cells x.cells 27)
  have c1 := (h.blk.ext E1).cell 1
  have c0 := (h.blk.ext E1).cell 0
  have HE := Lib.hid E1
  have HN := Lib.hid hn
  have HK := Lib.hid (keyT t ht)
  have HO := Lib.hid (hown.alloc (.cells x.cells 27))
  have HG := Lib.hid (hG.ext E1)
  simp only [List.getElem?_toArray, List.getElem?_cons_zero, List.getElem?_cons_succ] at c0 c1
  simp only [DRow.cells] at *
  clear h hD hh hown hG hn E1
  go_enter Tryd.func48, Tryd.ntmps48
  go_wp2_with (first | (at_lookup; refine wpList_lookup_own_ok_int _ rfl _ _ 61 rfl 9 3 .i64 strKeyed Tryd.underlying61 Tryd.underlying3 (zeroI _) M n D rfl HO.out _ _ rfl HK.out ?_; intro cc hat hwc; clear hat hwc) | (go_at_call 21; refine (noRoom_is n _ HG.out).mono ?_; rintro e w4 ⟨⟨v4, rfl, hv4⟩, k4⟩; rw [decide_eq_false (by have := HN.out; omega)] at hv4; have C4 := Lib.hid (show K.Code v4 53 from hv4); obtain ⟨te4, pe4, rfl⟩ := K.code_err C4.out (by decide); clear hv4))
  go_ret
  exact ⟨⟨_, rfl, C4.out⟩, Ext.trans HE.out k4⟩
set_option maxHeartbeats 8000000 in
set_option maxRecDepth 100000 in
theorem learn_new (w : World) (hG : K.G w) (h : Kn w b M A n c ys out x2 x3) (hn : n < 60) (hx : Dn w x d) (hx1 : x.n ≤ 1000) (hx2 : x.m ≤ 1000) (hA : ∀ ad, x.A = some ad → b < ad.block ∧ (Value.slice A n c).ownBlock ≠ some ad.block) (hB : ∀ ad, x.B = some ad → b < ad.block ∧ (Value.slice A n c).ownBlock ≠ some ad.block)
    (ht : (textS d).length ≤ 1000000) (hh : decide (∃ e ∈ out, textS e = textS d) = false) :
    Calls Tryd.prog 48 #[.pointer (some ⟨b, 0, none⟩), .string ⟨(textS d).toArray⟩, .agg x.cells] w fun e w' => e = .returned .nilIface ∧
      (∃ A' c', Kn w' b M A' (n + 1) c' (ys ++ [x]) (out ++ [d]) x2 x3 ∧ (∀ g, (Value.slice A' (n + 1) c').ownBlock = some g → (Value.slice A n c).ownBlock = some g ∨ w.heap.size ≤ g)) ∧ ChgU (Ub b M (.slice A n c)) w w' := by
  obtain ⟨D, hown, hD⟩ := h.map
  obtain ⟨i0, hi0⟩ := info_desc
  have HI := Lib.hid hi0
  have hhas := (hD (textS d)).trans hh
  have HDT := Lib.hid hD
  have E1 := ext1 w (.cells x.cells 27)
  have hK1 := h.ext E1
  have bX := Blk.new w x.cells 27
  have c1 := hK1.blk.cell 1
  have c0 := hK1.blk.cell 0
  have HE := Lib.hid E1
  have HN := Lib.hid hn
  have HK := Lib.hid (keyT (textS d) ht)
  have HO := Lib.hid (hown.alloc (.cells x.cells 27))
  have HG := Lib.hid (hG.ext E1)
  have HS := Lib.hid (And.intro h (And.intro hK1 (And.intro bX (And.intro hx (And.intro hx1 (And.intro hx2 (And.intro hA hB)))))))
  have hlb : b < w.heap.size := h.blk.lt
  simp only [List.getElem?_toArray, List.getElem?_cons_zero, List.getElem?_cons_succ] at c0 c1
  obtain ⟨xs, xA, xn, xc, xt, xB, xm, xe⟩ := x
  simp only [DRow.cells] at HE HO HG c0 c1 HS ⊢
  have hn61 : (n : Int) < 60 := by omega
  clear h hD hh hown hG hn E1 hK1 bX hx hx1 hx2 hA hB hi0
  go_enter Tryd.func48, Tryd.ntmps48
  go_wp2_with (first | (at_lookup; refine wpList_lookup_own_ok_int _ rfl _ _ 61 rfl 9 3 .i64 strKeyed Tryd.underlying61 Tryd.underlying3 (zeroI _) M n D rfl HO.out _ _ rfl HK.out ?_; intro cc hat hwc; clear hat hwc) | (go_at_call 21; refine (noRoom_is n _ HG.out).mono ?_; rintro e w4 ⟨⟨v4, rfl, hv4⟩, k4⟩; rw [decide_eq_true HN.out] at hv4; obtain rfl := K.code_nil hv4 rfl; clear hv4))
  have hK4 := HS.out.2.1.ext k4
  have bX4 := HS.out.2.2.1.ext k4
  have hz4 : w.heap.size < w4.heap.size := by have := k4.size; simp at this; omega
  letI : F.Free := ⟨fun j => (Value.slice A n c).ownBlock = some j⟩
  have hob : (Value.slice A n c).ownBlock ≠ some b := fun e => by have := ownN_block hK4.own b e; omega
  have hoM : (Value.slice A n c).ownBlock ≠ some M := fun e => by have := ownN_block hK4.own M e; have := hK4.mb; omega
  have hox : (Value.slice A n c).ownBlock ≠ some w.heap.size := fun e => by have := (World.ownsRow.lt HS.out.1.own _ e).2; omega
  refine F.wp_region_XT2 11 8 rfl (by kernel_rfl) (by kernel_rfl) ?_
  intro HDD
  refine F.wpH2_segL HDD 0 6 2 rfl rfl (F.ExtF.refl _) (by kernel_rfl) ?_
  apply Exists.intro
  refine ⟨fun cw => ?_, ?_⟩
  · have p0 := on_cell ((show Blk cw.w b _ _ from (cw.h.block b hK4.blk.lt hob).trans hK4.blk).cell 0)
    have q0 := on_cell ((show Blk cw.w w.heap.size _ _ from (cw.h.block _ bX4.lt hox).trans bX4).cell 0)
    have q1 := on_cell ((show Blk cw.w w.heap.size _ _ from (cw.h.block _ bX4.lt hox).trans bX4).cell 1)
    have q2 := on_cell ((show Blk cw.w w.heap.size _ _ from (cw.h.block _ bX4.lt hox).trans bX4).cell 2)
    have q3 := on_cell ((show Blk cw.w w.heap.size _ _ from (cw.h.block _ bX4.lt hox).trans bX4).cell 3)
    simp only [List.take_succ_cons, List.take_zero, List.drop_zero]
    repeat (go_big_quiet_step (fail))
    exact wpQuiet_nil rfl
  refine F.wpH2_stepL 6 1 rfl rfl rfl (by kernel_rfl) ?_
  intro V5 hV5 KK hK
  go_simp
  have X5 := Ext.trans hV5 (ext1 V5 (.cells (DRow.mk xs xA xn xc xt xB xm xe).cells 27))
  refine hK.out _ _ (F.ExtF.of_ext X5) ?_
  clear hK KK
  refine F.wpH2_stepL 7 0 rfl rfl rfl (by kernel_rfl) ?_
  intro V6 hV6 KK hK
  rw [if_pos (show Region.wanted _ _ = true from rfl)]
  refine wp_append_row (.tmp 36) (.tmp 38) 22 ?_ (b + 2) 27 i0 (.agg #[.int .i64 0, .slice none 0 0, .int .i64 0, .slice none 0 0]) 4 64 Tryd.underlying22 HI.out.1 HI.out.2.1 HI.out.2.2.1 HI.out.2.2.2 rfl (by decide) (.slice A n c) n (flatD ys) ?_ (hK4.ext (Ext.trans X5 hV6)).own ⟨V5.heap.size, 0, none⟩ 1 (DRow.mk xs xA xn xc xt xB xm xe).cells.toList ?_ rfl (fun j u hj => ?_) (row_one _) (by unfold maxLen; omega) (by omega) (by have := (Ext.trans X5 hV6).size; omega) ?_
  · rfl
  · rfl
  · rfl
  · have h0 := new_cells1 V5 (DRow.mk xs xA xn xc xt xB xm xe).cells 27 j u (by simpa [DRow.cells] using hj)
    exact (hV6.cell (by rw [block_of_add]; show V5.heap.size < (V5.alloc _).heap.size; rw [World.size_alloc]; omega)).trans h0
  intro v' V7 hown7 hgrow hnew
  have X6 := Ext.trans X5 hV6
  have hK6 := hK4.ext X6
  have hYs6 : Ys V6 (.slice A n c) (ys ++ [DRow.mk xs xA xn xc xt xB xm xe]) (out ++ [d]) :=
    (hK6.rows.appL (by rw [hK6.len, hK6.cnt]; exact Nat.le_refl _)).snoc (k := n) hK6.len (by rw [List.getElem?_append_right (by rw [hK6.cnt]; exact Nat.le_refl _), hK6.cnt]; simp) (HS.out.2.2.2.1.ext (Ext.trans HE.out (Ext.trans k4 X6))) (fun a1 e1 => (HS.out.2.2.2.2.2.2.1 a1 e1).2) (fun a1 e1 => (HS.out.2.2.2.2.2.2.2 a1 e1).2)
  have hYs7 := hYs6.grown hgrow hnew
  have bK7 : Blk V7 b #[.slice A n c, .map (some M), x2, x3] 65 := (hgrow.block b hK6.blk.lt (fun e => hob e.symm)).trans hK6.blk
  have hM7 : V7.ownsMap Tryd.prog 9 (plainElem Tryd.prog 3) M n D := by
    have hMl := HO.out.lt
    have h4 : w4.ownsMap Tryd.prog 9 (plainElem Tryd.prog 3) M n D := by
      obtain ⟨es, clock, hb, r⟩ := HO.out
      exact ⟨es, clock, (k4.block M hMl).trans hb, r⟩
    have hMl4 := h4.lt
    have h6 : V6.ownsMap Tryd.prog 9 (plainElem Tryd.prog 3) M n D := by
      obtain ⟨es, clock, hb, r⟩ := h4
      exact ⟨es, clock, (X6.block M hMl4).trans hb, r⟩
    exact h6.kept hgrow (fun e => hoM e.symm)
  obtain ⟨A7, c7, rfl, hmc, hrow, _⟩ := rows_of_own (xs := ys ++ [DRow.mk xs xA xn xc xt xB xm xe]) (by rw [flatD_snoc]; exact hown7) (by rw [List.length_append, hK6.len]; rfl)
  simp only [Act.put, List.setIfInBounds_toArray, List.set_cons_succ, List.set_cons_zero]
  refine hK.out _ _ ((F.ExtF.of_ext X6).trans ⟨hgrow.os, hgrow.tape, hgrow.output, hgrow.size, fun i hi hn => hgrow.block i hi (fun e => hn e.symm)⟩) ?_
  clear hK KK
  have CH7 := Lib.hid ((ChgU.of_ext (u := Ub b M (.slice A n c)) (Ext.trans HE.out (Ext.trans k4 X6))).trans (ChgU.of_grown hgrow) (fun _ _ h => .inr (.inr h)))
  have HF7 := Lib.hid (And.intro hown7 (And.intro hYs7 (And.intro bK7 (And.intro hM7 hnew))))
  have hz7 : w.heap.size < V7.heap.size := by have := hgrow.size; have := X6.size; omega
  have hz6 : w.heap.size ≤ V6.heap.size := by have := X6.size; omega
  clear hown7 hYs7 bK7 hM7 hnew hgrow X5 X6 hK6 hYs6 hV5 hV6 hmc hrow
  refine F.wpH2_end (fun V8 hV8 => ⟨by kernel_rfl, ?_⟩)
  have b8 := HF7.out.2.2.1.ext hV8
  have q0 := b8.cell 0
  have q1 := b8.cell 1
  have f0 := b8.frozen 0
  simp only [List.getElem?_toArray, List.getElem?_cons_zero, List.getElem?_cons_succ] at q0 q1
  simp only [List.drop_succ_cons, List.drop_zero]
  clear HDD
  go_wp2
  clear q0 q1 f0
  have g7 : ∀ g, (Value.slice A7 (n + 1) c7).ownBlock = some g → b + 2 ≤ g := fun g hg => ownN_block HF7.out.1 g hg
  have nb : (Value.slice A7 (n + 1) c7).ownBlock ≠ some b := fun e => by have := g7 b e; omega
  have b9 := b8.set 0 (.slice A7 (n + 1) c7)
  simp only [List.setIfInBounds_toArray, List.set_cons_zero] at b9
  have C9 := (ChgU.of_ext (u := fun k => k = b) hV8).trans (ChgU.of_set V8 ⟨b, 0, none⟩ (.slice A7 (n + 1) c7)) (fun _ _ h => h)
  have CH9 := Lib.hid (CH7.out.trans C9 (fun _ _ h => .inl h))
  have hfar : ∀ (i : Nat) (y : DRow), (ys ++ [DRow.mk xs xA xn xc xt xB xm xe])[i]? = some y → (∀ ad, y.A = some ad → b < ad.block) ∧ (∀ ad, y.B = some ad → b < ad.block) := fun i y hy => by
    rcases Nat.lt_or_ge i ys.length with hi | hi
    · rw [List.getElem?_append_left hi] at hy; exact HS.out.1.far i y hy
    · rw [List.getElem?_append_right hi] at hy
      have hm := List.mem_of_getElem? hy
      obtain rfl : y = DRow.mk xs xA xn xc xt xB xm xe := by simpa using hm
      exact ⟨fun ad e => (HS.out.2.2.2.2.2.2.1 ad e).1, fun ad e => (HS.out.2.2.2.2.2.2.2 ad e).1⟩
  have hY9 : Ys (V8.setCell ⟨b, 0, none⟩ (.slice A7 (n + 1) c7)) (.slice A7 (n + 1) c7) (ys ++ [DRow.mk xs xA xn xc xt xB xm xe]) (out ++ [d]) := fun i y d' h1 h2 => by
    obtain ⟨r1, r2⟩ := HF7.out.2.1 i y d' h1 h2
    have f := hfar i y h1
    exact ⟨r1.chgU C9 (fun _ ad e => by have := f.1 ad e; show ¬ ad.block = b; omega) (fun _ ad e => by have := f.2 ad e; show ¬ ad.block = b; omega), r2⟩
  have own9 := ownN_keep HF7.out.1 (fun g hg => C9.block g (World.ownsRow.lt HF7.out.1 g hg).2 (by have := g7 g hg; show ¬ g = b; omega))
  have M9 : (V8.setCell ⟨b, 0, none⟩ (.slice A7 (n + 1) c7)).ownsMap Tryd.prog 9 (plainElem Tryd.prog 3) M n D := by
    have hMb := HS.out.1.mb
    have hm := HF7.out.2.2.2.1
    have hl := hm.lt
    obtain ⟨es, clock, hb, r⟩ := hm
    exact ⟨es, clock, (C9.block M hl (by show ¬ M = b; omega)).trans hb, r⟩
  have H9 := Lib.hid (And.intro own9 (And.intro hY9 (And.intro hfar (And.intro b9 M9))))
  have hz9 : w.heap.size < (V8.setCell ⟨b, 0, none⟩ (.slice A7 (n + 1) c7)).heap.size := by have := C9.size; omega
  clear g7 b8 b9 C9 hfar hY9 own9 M9 CH7 hV8
  generalize V8.setCell ⟨b, 0, none⟩ (.slice A7 (n + 1) c7) = V9 at *
  refine wp_region_XT2 11 10 rfl (by kernel_rfl) (by kernel_rfl) ?_
  intro HDD
  refine wpH2_segL HDD 0 10 0 rfl rfl (Ext.refl _) (by kernel_rfl) ?_
  apply Exists.intro
  refine ⟨fun cw => ?_, ?_⟩
  · have p0 := on_cell ((H9.out.2.2.2.1.ext cw.h).cell 0)
    have p1 := on_cell ((H9.out.2.2.2.1.ext cw.h).cell 1)
    simp only [List.take_succ_cons, List.take_zero, List.drop_zero]
    repeat (go_big_quiet_step (fail))
    exact wpQuiet_nil rfl
  refine wpH2_end (fun V10 hV10 => ⟨by kernel_rfl, ?_⟩)
  have M10 : V10.ownsMap Tryd.prog 9 (plainElem Tryd.prog 3) M n D := by
    have hm := H9.out.2.2.2.2
    have hl := hm.lt
    obtain ⟨es, clock, hb, r⟩ := hm
    exact ⟨es, clock, (hV10.block M hl).trans hb, r⟩
  have H10 := Lib.hid (And.intro M10 hV10)
  simp only [List.drop_succ_cons, List.drop_zero]
  clear HDD M10 hV10
  go_wp2_with (at_mapUpdate; refine wpList_mapUpdate_own _ rfl _ _ _ 61 rfl 9 3 strKeyed Tryd.underlying61 _ M n D rfl H10.out.1 (by have := HN.out; unfold maxLen; omega) _ _ _ rfl rfl HK.out _ [] (plainElem_int Tryd.underlying3 (WalkArith.wf_i64 (by omega))) ?_; intro w1 hown1 hgrow1)
  go_ret
  have CM := (ChgU.of_ext (u := fun k => k = M) H10.out.2).trans (ChgU.of_grown hgrow1) (fun _ _ h => (Option.some.inj h).symm)
  have hMb := HS.out.1.mb
  have g9 : ∀ g, (Value.slice A7 (n + 1) c7).ownBlock = some g → b + 2 ≤ g := fun g hg => ownN_block H9.out.1 g hg
  refine ⟨rfl, ⟨A7, c7, ⟨H9.out.2.2.2.1.chgU CM (by show ¬ b = M; omega), by rw [List.length_append, HS.out.1.cnt]; rfl, ?_, by rw [List.length_append, HS.out.1.len]; rfl, fun i y d' h1 h2 => ?_, H9.out.2.2.1, ?_, hMb, ?_⟩, fun g hg => ?_⟩, CH9.out.trans CM (fun _ _ h => .inr (.inl h))⟩
  · have := ownN_keep H9.out.1 (fun g hg => CM.block g (World.ownsRow.lt H9.out.1 g hg).2 (by have := g9 g hg; show ¬ g = M; omega))
    rw [flatD_snoc]; exact this
  · obtain ⟨r1, r2⟩ := H9.out.2.1 i y d' h1 h2
    have f := H9.out.2.2.1 i y h1
    exact ⟨r1.chgU CM (fun _ ad e => by have := f.1 ad e; show ¬ ad.block = M; omega) (fun _ ad e => by have := f.2 ad e; show ¬ ad.block = M; omega), r2⟩
  · exact HS.out.1.small.snoc _ HS.out.2.2.2.2.1 HS.out.2.2.2.2.2.1
  · refine ⟨_, hown1, fun t => ?_⟩
    by_cases e : t = textS d
    · subst e
      rw [has_put_same H10.out.1.isMap (show WideAt.IsKeyLit (.string (textS d)) from trivial)]
      exact (decide_eq_true ⟨d, by simp, rfl⟩).symm
    · rw [has_put_other (fun h => e (Lit.string.inj h)), HDT.out t, decide_eq_decide]
      constructor
      · rintro ⟨x, hx, hxe⟩; exact ⟨x, by simp [hx], hxe⟩
      · rintro ⟨x, hx, hxe⟩
        rcases List.mem_append.1 hx with hx | hx
        · exact ⟨x, hx, hxe⟩
        · obtain rfl : x = d := by simpa using hx
          exact absurd hxe.symm e
  · rcases HF7.out.2.2.2.2 g hg with h | h
    · exact .inl h
    · exact .inr (by omega)
end
end Go.Proofs.YtopgbggighaknaaDoor
