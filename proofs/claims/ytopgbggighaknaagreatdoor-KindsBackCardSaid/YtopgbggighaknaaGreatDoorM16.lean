/- Joined texts, in their order: KCopied, KVals. -/
import Derived.Test.YtopgbggighaknaaGreatDoorM15
import Derived.Test.YtopgbggighaknaaGreatDoorM14
import Derived.Test.YtopgbggighaknaaGreatDoorM03
import Derived.Test.YtopgbggighaknaaGreatDoorM13
/- kinds: copied: descriptors whose lists are new, too. -/
namespace Go.Proofs.YtopgbggighaknaaGreatDoor
open Go.RowKit Go
theorem Small.nil : Small [] := fun i x h => by simp at h
theorem two_store {w w2 : World} {R : Nat} {x0 x1 x2 x3 u1 u3 : Value} {t : TypeId} (hB : Blk w2 R #[x0, x1, x2, x3] t) (hE : Ext w w2) (hR : w.heap.size ≤ R) :
    let W := (w2.setCell ⟨R, 1, none⟩ u1).setCell ⟨R, 3, none⟩ u3
    W.cell? ⟨R, 0, none⟩ = some x0 ∧ W.cell? ⟨R, 1, none⟩ = some u1 ∧ W.cell? ⟨R, 2, none⟩ = some x2 ∧ W.cell? ⟨R, 3, none⟩ = some u3 ∧ Ext w W := by
  have h3 := (hB.set 1 u1).set 3 u3
  simp only [List.setIfInBounds_toArray, List.set_cons_zero, List.set_cons_succ] at h3
  exact ⟨by rw [h3.cell]; rfl, by rw [h3.cell]; rfl, by rw [h3.cell]; rfl, by rw [h3.cell]; rfl, (hE.setCell (p := ⟨R, 1, none⟩) hR _).setCell (p := ⟨R, 3, none⟩) hR _⟩
/-- Their own lists are new. -/
def Fresh (w : World) (ys : List DRow) : Prop := ∀ (i : Nat) (y : DRow), ys[i]? = some y → (∀ ad, y.A = some ad → w.heap.size < ad.block) ∧ (∀ ad, y.B = some ad → w.heap.size < ad.block)
/-- A row of n descriptors of which the first are set. -/
structure Part (W : World) (g n : Nat) (cur : Array Value) (ys : List DRow) (L : List DescR) : Prop where
  blk : Blk W g cur 25
  size : cur.size = n * 4
  rows : ∀ i j, i < ys.length → j < 4 → cur[i * 4 + j]? = (ys.getD i default).cells[j]?
  dn : ∀ (i : Nat) (y : DRow) (d : DescR), ys[i]? = some y → L[i]? = some d → Dn W y d ∧ (∀ ad, y.A = some ad → g < ad.block) ∧ (∀ ad, y.B = some ad → g < ad.block)
  small : Small ys
theorem Part.ext {W W' : World} {g n : Nat} {cur : Array Value} {ys : List DRow} {L : List DescR} (h : Part W g n cur ys L) (k : Ext W W') : Part W' g n cur ys L :=
  ⟨h.blk.ext k, h.size, h.rows, fun i y d h1 h2 => ⟨(h.dn i y d h1 h2).1.ext k, (h.dn i y d h1 h2).2⟩, h.small⟩
theorem Dn.other {W : World} {x : DRow} {d : DescR} (h : Dn W x d) (p : Addr) (v : Value) (hA : ∀ ad, x.A = some ad → ad.block ≠ p.block) (hB : ∀ ad, x.B = some ad → ad.block ≠ p.block) : Dn (W.setCell p v) x d :=
  ⟨h.s, h.t, h.p.other' p v hA, h.q.other' p v hB, h.pc, h.qc, h.pm, h.qm⟩
theorem Dn.four {W : World} {x : DRow} {d : DescR} (h : Dn W x d) (g : Nat) (o0 o1 o2 o3 : Nat) (v0 v1 v2 v3 : Value) (hA : ∀ ad, x.A = some ad → ad.block ≠ g) (hB : ∀ ad, x.B = some ad → ad.block ≠ g) :
    Dn ((((W.setCell ⟨g, o0, none⟩ v0).setCell ⟨g, o1, none⟩ v1).setCell ⟨g, o2, none⟩ v2).setCell ⟨g, o3, none⟩ v3) x d :=
  (((h.other ⟨g, o0, none⟩ v0 hA hB).other ⟨g, o1, none⟩ v1 hA hB).other ⟨g, o2, none⟩ v2 hA hB).other ⟨g, o3, none⟩ v3 hA hB
theorem Part.put {W : World} {g n : Nat} {cur : Array Value} {ys : List DRow} {L : List DescR} (h : Part W g n cur ys L) {k : Nat} (hk : ys.length = k) (hkn : k < n) {y : DRow} {d : DescR} (hd : L[k]? = some d) (hy : Dn W y d)
    (hA : ∀ ad, y.A = some ad → g < ad.block) (hB : ∀ ad, y.B = some ad → g < ad.block) (h1 : y.n ≤ 1000) (h2 : y.m ≤ 1000) :
    Part ((((W.setCell ⟨g, k * 4, none⟩ (.int .i64 y.s)).setCell ⟨g, k * 4 + 1, none⟩ (.slice y.A y.n y.c)).setCell ⟨g, k * 4 + 2, none⟩ (.int .i64 y.t)).setCell ⟨g, k * 4 + 3, none⟩ (.slice y.B y.m y.e)) g n
      ((((cur.setIfInBounds (k * 4) (.int .i64 y.s)).setIfInBounds (k * 4 + 1) (.slice y.A y.n y.c)).setIfInBounds (k * 4 + 2) (.int .i64 y.t)).setIfInBounds (k * 4 + 3) (.slice y.B y.m y.e)) (ys ++ [y]) L := by
  have hz := h.size
  refine ⟨(((h.blk.set _ _).set _ _).set _ _).set _ _, by simp [hz], fun i j hi hj => ?_, fun i y' d' g1 g2 => ?_, h.small.snoc y h1 h2⟩
  · rw [List.length_append, hk] at hi
    simp only [List.length_cons, List.length_nil] at hi
    rcases Nat.lt_or_ge i k with hik | hik
    · have e : (ys ++ [y]).getD i default = ys.getD i default := by rw [List.getD_eq_getElem?_getD, List.getD_eq_getElem?_getD, List.getElem?_append_left (by omega)]
      rw [e, ← h.rows i j (by omega) hj]
      rw [Array.getElem?_setIfInBounds_ne (by omega), Array.getElem?_setIfInBounds_ne (by omega), Array.getElem?_setIfInBounds_ne (by omega), Array.getElem?_setIfInBounds_ne (by omega)]
    · obtain rfl : i = k := by omega
      have e : (ys ++ [y]).getD i default = y := by rw [List.getD_eq_getElem?_getD, List.getElem?_append_right (by omega), hk]; simp
      rw [e]
      have hj4 : j = 0 ∨ j = 1 ∨ j = 2 ∨ j = 3 := by omega
      rcases hj4 with rfl | rfl | rfl | rfl
      · rw [Array.getElem?_setIfInBounds_ne (by omega), Array.getElem?_setIfInBounds_ne (by omega), Array.getElem?_setIfInBounds_ne (by omega), Nat.add_zero, Array.getElem?_setIfInBounds_self_of_lt (by omega)]; rfl
      · rw [Array.getElem?_setIfInBounds_ne (by omega), Array.getElem?_setIfInBounds_ne (by omega), Array.getElem?_setIfInBounds_self_of_lt (by simp; omega)]; rfl
      · rw [Array.getElem?_setIfInBounds_ne (by omega), Array.getElem?_setIfInBounds_self_of_lt (by simp; omega)]; rfl
      · rw [Array.getElem?_setIfInBounds_self_of_lt (by simp; omega)]; rfl
  · rcases Nat.lt_or_ge i ys.length with hi | hi
    · rw [List.getElem?_append_left hi] at g1
      obtain ⟨q1, q2, q3⟩ := h.dn i y' d' g1 g2
      exact ⟨q1.four g _ _ _ _ _ _ _ _ (fun a e => by have := q2 a e; omega) (fun a e => by have := q3 a e; omega), q2, q3⟩
    · rw [List.getElem?_append_right hi] at g1
      have hi0 : i - ys.length = 0 := by
        rcases Nat.eq_zero_or_pos (i - ys.length) with h | h
        · exact h
        · rw [List.getElem?_eq_none (by simp; omega)] at g1; cases g1
      rw [hi0] at g1
      obtain rfl : y = y' := by simpa using g1
      obtain rfl : i = k := by omega
      obtain rfl : d = d' := Option.some.inj (hd.symm.trans g2)
      exact ⟨hy.four g _ _ _ _ _ _ _ _ (fun a e => by have := hA a e; omega) (fun a e => by have := hB a e; omega), hA, hB⟩
theorem Part.dl {W : World} {g n : Nat} {cur : Array Value} {ys : List DRow} {L : List DescR} (h : Part W g n cur ys L) (hy : ys.length = n) (hL : L.length = n) : Dl W (some ⟨g, 0, none⟩) n ys L := by
  refine ⟨⟨hy, fun hn => ⟨_, rfl, h.blk.lt, fun i j hi hj => ?_⟩⟩, hL, fun i y d h1 h2 => (h.dn i y d h1 h2).1⟩
  have e : (⟨g, 0, none⟩ : Addr).add (i * 4 + j) = ⟨g, i * 4 + j, none⟩ := by
    unfold Addr.add
    split
    · rename_i h0; rw [h0]
    · simp
  rw [e, h.blk.cell, h.rows i j (by omega) hj]
theorem run_make_desc (n : Nat) (hn : n ≤ 1000000) (w : World) : (Instr.makeSlice 22 (.int .i64 (n : Int)) (.int .i64 (n : Int))).run Tryz.prog w = .ok (.slice (some ⟨w.heap.size, 0, none⟩) n n) (w.alloc (.cells (madeCells #[.int .i64 0, .slice none 0 0, .int .i64 0, .slice none 0 0] (n * 4)) 25)) := by
  obtain ⟨i, hi, hz, hs, hb⟩ := info_desc
  have hr := run_make (P := Tryz.prog) w 22 25 i _ Tryz.underlying22 hi hz .i64 .i64 n n (by omega) (Int.le_refl _) (by rw [hb]; omega) (by omega)
  simp only [Int.toNat_natCast, hs] at hr
  exact hr
section
set_option maxHeartbeats 8000000 in
set_option maxRecDepth 100000 in
theorem copied_is (A : Option Addr) (n c : Nat) (xs : List DRow) (L : List DescR) (hn : n ≤ 1000000) (hs : Small xs) (w : World) (h : Dl w A n xs L) :
    Calls Tryz.prog 31 #[.slice A n c] w fun e w' => ∃ (ad : Addr) (xs' : List DRow), e = .returned (.slice (some ad) n n) ∧ Dl w' (some ad) n xs' L ∧ Small xs' ∧ (w.heap.size ≤ ad.block ∧ Fresh w xs') ∧ Ext w w' := by
  have hmk := run_make_desc n hn
  have HO := Lib.hid (And.intro h hs)
  have E1 := Lib.hid (ext1 w (.cells (madeCells #[.int .i64 0, .slice none 0 0, .int .i64 0, .slice none 0 0] (n * 4)) 25))
  have B1 := Lib.hid (Blk.new w (madeCells #[.int .i64 0, .slice none 0 0, .int .i64 0, .slice none 0 0] (n * 4)) 25)
  clear h hs
  go_enter Tryz.func31, Tryz.ntmps31
  go_wp2
  go_loopg [4, 5, 11] n (fun m v4 v5 i wr => ∃ (k : Nat) (ys : List DRow) (cur : Array Value), k + m = n ∧ i = .int .i64 k ∧ Ext w wr ∧ ys.length = k ∧ Part wr w.heap.size n cur ys L)
  case atStart => exact ⟨0, [], _, by omega, rfl, E1.out, rfl, ⟨B1.out, size_madeCells _ _, fun i j h => absurd h (by simp), fun i y d h => by simp at h, Small.nil⟩⟩
  case round =>
    obtain ⟨k, ys, cur, hk, rfl, hE, hyl, hP⟩ := hrel
    by_cases hlt : k < n
    · obtain ⟨ad, x, d, rfl, hb, hx, hd, hdn, e0, e1, e2, e3⟩ := (HO.out.1.ext hE).at_ hlt
      have hsm := HO.out.2 k x hx
      have h1 : (k : Int) < n := by omega
      have h2 : (k : Int) + 1 ≤ 1000000 := by omega
      have EX := ext1 wr (.cells #[.int .i64 x.s, .slice x.A x.n x.c, .int .i64 x.t, .slice x.B x.m x.e] 25)
      have BX := Blk.new wr #[.int .i64 x.s, .slice x.A x.n x.c, .int .i64 x.t, .slice x.B x.m x.e] 25
      have RA := Lib.hid (fun W (hW : Ext wr W) => cplaces_is x.A x.n x.c d.ptrs (by omega) W (hdn.p.ext hW))
      have RB := Lib.hid (fun W (hW : Ext wr W) => cplaces_is x.B x.m x.e d.eptrs (by omega) W (hdn.q.ext hW))
      have HX := Lib.hid (And.intro EX (And.intro BX hdn))
      have HH := Lib.hid (And.intro hk (And.intro hE (And.intro hyl (And.intro hP (And.intro hd hsm)))))
      have hgl : w.heap.size < wr.heap.size := hP.blk.lt
      clear hk hE hyl hP hd hsm hdn hx hb EX BX
      go_wp2
      refine wp_region_XT2 10 7 rfl (by kernel_rfl) (by kernel_rfl) ?_
      intro HD
      refine wpH2_segL HD 0 2 5 rfl rfl (Ext.refl _) (by kernel_rfl) ?_
      apply Exists.intro
      refine ⟨fun cw => ?_, ?_⟩
      · have p1 := on_cell ((HX.out.2.1.ext cw.h).cell 1)
        simp only [List.take_succ_cons, List.take_zero, List.drop_zero]
        repeat (go_big_quiet_step (fail))
        exact wpQuiet_nil rfl
      refine wpH2_segL HD 3 2 3 rfl rfl (Ext.refl _) (by kernel_rfl) ?_
      apply Exists.intro
      refine ⟨fun cw => ?_, ?_⟩
      · have p3 := on_cell ((HX.out.2.1.ext cw.h).cell 3)
        simp only [List.take_succ_cons, List.take_zero, List.drop_succ_cons, List.drop_zero]
        repeat (go_big_quiet_step (fail))
        exact wpQuiet_nil rfl
      refine wpH2_stepL 2 2 rfl rfl rfl (by kernel_rfl) ?_
      intro V hV K hK
      go_simp
      refine (RA.out V (Ext.trans HX.out.1 hV)).mono ?_
      rintro e V2 ⟨adA, rfl, iA, bA, k2⟩
      have X2 := Ext.trans hV k2
      refine hK.out _ _ X2 ?_
      clear hK K
      refine wpH2_segL HD 6 1 1 rfl rfl X2 (by kernel_rfl) ?_
      apply Exists.intro
      refine ⟨fun cw => ?_, ?_⟩
      · simp only [List.take_succ_cons, List.take_zero, List.drop_succ_cons, List.drop_zero]
        repeat (go_big_quiet_step (fail))
        exact wpQuiet_nil rfl
      refine wpH2_stepL 5 0 rfl rfl rfl (by kernel_rfl) ?_
      intro V3 hV3 K hK
      go_simp
      refine (RB.out V3 (Ext.trans HX.out.1 (Ext.trans X2 hV3))).mono ?_
      rintro e V4 ⟨adB, rfl, iB, bB, k4⟩
      have X4 := Ext.trans X2 (Ext.trans hV3 k4)
      refine hK.out _ _ X4 ?_
      clear hK K
      refine wpH2_end (fun V5 hV5 => ⟨by kernel_rfl, ?_⟩)
      have bR := HX.out.2.1.ext (Ext.trans X4 hV5)
      have f1 := bR.frozen 1
      have f3 := bR.frozen 3
      have q1 := bR.cell 1
      have q3 := bR.cell 3
      simp only [List.getElem?_toArray, List.getElem?_cons_zero, List.getElem?_cons_succ] at q1 q3
      obtain ⟨s0, s1, s2, s3, hE6⟩ := two_store (u1 := .slice (some adA) x.n x.n) (u3 := .slice (some adB) x.m x.m) bR (Ext.trans HX.out.1 (Ext.trans X4 hV5)) (Nat.le_refl _)
      have gP := ((HH.out.2.2.2.1.blk.ext (Ext.trans HX.out.1 (Ext.trans X4 hV5))).other ⟨wr.heap.size, 1, none⟩ (.slice (some adA) x.n x.n) (by show w.heap.size ≠ wr.heap.size; omega)).other ⟨wr.heap.size, 3, none⟩ (.slice (some adB) x.m x.m) (by show w.heap.size ≠ wr.heap.size; omega)
      have GG := Lib.hid (And.intro hE6 (And.intro gP bR))
      have z1 : wr.heap.size < V.heap.size := by have := hV.size; simp at this; omega
      have z2 := Nat.le_trans k2.size hV3.size
      have hdn := HX.out.2.2
      have jA := ((iA.ext (Ext.trans hV3 (Ext.trans k4 hV5))).other' ⟨wr.heap.size, 1, none⟩ (.slice (some adA) x.n x.n) (fun a e => by cases e; show _ ≠ wr.heap.size; omega)).other' ⟨wr.heap.size, 3, none⟩ (.slice (some adB) x.m x.m) (fun a e => by cases e; show _ ≠ wr.heap.size; omega)
      have jB := ((iB.ext hV5).other' ⟨wr.heap.size, 1, none⟩ (.slice (some adA) x.n x.n) (fun a e => by cases e; show _ ≠ wr.heap.size; omega)).other' ⟨wr.heap.size, 3, none⟩ (.slice (some adB) x.m x.m) (fun a e => by cases e; show _ ≠ wr.heap.size; omega)
      have hsm2 := HH.out.2.2.2.2.2
      have GI := Lib.hid (show Dn ((V5.setCell ⟨wr.heap.size, 1, none⟩ (.slice (some adA) x.n x.n)).setCell ⟨wr.heap.size, 3, none⟩ (.slice (some adB) x.m x.m)) ⟨x.s, some adA, x.n, x.n, x.t, some adB, x.m, x.m⟩ d ∧ w.heap.size < adA.block ∧ w.heap.size < adB.block from
        ⟨⟨hdn.s, hdn.t, jA, jB, Nat.le_refl _, Nat.le_refl _, by show x.n ≤ _; omega, by show x.m ≤ _; omega⟩, by omega, by omega⟩)
      clear z1 z2 hdn jA jB hsm2 iA iB bA bB k2 k4 X2 X4 hV hV3 hV5
      clear hE6 gP bR
      simp only [List.drop_succ_cons, List.drop_zero]
      clear HD
      have hadr : (⟨w.heap.size, 0, none⟩ : Addr).add (k * 4) = ⟨w.heap.size, k * 4, none⟩ := by
        unfold Addr.add
        split
        · rename_i h0; rw [h0]
        · simp
      iterate 23 (first | go_values | go_skip | go_guarded | go_step | go_upon)
      clear s0 s1 s2 s3 f1 f3 q1 q3 hadr
      generalize ((V5.setCell ⟨wr.heap.size, 1, none⟩ (.slice (some adA) x.n x.n)).setCell ⟨wr.heap.size, 3, none⟩ (.slice (some adB) x.m x.m)) = V6 at *
      have g0 := GG.out.2.1.frozen (k * 4)
      have g1 := GG.out.2.1.frozen (k * 4 + 1)
      have g2 := GG.out.2.1.frozen (k * 4 + 2)
      have g3 := GG.out.2.1.frozen (k * 4 + 3)
      have hcs := HH.out.2.2.2.1.size
      obtain ⟨y0, c0⟩ : ∃ v, V6.cell? ⟨w.heap.size, k * 4, none⟩ = some v := ⟨_, (GG.out.2.1.cell _).trans (Array.getElem?_eq_getElem (by omega))⟩
      obtain ⟨y1, c1⟩ : ∃ v, V6.cell? ⟨w.heap.size, k * 4 + 1, none⟩ = some v := ⟨_, (GG.out.2.1.cell _).trans (Array.getElem?_eq_getElem (by omega))⟩
      obtain ⟨y2, c2⟩ : ∃ v, V6.cell? ⟨w.heap.size, k * 4 + 2, none⟩ = some v := ⟨_, (GG.out.2.1.cell _).trans (Array.getElem?_eq_getElem (by omega))⟩
      obtain ⟨y3, c3⟩ : ∃ v, V6.cell? ⟨w.heap.size, k * 4 + 3, none⟩ = some v := ⟨_, (GG.out.2.1.cell _).trans (Array.getElem?_eq_getElem (by omega))⟩
      clear hcs
      go_wp2
      go_roundg (gk - 1)
      case measure => have := HH.out.1; omega
      case rel =>
        have hP6 := HH.out.2.2.2.1.ext GG.out.1
        have hPP := ({ blk := GG.out.2.1, size := hP6.size, rows := hP6.rows, dn := hP6.dn, small := hP6.small } : Part V6 w.heap.size n cur ys L).put (y := ⟨x.s, some adA, x.n, x.n, x.t, some adB, x.m, x.m⟩) HH.out.2.2.1 (by have := HH.out.1; omega) HH.out.2.2.2.2.1 GI.out.1 (fun a e => by cases e; exact GI.out.2.1) (fun a e => by cases e; exact GI.out.2.2) HH.out.2.2.2.2.2.1 HH.out.2.2.2.2.2.2
        refine ⟨k + 1, _, _, by have := HH.out.1; omega, by go_num, ?_, by rw [List.length_append, HH.out.2.2.1]; rfl, hPP⟩
        have h6 := Ext.trans HH.out.2.1 GG.out.1
        exact (((h6.setCell (p := ⟨w.heap.size, k * 4, none⟩) (Nat.le_refl _) _).setCell (p := ⟨w.heap.size, k * 4 + 1, none⟩) (Nat.le_refl _) _).setCell (p := ⟨w.heap.size, k * 4 + 2, none⟩) (Nat.le_refl _) _).setCell (p := ⟨w.heap.size, k * 4 + 3, none⟩) (Nat.le_refl _) _
    · obtain rfl : k = n := by omega
      have h1 : ¬ (k : Int) < k := by omega
      have HF := Lib.hid (And.intro (hP.dl hyl HO.out.1.2.1) (And.intro hP.small (And.intro (show Fresh w ys from fun i y hy => (hP.dn i y _ hy (List.getElem?_eq_getElem (by rw [HO.out.1.2.1, ← hyl]; exact (List.getElem?_eq_some_iff.1 hy).1))).2) hE)))
      clear hE hyl hP hk
      go_wp2
      go_ret
      exact ⟨⟨w.heap.size, 0, none⟩, rfl, ys, HF.out.1, HF.out.2.1, ⟨Nat.le_refl _, HF.out.2.2.1⟩, HF.out.2.2.2⟩
end
end Go.Proofs.YtopgbggighaknaaGreatDoor
/- What the calls of layer 5 answer, as plain values; selionref05's Add and Of by them. -/
namespace Go.Proofs.YtopgbggighaknaaGreatDoor
open Go.RowKit Go
def addE (L : List DescR) (d : DescR) : Int := if rightK L then if rightB d then if d ∈ L then 0 else if L.length = 60 then 53 else 0 else 40 else 50
def addL (L : List DescR) (d : DescR) : List DescR := if addE L d = 0 then if d ∈ L then L else L ++ [d] else []
def addK (L : List DescR) (d : DescR) : Nat := if addE L d = 0 then if d ∈ L then findK L d else L.length + 1 else 0
def AddR (w : World) (L : List DescR) (d : DescR) (e : Ending) (w' : World) : Prop := ∃ (A' : Option Addr) (n' c' : Nat) (xs' : List DRow), e = .returned (.tuple #[.slice A' n' c', .int .i64 (addK L d : Nat), .int .i64 (addE L d)]) ∧ n' = (addL L d).length ∧ n' ≤ c' ∧ Dl w' A' n' xs' (addL L d) ∧ Small xs' ∧ Ext w w'
def ofE (L : List DescR) (y : Int) : Int := if rightK L then if 1 ≤ y ∧ y ≤ L.length then 0 else 51 else 50
def ofD (L : List DescR) (y : Int) : DescR := if ofE L y = 0 then (L[y.toNat - 1]?).getD ⟨0, [], 0, []⟩ else ⟨0, [], 0, []⟩
def OfR (w : World) (L : List DescR) (y : Int) (e : Ending) (w' : World) : Prop := ∃ r : DRow, e = .returned (.tuple #[.agg r.cells, .int .i64 (ofE L y)]) ∧ Dn w' r (ofD L y) ∧ r.n ≤ 1000 ∧ r.m ≤ 1000 ∧ Ext w w'
def parE (s : List UInt8) : Int := match readK [] 0 s with
  | .done _ => 0
  | .bad _ e => e
def parN (s : List UInt8) : Nat := match readK [] 0 s with
  | .done _ => 0
  | .bad k _ => k
def parL (s : List UInt8) : List DescR := match readK [] 0 s with
  | .done l => l
  | .bad _ _ => []
def KParseR (w : World) (s : List UInt8) (e : Ending) (w' : World) : Prop := ∃ (A' : Option Addr) (n' c' : Nat) (xs' : List DRow), e = .returned (.tuple #[.slice A' n' c', .int .i64 (parN s : Nat), .int .i64 (parE s)]) ∧ n' = (parL s).length ∧ n' ≤ c' ∧ Dl w' A' n' xs' (parL s) ∧ Small xs' ∧ Ext w w'
theorem Dl.nil (w : World) : Dl w none 0 [] [] := ⟨⟨rfl, fun h => absurd h (by decide)⟩, rfl, fun i x d h => by simp at h⟩
theorem addE_cases (L : List DescR) (d : DescR) : (rightK L = false ∧ addE L d = 50 ∧ addL L d = [] ∧ addK L d = 0) ∨ (rightK L = true ∧ rightB d = false ∧ addE L d = 40 ∧ addL L d = [] ∧ addK L d = 0) ∨
    (rightK L = true ∧ rightB d = true ∧ d ∈ L ∧ addE L d = 0 ∧ addL L d = L ∧ addK L d = findK L d) ∨ (rightK L = true ∧ rightB d = true ∧ d ∉ L ∧ L.length = 60 ∧ addE L d = 53 ∧ addL L d = [] ∧ addK L d = 0) ∨
    (rightK L = true ∧ rightB d = true ∧ d ∉ L ∧ L.length < 60 ∧ addE L d = 0 ∧ addL L d = L ++ [d] ∧ addK L d = L.length + 1) := by
  cases hr : rightK L with
  | false =>
    have e : addE L d = 50 := by simp [addE, hr]
    exact .inl ⟨rfl, e, by simp [addL, e], by simp [addK, e]⟩
  | true =>
    cases hd : rightB d with
    | false =>
      have e : addE L d = 40 := by simp [addE, hr, hd]
      exact .inr (.inl ⟨rfl, rfl, e, by simp [addL, e], by simp [addK, e]⟩)
    | true =>
      by_cases hm : d ∈ L
      · have e : addE L d = 0 := by simp [addE, hr, hd, hm]
        exact .inr (.inr (.inl ⟨rfl, rfl, hm, e, by simp [addL, e, hm], by simp [addK, e, hm]⟩))
      · by_cases h6 : L.length = 60
        · have e : addE L d = 53 := by simp [addE, hr, hd, hm, h6]
          exact .inr (.inr (.inr (.inl ⟨rfl, rfl, hm, h6, e, by simp [addL, e], by simp [addK, e]⟩)))
        · have e : addE L d = 0 := by simp [addE, hr, hd, hm, h6]
          have := ((rightK_iff L).1 hr).2.2
          exact .inr (.inr (.inr (.inr ⟨rfl, rfl, hm, by omega, e, by simp [addL, e, hm], by simp [addK, e, hm]⟩)))
/-- Add's second answer is right, if it is one. -/
theorem add_right (L : List DescR) (d : DescR) (h : addE L d = 0) : rightK (addL L d) = true ∧ rightB d = true ∧ d ∈ addL L d := by
  rcases addE_cases L d with ⟨_, e, _⟩ | ⟨_, _, e, _⟩ | ⟨h1, h2, h3, _, e, _⟩ | ⟨_, _, _, _, e, _⟩ | ⟨h1, h2, h3, h4, _, e, _⟩
  · omega
  · omega
  · rw [e]; exact ⟨h1, h2, h3⟩
  · omega
  · rw [e]
    refine ⟨?_, h2, by simp⟩
    obtain ⟨g1, g2, g3⟩ := (rightK_iff L).1 h1
    refine (rightK_iff _).2 ⟨fun x hx => ?_, ?_, by simp; omega⟩
    · rcases List.mem_append.1 hx with hx | hx
      · exact g1 x hx
      · obtain rfl : x = d := by simpa using hx
        exact h2
    · exact List.nodup_append.2 ⟨g2, by simp, fun a ha b hb => by
        obtain rfl : b = d := by simpa using hb
        exact fun e => h3 (e ▸ ha)⟩
theorem findK_pos (L : List DescR) (d : DescR) (h : d ∈ L) : 1 ≤ findK L d := by
  rcases Nat.eq_zero_or_pos (findK L d) with h0 | h0
  · exact absurd h ((findK_zero d L).1 h0)
  · exact h0
theorem findK_app (d : DescR) : ∀ L : List DescR, d ∉ L → findK (L ++ [d]) d = L.length + 1
  | [], _ => by simp [findK]
  | x :: L, h => by
    have h1 : x ≠ d := fun e => h (by simp [e])
    have ih := findK_app d L (fun hm => h (by simp [hm]))
    rw [List.cons_append, findK, if_neg h1, ih, if_neg (by omega)]; rfl
/-- The number of a kind is found under it. -/
theorem findK_get (L : List DescR) (hn : L.Nodup) (k : Nat) (d : DescR) (h : L[k]? = some d) : findK L d = k + 1 := by
  have hk := (List.getElem?_eq_some_iff.1 h).1
  refine findK_take d L k hk ?_ h
  rw [findK_zero]
  intro hm
  obtain ⟨j, hj⟩ := List.getElem?_of_mem hm
  rw [List.getElem?_take] at hj
  split at hj
  · rename_i hjk
    have := (List.getElem?_inj (i := j) (j := k) (by omega) hn).1 (hj.trans h.symm)
    omega
  · cases hj
/-- What is added is there under its number, and what was there under its own; adding it again turns nothing. -/
theorem add_keeps (L : List DescR) (d : DescR) (h : addE L d = 0) : ofE (addL L d) (addK L d : Nat) = 0 ∧ ofD (addL L d) (addK L d : Nat) = d ∧
    (∀ n : Int, ofE L n = 0 → ofE (addL L d) n = 0 ∧ ofD (addL L d) n = ofD L n) ∧ addE (addL L d) d = 0 ∧ addK (addL L d) d = addK L d ∧ addL (addL L d) d = addL L d := by
  obtain ⟨hR, hB, hM⟩ := add_right L d h
  have e0 : addE (addL L d) d = 0 := by simp [addE, hR, hB, hM]
  have e1 : addL (addL L d) d = addL L d := by conv => lhs; rw [addL, if_pos e0, if_pos hM]
  have e2 : addK (addL L d) d = findK (addL L d) d := by conv => lhs; rw [addK, if_pos e0, if_pos hM]
  have hN := ((rightK_iff _).1 hR).2.1
  have key : addK L d = findK (addL L d) d := by
    rcases addE_cases L d with ⟨_, e, _⟩ | ⟨_, _, e, _⟩ | ⟨_, _, _, _, e, e'⟩ | ⟨_, _, _, _, e, _⟩ | ⟨_, _, h3, _, _, e, e'⟩
    · omega
    · omega
    · rw [e, e']
    · omega
    · rw [e, e', findK_app d L h3]
  obtain ⟨j, hj⟩ : ∃ j, findK (addL L d) d = j + 1 := ⟨findK (addL L d) d - 1, by have := findK_pos _ _ hM; omega⟩
  have hat := findK_at d _ j hj
  have hlt := (List.getElem?_eq_some_iff.1 hat).1
  have o1 : ofE (addL L d) (addK L d : Nat) = 0 := by
    rw [key, hj]
    unfold ofE
    rw [if_pos hR, if_pos ⟨by omega, by omega⟩]
  refine ⟨o1, ?_, fun n hn => ?_, e0, by rw [e2, key], e1⟩
  · unfold ofD
    rw [if_pos o1, key, hj, show (((j + 1 : Nat) : Int)).toNat - 1 = j by omega, hat]; rfl
  · have hn1 : 1 ≤ n ∧ n ≤ L.length := by
      unfold ofE at hn
      split at hn
      · split at hn
        · assumption
        · cases hn
      · cases hn
    have hpre : ∃ t, addL L d = L ++ t := by
      rcases addE_cases L d with ⟨_, e, _⟩ | ⟨_, _, e, _⟩ | ⟨_, _, _, _, e, _⟩ | ⟨_, _, _, _, e, _⟩ | ⟨_, _, _, _, _, e, _⟩
      · omega
      · omega
      · exact ⟨[], by rw [e]; simp⟩
      · omega
      · exact ⟨[d], e⟩
    obtain ⟨t, ht⟩ := hpre
    have o2 : ofE (addL L d) n = 0 := by
      unfold ofE
      rw [if_pos hR, ht, if_pos ⟨hn1.1, by rw [List.length_append]; omega⟩]
    refine ⟨o2, ?_⟩
    unfold ofD
    rw [if_pos o2, if_pos hn, ht, List.getElem?_append_left (by omega)]
/-- A kind's number. -/
theorem of_num (L : List DescR) (y : Int) (h : ofE L y = 0) : rightK L = true ∧ ∃ (k : Nat) (d : DescR), y = (k : Int) + 1 ∧ k < L.length ∧ L[k]? = some d ∧ ofD L y = d ∧ rightB d = true ∧ d ∈ L ∧ findK L d = k + 1 := by
  have h0 := h
  unfold ofE at h
  split at h
  · rename_i hr
    split at h
    · rename_i hy
      have hk : y.toNat - 1 < L.length := by omega
      have hg : L[y.toNat - 1]? = some L[y.toNat - 1] := List.getElem?_eq_getElem hk
      have hm := List.mem_of_getElem? hg
      refine ⟨hr, y.toNat - 1, L[y.toNat - 1], by omega, hk, hg, ?_, ((rightK_iff L).1 hr).1 _ hm, hm, findK_get L ((rightK_iff L).1 hr).2.1 _ _ hg⟩
      unfold ofD
      rw [if_pos h0, hg]; rfl
    · cases h
  · cases h
theorem of_err (L : List DescR) (y : Int) (h : ofE L y ≠ 0) : (rightK L = false ∧ ofE L y = 50) ∨ (rightK L = true ∧ ofE L y = 51 ∧ (y < 1 ∨ (L.length : Int) < y)) := by
  unfold ofE at h ⊢
  cases hr : rightK L with
  | false => exact .inl ⟨rfl, by simp⟩
  | true =>
    rw [hr] at h
    simp only [if_true] at h ⊢
    split at h
    · exact absurd rfl h
    · rename_i hy
      exact .inr ⟨trivial, by rw [if_neg hy], by omega⟩
section
theorem radd_is (A : Option Addr) (n c : Nat) (xs : List DRow) (L : List DescR) (x : DRow) (d : DescR) (hn : n ≤ 1000000) (hc : n ≤ c) (hs : Small xs) (hz : Zs xs) (hx1 : x.n ≤ 1000) (hx2 : x.m ≤ 1000) (hz1 : Dz x) (w : World) (h : Dl w A n xs L) (hx : Dn w x d) :
    Calls Tryz.prog 12 #[.slice A n c, .agg x.cells] w (AddR w L d) := by
  obtain ⟨s1, A1, n1, c1, t1, B1, m1, z1⟩ := x
  obtain ⟨ds, dl, dt, dr⟩ := d
  obtain rfl : s1 = ds := hx.s
  obtain rfl : t1 = dt := hx.t
  have hp : Il w A1 n1 dl := hx.p
  have hq : Il w B1 m1 dr := hx.q
  have hn1 : n1 ≤ 1000 := hx1
  have hm1 : m1 ≤ 1000 := hx2
  have hll := h.2.1
  rcases addE_cases L ⟨s1, dl, t1, dr⟩ with ⟨g1, e1, e2, e3⟩ | ⟨g1, g2, e1, e2, e3⟩ | ⟨g1, g2, g3, e1, e2, e3⟩ | ⟨g1, g2, g3, g4, e1, e2, e3⟩ | ⟨g1, g2, g3, g4, e1, e2, e3⟩
  · refine (add5_kinds A n c xs L A1 B1 n1 m1 c1 z1 s1 t1 hn hc hs w h g1).mono ?_
    rintro e w' ⟨rfl, k⟩
    exact ⟨none, 0, 0, [], by rw [e1, e3]; rfl, by rw [e2]; rfl, Nat.le_refl _, by rw [e2]; exact Dl.nil _, Small.nil, k⟩
  · refine (add5_desc A n c xs L A1 B1 n1 m1 c1 z1 s1 t1 dl dr hn hc hs (by omega) (by omega) w h hp hq g1 g2).mono ?_
    rintro e w' ⟨rfl, k⟩
    exact ⟨none, 0, 0, [], by rw [e1, e3]; rfl, by rw [e2]; rfl, Nat.le_refl _, by rw [e2]; exact Dl.nil _, Small.nil, k⟩
  · refine (add5_there A n c xs L A1 B1 n1 m1 c1 z1 s1 t1 dl dr hn hc hs hz (by omega) (by omega) w h hp hq g1 g2 g3).mono ?_
    rintro e w' ⟨A', c', xs', rfl, a1, a2, a3, _, k⟩
    exact ⟨A', n, c', xs', by rw [e1, e3], by rw [e2, hll], a1, by rw [e2]; exact a2, a3, k⟩
  · refine (add5_many A n c xs L A1 B1 n1 m1 c1 z1 s1 t1 dl dr (by omega) hc hs (by omega) (by omega) w h hp hq g1 g2 g3).mono ?_
    rintro e w' ⟨rfl, k⟩
    exact ⟨none, 0, 0, [], by rw [e1, e3]; rfl, by rw [e2]; rfl, Nat.le_refl _, by rw [e2]; exact Dl.nil _, Small.nil, k⟩
  · refine (add5_new A n c xs L A1 B1 n1 m1 c1 z1 s1 t1 dl dr (by omega) hc hs hz hz1 (by omega) (by omega) w h hx g1 g2 g3).mono ?_
    rintro e w' ⟨A', c', xs', rfl, a1, a2, a3, _, k⟩
    exact ⟨A', n + 1, c', xs', by rw [e1, e3, hll]; rfl, by rw [e2, List.length_append, hll]; rfl, a1, by rw [e2]; exact a2, a3, k⟩
theorem rof_is (A : Option Addr) (n c : Nat) (xs : List DRow) (L : List DescR) (y : Int) (hn : n ≤ 1000000) (hc : n ≤ c) (hs : Small xs) (hz : Zs xs) (w : World) (h : Dl w A n xs L) :
    Calls Tryz.prog 14 #[.slice A n c, .int .i64 y] w (OfR w L y) := by
  have hll := h.2.1
  have zero : ∀ w' : World, Dn w' ⟨0, none, 0, 0, 0, none, 0, 0⟩ ⟨0, [], 0, []⟩ := fun w' => ⟨rfl, rfl, ⟨rfl, fun h => absurd h (by decide)⟩, ⟨rfl, fun h => absurd h (by decide)⟩, Nat.le_refl _, Nat.le_refl _, by decide, by decide⟩
  by_cases h0 : ofE L y = 0
  · obtain ⟨hr, k, d, rfl, hk, hd, hD, _⟩ := of_num L y h0
    refine (of5_ok A n c xs L k d hn hc hs hz w h hr (by omega) hd).mono ?_
    rintro e w' ⟨r, rfl, a1, a2, a3, k'⟩
    exact ⟨r, by rw [h0], by rw [hD]; exact a1, a2, a3, k'⟩
  · have hD : ofD L y = ⟨0, [], 0, []⟩ := by unfold ofD; rw [if_neg h0]
    rcases of_err L y h0 with ⟨hr, e⟩ | ⟨hr, e, hy⟩
    · refine (of5_no A n c xs L y hn hc hs w h hr).mono ?_
      rintro e' w' ⟨rfl, k⟩
      exact ⟨⟨0, none, 0, 0, 0, none, 0, 0⟩, by rw [e]; rfl, by rw [hD]; exact zero _, by decide, by decide, k⟩
    · refine (of5_out A n c xs L y hn hc hs w h hr (by omega)).mono ?_
      rintro e' w' ⟨rfl, k⟩
      exact ⟨⟨0, none, 0, 0, 0, none, 0, 0⟩, by rw [e]; rfl, by rw [hD]; exact zero _, by decide, by decide, k⟩
end
end Go.Proofs.YtopgbggighaknaaGreatDoor
