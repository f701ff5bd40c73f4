/- Joined texts, in their order: Own, RAdd, RAdd2, KPlaces. -/
import Derived.Test.YtopgbggighaknaaGreatDoorM14
import Derived.Test.YtopgbggighaknaaGreatDoorM13
import Derived.OwnWalk
import Derived.Test.YtopgbggighaknaaGreatDoorM03
import Derived.Test.YtopgbggighaknaaGreatDoorM05
import Derived.Test.YtopgbggighaknaaGreatDoorM04
import Derived.Deep.OwnRows
import Derived.Laws.IdiomCopy
import Derived.Laws.CopyRow
/- selionref05: own: a list of its own. -/
namespace Go.Proofs.YtopgbggighaknaaGreatDoor
open Go.RowKit Go
theorem Il.grown {w w' : World} {A : Option Addr} {n : Nat} {l : List Int} {ob : Option Nat} (h : Il w A n l) (hg : w.grownBy w' ob) (hne : 0 < n → ∀ ad, A = some ad → ob ≠ some ad.block) : Il w' A n l :=
  ⟨h.1, fun hn => by
    obtain ⟨ad, e, hb, hc⟩ := h.2 hn
    exact ⟨ad, e, Nat.lt_of_lt_of_le hb hg.size, fun j hj => hg.cell (hc j hj) (by rw [block_of_add]; exact fun e' => hne hn ad e e'.symm)⟩⟩
/-- The rows of an own list read as these descriptors, and lean on none of its own blocks. -/
def Ys (W : World) (v : Value) (ys : List DRow) (L : List DescR) : Prop := ∀ (i : Nat) (y : DRow) (d : DescR), ys[i]? = some y → L[i]? = some d →
  Dn W y d ∧ (0 < y.n → ∀ ad, y.A = some ad → v.ownBlock ≠ some ad.block) ∧ (0 < y.m → ∀ ad, y.B = some ad → v.ownBlock ≠ some ad.block)
theorem Ys.ext {W W' : World} {v : Value} {ys : List DRow} {L : List DescR} (h : Ys W v ys L) (k : Ext W W') : Ys W' v ys L := fun i y d h1 h2 => ⟨(h i y d h1 h2).1.ext k, (h i y d h1 h2).2⟩
theorem Ys.grown {W W' : World} {v v' : Value} {ys : List DRow} {L : List DescR} (h : Ys W v ys L) (hg : W.grownBy W' v.ownBlock) (hn : ∀ b, v'.ownBlock = some b → v.ownBlock = some b ∨ W.heap.size ≤ b) : Ys W' v' ys L := fun i y d h1 h2 => by
  obtain ⟨hd, ha, hb⟩ := h i y d h1 h2
  refine ⟨⟨hd.s, hd.t, hd.p.grown hg ha, hd.q.grown hg hb, hd.pc, hd.qc, hd.pm, hd.qm⟩, fun h0 ad e e' => ?_, fun h0 ad e e' => ?_⟩
  · rcases hn _ e' with h3 | h3
    · exact ha h0 ad e h3
    · obtain ⟨ad', e2, hlt, _⟩ := hd.p.2 h0
      rw [e] at e2; cases e2; omega
  · rcases hn _ e' with h3 | h3
    · exact hb h0 ad e h3
    · obtain ⟨ad', e2, hlt, _⟩ := hd.q.2 h0
      rw [e] at e2; cases e2; omega
theorem Ys.snoc {W : World} {v : Value} {ys : List DRow} {L : List DescR} {k : Nat} {y : DRow} {d : DescR} (h : Ys W v ys L) (hk : ys.length = k) (hd : L[k]? = some d) (hy : Dn W y d) (ha : ∀ ad, y.A = some ad → v.ownBlock ≠ some ad.block) (hb : ∀ ad, y.B = some ad → v.ownBlock ≠ some ad.block) : Ys W v (ys ++ [y]) L := fun i y' d' h1 h2 => by
  rcases Nat.lt_or_ge i ys.length with hi | hi
  · rw [List.getElem?_append_left hi] at h1
    exact h i y' d' h1 h2
  · rw [List.getElem?_append_right hi] at h1
    have hi0 : i - ys.length = 0 := by
      rcases Nat.eq_zero_or_pos (i - ys.length) with h | h
      · exact h
      · rw [List.getElem?_eq_none (by simp; omega)] at h1; cases h1
    rw [hi0] at h1
    obtain rfl : y = y' := by simpa using h1
    obtain rfl : i = k := by omega
    obtain rfl : d = d' := Option.some.inj (hd.symm.trans h2)
    exact ⟨hy, fun _ => ha, fun _ => hb⟩
theorem Small.snoc {ys : List DRow} (h : Small ys) (y : DRow) (h1 : y.n ≤ 1000) (h2 : y.m ≤ 1000) : Small (ys ++ [y]) := fun i x hx => by
  rcases Nat.lt_or_ge i ys.length with hi | hi
  · rw [List.getElem?_append_left hi] at hx; exact h i x hx
  · rw [List.getElem?_append_right hi] at hx
    have hm := List.mem_of_getElem? hx
    obtain rfl : x = y := by simpa using hm
    exact ⟨h1, h2⟩
/-- What own answers: a row of its own. -/
def OwnP (w : World) (n : Nat) (L : List DescR) (e : Ending) (w' : World) : Prop := ∃ (A : Option Addr) (c : Nat) (ys : List DRow), e = .returned (.slice A n c) ∧ w'.ownsRow w.heap.size 25 4 (.slice A n c) n (flatD ys) ∧ ys.length = n ∧ Ys w' (.slice A n c) ys L ∧ (Small ys ∧ Zs ys) ∧ L.length = n ∧ Ext w w'
theorem OwnP.row {w w' : World} {n : Nat} {L : List DescR} {e : Ending} (h : OwnP w n L e w') : RowP w n L e w' := by
  obtain ⟨A, c, ys, rfl, hown, hyl, hYs, ⟨hsm, hzs⟩, hL, hE⟩ := h
  obtain ⟨A', c', e', hmc, hrow, _⟩ := rows_of_own hown hyl
  cases e'
  exact ⟨A, c, ys, rfl, hmc, ⟨hrow, hL, fun i y d g1 g2 => (hYs i y d g1 g2).1⟩, hsm, hzs, hE⟩
section
set_option maxHeartbeats 8000000 in
set_option maxRecDepth 100000 in
theorem own5_own (A : Option Addr) (n c : Nat) (xs : List DRow) (L : List DescR) (hn : n ≤ 1000000) (hs : Small xs) (hz : Zs xs) (w : World) (h : Dl w A n xs L) :
    Calls Tryz.prog 35 #[.slice A n c] w (OwnP w n L) := by
  obtain ⟨i0, hi0⟩ := info_desc
  have HI := Lib.hid hi0
  clear hi0
  have HO := Lib.hid (And.intro h hs)
  have HZ := Lib.hid hz
  clear h hs hz
  go_enter Tryz.func35, Tryz.ntmps35
  go_wp2
  go_loopg [3, 4] n (fun m v i wr => ∃ (k : Nat) (ys : List DRow), k + m = n ∧ i = .int .i64 k ∧ Ext w wr ∧ wr.ownsRow w.heap.size 25 4 v k (flatD ys) ∧ ys.length = k ∧ Ys wr v ys L ∧ (Small ys ∧ Zs ys))
  case atStart => exact ⟨0, [], by omega, rfl, Ext.refl _, ⟨rfl, .inl ⟨rfl, rfl⟩⟩, rfl, fun i y d h1 _ => by simp at h1, ⟨fun i x h1 => by simp at h1, fun i x h1 => by simp at h1⟩⟩
  case round =>
    obtain ⟨k, ys, hk, rfl, hE, hown, hyl, hYs, hsm⟩ := hrel
    by_cases hlt : k < n
    · obtain ⟨ad, x, d, rfl, hb, hx, hd, hdn, e0, e1, e2, e3⟩ := (HO.out.1.ext hE).at_ hlt
      have hxs := HO.out.2 k x hx
      have RC := Lib.hid (clone_is x d (by omega) (by omega) (HZ.out k x hx) wr hdn)
      have h1 : (k : Int) < n := by omega
      have h2 : (k : Int) + 1 ≤ 1000000 := by omega
      have HH := Lib.hid (And.intro hE (And.intro hown (And.intro hyl (And.intro hYs (And.intro hsm (And.intro hd (And.intro hk hxs)))))))
      clear hE hown hyl hYs hsm hd hk hxs hdn hb hx hlt
      simp only [DRow.cells] at RC
      go_wp2_with (first | (go_at_call 36; refine RC.out.mono ?_; rintro e w2 ⟨⟨ys0, yA, yn, yc, yt, yB, ym, ye⟩, rfl, ⟨y1, y0⟩, y2, y3, y4, y5, k2⟩; simp only [DRow.cells]; have YY := Lib.hid (And.intro y1 (And.intro y2 (And.intro y3 (And.intro y4 y5)))); have YZ := Lib.hid y0; clear y0 y1 y2 y3 y4 y5) | (at_builtin; go_loud (refine wpList_append_row rfl _ _ 22 rfl w.heap.size 25 i0 (.agg #[.int .i64 0, .slice none 0 0, .int .i64 0, .slice none 0 0]) 4 64 Tryz.underlying22 HI.out.1 HI.out.2.1 HI.out.2.2.1 HI.out.2.2.2 rfl (by decide) _ _ _ rfl (ownN_ext HH.out.2.1 (Ext.trans k2 (ext1 _ _))) ⟨w2.heap.size, 0, none⟩ 1 (DRow.mk ys0 yA yn yc yt yB ym ye).cells.toList rfl rfl (fun j u hj => new_cells1 _ _ _ j u (by simpa [DRow.cells] using hj)) (row_one _) (by unfold maxLen; omega) (by omega) (by have := HH.out.1.size; have := k2.size; simp; omega) ?_; intro v' w3 hown3 hgrow hnew)))
      go_roundg (gk - 1)
      case measure => have := HH.out.2.2.2.2.2.2.1; omega
      case rel =>
        have hob : ∀ b, u3.ownBlock = some b → b < wr.heap.size := fun b hb' => (World.ownsRow.lt HH.out.2.1 b hb').2
        have hYs2 := (HH.out.2.2.2.1.ext (Ext.trans k2 (ext1 w2 (.cells (DRow.mk ys0 yA yn yc yt yB ym ye).cells 25)))).snoc HH.out.2.2.1 HH.out.2.2.2.2.2.1 (YY.out.1.ext (ext1 w2 (.cells (DRow.mk ys0 yA yn yc yt yB ym ye).cells 25))) (fun a1 e1' e2' => by have := YY.out.2.2.2.1 a1 e1'; have := hob _ e2'; omega) (fun a1 e1' e2' => by have := YY.out.2.2.2.2 a1 e1'; have := hob _ e2'; omega)
        refine ⟨k + 1, ys ++ [DRow.mk ys0 yA yn yc yt yB ym ye], by have := HH.out.2.2.2.2.2.2.1; omega, by go_num, ?_, ?_, by rw [List.length_append, HH.out.2.2.1]; rfl, hYs2.grown hgrow hnew, ⟨HH.out.2.2.2.2.1.1.snoc _ (by have a1 := YY.out.2.1; have a2 := HH.out.2.2.2.2.2.2.2.1; simp only at a1 ⊢; omega) (by have a1 := YY.out.2.2.1; have a2 := HH.out.2.2.2.2.2.2.2.2; simp only at a1 ⊢; omega), HH.out.2.2.2.2.1.2.snoc _ YZ.out⟩⟩
        · exact Below.grown (Ext.trans HH.out.1 (Ext.trans k2 (ext1 _ _))) hgrow (by have := HH.out.1.size; have := k2.size; simp; omega) (fun g hg => ownN_block HH.out.2.1 g hg)
        · rw [flatD_snoc]; exact hown3
    · obtain rfl : k = n := by omega
      have h1 : ¬ (k : Int) < k := by omega
      obtain ⟨A', c', rfl, hmc, hrow, hbk⟩ := rows_of_own hown hyl
      have HH := Lib.hid (And.intro hown (And.intro hyl (And.intro hYs (And.intro hsm (And.intro HO.out.1.2.1 hE)))))
      clear hE hown hyl hYs hsm hk hrow hbk hmc
      go_wp2
      go_ret
      exact ⟨A', c', ys, rfl, HH.out⟩
theorem own5_is (A : Option Addr) (n c : Nat) (xs : List DRow) (L : List DescR) (hn : n ≤ 1000000) (hs : Small xs) (hz : Zs xs) (w : World) (h : Dl w A n xs L) :
    Calls Tryz.prog 35 #[.slice A n c] w (RowP w n L) := (own5_own A n c xs L hn hs hz w h).mono fun _ _ h => h.row
end
end Go.Proofs.YtopgbggighaknaaGreatDoor
/- selionref05: Add, but for what is new. -/
namespace Go.Proofs.YtopgbggighaknaaGreatDoor
open Go.RowKit Go
section
variable (A : Option Addr) (n c : Nat) (xs : List DRow) (L : List DescR) (A1 B1 : Option Addr) (n1 m1 c1 z1 : Nat) (s1 t1 : Int) (l1 r1 : List Int)
set_option maxHeartbeats 4000000 in
set_option maxRecDepth 100000 in
theorem add5_kinds (hn : n ≤ 1000000) (hc : n ≤ c) (hs : Small xs) (w : World) (h : Dl w A n xs L) (hr : rightK L = false) :
    Calls Tryz.prog 12 #[.slice A n c, .agg #[.int .i64 s1, .slice A1 n1 c1, .int .i64 t1, .slice B1 m1 z1]] w fun e w' => e = .returned (.tuple #[.slice none 0 0, .int .i64 0, .int .i64 50]) ∧ Ext w w' := by
  have HE := Lib.hid (ext1 w (.cells #[.int .i64 s1, .slice A1 n1 c1, .int .i64 t1, .slice B1 m1 z1] 25))
  have R := Lib.hid (rright5_is A n c xs L hn hc hs _ (h.ext HE.out))
  rw [hr] at R
  clear h hs hr
  go_enter Tryz.func12, Tryz.ntmps12
  go_wp2_with (go_at_call 18; refine R.out.mono ?_; rintro e w1 ⟨rfl, k1⟩)
  go_ret3
  exact ⟨rfl, Ext.trans HE.out k1⟩
set_option maxHeartbeats 4000000 in
set_option maxRecDepth 100000 in
theorem add5_desc (hn : n ≤ 1000000) (hc : n ≤ c) (hs : Small xs) (hn1 : n1 ≤ 1000000) (hm1 : m1 ≤ 1000000) (w : World) (h : Dl w A n xs L) (h1 : Il w A1 n1 l1) (h1' : Il w B1 m1 r1) (hr : rightK L = true) (hd : rightB ⟨s1, l1, t1, r1⟩ = false) :
    Calls Tryz.prog 12 #[.slice A n c, .agg #[.int .i64 s1, .slice A1 n1 c1, .int .i64 t1, .slice B1 m1 z1]] w fun e w' => e = .returned (.tuple #[.slice none 0 0, .int .i64 0, .int .i64 40]) ∧ Ext w w' := by
  have HE := Lib.hid (ext1 w (.cells #[.int .i64 s1, .slice A1 n1 c1, .int .i64 t1, .slice B1 m1 z1] 25))
  have R := Lib.hid (rright5_is A n c xs L hn hc hs _ (h.ext HE.out))
  have RD := Lib.hid (fun W (hW : Ext w W) => right_is A1 B1 n1 m1 c1 z1 s1 t1 l1 r1 hn1 hm1 W (h1.ext hW) (h1'.ext hW))
  rw [hr] at R
  rw [hd] at RD
  clear h hs hr h1 h1' hd
  go_enter Tryz.func12, Tryz.ntmps12
  go_wp2_with (first | (go_at_call 18; refine R.out.mono ?_; rintro e w1 ⟨rfl, k1⟩; have bR := at_new k1; have q0 := bR.cell 0; have q1 := bR.cell 1; have q2 := bR.cell 2; have q3 := bR.cell 3; simp only [List.getElem?_toArray, List.getElem?_cons_zero, List.getElem?_cons_succ] at q0 q1 q2 q3) | (go_at_call 34; refine (RD.out _ (Ext.trans HE.out k1)).mono ?_; rintro e w2 ⟨rfl, k2⟩))
  go_ret3
  exact ⟨rfl, Ext.trans HE.out (Ext.trans k1 k2)⟩
set_option maxHeartbeats 4000000 in
set_option maxRecDepth 100000 in
theorem add5_there (hn : n ≤ 1000000) (hc : n ≤ c) (hs : Small xs) (hz : Zs xs) (hn1 : n1 ≤ 1000000) (hm1 : m1 ≤ 1000000) (w : World) (h : Dl w A n xs L) (h1 : Il w A1 n1 l1) (h1' : Il w B1 m1 r1) (hr : rightK L = true) (hd : rightB ⟨s1, l1, t1, r1⟩ = true) (hf : (⟨s1, l1, t1, r1⟩ : DescR) ∈ L) :
    Calls Tryz.prog 12 #[.slice A n c, .agg #[.int .i64 s1, .slice A1 n1 c1, .int .i64 t1, .slice B1 m1 z1]] w fun e w' => ∃ A' c' xs', e = .returned (.tuple #[.slice A' n c', .int .i64 ((findK L ⟨s1, l1, t1, r1⟩ : Nat) : Int), .int .i64 0]) ∧ n ≤ c' ∧ Dl w' A' n xs' L ∧ Small xs' ∧ Zs xs' ∧ Ext w w' := by
  have HE := Lib.hid (ext1 w (.cells #[.int .i64 s1, .slice A1 n1 c1, .int .i64 t1, .slice B1 m1 z1] 25))
  have R := Lib.hid (rright5_is A n c xs L hn hc hs _ (h.ext HE.out))
  have RD := Lib.hid (fun W (hW : Ext w W) => right_is A1 B1 n1 m1 c1 z1 s1 t1 l1 r1 hn1 hm1 W (h1.ext hW) (h1'.ext hW))
  have RF := Lib.hid (fun W (hW : Ext w W) => rfind_is A n c xs L hn hs A1 B1 n1 m1 c1 z1 s1 t1 l1 r1 W (h.ext hW) (h1.ext hW) (h1'.ext hW))
  have RO := Lib.hid (fun W (hW : Ext w W) => own5_is A n c xs L hn hs hz W (h.ext hW))
  rw [hr] at R
  rw [hd] at RD
  rw [decide_eq_true hf] at RF
  unfold RowP at RO
  clear h hs hr h1 h1' hd hf
  generalize findK L ⟨s1, l1, t1, r1⟩ = f at *
  go_enter Tryz.func12, Tryz.ntmps12
  go_wp2_with (first | (go_at_call 18; refine R.out.mono ?_; rintro e w1 ⟨rfl, k1⟩; have bR := at_new k1; have q0 := bR.cell 0; have q1 := bR.cell 1; have q2 := bR.cell 2; have q3 := bR.cell 3; simp only [List.getElem?_toArray, List.getElem?_cons_zero, List.getElem?_cons_succ] at q0 q1 q2 q3) | (go_at_call 34; refine (RD.out _ (Ext.trans HE.out k1)).mono ?_; rintro e w2 ⟨rfl, k2⟩; replace bR := bR.ext k2; clear q0 q1 q2 q3; have q0 := bR.cell 0; have q1 := bR.cell 1; have q2 := bR.cell 2; have q3 := bR.cell 3; simp only [List.getElem?_toArray, List.getElem?_cons_zero, List.getElem?_cons_succ] at q0 q1 q2 q3) | (go_at_call 16; refine (RF.out _ (Ext.trans HE.out (Ext.trans k1 k2))).mono ?_; rintro e w3 ⟨rfl, k3⟩) | (go_at_call 35; refine (RO.out _ (Ext.trans HE.out (Ext.trans k1 (Ext.trans k2 k3)))).mono ?_; rintro e w4 ⟨A', c', xs', rfl, a1, a2, a3, a4, k4⟩; have HH := Lib.hid (And.intro a1 (And.intro a2 (And.intro a3 a4))); clear a1 a2 a3 a4))
  go_ret3
  exact ⟨A', c', xs', rfl, HH.out.1, HH.out.2.1, HH.out.2.2.1, HH.out.2.2.2, Ext.trans HE.out (Ext.trans k1 (Ext.trans k2 (Ext.trans k3 k4)))⟩
set_option maxHeartbeats 4000000 in
set_option maxRecDepth 100000 in
theorem add5_many (hn : n = 60) (hc : n ≤ c) (hs : Small xs) (hn1 : n1 ≤ 1000000) (hm1 : m1 ≤ 1000000) (w : World) (h : Dl w A n xs L) (h1 : Il w A1 n1 l1) (h1' : Il w B1 m1 r1) (hr : rightK L = true) (hd : rightB ⟨s1, l1, t1, r1⟩ = true) (hf : (⟨s1, l1, t1, r1⟩ : DescR) ∉ L) :
    Calls Tryz.prog 12 #[.slice A n c, .agg #[.int .i64 s1, .slice A1 n1 c1, .int .i64 t1, .slice B1 m1 z1]] w fun e w' => e = .returned (.tuple #[.slice none 0 0, .int .i64 0, .int .i64 53]) ∧ Ext w w' := by
  have HE := Lib.hid (ext1 w (.cells #[.int .i64 s1, .slice A1 n1 c1, .int .i64 t1, .slice B1 m1 z1] 25))
  have R := Lib.hid (rright5_is A n c xs L (by omega) hc hs _ (h.ext HE.out))
  have RD := Lib.hid (fun W (hW : Ext w W) => right_is A1 B1 n1 m1 c1 z1 s1 t1 l1 r1 hn1 hm1 W (h1.ext hW) (h1'.ext hW))
  have RF := Lib.hid (fun W (hW : Ext w W) => rfind_is A n c xs L (by omega) hs A1 B1 n1 m1 c1 z1 s1 t1 l1 r1 W (h.ext hW) (h1.ext hW) (h1'.ext hW))
  rw [hr] at R
  rw [hd] at RD
  rw [decide_eq_false hf] at RF
  clear h hs hr h1 h1' hd hf
  subst hn
  generalize findK L ⟨s1, l1, t1, r1⟩ = f at *
  go_enter Tryz.func12, Tryz.ntmps12
  go_wp2_with (first | (go_at_call 18; refine R.out.mono ?_; rintro e w1 ⟨rfl, k1⟩; have bR := at_new k1; have q0 := bR.cell 0; have q1 := bR.cell 1; have q2 := bR.cell 2; have q3 := bR.cell 3; simp only [List.getElem?_toArray, List.getElem?_cons_zero, List.getElem?_cons_succ] at q0 q1 q2 q3) | (go_at_call 34; refine (RD.out _ (Ext.trans HE.out k1)).mono ?_; rintro e w2 ⟨rfl, k2⟩; replace bR := bR.ext k2; clear q0 q1 q2 q3; have q0 := bR.cell 0; have q1 := bR.cell 1; have q2 := bR.cell 2; have q3 := bR.cell 3; simp only [List.getElem?_toArray, List.getElem?_cons_zero, List.getElem?_cons_succ] at q0 q1 q2 q3) | (go_at_call 16; refine (RF.out _ (Ext.trans HE.out (Ext.trans k1 k2))).mono ?_; rintro e w3 ⟨rfl, k3⟩))
  go_ret3
  exact ⟨rfl, Ext.trans HE.out (Ext.trans k1 (Ext.trans k2 k3))⟩
end
end Go.Proofs.YtopgbggighaknaaGreatDoor
/- selionref05: Add of what is new. -/
namespace Go.Proofs.YtopgbggighaknaaGreatDoor
open Go.RowKit Go
theorem ownN_lower {w : World} {b b' : Nat} {e : TypeId} {size : Nat} {v : Value} {n : Nat} {xs : List Value} (hb : b' ≤ b) (h : w.ownsRow b e size v n xs) : w.ownsRow b' e size v n xs := by
  obtain ⟨hl, h⟩ := h
  refine ⟨hl, ?_⟩
  rcases h with ⟨rfl, rfl⟩ | ⟨g, cap, cur, rfl, hbg, r⟩
  · exact .inl ⟨rfl, rfl⟩
  · exact .inr ⟨g, cap, cur, rfl, Nat.le_trans hb hbg, r⟩
theorem Ys.appL {W : World} {v : Value} {ys : List DRow} {L M : List DescR} (h : Ys W v ys L) (hl : ys.length ≤ L.length) : Ys W v ys (L ++ M) := fun i y d h1 h2 => by
  have hi : i < ys.length := (List.getElem?_eq_some_iff.1 h1).1
  rw [List.getElem?_append_left (by omega)] at h2
  exact h i y d h1 h2
section
variable (A : Option Addr) (n c : Nat) (xs : List DRow) (L : List DescR) (A1 B1 : Option Addr) (n1 m1 c1 z1 : Nat) (s1 t1 : Int) (l1 r1 : List Int)
set_option maxHeartbeats 8000000 in
set_option maxRecDepth 100000 in
theorem add5_new (hn : n < 60) (hc : n ≤ c) (hs : Small xs) (hz : Zs xs) (hz1 : Dz ⟨s1, A1, n1, c1, t1, B1, m1, z1⟩) (hn1 : n1 ≤ 1000) (hm1 : m1 ≤ 1000) (w : World) (h : Dl w A n xs L) (hx : Dn w ⟨s1, A1, n1, c1, t1, B1, m1, z1⟩ ⟨s1, l1, t1, r1⟩) (hr : rightK L = true) (hd : rightB ⟨s1, l1, t1, r1⟩ = true) (hf : (⟨s1, l1, t1, r1⟩ : DescR) ∉ L) :
    Calls Tryz.prog 12 #[.slice A n c, .agg #[.int .i64 s1, .slice A1 n1 c1, .int .i64 t1, .slice B1 m1 z1]] w fun e w' => ∃ A' c' xs', e = .returned (.tuple #[.slice A' (n + 1) c', .int .i64 ((n : Int) + 1), .int .i64 0]) ∧ n + 1 ≤ c' ∧ Dl w' A' (n + 1) xs' (L ++ [⟨s1, l1, t1, r1⟩]) ∧ Small xs' ∧ Zs xs' ∧ Ext w w' := by
  obtain ⟨i0, hi0⟩ := info_desc
  have HI := Lib.hid hi0
  clear hi0
  have HE := Lib.hid (ext1 w (.cells #[.int .i64 s1, .slice A1 n1 c1, .int .i64 t1, .slice B1 m1 z1] 25))
  have R := Lib.hid (rright5_is A n c xs L (by omega) hc hs _ (h.ext HE.out))
  have RD := Lib.hid (fun W (hW : Ext w W) => right_is A1 B1 n1 m1 c1 z1 s1 t1 l1 r1 (by omega) (by omega) W (hx.p.ext hW) (hx.q.ext hW))
  have RF := Lib.hid (fun W (hW : Ext w W) => rfind_is A n c xs L (by omega) hs A1 B1 n1 m1 c1 z1 s1 t1 l1 r1 W (h.ext hW) (hx.p.ext hW) (hx.q.ext hW))
  have RO := Lib.hid (fun W (hW : Ext w W) => own5_own A n c xs L (by omega) hs hz W (h.ext hW))
  have RC := Lib.hid (fun W (hW : Ext w W) => clone_is ⟨s1, A1, n1, c1, t1, B1, m1, z1⟩ ⟨s1, l1, t1, r1⟩ (show n1 ≤ 1000000 by omega) (show m1 ≤ 1000000 by omega) hz1 W (hx.ext hW))
  rw [hr] at R
  rw [hd] at RD
  rw [decide_eq_false hf] at RF
  have HL := Lib.hid h.2.1
  have HS := Lib.hid (And.intro hn1 hm1)
  have h60 : ((n : Int) == 60) = false := by simpa using (show ¬ (n : Int) = 60 by omega)
  have h61 : (n : Int) < 60 := by omega
  simp only [DRow.cells] at RC
  clear h hs hr hx hd hf hn1 hm1
  generalize findK L ⟨s1, l1, t1, r1⟩ = f at *
  go_enter Tryz.func12, Tryz.ntmps12
  go_wp2_with (first | (go_at_call 18; refine R.out.mono ?_; rintro e w1 ⟨rfl, k1⟩; have bR := at_new k1; have q0 := bR.cell 0; have q1 := bR.cell 1; have q2 := bR.cell 2; have q3 := bR.cell 3; simp only [List.getElem?_toArray, List.getElem?_cons_zero, List.getElem?_cons_succ] at q0 q1 q2 q3) | (go_at_call 34; refine (RD.out _ (Ext.trans HE.out k1)).mono ?_; rintro e w2 ⟨rfl, k2⟩; replace bR := bR.ext k2; clear q0 q1 q2 q3; have q0 := bR.cell 0; have q1 := bR.cell 1; have q2 := bR.cell 2; have q3 := bR.cell 3; simp only [List.getElem?_toArray, List.getElem?_cons_zero, List.getElem?_cons_succ] at q0 q1 q2 q3) | (go_at_call 16; refine (RF.out _ (Ext.trans HE.out (Ext.trans k1 k2))).mono ?_; rintro e w3 ⟨rfl, k3⟩; replace bR := bR.ext k3; clear q0 q1 q2 q3))
  have hW3 := Ext.trans HE.out (Ext.trans k1 (Ext.trans k2 k3))
  refine wp_region_XT2 12 10 rfl (by kernel_rfl) (by kernel_rfl) ?_
  intro HD
  refine wpH2_segL HD 0 1 9 rfl rfl (Ext.refl _) (by kernel_rfl) ?_
  apply Exists.intro
  refine ⟨fun cw => ?_, ?_⟩
  · simp only [List.take_succ_cons, List.take_zero, List.drop_zero]
    repeat (go_big_quiet_step (fail))
    exact wpQuiet_nil rfl
  refine wpH2_segL HD 2 1 8 rfl rfl (Ext.refl _) (by kernel_rfl) ?_
  apply Exists.intro
  refine ⟨fun cw => ?_, ?_⟩
  · have p0 := on_cell ((bR.ext cw.h).cell 0)
    have p1 := on_cell ((bR.ext cw.h).cell 1)
    have p2 := on_cell ((bR.ext cw.h).cell 2)
    have p3 := on_cell ((bR.ext cw.h).cell 3)
    simp only [List.take_succ_cons, List.take_zero, List.drop_succ_cons, List.drop_zero]
    repeat (go_big_quiet_step (fail))
    exact wpQuiet_nil rfl
  refine wpH2_segL HD 6 3 5 rfl rfl (Ext.refl _) (by kernel_rfl) ?_
  apply Exists.intro
  refine ⟨fun cw => ?_, ?_⟩
  · simp only [List.take_succ_cons, List.take_zero, List.drop_succ_cons, List.drop_zero]
    repeat (go_big_quiet_step (fail))
    exact wpQuiet_nil rfl
  refine wpH2_stepL 1 4 rfl rfl rfl (by kernel_rfl) ?_
  intro V hV K hK
  go_simp
  refine (RO.out V (Ext.trans hW3 hV)).mono ?_
  rintro e V2 ⟨A', c', ys, rfl, hown, hyl, hYs, ⟨hsm, hzs⟩, hL, k4⟩
  have X2 := Ext.trans hV k4
  refine hK.out _ _ X2 ?_
  clear hK K
  refine wpH2_stepL 3 3 rfl rfl rfl (by kernel_rfl) ?_
  intro V3 hV3 K hK
  go_simp
  refine (RC.out V3 (Ext.trans hW3 (Ext.trans X2 hV3))).mono ?_
  rintro e V4 ⟨⟨ys0, yA, yn, yc, yt, yB, ym, ye⟩, rfl, ⟨y1, y0⟩, y2, y3, y4, y5, k5⟩
  simp only [DRow.cells]
  have X4 := Ext.trans X2 (Ext.trans hV3 k5)
  refine hK.out _ _ X4 ?_
  clear hK K
  refine wpH2_stepL 4 2 rfl rfl rfl (by kernel_rfl) ?_
  intro V5 hV5 K hK
  go_simp
  have X5 := Ext.trans X4 (Ext.trans hV5 (ext1 V5 (.cells (DRow.mk ys0 yA yn yc yt yB ym ye).cells 25)))
  refine hK.out _ _ X5 ?_
  clear hK K
  refine wpH2_stepL 5 1 rfl rfl rfl (by kernel_rfl) ?_
  intro V6 hV6 K hK
  rw [if_pos (show Region.wanted _ _ = true from rfl)]
  refine wp_append_row (.tmp 29) (.tmp 32) 22 ?_ w3.heap.size 25 i0 (.agg #[.int .i64 0, .slice none 0 0, .int .i64 0, .slice none 0 0]) 4 64 Tryz.underlying22 HI.out.1 HI.out.2.1 HI.out.2.2.1 HI.out.2.2.2 rfl (by decide) (.slice A' n c') n (flatD ys) ?_ (ownN_lower hV.size (ownN_ext hown (Ext.trans hV3 (Ext.trans k5 (Ext.trans hV5 (Ext.trans (ext1 V5 (.cells (DRow.mk ys0 yA yn yc yt yB ym ye).cells 25)) hV6)))))) ⟨V5.heap.size, 0, none⟩ 1 (DRow.mk ys0 yA yn yc yt yB ym ye).cells.toList ?_ rfl (fun j u hj => ?_) (row_one _) (by unfold maxLen; omega) (by omega) (by have := (Ext.trans X5 hV6).size; omega) ?_
  · rfl
  · rfl
  · rfl
  · have h0 := new_cells1 V5 (DRow.mk ys0 yA yn yc yt yB ym ye).cells 25 j u (by simpa [DRow.cells] using hj)
    exact (hV6.cell (by rw [block_of_add]; show V5.heap.size < (V5.alloc _).heap.size; rw [World.size_alloc]; omega)).trans h0
  intro v' V7 hown7 hgrow hnew
  have hYs6 : Ys V6 (.slice A' n c') (ys ++ [DRow.mk ys0 yA yn yc yt yB ym ye]) (L ++ [⟨s1, l1, t1, r1⟩]) := by
    have e6 := Ext.trans hV5 (Ext.trans (ext1 V5 (.cells (DRow.mk ys0 yA yn yc yt yB ym ye).cells 25)) hV6)
    have hob : ∀ b, (Value.slice A' n c').ownBlock = some b → b < V3.heap.size := fun b hb' => Nat.lt_of_lt_of_le (World.ownsRow.lt hown b hb').2 hV3.size
    exact ((hYs.ext (Ext.trans hV3 (Ext.trans k5 e6))).appL (by rw [hyl, hL]; exact Nat.le_refl _)).snoc (k := n) hyl (by rw [List.getElem?_append_right (by rw [hL]; exact Nat.le_refl _), hL]; simp) (y1.ext e6) (fun a1 e1' e2' => by have := y4 a1 e1'; have := hob _ e2'; omega) (fun a1 e1' e2' => by have := y5 a1 e1'; have := hob _ e2'; omega)
  have X7 : Ext w3 V7 := Below.grown (Ext.trans X5 hV6) hgrow (Ext.trans X5 hV6).size (fun g hg => by
    have := ownN_block hown g hg
    have := hV.size
    omega)
  obtain ⟨A7, c7, rfl, hmc, hrow, _⟩ := rows_of_own (xs := ys ++ [DRow.mk ys0 yA yn yc yt yB ym ye]) (by rw [flatD_snoc]; exact hown7) (by rw [List.length_append, hyl]; rfl)
  simp only [Act.put, List.setIfInBounds_toArray, List.set_cons_succ, List.set_cons_zero]
  refine hK.out _ _ X7 ?_
  clear hK K
  have HF := Lib.hid (And.intro hmc (And.intro (show Dl V7 A7 (n + 1) (ys ++ [DRow.mk ys0 yA yn yc yt yB ym ye]) (L ++ [⟨s1, l1, t1, r1⟩]) from ⟨hrow, by rw [List.length_append, hL]; rfl, fun i y d g1 g2 => ((hYs6.grown hgrow hnew) i y d g1 g2).1⟩) (And.intro (hsm.snoc (DRow.mk ys0 yA yn yc yt yB ym ye) (by have a1 : yn = n1 := y2; have a2 := HS.out.1; show yn ≤ 1000; omega) (by have a1 : ym = m1 := y3; have a2 := HS.out.2; show ym ≤ 1000; omega)) X7)))
  have HFZ := Lib.hid (hzs.snoc _ y0)
  clear hzs y0 hmc hrow hYs6 hown7 hgrow hnew hown hyl hYs hsm hL y1 y2 y3 y4 y5 X2 X4 X5 hV hV3 hV5 hV6 k4 k5
  refine wpH2_segL HD 9 1 0 rfl rfl X7 (by kernel_rfl) ?_
  apply Exists.intro
  refine ⟨fun cw => ?_, ?_⟩
  · simp only [List.take_succ_cons, List.take_zero, List.drop_succ_cons, List.drop_zero]
    repeat (go_big_quiet_step (fail))
    exact wpQuiet_nil rfl
  refine wpH2_end (fun V8 hV8 => ⟨by kernel_rfl, ?_⟩)
  clear HD X7 bR
  simp only [List.drop_succ_cons, List.drop_zero]
  go_wp2
  go_ret3
  exact ⟨A7, c7, _, rfl, HF.out.1, HF.out.2.1.ext hV8, HF.out.2.2.1, HFZ.out, Ext.trans hW3 (Ext.trans HF.out.2.2.2 hV8)⟩
end
end Go.Proofs.YtopgbggighaknaaGreatDoor
/- kinds: copiedPlaces: a slice of ints of its own. -/
namespace Go.Proofs.YtopgbggighaknaaGreatDoor
open Go.RowKit Go
theorem il_blk {w : World} {g : Nat} {l : List Int} {t : TypeId} (h : Blk w g (encZ l).toArray t) : Il w (some ⟨g, 0, none⟩) l.length l := by
  refine ⟨rfl, fun hn => ⟨_, rfl, h.lt, fun j hj => ?_⟩⟩
  have e : (⟨g, 0, none⟩ : Addr).add j = ⟨g, j, none⟩ := by unfold Addr.add; split <;> simp_all
  rw [e, h.cell]
  simp [encZ, hj, List.getD]
theorem copy_ints {w : World} {A : Option Addr} {n c : Nat} {l : List Int} (h : Il w A n l) {g : Nat} {cur : Array Value} {t : TypeId} (hg : Blk w g cur t) (hn : cur.size = n) :
    ∃ w', (∀ ty, (Builtin.copy_ #[23, 23] ty #[.slice (some ⟨g, 0, none⟩) n n, .slice A n c]).run Tryz.prog w = .ok (goInt n) w') ∧ Blk w' g (encZ l).toArray t ∧ Chg g w w' := by
  have hs : (Tryz.prog.info? 3).map (·.size) = some 1 := by kernel_rfl
  have hl := h.1
  rcases Nat.eq_zero_or_pos n with h0 | h0
  · refine ⟨w, fun ty => ?_, ?_, Chg.refl _ _⟩
    · have := run_copy_none (P := Tryz.prog) w 23 23 ty 3 (some ⟨g, 0, none⟩) A n n n c Tryz.underlying23 hs (by rw [h0]; rfl)
      rw [this, h0]; rfl
    · obtain rfl : l = [] := List.length_eq_zero_iff.1 (by omega)
      obtain rfl : cur = #[] := Array.size_eq_zero_iff.1 (by omega)
      exact hg
  · obtain ⟨ad, rfl, hb, hc⟩ := h.2 h0
    refine ⟨_, fun ty => ?_, ?_, Chg.setRow g w (encZ l).toArray⟩
    · have := run_copy_row (P := Tryz.prog) w 23 23 ty 3 g 0 n n ad n c cur t (encZ l) Tryz.underlying23 hs hg (by simp [encZ, hl]) (fun j v hj => ?_) (by simp [encZ, hl, hn]) (fun v hv => by obtain ⟨z, _, rfl⟩ := List.mem_map.1 hv; rfl)
      · rw [this]
        have e : ((cur.toList.take 0 ++ encZ l ++ cur.toList.drop (0 + (encZ l).length)).toArray) = (encZ l).toArray := by
          rw [show cur.toList.drop (0 + (encZ l).length) = [] from List.drop_eq_nil_iff.2 (by simp [encZ, hl, hn])]
          simp
        rw [e, show (encZ l).length = n by simp [encZ, hl]]
      · have hjn : j < l.length := by
          have := (List.getElem?_eq_some_iff.1 hj).1
          simpa [encZ] using this
        rw [hc j (by omega)]
        simp [encZ, hjn] at hj
        rw [← hj]
        show some (Value.int .i64 (l.getD j 0)) = _
        rw [List.getD_eq_getElem?_getD, List.getElem?_eq_getElem hjn]; rfl
    · exact setRow_heap w g cur (encZ l).toArray t (0, 0) hg
/-- What copiedPlaces answers. -/
def CpR (w : World) (n : Nat) (l : List Int) (e : Ending) (w' : World) : Prop := ∃ ad : Addr, e = .returned (.slice (some ad) n n) ∧ Il w' (some ad) n l ∧ w.heap.size ≤ ad.block ∧ Ext w w'
section
set_option maxHeartbeats 4000000 in
theorem cplaces_is (A : Option Addr) (n c : Nat) (l : List Int) (hn : n ≤ 1000000) (w : World) (h : Il w A n l) :
    Calls Tryz.prog 50 #[.slice A n c] w (CpR w n l) := by
  have hmk := run_make_row' (P := Tryz.prog) 23 3 (.int .i64 0) 8 Tryz.underlying23 infoZ rfl .i64 .i64 n (by omega) (by omega)
  have E1 := ext1 w (.cells (madeCells #[.int .i64 0] n) 3)
  obtain ⟨w2, hcp, hb, hch⟩ := copy_ints (c := c) (h.ext E1) (Blk.new w (madeCells #[.int .i64 0] n) 3) (size_madeCells _ _)
  have hl := h.1
  have HE := Lib.hid (Chg.below E1 hch (by simp) (Nat.le_refl _))
  have HB := Lib.hid hb
  clear h E1 hb hch
  go_enter Tryz.func50, Tryz.ntmps50
  go_wp2
  go_ret
  have hi := il_blk HB.out
  rw [hl] at hi
  exact ⟨_, rfl, hi, Nat.le_refl _, HE.out⟩
end
end Go.Proofs.YtopgbggighaknaaGreatDoor
