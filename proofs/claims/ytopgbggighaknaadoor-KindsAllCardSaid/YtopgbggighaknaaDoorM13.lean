/- Joined texts, in their order: KBehind, KRoom, KAdd. -/
import Derived.Test.YtopgbggighaknaaDoorM10
import Derived.OwnWalk
import Derived.Test.YtopgbggighaknaaDoorM12
import Derived.Test.YtopgbggighaknaaDoorM11
/- kinds: behind: descriptors with one more, in a row of their own. -/
namespace Go.Proofs.YtopgbggighaknaaDoor
open Go.RowKit Go
theorem wpList_append_eq {P : Program} {w : World} {ops : Array Oper} {rest : List Oper} {o : Oper} {a : Act} {Q : Exit → Act → World → Prop} (hgd : o.guard = none) (s x : Operand) (t : TypeId)
    (ho : o.op = .call { callee := .builtin .append, args := #[s, x], argTypes := #[t, t] }) {v1 v2 r : Value} {w' : World} (hs : a.eval s = v1) (hx : a.eval x = v2)
    (hrun : ∀ ty, (Builtin.append_ #[t, t] ty #[v1, v2]).run P w = .ok r w') (h : wpList P ops Q rest (a.put o.dst r) w') : wpList P ops Q (o :: rest) a w := by
  refine wpList_plain hgd fun K hK => ?_
  have hrun := hrun o.type
  unfold Oper.wp
  simp [execOp, ho, resolve, invoke, builtin, hs, hx, hrun, Result.andThen]
  exact hK _ _ h
theorem flatD_cell {w : World} {A : Option Addr} {n : Nat} {xs : List DRow} (h : RowsAt w A n xs) {ad : Addr} (hA : A = some ad) (j : Nat) (v : Value) (hj : (flatD xs)[j]? = some v) : w.cell? (ad.add j) = some v := by
  have hjl := (List.getElem?_eq_some_iff.1 hj).1
  rw [flatD_len, h.1] at hjl
  obtain ⟨ad', e, _, hc⟩ := h.2 (by omega)
  rw [hA] at e
  obtain rfl := Option.some.inj e
  have hi : j / 4 < n := by omega
  have e4 : j / 4 * 4 + j % 4 = j := by omega
  have := hc (j / 4) (j % 4) hi (by omega)
  rw [e4] at this
  rw [this, ← flatD_get xs (j / 4) (j % 4) (by rw [h.1]; exact hi) (by omega), e4, hj]
theorem rows_of_cells {w : World} {g : Nat} {xs : List DRow} {zs : Array Value} {t : TypeId} (h : Blk w g ((flatD xs).toArray ++ zs) t) : RowsAt w (some ⟨g, 0, none⟩) xs.length xs := by
  refine ⟨rfl, fun hn => ⟨_, rfl, h.lt, fun i j hi hj => ?_⟩⟩
  have e : (⟨g, 0, none⟩ : Addr).add (i * 4 + j) = ⟨g, i * 4 + j, none⟩ := by
    unfold Addr.add
    split
    · rename_i h0; rw [h0]
    · simp
  rw [e, h.cell, Array.getElem?_append_left (by simp [flatD_len]; omega), ← flatD_get xs i j hi hj]
  simp
theorem app_row {w : World} {A : Option Addr} {n : Nat} {xs : List DRow} (h : RowsAt w A n xs) (hA : A = none → n = 0) (hn : n ≤ 1000000) (x : DRow) (ad1 : Addr) (hnews : ∀ j u, x.cells.toList[j]? = some u → w.cell? (ad1.add j) = some u) :
    ∃ c' w', (∀ ty, (Builtin.append_ #[22, 22] ty #[.slice A n n, .slice (some ad1) 1 1]).run Tryd.prog w = .ok (.slice (some ⟨w.heap.size, 0, none⟩) (n + 1) c') w') ∧ n + 1 ≤ c' ∧ RowsAt w' (some ⟨w.heap.size, 0, none⟩) (n + 1) (xs ++ [x]) ∧ Ext w w' := by
  obtain ⟨i, hi, hz, hs, hb⟩ := info_desc
  have hl : x.cells.toList.length = 1 * i.size := by rw [hs]; rfl
  have fin : ∀ (cap : Nat), cap = grownCap w (n + 1) n 27 → ∀ (zs : Array Value), let w' := w.drew.alloc (.cells ((flatD xs).toArray ++ x.cells.toList.toArray ++ zs) 27); n + 1 ≤ cap ∧ RowsAt w' (some ⟨w.heap.size, 0, none⟩) (n + 1) (xs ++ [x]) ∧ Ext w w' := by
    intro cap hcap zs
    have hB : Blk (w.drew.alloc (.cells ((flatD (xs ++ [x])).toArray ++ zs) 27)) w.heap.size ((flatD (xs ++ [x])).toArray ++ zs) 27 := Blk.new w.drew _ _
    have e1 : (flatD (xs ++ [x])).toArray = (flatD xs).toArray ++ x.cells.toList.toArray := by rw [flatD_snoc]; simp
    have hR := rows_of_cells hB
    rw [List.length_append, h.1] at hR
    rw [e1] at hR
    exact ⟨by rw [hcap]; exact grownCap_ge w (n + 1) n _, hR, ((Ext.refl w).drew).alloc (Nat.le_refl _) _⟩
  rcases A with _ | ad
  · obtain rfl : n = 0 := hA rfl
    obtain rfl : xs = [] := List.length_eq_zero_iff.1 h.1
    have hrun := fun ty => run_append_nil (P := Tryd.prog) w 22 ty 27 i _ Tryd.underlying22 hi hz ad1 1 1 x.cells.toList hl hnews (by omega) (by omega) (by rw [hb]; omega)
    have hf := fin _ rfl (Builtin.zeroCells (Value.agg #[.int .i64 0, .slice none 0 0, .int .i64 0, .slice none 0 0]).cells (grownCap w 1 0 27 - 1))
    have e2 : (flatD ([] : List DRow)).toArray ++ x.cells.toList.toArray = x.cells.toList.toArray := by simp [flatD]
    rw [e2] at hf
    exact ⟨_, _, hrun, hf⟩
  · have hrun := fun ty => run_append_grow (P := Tryd.prog) w 22 ty 27 i _ Tryd.underlying22 hi hz ad n n (flatD xs) (by rw [flatD_len, h.1, hs]) (flatD_cell h rfl) ad1 1 1 x.cells.toList hl hnews (by omega) (by omega) (growslice_fits (by omega) (by rw [hb]; omega))
    exact ⟨_, _, hrun, fin _ rfl _⟩
section
set_option maxHeartbeats 4000000 in
theorem behind_is (A : Option Addr) (n c : Nat) (xs : List DRow) (L : List DescR) (hn : n ≤ 1000000) (hc : n ≤ c) (x : DRow) (d : DescR) (ad1 : Addr) (w : World) (h : Dl w A n xs L) (hx : Dn w x d) (hnews : ∀ j u, x.cells.toList[j]? = some u → w.cell? (ad1.add j) = some u) :
    Calls Tryd.prog 22 #[.slice A n c, .slice (some ad1) 1 1] w fun e w' => ∃ A' c', e = .returned (.slice A' (n + 1) c') ∧ n + 1 ≤ c' ∧ Dl w' A' (n + 1) (xs ++ [x]) (L ++ [d]) ∧ Ext w w' := by
  obtain ⟨c2, w2, hrun, hc2, hrow, hE⟩ := app_row (A := A) h.1 (fun e => by
    rcases Nat.eq_zero_or_pos n with h0 | h0
    · exact h0
    · obtain ⟨ad, e', _⟩ := h.1.2 h0; rw [e] at e'; cases e') hn x ad1 hnews
  have HD := Lib.hid (show Dl w2 (some ⟨w.heap.size, 0, none⟩) (n + 1) (xs ++ [x]) (L ++ [d]) from ⟨hrow, by rw [List.length_append, h.2.1]; rfl, fun i y d' h1 h2 => by
    have h1l := h.1.1
    have h2l := h.2.1
    rcases Nat.lt_or_ge i xs.length with hi | hi
    · rw [List.getElem?_append_left hi] at h1
      rw [List.getElem?_append_left (by omega)] at h2
      exact (h.2.2 i y d' h1 h2).ext hE
    · rw [List.getElem?_append_right hi] at h1
      rw [List.getElem?_append_right (by omega)] at h2
      have m1 := List.mem_of_getElem? h1
      have m2 := List.mem_of_getElem? h2
      obtain rfl : y = x := by simpa using m1
      obtain rfl : d' = d := by simpa using m2
      exact hx.ext hE⟩)
  have HH := Lib.hid (And.intro hrun (And.intro hc2 hE))
  have h1 : (n : Int) ≤ c := by omega
  clear h hx hnews hrun hrow hE hc2
  rcases A with _ | ad
  · go_enter Tryd.func22, Tryd.ntmps22
    go_wp2_with (at_builtin; go_loud (refine wpList_append_eq rfl _ _ _ rfl ?_ ?_ HH.out.1 ?_; rotate_left; rotate_left))
    · go_ret
      exact ⟨_, _, rfl, HH.out.2.1, HD.out, HH.out.2.2⟩
    · rfl
    · rfl
  · go_enter Tryd.func22, Tryd.ntmps22
    go_wp2_with (at_builtin; go_loud (refine wpList_append_eq rfl _ _ _ rfl ?_ ?_ HH.out.1 ?_; rotate_left; rotate_left))
    · go_ret
      exact ⟨_, _, rfl, HH.out.2.1, HD.out, HH.out.2.2⟩
    · rfl
    · rfl
end
end Go.Proofs.YtopgbggighaknaaDoor
/- kinds: noRoom, noKind (made by gen_kadd.py). -/
namespace Go.Proofs.YtopgbggighaknaaDoor
open Go.RowKit Go
set_option maxHeartbeats 4000000 in
theorem noRoom_is (k : Nat) (w : World) (hG : K.G w) :
    Calls Tryd.prog 21 #[.int .i64 (k : Nat)] w fun e w' => (∃ v, e = .returned v ∧ K.Code v (K.codeI (decide (k < 60)) 53)) ∧ Ext w w' := by
  obtain ⟨te, pe, hc⟩ := hG.k3
  have HC := fun b => Lib.hid (K.code_unless b 53 (by decide) te pe)
  clear hG
  by_cases h : k < 60
  · rw [decide_eq_true h]
    have h5 : (k : Int) < 60 := by omega
    go_enter Tryd.func21, Tryd.ntmps21
    go_wp2_with (go_at_call 29; refine (K.unless_is _ _ _ _ _).mono ?_; rintro e w' ⟨rfl, k1⟩)
    go_ret
    exact ⟨⟨_, rfl, (HC true).out⟩, k1⟩
  · rw [decide_eq_false h]
    have h5 : ¬ (k : Int) < 60 := by omega
    go_enter Tryd.func21, Tryd.ntmps21
    go_wp2_with (go_at_call 29; refine (K.unless_is _ _ _ _ _).mono ?_; rintro e w' ⟨rfl, k1⟩)
    go_ret
    exact ⟨⟨_, rfl, (HC false).out⟩, k1⟩
set_option maxHeartbeats 4000000 in
theorem noKind_is (y : Int) (n : Nat) (w : World) (hG : K.G w) :
    Calls Tryd.prog 17 #[.int .i64 y, .int .i64 (n : Nat)] w fun e w' => (∃ v, e = .returned v ∧ K.Code v (K.codeI (decide (1 ≤ y ∧ y ≤ n)) 51)) ∧ Ext w w' := by
  obtain ⟨te, pe, hc⟩ := hG.k4
  have HC := fun b => Lib.hid (K.code_unless b 51 (by decide) te pe)
  clear hG
  by_cases h1 : 1 ≤ y
  · by_cases h2 : y ≤ n
    · rw [decide_eq_true ⟨h1, h2⟩]
      have d2 : decide (y ≤ (n : Int)) = true := decide_eq_true h2
      go_enter Tryd.func17, Tryd.ntmps17
      go_wp2_with (go_at_call 29; refine (K.unless_is _ _ _ _ _).mono ?_; rintro e w' ⟨rfl, k1⟩)
      go_ret
      exact ⟨⟨_, rfl, (HC true).out⟩, k1⟩
    · rw [decide_eq_false (fun h => h2 h.2)]
      have d2 : decide (y ≤ (n : Int)) = false := decide_eq_false h2
      go_enter Tryd.func17, Tryd.ntmps17
      go_wp2_with (go_at_call 29; refine (K.unless_is _ _ _ _ _).mono ?_; rintro e w' ⟨rfl, k1⟩)
      go_ret
      exact ⟨⟨_, rfl, (HC false).out⟩, k1⟩
  · rw [decide_eq_false (fun h => h1 h.1)]
    go_enter Tryd.func17, Tryd.ntmps17
    go_wp2_with (go_at_call 29; refine (K.unless_is _ _ _ _ _).mono ?_; rintro e w' ⟨rfl, k1⟩)
    go_ret
    exact ⟨⟨_, rfl, (HC false).out⟩, k1⟩
end Go.Proofs.YtopgbggighaknaaDoor
/- kinds: Add, case by case (made by gen_kadd.py). -/
namespace Go.Proofs.YtopgbggighaknaaDoor
open Go.RowKit Go
section
variable (A : Option Addr) (n c : Nat) (xs : List DRow) (L : List DescR) (A1 B1 : Option Addr) (n1 m1 c1 z1 : Nat) (s1 t1 : Int) (l1 r1 : List Int)
set_option maxHeartbeats 8000000 in
set_option maxRecDepth 100000 in
theorem kadd_50a (hn : n ≤ 1000000) (hc : n ≤ c) (hs : Small xs) (hn1 : n1 ≤ 1000) (hm1 : m1 ≤ 1000) (w : World) (hG : K.G w) (h : Dl w A n xs L) (hx : Dn w ⟨s1, A1, n1, c1, t1, B1, m1, z1⟩ ⟨s1, l1, t1, r1⟩) (hr : rightK L = false) (hd : rightB ⟨s1, l1, t1, r1⟩ = false) :
    Calls Tryd.prog 10 #[.slice A n c, .agg #[.int .i64 s1, .slice A1 n1 c1, .int .i64 t1, .slice B1 m1 z1]] w fun e w' => e = .returned (.tuple #[.slice none 0 0, .int .i64 0, .int .i64 50]) ∧ Ext w w' := by
  have HE := Lib.hid (ext1 w (.cells #[.int .i64 s1, .slice A1 n1 c1, .int .i64 t1, .slice B1 m1 z1] 27))
  have HB := Lib.hid (Blk.new w #[.int .i64 s1, .slice A1 n1 c1, .int .i64 t1, .slice B1 m1 z1] 27)
  have HG := Lib.hid (fun W (hW : Ext w W) => hG.ext hW)
  have RK := Lib.hid (fun W (hW : Ext w W) => noKinds_is A n c xs L hn hc hs W (hG.ext hW) (h.ext hW))
  have RD := Lib.hid (fun W (hW : Ext w W) => K.noDesc_is A1 B1 n1 m1 c1 z1 s1 t1 l1 r1 (by omega) (by omega) W (hG.ext hW) (hx.p.ext hW) (hx.q.ext hW))
  rw [hr] at RK
  rw [hd] at RD
  clear h hs hx hG hr hd
  go_enter Tryd.func10, Tryd.ntmps10
  go_wp2
  refine wp_region_XT2 7 6 rfl (by kernel_rfl) (by kernel_rfl) ?_
  intro HD
  refine wpH2_segL HD 0 1 5 rfl rfl (Ext.refl _) (by kernel_rfl) ?_
  apply Exists.intro
  refine ⟨fun cw => ?_, ?_⟩
  · simp only [List.take_succ_cons, List.take_zero, List.drop_zero]
    repeat (go_big_quiet_step (fail))
    exact wpQuiet_nil rfl
  refine wpH2_segL HD 2 1 4 rfl rfl (Ext.refl _) (by kernel_rfl) ?_
  apply Exists.intro
  refine ⟨fun cw => ?_, ?_⟩
  · have p0 := on_cell ((HB.out.ext cw.h).cell 0)
    have p1 := on_cell ((HB.out.ext cw.h).cell 1)
    have p2 := on_cell ((HB.out.ext cw.h).cell 2)
    have p3 := on_cell ((HB.out.ext cw.h).cell 3)
    simp only [List.take_succ_cons, List.take_zero, List.drop_succ_cons, List.drop_zero]
    repeat (go_big_quiet_step (fail))
    exact wpQuiet_nil rfl
  refine wpH2_stepL 1 3 rfl rfl rfl (by kernel_rfl) ?_
  intro V hV KK hK
  go_simp
  refine (RK.out V (Ext.trans HE.out hV)).mono ?_
  rintro e V2 ⟨⟨v1, rfl, hv1⟩, k2⟩
  have C1 := Lib.hid (show K.Code v1 50 from hv1)
  obtain ⟨te1, pe1, rfl⟩ := K.code_err C1.out (by decide)
  clear hv1
  have X2 := Ext.trans hV k2
  refine hK.out _ _ X2 ?_
  clear hK KK
  refine wpH2_stepL 3 2 rfl rfl rfl (by kernel_rfl) ?_
  intro V3 hV3 KK hK
  go_simp
  refine (RD.out V3 (Ext.trans HE.out (Ext.trans X2 hV3))).mono ?_
  rintro e V4 ⟨⟨v2, rfl, hv2⟩, k4⟩
  have C2 := Lib.hid (show K.Code v2 40 from hv2)
  obtain ⟨te2, pe2, rfl⟩ := K.code_err C2.out (by decide)
  clear hv2
  have X4 := Ext.trans X2 (Ext.trans hV3 k4)
  refine hK.out _ _ X4 ?_
  clear hK KK
  refine wpH2_stepL 4 1 rfl rfl rfl (by kernel_rfl) ?_
  intro V5 hV5 KK hK
  go_simp
  have X5 := fun o => Ext.trans X4 (Ext.trans hV5 (ext1 V5 o))
  refine hK.out _ _ (X5 _) ?_
  clear hK KK
  refine wpH2_stepL 5 0 rfl rfl rfl (by kernel_rfl) ?_
  intro V6 hV6 KK hK
  go_simp
  have X6 := Ext.trans (X5 _) hV6
  refine (K.told2_is 50 40 _ _ V5.heap.size 45 V6 (HG.out V6 (Ext.trans HE.out X6)) ((Blk.new V5 _ _).ext hV6) C1.out C2.out).mono ?_
  rintro e V7 ⟨rfl, k7⟩
  have X7 := Ext.trans X6 k7
  refine hK.out _ _ X7 ?_
  clear hK KK
  refine wpH2_end (fun V8 hV8 => ⟨by kernel_rfl, ?_⟩)
  have kw := Ext.trans HE.out (Ext.trans X7 hV8)
  have bR := HB.out.ext (Ext.trans X7 hV8)
  have q0 := bR.cell 0
  have q1 := bR.cell 1
  have q2 := bR.cell 2
  have q3 := bR.cell 3
  simp only [List.getElem?_toArray, List.getElem?_cons_zero, List.getElem?_cons_succ] at q0 q1 q2 q3
  clear HD X2 X4 X5 X6 X7 hV hV3 hV5 hV6 hV8 k2 k4 k7
  simp only [List.drop_succ_cons, List.drop_zero]
  go_wp2
  go_ret3
  exact ⟨rfl, kw⟩
set_option maxHeartbeats 8000000 in
set_option maxRecDepth 100000 in
theorem kadd_50b (hn : n ≤ 1000000) (hc : n ≤ c) (hs : Small xs) (hn1 : n1 ≤ 1000) (hm1 : m1 ≤ 1000) (w : World) (hG : K.G w) (h : Dl w A n xs L) (hx : Dn w ⟨s1, A1, n1, c1, t1, B1, m1, z1⟩ ⟨s1, l1, t1, r1⟩) (hr : rightK L = false) (hd : rightB ⟨s1, l1, t1, r1⟩ = true) :
    Calls Tryd.prog 10 #[.slice A n c, .agg #[.int .i64 s1, .slice A1 n1 c1, .int .i64 t1, .slice B1 m1 z1]] w fun e w' => e = .returned (.tuple #[.slice none 0 0, .int .i64 0, .int .i64 50]) ∧ Ext w w' := by
  have HE := Lib.hid (ext1 w (.cells #[.int .i64 s1, .slice A1 n1 c1, .int .i64 t1, .slice B1 m1 z1] 27))
  have HB := Lib.hid (Blk.new w #[.int .i64 s1, .slice A1 n1 c1, .int .i64 t1, .slice B1 m1 z1] 27)
  have HG := Lib.hid (fun W (hW : Ext w W) => hG.ext hW)
  have RK := Lib.hid (fun W (hW : Ext w W) => noKinds_is A n c xs L hn hc hs W (hG.ext hW) (h.ext hW))
  have RD := Lib.hid (fun W (hW : Ext w W) => K.noDesc_is A1 B1 n1 m1 c1 z1 s1 t1 l1 r1 (by omega) (by omega) W (hG.ext hW) (hx.p.ext hW) (hx.q.ext hW))
  rw [hr] at RK
  rw [hd] at RD
  clear h hs hx hG hr hd
  go_enter Tryd.func10, Tryd.ntmps10
  go_wp2
  refine wp_region_XT2 7 6 rfl (by kernel_rfl) (by kernel_rfl) ?_
  intro HD
  refine wpH2_segL HD 0 1 5 rfl rfl (Ext.refl _) (by kernel_rfl) ?_
  apply Exists.intro
  refine ⟨fun cw => ?_, ?_⟩
  · simp only [List.take_succ_cons, List.take_zero, List.drop_zero]
    repeat (go_big_quiet_step (fail))
    exact wpQuiet_nil rfl
  refine wpH2_segL HD 2 1 4 rfl rfl (Ext.refl _) (by kernel_rfl) ?_
  apply Exists.intro
  refine ⟨fun cw => ?_, ?_⟩
  · have p0 := on_cell ((HB.out.ext cw.h).cell 0)
    have p1 := on_cell ((HB.out.ext cw.h).cell 1)
    have p2 := on_cell ((HB.out.ext cw.h).cell 2)
    have p3 := on_cell ((HB.out.ext cw.h).cell 3)
    simp only [List.take_succ_cons, List.take_zero, List.drop_succ_cons, List.drop_zero]
    repeat (go_big_quiet_step (fail))
    exact wpQuiet_nil rfl
  refine wpH2_stepL 1 3 rfl rfl rfl (by kernel_rfl) ?_
  intro V hV KK hK
  go_simp
  refine (RK.out V (Ext.trans HE.out hV)).mono ?_
  rintro e V2 ⟨⟨v1, rfl, hv1⟩, k2⟩
  have C1 := Lib.hid (show K.Code v1 50 from hv1)
  obtain ⟨te1, pe1, rfl⟩ := K.code_err C1.out (by decide)
  clear hv1
  have X2 := Ext.trans hV k2
  refine hK.out _ _ X2 ?_
  clear hK KK
  refine wpH2_stepL 3 2 rfl rfl rfl (by kernel_rfl) ?_
  intro V3 hV3 KK hK
  go_simp
  refine (RD.out V3 (Ext.trans HE.out (Ext.trans X2 hV3))).mono ?_
  rintro e V4 ⟨⟨v2, rfl, hv2⟩, k4⟩
  obtain rfl := K.code_nil hv2 rfl
  clear hv2
  have C2 := Lib.hid K.code_0
  have X4 := Ext.trans X2 (Ext.trans hV3 k4)
  refine hK.out _ _ X4 ?_
  clear hK KK
  refine wpH2_stepL 4 1 rfl rfl rfl (by kernel_rfl) ?_
  intro V5 hV5 KK hK
  go_simp
  have X5 := fun o => Ext.trans X4 (Ext.trans hV5 (ext1 V5 o))
  refine hK.out _ _ (X5 _) ?_
  clear hK KK
  refine wpH2_stepL 5 0 rfl rfl rfl (by kernel_rfl) ?_
  intro V6 hV6 KK hK
  go_simp
  have X6 := Ext.trans (X5 _) hV6
  refine (K.told2_is 50 0 _ _ V5.heap.size 45 V6 (HG.out V6 (Ext.trans HE.out X6)) ((Blk.new V5 _ _).ext hV6) C1.out C2.out).mono ?_
  rintro e V7 ⟨rfl, k7⟩
  have X7 := Ext.trans X6 k7
  refine hK.out _ _ X7 ?_
  clear hK KK
  refine wpH2_end (fun V8 hV8 => ⟨by kernel_rfl, ?_⟩)
  have kw := Ext.trans HE.out (Ext.trans X7 hV8)
  have bR := HB.out.ext (Ext.trans X7 hV8)
  have q0 := bR.cell 0
  have q1 := bR.cell 1
  have q2 := bR.cell 2
  have q3 := bR.cell 3
  simp only [List.getElem?_toArray, List.getElem?_cons_zero, List.getElem?_cons_succ] at q0 q1 q2 q3
  clear HD X2 X4 X5 X6 X7 hV hV3 hV5 hV6 hV8 k2 k4 k7
  simp only [List.drop_succ_cons, List.drop_zero]
  go_wp2
  go_ret3
  exact ⟨rfl, kw⟩
set_option maxHeartbeats 8000000 in
set_option maxRecDepth 100000 in
theorem kadd_40 (hn : n ≤ 1000000) (hc : n ≤ c) (hs : Small xs) (hn1 : n1 ≤ 1000) (hm1 : m1 ≤ 1000) (w : World) (hG : K.G w) (h : Dl w A n xs L) (hx : Dn w ⟨s1, A1, n1, c1, t1, B1, m1, z1⟩ ⟨s1, l1, t1, r1⟩) (hr : rightK L = true) (hd : rightB ⟨s1, l1, t1, r1⟩ = false) :
    Calls Tryd.prog 10 #[.slice A n c, .agg #[.int .i64 s1, .slice A1 n1 c1, .int .i64 t1, .slice B1 m1 z1]] w fun e w' => e = .returned (.tuple #[.slice none 0 0, .int .i64 0, .int .i64 40]) ∧ Ext w w' := by
  have HE := Lib.hid (ext1 w (.cells #[.int .i64 s1, .slice A1 n1 c1, .int .i64 t1, .slice B1 m1 z1] 27))
  have HB := Lib.hid (Blk.new w #[.int .i64 s1, .slice A1 n1 c1, .int .i64 t1, .slice B1 m1 z1] 27)
  have HG := Lib.hid (fun W (hW : Ext w W) => hG.ext hW)
  have RK := Lib.hid (fun W (hW : Ext w W) => noKinds_is A n c xs L hn hc hs W (hG.ext hW) (h.ext hW))
  have RD := Lib.hid (fun W (hW : Ext w W) => K.noDesc_is A1 B1 n1 m1 c1 z1 s1 t1 l1 r1 (by omega) (by omega) W (hG.ext hW) (hx.p.ext hW) (hx.q.ext hW))
  rw [hr] at RK
  rw [hd] at RD
  clear h hs hx hG hr hd
  go_enter Tryd.func10, Tryd.ntmps10
  go_wp2
  refine wp_region_XT2 7 6 rfl (by kernel_rfl) (by kernel_rfl) ?_
  intro HD
  refine wpH2_segL HD 0 1 5 rfl rfl (Ext.refl _) (by kernel_rfl) ?_
  apply Exists.intro
  refine ⟨fun cw => ?_, ?_⟩
  · simp only [List.take_succ_cons, List.take_zero, List.drop_zero]
    repeat (go_big_quiet_step (fail))
    exact wpQuiet_nil rfl
  refine wpH2_segL HD 2 1 4 rfl rfl (Ext.refl _) (by kernel_rfl) ?_
  apply Exists.intro
  refine ⟨fun cw => ?_, ?_⟩
  · have p0 := on_cell ((HB.out.ext cw.h).cell 0)
    have p1 := on_cell ((HB.out.ext cw.h).cell 1)
    have p2 := on_cell ((HB.out.ext cw.h).cell 2)
    have p3 := on_cell ((HB.out.ext cw.h).cell 3)
    simp only [List.take_succ_cons, List.take_zero, List.drop_succ_cons, List.drop_zero]
    repeat (go_big_quiet_step (fail))
    exact wpQuiet_nil rfl
  refine wpH2_stepL 1 3 rfl rfl rfl (by kernel_rfl) ?_
  intro V hV KK hK
  go_simp
  refine (RK.out V (Ext.trans HE.out hV)).mono ?_
  rintro e V2 ⟨⟨v1, rfl, hv1⟩, k2⟩
  obtain rfl := K.code_nil hv1 rfl
  clear hv1
  have C1 := Lib.hid K.code_0
  have X2 := Ext.trans hV k2
  refine hK.out _ _ X2 ?_
  clear hK KK
  refine wpH2_stepL 3 2 rfl rfl rfl (by kernel_rfl) ?_
  intro V3 hV3 KK hK
  go_simp
  refine (RD.out V3 (Ext.trans HE.out (Ext.trans X2 hV3))).mono ?_
  rintro e V4 ⟨⟨v2, rfl, hv2⟩, k4⟩
  have C2 := Lib.hid (show K.Code v2 40 from hv2)
  obtain ⟨te2, pe2, rfl⟩ := K.code_err C2.out (by decide)
  clear hv2
  have X4 := Ext.trans X2 (Ext.trans hV3 k4)
  refine hK.out _ _ X4 ?_
  clear hK KK
  refine wpH2_stepL 4 1 rfl rfl rfl (by kernel_rfl) ?_
  intro V5 hV5 KK hK
  go_simp
  have X5 := fun o => Ext.trans X4 (Ext.trans hV5 (ext1 V5 o))
  refine hK.out _ _ (X5 _) ?_
  clear hK KK
  refine wpH2_stepL 5 0 rfl rfl rfl (by kernel_rfl) ?_
  intro V6 hV6 KK hK
  go_simp
  have X6 := Ext.trans (X5 _) hV6
  refine (K.told2_is 0 40 _ _ V5.heap.size 45 V6 (HG.out V6 (Ext.trans HE.out X6)) ((Blk.new V5 _ _).ext hV6) C1.out C2.out).mono ?_
  rintro e V7 ⟨rfl, k7⟩
  have X7 := Ext.trans X6 k7
  refine hK.out _ _ X7 ?_
  clear hK KK
  refine wpH2_end (fun V8 hV8 => ⟨by kernel_rfl, ?_⟩)
  have kw := Ext.trans HE.out (Ext.trans X7 hV8)
  have bR := HB.out.ext (Ext.trans X7 hV8)
  have q0 := bR.cell 0
  have q1 := bR.cell 1
  have q2 := bR.cell 2
  have q3 := bR.cell 3
  simp only [List.getElem?_toArray, List.getElem?_cons_zero, List.getElem?_cons_succ] at q0 q1 q2 q3
  clear HD X2 X4 X5 X6 X7 hV hV3 hV5 hV6 hV8 k2 k4 k7
  simp only [List.drop_succ_cons, List.drop_zero]
  go_wp2
  go_ret3
  exact ⟨rfl, kw⟩
set_option maxHeartbeats 8000000 in
set_option maxRecDepth 100000 in
theorem kadd_there (hn : n ≤ 1000000) (hc : n ≤ c) (hs : Small xs) (hn1 : n1 ≤ 1000) (hm1 : m1 ≤ 1000) (w : World) (hG : K.G w) (h : Dl w A n xs L) (hx : Dn w ⟨s1, A1, n1, c1, t1, B1, m1, z1⟩ ⟨s1, l1, t1, r1⟩) (hr : rightK L = true) (hd : rightB ⟨s1, l1, t1, r1⟩ = true) (hf : (⟨s1, l1, t1, r1⟩ : DescR) ∈ L) :
    Calls Tryd.prog 10 #[.slice A n c, .agg #[.int .i64 s1, .slice A1 n1 c1, .int .i64 t1, .slice B1 m1 z1]] w fun e w' => ∃ A' c' xs', e = .returned (.tuple #[.slice A' n c', .int .i64 ((findK L ⟨s1, l1, t1, r1⟩ : Nat) : Int), .int .i64 0]) ∧ n ≤ c' ∧ Dl w' A' n xs' L ∧ Small xs' ∧ Ext w w' := by
  have HE := Lib.hid (ext1 w (.cells #[.int .i64 s1, .slice A1 n1 c1, .int .i64 t1, .slice B1 m1 z1] 27))
  have HB := Lib.hid (Blk.new w #[.int .i64 s1, .slice A1 n1 c1, .int .i64 t1, .slice B1 m1 z1] 27)
  have HG := Lib.hid (fun W (hW : Ext w W) => hG.ext hW)
  have RK := Lib.hid (fun W (hW : Ext w W) => noKinds_is A n c xs L hn hc hs W (hG.ext hW) (h.ext hW))
  have RD := Lib.hid (fun W (hW : Ext w W) => K.noDesc_is A1 B1 n1 m1 c1 z1 s1 t1 l1 r1 (by omega) (by omega) W (hG.ext hW) (hx.p.ext hW) (hx.q.ext hW))
  rw [hr] at RK
  rw [hd] at RD
  have RF := Lib.hid (fun W (hW : Ext w W) => kfind_is A n c xs L hn hs A1 B1 n1 m1 c1 z1 s1 t1 l1 r1 W (h.ext hW) (hx.p.ext hW) (hx.q.ext hW))
  have RC := Lib.hid (fun W (hW : Ext w W) => copied_is A n c xs L hn hs W (h.ext hW))
  rw [decide_eq_true hf] at RF
  clear hf
  generalize findK L ⟨s1, l1, t1, r1⟩ = f at *
  clear h hs hx hG hr hd
  go_enter Tryd.func10, Tryd.ntmps10
  go_wp2
  refine wp_region_XT2 7 6 rfl (by kernel_rfl) (by kernel_rfl) ?_
  intro HD
  refine wpH2_segL HD 0 1 5 rfl rfl (Ext.refl _) (by kernel_rfl) ?_
  apply Exists.intro
  refine ⟨fun cw => ?_, ?_⟩
  · simp only [List.take_succ_cons, List.take_zero, List.drop_zero]
    repeat (go_big_quiet_step (fail))
    exact wpQuiet_nil rfl
  refine wpH2_segL HD 2 1 4 rfl rfl (Ext.refl _) (by kernel_rfl) ?_
  apply Exists.intro
  refine ⟨fun cw => ?_, ?_⟩
  · have p0 := on_cell ((HB.out.ext cw.h).cell 0)
    have p1 := on_cell ((HB.out.ext cw.h).cell 1)
    have p2 := on_cell ((HB.out.ext cw.h).cell 2)
    have p3 := on_cell ((HB.out.ext cw.h).cell 3)
    simp only [List.take_succ_cons, List.take_zero, List.drop_succ_cons, List.drop_zero]
    repeat (go_big_quiet_step (fail))
    exact wpQuiet_nil rfl
  refine wpH2_stepL 1 3 rfl rfl rfl (by kernel_rfl) ?_
  intro V hV KK hK
  go_simp
  refine (RK.out V (Ext.trans HE.out hV)).mono ?_
  rintro e V2 ⟨⟨v1, rfl, hv1⟩, k2⟩
  obtain rfl := K.code_nil hv1 rfl
  clear hv1
  have C1 := Lib.hid K.code_0
  have X2 := Ext.trans hV k2
  refine hK.out _ _ X2 ?_
  clear hK KK
  refine wpH2_stepL 3 2 rfl rfl rfl (by kernel_rfl) ?_
  intro V3 hV3 KK hK
  go_simp
  refine (RD.out V3 (Ext.trans HE.out (Ext.trans X2 hV3))).mono ?_
  rintro e V4 ⟨⟨v2, rfl, hv2⟩, k4⟩
  obtain rfl := K.code_nil hv2 rfl
  clear hv2
  have C2 := Lib.hid K.code_0
  have X4 := Ext.trans X2 (Ext.trans hV3 k4)
  refine hK.out _ _ X4 ?_
  clear hK KK
  refine wpH2_stepL 4 1 rfl rfl rfl (by kernel_rfl) ?_
  intro V5 hV5 KK hK
  go_simp
  have X5 := fun o => Ext.trans X4 (Ext.trans hV5 (ext1 V5 o))
  refine hK.out _ _ (X5 _) ?_
  clear hK KK
  refine wpH2_stepL 5 0 rfl rfl rfl (by kernel_rfl) ?_
  intro V6 hV6 KK hK
  go_simp
  have X6 := Ext.trans (X5 _) hV6
  refine (K.told2_is 0 0 _ _ V5.heap.size 45 V6 (HG.out V6 (Ext.trans HE.out X6)) ((Blk.new V5 _ _).ext hV6) C1.out C2.out).mono ?_
  rintro e V7 ⟨rfl, k7⟩
  have X7 := Ext.trans X6 k7
  refine hK.out _ _ X7 ?_
  clear hK KK
  refine wpH2_end (fun V8 hV8 => ⟨by kernel_rfl, ?_⟩)
  have kw := Ext.trans HE.out (Ext.trans X7 hV8)
  have bR := HB.out.ext (Ext.trans X7 hV8)
  have q0 := bR.cell 0
  have q1 := bR.cell 1
  have q2 := bR.cell 2
  have q3 := bR.cell 3
  simp only [List.getElem?_toArray, List.getElem?_cons_zero, List.getElem?_cons_succ] at q0 q1 q2 q3
  clear HD X2 X4 X5 X6 X7 hV hV3 hV5 hV6 hV8 k2 k4 k7
  simp only [List.drop_succ_cons, List.drop_zero]
  go_wp2_with (first | (go_at_call 8; refine (RF.out _ kw).mono ?_; rintro e w3 ⟨rfl, k3⟩; replace kw := Ext.trans kw k3) | (go_at_call 18; refine (RC.out _ kw).mono ?_; rintro e w4 ⟨ad, xs', rfl, a1, a2, a3, k4⟩; have HH := Lib.hid (And.intro a1 a2); clear a1 a2))
  go_ret3
  exact ⟨some ad, n, xs', rfl, Nat.le_refl _, HH.out.1, HH.out.2, Ext.trans kw k4⟩
set_option maxHeartbeats 8000000 in
set_option maxRecDepth 100000 in
theorem kadd_many (hn : n ≤ 1000000) (hc : n ≤ c) (hs : Small xs) (hn1 : n1 ≤ 1000) (hm1 : m1 ≤ 1000) (w : World) (hG : K.G w) (h : Dl w A n xs L) (hx : Dn w ⟨s1, A1, n1, c1, t1, B1, m1, z1⟩ ⟨s1, l1, t1, r1⟩) (h6 : n = 60) (hr : rightK L = true) (hd : rightB ⟨s1, l1, t1, r1⟩ = true) (hf : (⟨s1, l1, t1, r1⟩ : DescR) ∉ L) :
    Calls Tryd.prog 10 #[.slice A n c, .agg #[.int .i64 s1, .slice A1 n1 c1, .int .i64 t1, .slice B1 m1 z1]] w fun e w' => e = .returned (.tuple #[.slice none 0 0, .int .i64 0, .int .i64 53]) ∧ Ext w w' := by
  have HE := Lib.hid (ext1 w (.cells #[.int .i64 s1, .slice A1 n1 c1, .int .i64 t1, .slice B1 m1 z1] 27))
  have HB := Lib.hid (Blk.new w #[.int .i64 s1, .slice A1 n1 c1, .int .i64 t1, .slice B1 m1 z1] 27)
  have HG := Lib.hid (fun W (hW : Ext w W) => hG.ext hW)
  have RK := Lib.hid (fun W (hW : Ext w W) => noKinds_is A n c xs L hn hc hs W (hG.ext hW) (h.ext hW))
  have RD := Lib.hid (fun W (hW : Ext w W) => K.noDesc_is A1 B1 n1 m1 c1 z1 s1 t1 l1 r1 (by omega) (by omega) W (hG.ext hW) (hx.p.ext hW) (hx.q.ext hW))
  rw [hr] at RK
  rw [hd] at RD
  have RF := Lib.hid (fun W (hW : Ext w W) => kfind_is A n c xs L hn hs A1 B1 n1 m1 c1 z1 s1 t1 l1 r1 W (h.ext hW) (hx.p.ext hW) (hx.q.ext hW))
  rw [decide_eq_false hf] at RF
  clear hf
  generalize findK L ⟨s1, l1, t1, r1⟩ = f at *
  have H6 := Lib.hid h6
  clear h6
  clear h hs hx hG hr hd
  go_enter Tryd.func10, Tryd.ntmps10
  go_wp2
  refine wp_region_XT2 7 6 rfl (by kernel_rfl) (by kernel_rfl) ?_
  intro HD
  refine wpH2_segL HD 0 1 5 rfl rfl (Ext.refl _) (by kernel_rfl) ?_
  apply Exists.intro
  refine ⟨fun cw => ?_, ?_⟩
  · simp only [List.take_succ_cons, List.take_zero, List.drop_zero]
    repeat (go_big_quiet_step (fail))
    exact wpQuiet_nil rfl
  refine wpH2_segL HD 2 1 4 rfl rfl (Ext.refl _) (by kernel_rfl) ?_
  apply Exists.intro
  refine ⟨fun cw => ?_, ?_⟩
  · have p0 := on_cell ((HB.out.ext cw.h).cell 0)
    have p1 := on_cell ((HB.out.ext cw.h).cell 1)
    have p2 := on_cell ((HB.out.ext cw.h).cell 2)
    have p3 := on_cell ((HB.out.ext cw.h).cell 3)
    simp only [List.take_succ_cons, List.take_zero, List.drop_succ_cons, List.drop_zero]
    repeat (go_big_quiet_step (fail))
    exact wpQuiet_nil rfl
  refine wpH2_stepL 1 3 rfl rfl rfl (by kernel_rfl) ?_
  intro V hV KK hK
  go_simp
  refine (RK.out V (Ext.trans HE.out hV)).mono ?_
  rintro e V2 ⟨⟨v1, rfl, hv1⟩, k2⟩
  obtain rfl := K.code_nil hv1 rfl
  clear hv1
  have C1 := Lib.hid K.code_0
  have X2 := Ext.trans hV k2
  refine hK.out _ _ X2 ?_
  clear hK KK
  refine wpH2_stepL 3 2 rfl rfl rfl (by kernel_rfl) ?_
  intro V3 hV3 KK hK
  go_simp
  refine (RD.out V3 (Ext.trans HE.out (Ext.trans X2 hV3))).mono ?_
  rintro e V4 ⟨⟨v2, rfl, hv2⟩, k4⟩
  obtain rfl := K.code_nil hv2 rfl
  clear hv2
  have C2 := Lib.hid K.code_0
  have X4 := Ext.trans X2 (Ext.trans hV3 k4)
  refine hK.out _ _ X4 ?_
  clear hK KK
  refine wpH2_stepL 4 1 rfl rfl rfl (by kernel_rfl) ?_
  intro V5 hV5 KK hK
  go_simp
  have X5 := fun o => Ext.trans X4 (Ext.trans hV5 (ext1 V5 o))
  refine hK.out _ _ (X5 _) ?_
  clear hK KK
  refine wpH2_stepL 5 0 rfl rfl rfl (by kernel_rfl) ?_
  intro V6 hV6 KK hK
  go_simp
  have X6 := Ext.trans (X5 _) hV6
  refine (K.told2_is 0 0 _ _ V5.heap.size 45 V6 (HG.out V6 (Ext.trans HE.out X6)) ((Blk.new V5 _ _).ext hV6) C1.out C2.out).mono ?_
  rintro e V7 ⟨rfl, k7⟩
  have X7 := Ext.trans X6 k7
  refine hK.out _ _ X7 ?_
  clear hK KK
  refine wpH2_end (fun V8 hV8 => ⟨by kernel_rfl, ?_⟩)
  have kw := Ext.trans HE.out (Ext.trans X7 hV8)
  have bR := HB.out.ext (Ext.trans X7 hV8)
  have q0 := bR.cell 0
  have q1 := bR.cell 1
  have q2 := bR.cell 2
  have q3 := bR.cell 3
  simp only [List.getElem?_toArray, List.getElem?_cons_zero, List.getElem?_cons_succ] at q0 q1 q2 q3
  clear HD X2 X4 X5 X6 X7 hV hV3 hV5 hV6 hV8 k2 k4 k7
  simp only [List.drop_succ_cons, List.drop_zero]
  go_wp2_with (first | (go_at_call 8; refine (RF.out _ kw).mono ?_; rintro e w3 ⟨rfl, k3⟩; replace kw := Ext.trans kw k3) | (go_at_call 21; refine (noRoom_is n _ (HG.out _ kw)).mono ?_; rintro e w4 ⟨⟨v4, rfl, hv4⟩, k4⟩; replace kw := Ext.trans kw k4; rw [decide_eq_false (by have := H6.out; omega)] at hv4; have C4 := Lib.hid (show K.Code v4 53 from hv4); obtain ⟨te4, pe4, rfl⟩ := K.code_err C4.out (by decide); clear hv4) | (go_at_call 15; (refine (K.told1_is 53 _ _ 45 _ (HG.out _ (Ext.trans kw (ext1 _ _))) (Blk.new _ _ _) C4.out).mono ?_); rintro e w5 ⟨rfl, k5⟩; replace kw := Ext.trans kw (Ext.trans (ext1 _ _) k5)))
  go_ret3
  exact ⟨rfl, kw⟩
set_option maxHeartbeats 8000000 in
set_option maxRecDepth 100000 in
theorem kadd_new (hn : n ≤ 1000000) (hc : n ≤ c) (hs : Small xs) (hn1 : n1 ≤ 1000) (hm1 : m1 ≤ 1000) (w : World) (hG : K.G w) (h : Dl w A n xs L) (hx : Dn w ⟨s1, A1, n1, c1, t1, B1, m1, z1⟩ ⟨s1, l1, t1, r1⟩) (h6 : n < 60) (hr : rightK L = true) (hd : rightB ⟨s1, l1, t1, r1⟩ = true) (hf : (⟨s1, l1, t1, r1⟩ : DescR) ∉ L) :
    Calls Tryd.prog 10 #[.slice A n c, .agg #[.int .i64 s1, .slice A1 n1 c1, .int .i64 t1, .slice B1 m1 z1]] w fun e w' => ∃ A' c' xs', e = .returned (.tuple #[.slice A' (n + 1) c', .int .i64 ((n : Int) + 1), .int .i64 0]) ∧ n + 1 ≤ c' ∧ Dl w' A' (n + 1) xs' (L ++ [⟨s1, l1, t1, r1⟩]) ∧ Small xs' ∧ Ext w w' := by
  have HE := Lib.hid (ext1 w (.cells #[.int .i64 s1, .slice A1 n1 c1, .int .i64 t1, .slice B1 m1 z1] 27))
  have HB := Lib.hid (Blk.new w #[.int .i64 s1, .slice A1 n1 c1, .int .i64 t1, .slice B1 m1 z1] 27)
  have HG := Lib.hid (fun W (hW : Ext w W) => hG.ext hW)
  have RK := Lib.hid (fun W (hW : Ext w W) => noKinds_is A n c xs L hn hc hs W (hG.ext hW) (h.ext hW))
  have RD := Lib.hid (fun W (hW : Ext w W) => K.noDesc_is A1 B1 n1 m1 c1 z1 s1 t1 l1 r1 (by omega) (by omega) W (hG.ext hW) (hx.p.ext hW) (hx.q.ext hW))
  rw [hr] at RK
  rw [hd] at RD
  have RF := Lib.hid (fun W (hW : Ext w W) => kfind_is A n c xs L hn hs A1 B1 n1 m1 c1 z1 s1 t1 l1 r1 W (h.ext hW) (hx.p.ext hW) (hx.q.ext hW))
  have RB := Lib.hid (fun ad1 W (hW : Ext w W) hnews => behind_is A n c xs L hn hc ⟨s1, A1, n1, c1, t1, B1, m1, z1⟩ ⟨s1, l1, t1, r1⟩ ad1 W (h.ext hW) (hx.ext hW) hnews)
  have HS := Lib.hid (hs.snoc ⟨s1, A1, n1, c1, t1, B1, m1, z1⟩ hn1 hm1)
  rw [decide_eq_false hf] at RF
  clear hf
  have h61 : (n : Int) < 60 := by omega
  have H6 := Lib.hid h6
  clear h6
  generalize findK L ⟨s1, l1, t1, r1⟩ = f at *
  clear h hs hx hG hr hd
  go_enter Tryd.func10, Tryd.ntmps10
  go_wp2
  refine wp_region_XT2 7 6 rfl (by kernel_rfl) (by kernel_rfl) ?_
  intro HD
  refine wpH2_segL HD 0 1 5 rfl rfl (Ext.refl _) (by kernel_rfl) ?_
  apply Exists.intro
  refine ⟨fun cw => ?_, ?_⟩
  · simp only [List.take_succ_cons, List.take_zero, List.drop_zero]
    repeat (go_big_quiet_step (fail))
    exact wpQuiet_nil rfl
  refine wpH2_segL HD 2 1 4 rfl rfl (Ext.refl _) (by kernel_rfl) ?_
  apply Exists.intro
  refine ⟨fun cw => ?_, ?_⟩
  · have p0 := on_cell ((HB.out.ext cw.h).cell 0)
    have p1 := on_cell ((HB.out.ext cw.h).cell 1)
    have p2 := on_cell ((HB.out.ext cw.h).cell 2)
    have p3 := on_cell ((HB.out.ext cw.h).cell 3)
    simp only [List.take_succ_cons, List.take_zero, List.drop_succ_cons, List.drop_zero]
    repeat (go_big_quiet_step (fail))
    exact wpQuiet_nil rfl
  refine wpH2_stepL 1 3 rfl rfl rfl (by kernel_rfl) ?_
  intro V hV KK hK
  go_simp
  refine (RK.out V (Ext.trans HE.out hV)).mono ?_
  rintro e V2 ⟨⟨v1, rfl, hv1⟩, k2⟩
  obtain rfl := K.code_nil hv1 rfl
  clear hv1
  have C1 := Lib.hid K.code_0
  have X2 := Ext.trans hV k2
  refine hK.out _ _ X2 ?_
  clear hK KK
  refine wpH2_stepL 3 2 rfl rfl rfl (by kernel_rfl) ?_
  intro V3 hV3 KK hK
  go_simp
  refine (RD.out V3 (Ext.trans HE.out (Ext.trans X2 hV3))).mono ?_
  rintro e V4 ⟨⟨v2, rfl, hv2⟩, k4⟩
  obtain rfl := K.code_nil hv2 rfl
  clear hv2
  have C2 := Lib.hid K.code_0
  have X4 := Ext.trans X2 (Ext.trans hV3 k4)
  refine hK.out _ _ X4 ?_
  clear hK KK
  refine wpH2_stepL 4 1 rfl rfl rfl (by kernel_rfl) ?_
  intro V5 hV5 KK hK
  go_simp
  have X5 := fun o => Ext.trans X4 (Ext.trans hV5 (ext1 V5 o))
  refine hK.out _ _ (X5 _) ?_
  clear hK KK
  refine wpH2_stepL 5 0 rfl rfl rfl (by kernel_rfl) ?_
  intro V6 hV6 KK hK
  go_simp
  have X6 := Ext.trans (X5 _) hV6
  refine (K.told2_is 0 0 _ _ V5.heap.size 45 V6 (HG.out V6 (Ext.trans HE.out X6)) ((Blk.new V5 _ _).ext hV6) C1.out C2.out).mono ?_
  rintro e V7 ⟨rfl, k7⟩
  have X7 := Ext.trans X6 k7
  refine hK.out _ _ X7 ?_
  clear hK KK
  refine wpH2_end (fun V8 hV8 => ⟨by kernel_rfl, ?_⟩)
  have kw := Ext.trans HE.out (Ext.trans X7 hV8)
  have bR := HB.out.ext (Ext.trans X7 hV8)
  have q0 := bR.cell 0
  have q1 := bR.cell 1
  have q2 := bR.cell 2
  have q3 := bR.cell 3
  simp only [List.getElem?_toArray, List.getElem?_cons_zero, List.getElem?_cons_succ] at q0 q1 q2 q3
  clear HD X2 X4 X5 X6 X7 hV hV3 hV5 hV6 hV8 k2 k4 k7
  simp only [List.drop_succ_cons, List.drop_zero]
  go_wp2_with (first | (go_at_call 8; refine (RF.out _ kw).mono ?_; rintro e w3 ⟨rfl, k3⟩; replace kw := Ext.trans kw k3; replace bR := bR.ext k3; clear q0 q1 q2 q3; have q0 := bR.cell 0; have q1 := bR.cell 1; have q2 := bR.cell 2; have q3 := bR.cell 3; simp only [List.getElem?_toArray, List.getElem?_cons_zero, List.getElem?_cons_succ] at q0 q1 q2 q3) | (go_at_call 21; refine (noRoom_is n _ (HG.out _ kw)).mono ?_; rintro e w4 ⟨⟨v4, rfl, hv4⟩, k4⟩; replace kw := Ext.trans kw k4; rw [decide_eq_true H6.out] at hv4; obtain rfl := K.code_nil hv4 rfl; clear hv4; have C4 := Lib.hid K.code_0) | (go_at_call 15; (refine (K.told1_is 0 _ _ 45 _ (HG.out _ (Ext.trans kw (ext1 _ _))) (Blk.new _ _ _) C4.out).mono ?_); rintro e w5 ⟨rfl, k5⟩; replace kw := Ext.trans kw (Ext.trans (ext1 _ _) k5); replace bR := ((bR.ext k4).ext (ext1 _ _)).ext k5; clear q0 q1 q2 q3; have q0 := bR.cell 0; have q1 := bR.cell 1; have q2 := bR.cell 2; have q3 := bR.cell 3; simp only [List.getElem?_toArray, List.getElem?_cons_zero, List.getElem?_cons_succ] at q0 q1 q2 q3) | (go_at_call 22; refine (RB.out _ _ (Ext.trans kw (ext1 _ _)) (fun j u hj => new_cells1 _ _ _ j u (by simpa [DRow.cells] using hj))).mono ?_; rintro e w6 ⟨A6, c6, rfl, b1, b2, k6⟩; replace kw := Ext.trans kw (Ext.trans (ext1 _ _) k6); have RC := Lib.hid (copied_is A6 (n + 1) c6 _ _ (by omega) HS.out w6 b2); clear b1 b2) | (go_at_call 18; refine RC.out.mono ?_; rintro e w7 ⟨ad, xs', rfl, a1, a2, a3, k7⟩; have HH := Lib.hid (And.intro a1 a2); clear a1 a2))
  go_ret3
  exact ⟨some ad, n + 1, xs', rfl, Nat.le_refl _, HH.out.1, HH.out.2, Ext.trans kw k7⟩
end
theorem kadd_is (A : Option Addr) (n c : Nat) (xs : List DRow) (L : List DescR) (x : DRow) (d : DescR) (hn : n ≤ 1000000) (hc : n ≤ c) (hs : Small xs) (hx1 : x.n ≤ 1000) (hx2 : x.m ≤ 1000) (w : World) (hG : K.G w) (h : Dl w A n xs L) (hx : Dn w x d) :
    Calls Tryd.prog 10 #[.slice A n c, .agg x.cells] w (AddR w L d) := by
  obtain ⟨s1, A1, n1, c1, t1, B1, m1, z1⟩ := x
  obtain ⟨ds, dl, dt, dr⟩ := d
  obtain rfl : s1 = ds := hx.s
  obtain rfl : t1 = dt := hx.t
  have hn1 : n1 ≤ 1000 := hx1
  have hm1 : m1 ≤ 1000 := hx2
  have hll := h.2.1
  rcases addE_cases L ⟨s1, dl, t1, dr⟩ with ⟨g1, e1, e2, e3⟩ | ⟨g1, g2, e1, e2, e3⟩ | ⟨g1, g2, g3, e1, e2, e3⟩ | ⟨g1, g2, g3, g4, e1, e2, e3⟩ | ⟨g1, g2, g3, g4, e1, e2, e3⟩
  · cases g2 : rightB ⟨s1, dl, t1, dr⟩
    · refine (kadd_50a A n c xs L A1 B1 n1 m1 c1 z1 s1 t1 dl dr hn hc hs hn1 hm1 w hG h hx g1 g2).mono ?_
      rintro e w' ⟨rfl, k⟩
      exact ⟨none, 0, 0, [], by rw [e1, e3]; rfl, by rw [e2]; rfl, Nat.le_refl _, by rw [e2]; exact Dl.nil _, Small.nil, k⟩
    · refine (kadd_50b A n c xs L A1 B1 n1 m1 c1 z1 s1 t1 dl dr hn hc hs hn1 hm1 w hG h hx g1 g2).mono ?_
      rintro e w' ⟨rfl, k⟩
      exact ⟨none, 0, 0, [], by rw [e1, e3]; rfl, by rw [e2]; rfl, Nat.le_refl _, by rw [e2]; exact Dl.nil _, Small.nil, k⟩
  · refine (kadd_40 A n c xs L A1 B1 n1 m1 c1 z1 s1 t1 dl dr hn hc hs hn1 hm1 w hG h hx g1 g2).mono ?_
    rintro e w' ⟨rfl, k⟩
    exact ⟨none, 0, 0, [], by rw [e1, e3]; rfl, by rw [e2]; rfl, Nat.le_refl _, by rw [e2]; exact Dl.nil _, Small.nil, k⟩
  · refine (kadd_there A n c xs L A1 B1 n1 m1 c1 z1 s1 t1 dl dr hn hc hs hn1 hm1 w hG h hx g1 g2 g3).mono ?_
    rintro e w' ⟨A', c', xs', rfl, a1, a2, a3, k⟩
    exact ⟨A', n, c', xs', by rw [e1, e3], by rw [e2, hll], a1, by rw [e2]; exact a2, a3, k⟩
  · refine (kadd_many A n c xs L A1 B1 n1 m1 c1 z1 s1 t1 dl dr hn hc hs hn1 hm1 w hG h hx (by omega) g1 g2 g3).mono ?_
    rintro e w' ⟨rfl, k⟩
    exact ⟨none, 0, 0, [], by rw [e1, e3]; rfl, by rw [e2]; rfl, Nat.le_refl _, by rw [e2]; exact Dl.nil _, Small.nil, k⟩
  · refine (kadd_new A n c xs L A1 B1 n1 m1 c1 z1 s1 t1 dl dr hn hc hs hn1 hm1 w hG h hx (by omega) g1 g2 g3).mono ?_
    rintro e w' ⟨A', c', xs', rfl, a1, a2, a3, k⟩
    exact ⟨A', n + 1, c', xs', by rw [e1, e3, hll]; rfl, by rw [e2, List.length_append, hll]; rfl, a1, by rw [e2]; exact a2, a3, k⟩
end Go.Proofs.YtopgbggighaknaaDoor
