/- Joined texts, in their order: KSame, KBehind, KRoom. -/
import Derived.Test.YtopgbggighaknaaGreatDoorM17
import Derived.Test.YtopgbggighaknaaGreatDoorM13
import Derived.Test.YtopgbggighaknaaGreatDoorM14
import Derived.OwnWalk
/- kinds: Right, Same. -/
namespace Go.Proofs.YtopgbggighaknaaGreatDoor
open Go.RowKit Go
section
set_option maxHeartbeats 4000000 in
set_option maxRecDepth 100000 in
theorem kright_is (A : Option Addr) (n c : Nat) (xs : List DRow) (L : List DescR) (hn : n ≤ 1000000) (hc : n ≤ c) (hs : Small xs) (w : World) (hG : K.G w) (h : Dl w A n xs L) :
    Calls Tryz.prog 17 #[.slice A n c] w fun e w' => e = .returned (.bool (rightK L)) ∧ Ext w w' := by
  have R := Lib.hid (noKinds_is A n c xs L hn hc hs w hG h)
  have HG := Lib.hid (fun W (hW : Ext w W) => hG.ext hW)
  clear h hs hG
  cases hr : rightK L with
  | true =>
    rw [hr] at R
    clear hr
    go_enter Tryz.func17, Tryz.ntmps17
    go_wp2_with (first | (go_at_call 29; refine R.out.mono ?_; rintro e w1 ⟨⟨v, rfl, hv⟩, k1⟩; obtain rfl := K.code_nil hv rfl; clear hv) | (go_at_call 28; (refine (K.told1_is 0 .nilIface _ 48 _ (HG.out _ (Ext.trans k1 (ext1 _ _))) (Blk.new _ _ _) K.code_0).mono ?_); rintro e w2 ⟨rfl, k2⟩))
    go_ret
    exact ⟨rfl, Ext.trans k1 (Ext.trans (ext1 _ _) k2)⟩
  | false =>
    rw [hr] at R
    clear hr
    go_enter Tryz.func17, Tryz.ntmps17
    go_wp2_with (first | (go_at_call 29; refine R.out.mono ?_; rintro e w1 ⟨⟨v, rfl, hv⟩, k1⟩; have HV := Lib.hid (show K.Code v 50 from hv); obtain ⟨te, pe, rfl⟩ := K.code_err HV.out (by decide); clear hv) | (go_at_call 28; (refine (K.told1_is 50 _ _ 48 _ (HG.out _ (Ext.trans k1 (ext1 _ _))) (Blk.new _ _ _) HV.out).mono ?_); rintro e w2 ⟨rfl, k2⟩))
    go_ret
    exact ⟨rfl, Ext.trans k1 (Ext.trans (ext1 _ _) k2)⟩
set_option maxHeartbeats 4000000 in
set_option maxRecDepth 100000 in
theorem eqlf_is (A B : Option Addr) (n m c c' : Nat) (xs ys : List DRow) (L M : List DescR) (hn : n ≤ 1000000) (hs : Small xs) (hs' : Small ys) (w : World) (h : Dl w A n xs L) (h' : Dl w B m ys M) :
    Calls Tryz.prog 39 #[.slice A n c, .slice B m c', .func (.func 27) #[] #[]] w fun e w' => e = .returned (.bool (decide (L = M))) ∧ Ext w w' := by
  have hl1 := h.2.1
  have hl2 := h'.2.1
  by_cases hnm : n = m
  · subst hnm
    have H := Lib.hid (And.intro h (And.intro hs (And.intro h' hs')))
    clear h hs h' hs'
    go_enter Tryz.func39, Tryz.ntmps39
    go_wp2
    go_loopg [7, 8, 9, 17] n (fun g v7 v8 v9 i wr => ∃ k : Nat, k + g = n ∧ i = .int .i64 k ∧ L.take k = M.take k ∧ Ext w wr)
    case atStart => exact ⟨0, by omega, rfl, rfl, Ext.refl _⟩
    case round =>
      obtain ⟨k, hk, rfl, hf, hE⟩ := hrel
      by_cases hlt : k < n
      · obtain ⟨ad, x, d, rfl, hb, hx, hd, hdn, e0, e1, e2, e3⟩ := (H.out.1.ext hE).at_ hlt
        obtain ⟨ad', y, d', rfl, hb', hy, hd', hdn', e0', e1', e2', e3'⟩ := (H.out.2.2.1.ext hE).at_ hlt
        have hsm := H.out.2.1 k x hx
        have hsm' := H.out.2.2.2 k y hy
        have p0 := fun o => ((ext1 wr o).cell (p := ad'.add (k * 4)) (by rw [block_of_add]; exact hb')).trans e0'
        have p1 := fun o => ((ext1 wr o).cell (p := ⟨(ad'.add (k * 4)).block, (ad'.add (k * 4)).off + 1, none⟩) (by show (ad'.add (k * 4)).block < _; rw [block_of_add]; exact hb')).trans e1'
        have p2 := fun o => ((ext1 wr o).cell (p := ⟨(ad'.add (k * 4)).block, (ad'.add (k * 4)).off + 2, none⟩) (by show (ad'.add (k * 4)).block < _; rw [block_of_add]; exact hb')).trans e2'
        have p3 := fun o => ((ext1 wr o).cell (p := ⟨(ad'.add (k * 4)).block, (ad'.add (k * 4)).off + 3, none⟩) (by show (ad'.add (k * 4)).block < _; rw [block_of_add]; exact hb')).trans e3'
        have EX := ext2 wr (.cells #[.int .i64 x.s, .slice x.A x.n x.c, .int .i64 x.t, .slice x.B x.m x.e] 25) (.cells #[.int .i64 y.s, .slice y.A y.n y.c, .int .i64 y.t, .slice y.B y.m y.e] 25)
        have RS := Lib.hid (fun W (hW : Ext wr W) => dsame_is x.A x.B x.n x.m x.c x.e x.s x.t d.ptrs d.eptrs (by omega) (by omega) y.A y.B y.n y.m y.c y.e y.s y.t d'.ptrs d'.eptrs W (hdn.p.ext hW) (hdn.q.ext hW) (hdn'.p.ext hW) (hdn'.q.ext hW))
        rw [hdn.eq, hdn'.eq] at RS
        have h5 : (k : Int) < n := by omega
        have h6 : (k : Int) + 1 ≤ 1000000 := by omega
        have t1 : L.take (k + 1) = L.take k ++ [d] := by rw [List.take_add_one, hd]; rfl
        have t2 : M.take (k + 1) = M.take k ++ [d'] := by rw [List.take_add_one, hd']; rfl
        have HK := Lib.hid (And.intro hk (And.intro hE (And.intro hf (And.intro hd (And.intro hd' (And.intro t1 t2))))))
        have HX := Lib.hid EX
        clear hk hE hf hd hd' hsm hsm' hdn hdn' hx hy hb hb' t1 t2 EX e0' e1' e2' e3'
        by_cases hdD : d = d'
        · subst hdD
          rw [decide_eq_true rfl] at RS
          go_wp2_with (go_at_call 27; refine (RS.out _ HX.out).mono ?_; rintro e w2 ⟨rfl, k2⟩)
          go_roundg (gk - 1)
          case measure => have := HK.out.1; omega
          case rel => exact ⟨k + 1, by have := HK.out.1; omega, by go_num, by rw [HK.out.2.2.2.2.2.1, HK.out.2.2.2.2.2.2, HK.out.2.2.1], Ext.trans HK.out.2.1 (Ext.trans HX.out k2)⟩
        · have HN := Lib.hid (show decide (L = M) = false from decide_eq_false (fun e => hdD (by
            have h1 := HK.out.2.2.2.1
            have h2 := HK.out.2.2.2.2.1
            rw [e] at h1
            exact Option.some.inj (h1.symm.trans h2))))
          rw [decide_eq_false hdD] at RS
          clear hdD
          go_wp2_with (go_at_call 27; refine (RS.out _ HX.out).mono ?_; rintro e w2 ⟨rfl, k2⟩)
          go_ret
          exact ⟨rb HN.out.symm, Ext.trans HK.out.2.1 (Ext.trans HX.out k2)⟩
      · obtain rfl : k = n := by omega
        have h5 : ¬ (k : Int) < k := by omega
        have HN := Lib.hid (show decide (L = M) = true from decide_eq_true (by
          rwa [List.take_of_length_le (by rw [hl1]; exact Nat.le_refl _), List.take_of_length_le (by rw [hl2]; exact Nat.le_refl _)] at hf))
        have HX := Lib.hid hE
        clear hE hf hk
        go_wp2
        go_ret
        exact ⟨rb HN.out.symm, HX.out⟩
  · have HN := Lib.hid (show decide (L = M) = false from decide_eq_false (fun e => hnm (by rw [← hl1, ← hl2, e])))
    have h5 : ((n : Int) != (m : Int)) = true := by rw [bne_iff_ne]; omega
    clear h h' hs hs' hl1 hl2
    go_enter Tryz.func39, Tryz.ntmps39
    go_wp2
    go_ret
    exact ⟨rb HN.out.symm, Ext.refl _⟩
set_option maxHeartbeats 4000000 in
theorem ksame_is (A B : Option Addr) (n m c c' : Nat) (xs ys : List DRow) (L M : List DescR) (hn : n ≤ 1000000) (hs : Small xs) (hs' : Small ys) (w : World) (h : Dl w A n xs L) (h' : Dl w B m ys M) :
    Calls Tryz.prog 21 #[.slice A n c, .slice B m c'] w fun e w' => e = .returned (.bool (decide (L = M))) ∧ Ext w w' := by
  have R := Lib.hid (eqlf_is A B n m c c' xs ys L M hn hs hs' w h h')
  clear h h' hs hs'
  generalize decide (L = M) = b at *
  go_enter Tryz.func21, Tryz.ntmps21
  go_wp2_with (go_at_call 39; refine R.out.mono ?_; rintro e w1 ⟨rfl, k1⟩)
  go_ret
  exact ⟨rfl, k1⟩
end
end Go.Proofs.YtopgbggighaknaaGreatDoor
/- kinds: behind: descriptors with one more, in a row of their own. -/
namespace Go.Proofs.YtopgbggighaknaaGreatDoor
open Go.RowKit Go
theorem wpList_append_eq {P : Program} {w : World} {ops : Array Oper} {rest : List Oper} {o : Oper} {a : Act} {Q : Exit → Act → World → Prop} (hgd : o.guard = none) (s x : Operand) (t : TypeId)
    (ho : o.op = .call { callee := .builtin .append, args := #[s, x], argTypes := #[t, t] }) {v1 v2 r : Value} {w' : World} (hs : a.eval s = v1) (hx : a.eval x = v2)
    (hrun : ∀ ty, (Builtin.append_ #[t, t] ty #[v1, v2]).run P w = .ok r w') (h : wpList P ops Q rest (a.put o.dst r) w') : wpList P ops Q (o :: rest) a w := by
  refine wpList_plain hgd fun K hK => ?_
  have hrun := hrun o.type
  unfold Oper.wp
  simp [execOp, ho, resolve, invoke, builtin, hs, hx, hrun, Result.andThen]
  exact hK _ _ h
theorem flatD_cell {w : World} {A : Option Addr} {n : Nat} {xs : List DRow} (h : RowsAt w A n xs) {ad : Addr} (hA : A = some ad) (j : Nat) (v : Value) (hj : (flatD xs)[j]? = some v) : w.cell? (ad.add j) = some v := by
  have hjl := (List.getElem?_eq_some_iff.1 hj).1
  rw [flatD_len, h.1] at hjl
  obtain ⟨ad', e, _, hc⟩ := h.2 (by omega)
  rw [hA] at e
  obtain rfl := Option.some.inj e
  have hi : j / 4 < n := by omega
  have e4 : j / 4 * 4 + j % 4 = j := by omega
  have := hc (j / 4) (j % 4) hi (by omega)
  rw [e4] at this
  rw [this, ← flatD_get xs (j / 4) (j % 4) (by rw [h.1]; exact hi) (by omega), e4, hj]
theorem rows_of_cells {w : World} {g : Nat} {xs : List DRow} {zs : Array Value} {t : TypeId} (h : Blk w g ((flatD xs).toArray ++ zs) t) : RowsAt w (some ⟨g, 0, none⟩) xs.length xs := by
  refine ⟨rfl, fun hn => ⟨_, rfl, h.lt, fun i j hi hj => ?_⟩⟩
  have e : (⟨g, 0, none⟩ : Addr).add (i * 4 + j) = ⟨g, i * 4 + j, none⟩ := by
    unfold Addr.add
    split
    · rename_i h0; rw [h0]
    · simp
  rw [e, h.cell, Array.getElem?_append_left (by simp [flatD_len]; omega), ← flatD_get xs i j hi hj]
  simp
theorem app_row {w : World} {A : Option Addr} {n : Nat} {xs : List DRow} (h : RowsAt w A n xs) (hA : A = none → n = 0) (hn : n ≤ 1000000) (x : DRow) (ad1 : Addr) (hnews : ∀ j u, x.cells.toList[j]? = some u → w.cell? (ad1.add j) = some u) :
    ∃ c' w', (∀ ty, (Builtin.append_ #[22, 22] ty #[.slice A n n, .slice (some ad1) 1 1]).run Tryz.prog w = .ok (.slice (some ⟨w.heap.size, 0, none⟩) (n + 1) c') w') ∧ n + 1 ≤ c' ∧ RowsAt w' (some ⟨w.heap.size, 0, none⟩) (n + 1) (xs ++ [x]) ∧ Ext w w' := by
  obtain ⟨i, hi, hz, hs, hb⟩ := info_desc
  have hl : x.cells.toList.length = 1 * i.size := by rw [hs]; rfl
  have fin : ∀ (cap : Nat), cap = grownCap w (n + 1) n 25 → ∀ (zs : Array Value), let w' := w.drew.alloc (.cells ((flatD xs).toArray ++ x.cells.toList.toArray ++ zs) 25); n + 1 ≤ cap ∧ RowsAt w' (some ⟨w.heap.size, 0, none⟩) (n + 1) (xs ++ [x]) ∧ Ext w w' := by
    intro cap hcap zs
    have hB : Blk (w.drew.alloc (.cells ((flatD (xs ++ [x])).toArray ++ zs) 25)) w.heap.size ((flatD (xs ++ [x])).toArray ++ zs) 25 := Blk.new w.drew _ _
    have e1 : (flatD (xs ++ [x])).toArray = (flatD xs).toArray ++ x.cells.toList.toArray := by rw [flatD_snoc]; simp
    have hR := rows_of_cells hB
    rw [List.length_append, h.1] at hR
    rw [e1] at hR
    exact ⟨by rw [hcap]; exact grownCap_ge w (n + 1) n _, hR, ((Ext.refl w).drew).alloc (Nat.le_refl _) _⟩
  rcases A with _ | ad
  · obtain rfl : n = 0 := hA rfl
    obtain rfl : xs = [] := List.length_eq_zero_iff.1 h.1
    have hrun := fun ty => run_append_nil (P := Tryz.prog) w 22 ty 25 i _ Tryz.underlying22 hi hz ad1 1 1 x.cells.toList hl hnews (by omega) (by omega) (by rw [hb]; omega)
    have hf := fin _ rfl (Builtin.zeroCells (Value.agg #[.int .i64 0, .slice none 0 0, .int .i64 0, .slice none 0 0]).cells (grownCap w 1 0 25 - 1))
    have e2 : (flatD ([] : List DRow)).toArray ++ x.cells.toList.toArray = x.cells.toList.toArray := by simp [flatD]
    rw [e2] at hf
    exact ⟨_, _, hrun, hf⟩
  · have hrun := fun ty => run_append_grow (P := Tryz.prog) w 22 ty 25 i _ Tryz.underlying22 hi hz ad n n (flatD xs) (by rw [flatD_len, h.1, hs]) (flatD_cell h rfl) ad1 1 1 x.cells.toList hl hnews (by omega) (by omega) (growslice_fits (by omega) (by rw [hb]; omega))
    exact ⟨_, _, hrun, fin _ rfl _⟩
section
set_option maxHeartbeats 4000000 in
theorem behind_is (A : Option Addr) (n c : Nat) (xs : List DRow) (L : List DescR) (hn : n ≤ 1000000) (hc : n ≤ c) (x : DRow) (d : DescR) (ad1 : Addr) (w : World) (h : Dl w A n xs L) (hx : Dn w x d) (hnews : ∀ j u, x.cells.toList[j]? = some u → w.cell? (ad1.add j) = some u) :
    Calls Tryz.prog 33 #[.slice A n c, .slice (some ad1) 1 1] w fun e w' => ∃ A' c', e = .returned (.slice A' (n + 1) c') ∧ n + 1 ≤ c' ∧ Dl w' A' (n + 1) (xs ++ [x]) (L ++ [d]) ∧ Ext w w' := by
  obtain ⟨c2, w2, hrun, hc2, hrow, hE⟩ := app_row (A := A) h.1 (fun e => by
    rcases Nat.eq_zero_or_pos n with h0 | h0
    · exact h0
    · obtain ⟨ad, e', _⟩ := h.1.2 h0; rw [e] at e'; cases e') hn x ad1 hnews
  have HD := Lib.hid (show Dl w2 (some ⟨w.heap.size, 0, none⟩) (n + 1) (xs ++ [x]) (L ++ [d]) from ⟨hrow, by rw [List.length_append, h.2.1]; rfl, fun i y d' h1 h2 => by
    have h1l := h.1.1
    have h2l := h.2.1
    rcases Nat.lt_or_ge i xs.length with hi | hi
    · rw [List.getElem?_append_left hi] at h1
      rw [List.getElem?_append_left (by omega)] at h2
      exact (h.2.2 i y d' h1 h2).ext hE
    · rw [List.getElem?_append_right hi] at h1
      rw [List.getElem?_append_right (by omega)] at h2
      have m1 := List.mem_of_getElem? h1
      have m2 := List.mem_of_getElem? h2
      obtain rfl : y = x := by simpa using m1
      obtain rfl : d' = d := by simpa using m2
      exact hx.ext hE⟩)
  have HH := Lib.hid (And.intro hrun (And.intro hc2 hE))
  have h1 : (n : Int) ≤ c := by omega
  clear h hx hnews hrun hrow hE hc2
  rcases A with _ | ad
  · go_enter Tryz.func33, Tryz.ntmps33
    go_wp2_with (at_builtin; go_loud (refine wpList_append_eq rfl _ _ _ rfl ?_ ?_ HH.out.1 ?_; rotate_left; rotate_left))
    · go_ret
      exact ⟨_, _, rfl, HH.out.2.1, HD.out, HH.out.2.2⟩
    · rfl
    · rfl
  · go_enter Tryz.func33, Tryz.ntmps33
    go_wp2_with (at_builtin; go_loud (refine wpList_append_eq rfl _ _ _ rfl ?_ ?_ HH.out.1 ?_; rotate_left; rotate_left))
    · go_ret
      exact ⟨_, _, rfl, HH.out.2.1, HD.out, HH.out.2.2⟩
    · rfl
    · rfl
end
end Go.Proofs.YtopgbggighaknaaGreatDoor
/- kinds: noRoom, noKind (made by gen_kadd.py). -/
namespace Go.Proofs.YtopgbggighaknaaGreatDoor
open Go.RowKit Go
set_option maxHeartbeats 4000000 in
theorem noRoom_is (k : Nat) (w : World) (hG : K.G w) :
    Calls Tryz.prog 32 #[.int .i64 (k : Nat)] w fun e w' => (∃ v, e = .returned v ∧ K.Code v (K.codeI (decide (k < 60)) 53)) ∧ Ext w w' := by
  obtain ⟨te, pe, hc⟩ := hG.k3
  have HC := fun b => Lib.hid (K.code_unless b 53 (by decide) te pe)
  clear hG
  by_cases h : k < 60
  · rw [decide_eq_true h]
    have h5 : (k : Int) < 60 := by omega
    go_enter Tryz.func32, Tryz.ntmps32
    go_wp2_with (go_at_call 48; refine (K.unless_is _ _ _ _ _).mono ?_; rintro e w' ⟨rfl, k1⟩)
    go_ret
    exact ⟨⟨_, rfl, (HC true).out⟩, k1⟩
  · rw [decide_eq_false h]
    have h5 : ¬ (k : Int) < 60 := by omega
    go_enter Tryz.func32, Tryz.ntmps32
    go_wp2_with (go_at_call 48; refine (K.unless_is _ _ _ _ _).mono ?_; rintro e w' ⟨rfl, k1⟩)
    go_ret
    exact ⟨⟨_, rfl, (HC false).out⟩, k1⟩
set_option maxHeartbeats 4000000 in
theorem noKind_is (y : Int) (n : Nat) (w : World) (hG : K.G w) :
    Calls Tryz.prog 37 #[.int .i64 y, .int .i64 (n : Nat)] w fun e w' => (∃ v, e = .returned v ∧ K.Code v (K.codeI (decide (1 ≤ y ∧ y ≤ n)) 51)) ∧ Ext w w' := by
  obtain ⟨te, pe, hc⟩ := hG.k4
  have HC := fun b => Lib.hid (K.code_unless b 51 (by decide) te pe)
  clear hG
  by_cases h1 : 1 ≤ y
  · by_cases h2 : y ≤ n
    · rw [decide_eq_true ⟨h1, h2⟩]
      have d2 : decide (y ≤ (n : Int)) = true := decide_eq_true h2
      go_enter Tryz.func37, Tryz.ntmps37
      go_wp2_with (go_at_call 48; refine (K.unless_is _ _ _ _ _).mono ?_; rintro e w' ⟨rfl, k1⟩)
      go_ret
      exact ⟨⟨_, rfl, (HC true).out⟩, k1⟩
    · rw [decide_eq_false (fun h => h2 h.2)]
      have d2 : decide (y ≤ (n : Int)) = false := decide_eq_false h2
      go_enter Tryz.func37, Tryz.ntmps37
      go_wp2_with (go_at_call 48; refine (K.unless_is _ _ _ _ _).mono ?_; rintro e w' ⟨rfl, k1⟩)
      go_ret
      exact ⟨⟨_, rfl, (HC false).out⟩, k1⟩
  · rw [decide_eq_false (fun h => h1 h.1)]
    go_enter Tryz.func37, Tryz.ntmps37
    go_wp2_with (go_at_call 48; refine (K.unless_is _ _ _ _ _).mono ?_; rintro e w' ⟨rfl, k1⟩)
    go_ret
    exact ⟨⟨_, rfl, (HC false).out⟩, k1⟩
end Go.Proofs.YtopgbggighaknaaGreatDoor
