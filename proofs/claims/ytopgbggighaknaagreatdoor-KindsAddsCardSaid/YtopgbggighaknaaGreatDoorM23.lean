/- Joined texts, in their order: RParse, Shown5, FewQ. -/
import Derived.Test.YtopgbggighaknaaGreatDoorM22
import Derived.Test.YtopgbggighaknaaGreatDoorM15
import Derived.Test.YtopgbggighaknaaGreatDoorM14
import Derived.Test.YtopgbggighaknaaGreatDoorM12
import Derived.Test.YtopgbggighaknaaGreatDoorM21
import Derived.Test.YtopgbggighaknaaGreatDoorM19
import Derived.Test.YtopgbggighaknaaGreatDoorM20
import Derived.Test.YtopgbggighaknaaGreatDoorM18
/- selionref05: Parse. -/
namespace Go.Proofs.YtopgbggighaknaaGreatDoor
open Go.RowKit Go
theorem line_in : ∀ (r : List UInt8) (j : Nat), j < (lineK r).1.length → j < r.length ∧ r.getD j 0 ≠ 10
  | [], j, h => by simp [lineK] at h
  | c :: r, j, h => by
    unfold lineK at h
    split at h
    · simp at h
    · rename_i e
      cases j with
      | zero => exact ⟨by simp, by simpa using e⟩
      | succ j =>
        have ih := line_in r j (by simpa using h)
        exact ⟨by simpa using ih.1, by simpa using ih.2⟩
theorem line_at {r rr : List UInt8} (h : (lineK r).2 = some rr) : (lineK r).1.length < r.length ∧ r.getD (lineK r).1.length 0 = 10 := by
  have e := (lineK_back r rr h).1
  generalize (lineK r).1 = a at *
  subst e
  simp
theorem line_take (r : List UInt8) : r.take (lineK r).1.length = (lineK r).1 := by
  cases h : (lineK r).2 with
  | some rr =>
    have e := (lineK_back r rr h).1
    generalize (lineK r).1 = a at *
    subst e
    simp
  | none => rw [(lineK_none r h).1]; simp
section
set_option maxHeartbeats 8000000 in
set_option maxRecDepth 100000 in
theorem rparse5_is (s : List UInt8) (hs : s.length ≤ 1000) (w : World) :
    Calls Tryz.prog 26 #[.string ⟨s.toArray⟩] w (KParseR w s) := by
  obtain ⟨i0, hi0⟩ := info_desc
  have HI := Lib.hid hi0
  clear hi0
  unfold KParseR
  go_enter Tryz.func26, Tryz.ntmps26
  go_wp2
  go_loopg [0, 5, 6, 7, 8, 9, 10, 11] (linesS s).length (fun m v0 v5 v6 v7 v8 v9 v10 v11 wr => ∃ (k : Nat) (ys : List DRow), k + m = (linesS s).length ∧ v0 = .string ⟨(restS s k).toArray⟩ ∧ v6 = .int .i64 k ∧ okS s k ∧ Ext w wr ∧ wr.ownsRow w.heap.size 25 4 v5 (outS s k).length (flatD ys) ∧ ys.length = (outS s k).length ∧ Ys wr v5 ys (outS s k) ∧ Small ys)
  case atStart => exact ⟨0, [], by omega, rfl, rfl, fun j t h => absurd h (by omega), Ext.refl _, ⟨rfl, .inl ⟨rfl, rfl⟩⟩, rfl, fun i y d h => by simp at h, Small.nil⟩
  case round =>
    obtain ⟨k, ys, hk, rfl, rfl, hok, hE, hown, hyl, hYs, hsm⟩ := hrel
    by_cases h0 : restS s k = []
    · have hke := lines_end s k h0 (by omega)
      rw [h0]
      obtain ⟨e1, e2, e3⟩ := par_done (read_all s (hke ▸ hok))
      rw [← hke] at e3
      obtain ⟨A', c', rfl, hmc, hrow, _⟩ := rows_of_own hown hyl
      have HF := Lib.hid (And.intro e1 (And.intro e2 (And.intro e3 (And.intro hmc (And.intro (show Dl wr A' _ ys (outS s k) from ⟨hrow, rfl, fun i y d g1 g2 => (hYs i y d g1 g2).1⟩) (And.intro hsm hE))))))
      clear hok hE hown hyl hYs hsm hmc hrow e1 e2 e3 hk
      go_wp2
      go_ret3
      rw [HF.out.1, HF.out.2.1, HF.out.2.2.1]
      exact ⟨A', _, c', ys, rfl, rfl, HF.out.2.2.2.1, HF.out.2.2.2.2.1, HF.out.2.2.2.2.2.1, HF.out.2.2.2.2.2.2⟩
    · have hlt := lines_lt s k h0
      have hget := lines_get s k h0
      have hrl := rest_len s k
      have hstep : restS s (k + 1) = (nextL (restS s k)).2 := rfl
      have hHH := Lib.hid (And.intro hk (And.intro hok (And.intro hE (And.intro hown (And.intro hyl (And.intro hYs (And.intro hsm (And.intro hget (And.intro hlt hstep)))))))))
      clear hk hok hE hown hyl hYs hsm hget hstep
      generalize restS s k = r at *
      have z0 : (ByteArray.mk r.toArray).size = r.length := bt_size r
      have hie : r.isEmpty = false := by
        cases r with
        | nil => exact absurd rfl h0
        | cons a b => rfl
      have hks : (k : Int) ≤ 1000 := by have := lines_count s; omega
      go_wp2
      have hEx1 : ∀ j, (ByteArray.mk r.toArray).extract 0 j = ⟨(r.take j).toArray⟩ := bt_take r
      have hEx2 : ∀ j, (ByteArray.mk r.toArray).extract j (ByteArray.mk r.toArray).size = ⟨(r.drop j).toArray⟩ := bt_drop r
      have hget2 : ∀ j (h : j < (ByteArray.mk r.toArray).size), (ByteArray.mk r.toArray)[j] = r.getD j 0 := by
        intro j h
        rw [List.getD_eq_getElem?_getD, List.getElem?_eq_getElem (by rw [← z0]; exact h)]; rfl
      have HX := Lib.hid (And.intro z0 (And.intro hEx1 (And.intro hEx2 hget2)))
      clear z0 hEx1 hEx2 hget2 hie
      generalize ByteArray.mk r.toArray = X at *
      have hll : (lineK r).1.length ≤ r.length := by have := line_take r; have := congrArg List.length this; rw [List.length_take] at this; omega
      have hXs : X.size ≤ 1000 := by rw [HX.out.1]; omega
      go_loopg [7] (lineK r).1.length (fun m e wr' => ∃ j : Nat, j + m = (lineK r).1.length ∧ e = .int .i64 j ∧ wr' = wr)
      case atStart => exact ⟨0, by omega, rfl, rfl⟩
      case round =>
        obtain ⟨j, hj, rfl, rfl⟩ := hrel
        by_cases hlj : j < (lineK r).1.length
        · obtain ⟨g1, g2⟩ := line_in r j hlj
          have hjX : j < X.size := by rw [HX.out.1]; exact g1
          have hg := HX.out.2.2.2 j hjX
          have hn10 : X[j].toNat ≠ 10 := by
            rw [hg]; intro e; exact g2 (UInt8.toNat_inj.1 e)
          have b1 : ((X[j].toNat : Int) != 10) = true := by rw [bne_iff_ne]; omega
          have b2 : (X[j].toNat != 10) = true := by rw [bne_iff_ne]; exact hn10
          have b3 : ((X[j].toNat : Int) == 10) = false := by rw [beq_eq_false_iff_ne]; omega
          have h5 : (j : Int) < X.size := by omega
          have h6 : (j : Int) + 1 ≤ 1000000 := by omega
          clear g1 g2 hg hn10
          go_wp2
          go_roundg ((lineK r).1.length - (j + 1))
          case measure => omega
          case rel => exact ⟨j + 1, by omega, by go_num, rfl⟩
        · obtain rfl : j = (lineK r).1.length := by omega
          obtain ⟨hk, hok, hE, hown, hyl, hYs, hsm, hget, hlt2, hstep⟩ := hHH.out
          obtain ⟨hall, h60⟩ := outS_right s k hok
          obtain ⟨A5, c5, rfl, hmc, hrow, _⟩ := rows_of_own hown hyl
          have hex := HX.out.2.1 (lineK r).1.length
          rw [line_take r] at hex
          have hD5 : Dl wr A5 _ ys (outS s k) := ⟨hrow, rfl, fun i y d g1 g2 => (hYs i y d g1 g2).1⟩
          have hXi : (lineK r).1.length ≤ X.size := by rw [HX.out.1]; exact hll
          have RP := Lib.hid (parse_is (X.extract 0 (lineK r).1.length) (lineK r).1 hex (by rw [ByteArray.size_extract]; omega) wr)
          unfold ParseR at RP
          cases hl : (lineK r).2 with
          | none =>
            have hi : (lineK r).1.length = r.length := by rw [(lineK_none r hl).1]
            have hE4 : takeE (outS s k) (nextL r).1 = 40 := by
              rw [nextL_none hl, takeE, if_neg]
              intro h10
              obtain ⟨t, ht⟩ := List.getLast?_eq_some_iff.1 h10
              exact (lineK_none r hl).2 10 (by rw [show r = t ++ [10] from ht]; simp) rfl
            obtain ⟨e1, e2, e3⟩ := par_bad (read_stop s k _ hok hget (by rw [hE4]; decide))
            rw [hE4] at e1
            have HF := Lib.hid (And.intro e1 (And.intro e2 (And.intro e3 hE)))
            have hiX : (lineK r).1.length = X.size := by rw [hi, HX.out.1]
            clear hE4 e1 e2 e3 hok hE hown hyl hYs hsm hget hlt2 hstep hall hmc hrow hex hD5 hXi hk hj hlj hi hl
            generalize (lineK r).1 = a at *
            generalize hj : a.length = j at *
            clear hj hll
            subst hiX
            have h5 : ¬ (X.size : Int) < X.size := by omega
            rw [show X.extract 0 X.size = X by apply ByteArray.ext; rw [ByteArray.data_extract]; simp] at RP
            cases hp : parseP a with
            | none =>
              rw [hp] at RP
              clear hp
              go_wp2_with (go_at_call 45; refine RP.out.mono ?_; rintro e w2 ⟨rfl, k2⟩)
              go_ret3
              rw [HF.out.1, HF.out.2.1, HF.out.2.2.1]
              exact ⟨none, 0, 0, [], rfl, rfl, Nat.le_refl _, Dl.nil _, Small.nil, Ext.trans HF.out.2.2.2 (Ext.trans k2 (ext1 _ _))⟩
            | some d =>
              rw [hp] at RP
              clear hp
              go_wp2_with (go_at_call 45; refine RP.out.mono ?_; rintro e w2 ⟨A2, c2, B2, c2', rfl, h1, h2, h3, h4, i1, i2, n1, n2, k2⟩; clear h1 h2 h3 h4 i1 i2 n1 n2)
              go_ret3
              rw [HF.out.1, HF.out.2.1, HF.out.2.2.1]
              exact ⟨none, 0, 0, [], rfl, rfl, Nat.le_refl _, Dl.nil _, Small.nil, Ext.trans HF.out.2.2.2 (Ext.trans k2 (ext1 _ _))⟩
          | some rr =>
            obtain ⟨g1, g2⟩ := line_at hl
            obtain ⟨t1, t2, t3⟩ := take_line r rr hl
            have hjX : (lineK r).1.length < X.size := by rw [HX.out.1]; exact g1
            have hg := HX.out.2.2.2 (lineK r).1.length hjX
            have h10 : X[(lineK r).1.length].toNat = 10 := by rw [hg, g2]; rfl
            have hlast : ((nextL r).1).getLast? = some 10 := by rw [nextL_some hl]; simp
            have hdrop : ((nextL r).1).dropLast = (lineK r).1 := by rw [nextL_some hl]; simp
            have hrest : X.extract ((lineK r).1.length + 1) X.size = ⟨(restS s (k + 1)).toArray⟩ := by rw [HX.out.2.2.1, t2, hstep]
            have hEE : takeE (outS s k) (nextL r).1 = match parseP (lineK r).1 with
              | none => 40
              | some d => if d ∈ outS s k then 52 else if (outS s k).length = 60 then 53 else 0 := by rw [takeE, if_pos hlast, hdrop]; cases parseP (lineK r).1 <;> rfl
            have hLL : takeL (outS s k) (nextL r).1 = match parseP (lineK r).1 with
              | none => outS s k
              | some d => outS s k ++ [d] := by rw [takeL, hdrop]; cases parseP (lineK r).1 <;> rfl
            have b1 : ((X[(lineK r).1.length].toNat : Int) != 10) = false := by rw [h10]; rfl
            have b2 : (X[(lineK r).1.length].toNat != 10) = false := by rw [h10]; rfl
            have b3 : ((X[(lineK r).1.length].toNat : Int) == 10) = true := by rw [h10]; rfl
            have h5 : ((lineK r).1.length : Int) < X.size := by omega
            have h6 : (((lineK r).1.length : Int) == (X.size : Int)) = false := by rw [beq_eq_false_iff_ne]; omega
            have h7 : ((lineK r).1.length : Int) + 1 ≤ X.size := by omega
            have h8 : (lineK r).1.length + 1 ≤ X.size := by omega
            have hcnt : k + 1 ≤ (linesS s).length := by omega
            have HB := Lib.hid (And.intro hok (And.intro hget (And.intro hrest (And.intro (And.intro hcnt hk) (And.intro hE (And.intro hown (And.intro hyl (And.intro hYs (And.intro hsm (And.intro hD5 (And.intro hmc h60)))))))))))
            have H10 := Lib.hid h10
            clear hok hget hrest hE hown hyl hYs hsm hD5 hmc hrow hex hstep hlt2 hall g1 g2 t1 t2 t3 hg hlast hdrop hl hll hj hlj hk h60 hXi h10 hcnt
            generalize (lineK r).1 = a at *
            generalize hja : a.length = j at *
            clear hja
            cases hp : parseP a with
            | none =>
              rw [hp] at RP hEE
              simp only at hEE
              obtain ⟨e1, e2, e3⟩ := par_bad (read_stop s k _ HB.out.1 HB.out.2.1 (by rw [hEE]; decide))
              rw [hEE] at e1
              have HF := Lib.hid (And.intro e1 (And.intro e2 (And.intro e3 HB.out.2.2.2.2.1)))
              clear hp hEE hLL e1 e2 e3
              go_wp2_with (go_at_call 45; refine RP.out.mono ?_; rintro e w2 ⟨rfl, k2⟩)
              go_ret3
              rw [HF.out.1, HF.out.2.1, HF.out.2.2.1]
              exact ⟨none, 0, 0, [], rfl, rfl, Nat.le_refl _, Dl.nil _, Small.nil, Ext.trans HF.out.2.2.2 (Ext.trans k2 (ext1 _ _))⟩
            | some d =>
              rw [hp] at RP hEE hLL
              simp only at hEE hLL
              obtain ⟨hd, _⟩ := parse_some hp
              have hR := right_of hd
              have hl := lens_of hR
              have s1 := hR.s1
              have s2 := hR.e1
              have HS := Lib.hid (show d.ptrs.length ≤ 1000 ∧ d.eptrs.length ≤ 1000 by omega)
              have RF := Lib.hid (fun (A2 B2 : Option Addr) (c2 c2' : Nat) W (hW : Ext wr W) i1 i2 => rfind_is A5 (outS s k).length c5 ys (outS s k) (by have := HB.out.2.2.2.2.2.2.2.2.2.2.2; omega) HB.out.2.2.2.2.2.2.2.2.1 A2 B2 d.ptrs.length d.eptrs.length c2 c2' d.size d.elem d.ptrs d.eptrs W (HB.out.2.2.2.2.2.2.2.2.2.1.ext hW) i1 i2)
              have hn60 : (outS s k).length ≤ 60 := HB.out.2.2.2.2.2.2.2.2.2.2.2
              clear hp hd hR hl s1 s2
              generalize findK (outS s k) d = f at *
              have FA := True.intro
              by_cases hm : d ∈ outS s k
              · rw [if_pos hm] at hEE
                obtain ⟨e1, e2, e3⟩ := par_bad (read_stop s k _ HB.out.1 HB.out.2.1 (by rw [hEE]; decide))
                rw [hEE] at e1
                have HF := Lib.hid (And.intro e1 (And.intro e2 (And.intro e3 HB.out.2.2.2.2.1)))
                have HM := Lib.hid hm
                clear hEE hLL e1 e2 e3 hm FA
                go_wp2_with (first | (go_at_call 45; refine RP.out.mono ?_; rintro e w2 ⟨A2, c2, B2, c2', rfl, h1, h2, h3, h4, i1, i2, n1, n2, k2⟩; have HH := Lib.hid (And.intro h1 (And.intro h2 (And.intro h3 (And.intro h4 (And.intro i1 (And.intro i2 (And.intro n1 n2))))))); have kX := Lib.hid (Ext.trans k2 (ext1 w2 (.cells (DRow.mk d.size A2 d.ptrs.length c2 d.elem B2 d.eptrs.length c2').cells 25))); have kB := Lib.hid (ext1 w2 (.cells (DRow.mk d.size A2 d.ptrs.length c2 d.elem B2 d.eptrs.length c2').cells 25)); have bX := Blk.new w2 (DRow.mk d.size A2 d.ptrs.length c2 d.elem B2 d.eptrs.length c2').cells 25; clear h1 h2 h3 h4 i1 i2 n1 n2 k2) | (go_at_call 16; refine (RF.out A2 B2 c2 c2' _ kX.out (HH.out.2.2.2.2.1.ext kB.out) (HH.out.2.2.2.2.2.1.ext kB.out)).mono ?_; rw [show (⟨d.size, d.ptrs, d.elem, d.eptrs⟩ : DescR) = d from rfl, decide_eq_true HM.out]; rintro e w3 ⟨rfl, k3⟩))
                go_ret3
                rw [HF.out.1, HF.out.2.1, HF.out.2.2.1]
                exact ⟨none, 0, 0, [], rfl, rfl, Nat.le_refl _, Dl.nil _, Small.nil, Ext.trans HF.out.2.2.2 (Ext.trans kX.out k3)⟩
              · rw [if_neg hm] at hEE
                by_cases h6n : (outS s k).length = 60
                · rw [if_pos h6n] at hEE
                  obtain ⟨e1, e2, e3⟩ := par_bad (read_stop s k _ HB.out.1 HB.out.2.1 (by rw [hEE]; decide))
                  rw [hEE] at e1
                  have HF := Lib.hid (And.intro e1 (And.intro e2 (And.intro e3 HB.out.2.2.2.2.1)))
                  have HM := Lib.hid hm
                  have b60 : (((outS s k).length : Int) == 60) = true := by rw [h6n]; rfl
                  clear hEE hLL e1 e2 e3 hm FA h6n
                  go_wp2_with (first | (go_at_call 45; refine RP.out.mono ?_; rintro e w2 ⟨A2, c2, B2, c2', rfl, h1, h2, h3, h4, i1, i2, n1, n2, k2⟩; have HH := Lib.hid (And.intro h1 (And.intro h2 (And.intro h3 (And.intro h4 (And.intro i1 (And.intro i2 (And.intro n1 n2))))))); have kX := Lib.hid (Ext.trans k2 (ext1 w2 (.cells (DRow.mk d.size A2 d.ptrs.length c2 d.elem B2 d.eptrs.length c2').cells 25))); have kB := Lib.hid (ext1 w2 (.cells (DRow.mk d.size A2 d.ptrs.length c2 d.elem B2 d.eptrs.length c2').cells 25)); have bX := Blk.new w2 (DRow.mk d.size A2 d.ptrs.length c2 d.elem B2 d.eptrs.length c2').cells 25; clear h1 h2 h3 h4 i1 i2 n1 n2 k2) | (go_at_call 16; refine (RF.out A2 B2 c2 c2' _ kX.out (HH.out.2.2.2.2.1.ext kB.out) (HH.out.2.2.2.2.2.1.ext kB.out)).mono ?_; rw [show (⟨d.size, d.ptrs, d.elem, d.eptrs⟩ : DescR) = d from rfl, decide_eq_false HM.out]; rintro e w3 ⟨rfl, k3⟩))
                  go_ret3
                  rw [HF.out.1, HF.out.2.1, HF.out.2.2.1]
                  exact ⟨none, 0, 0, [], rfl, rfl, Nat.le_refl _, Dl.nil _, Small.nil, Ext.trans HF.out.2.2.2 (Ext.trans kX.out k3)⟩
                · rw [if_neg h6n] at hEE
                  have HM := Lib.hid hm
                  have b60 : (((outS s k).length : Int) == 60) = false := by rw [beq_eq_false_iff_ne]; omega
                  have HEL := Lib.hid (And.intro hEE hLL)
                  clear hEE hLL hm FA
                  go_wp2_with (first | (go_at_call 45; refine RP.out.mono ?_; rintro e w2 ⟨A2, c2, B2, c2', rfl, h1, h2, h3, h4, i1, i2, n1, n2, k2⟩; have HH := Lib.hid (And.intro h1 (And.intro h2 (And.intro h3 (And.intro h4 (And.intro i1 (And.intro i2 (And.intro n1 n2))))))); have kX := Lib.hid (Ext.trans k2 (ext1 w2 (.cells (DRow.mk d.size A2 d.ptrs.length c2 d.elem B2 d.eptrs.length c2').cells 25))); have kB := Lib.hid (ext1 w2 (.cells (DRow.mk d.size A2 d.ptrs.length c2 d.elem B2 d.eptrs.length c2').cells 25)); have bX := Blk.new w2 (DRow.mk d.size A2 d.ptrs.length c2 d.elem B2 d.eptrs.length c2').cells 25; clear h1 h2 h3 h4 i1 i2 n1 n2 k2) | (go_at_call 16; refine (RF.out A2 B2 c2 c2' _ kX.out (HH.out.2.2.2.2.1.ext kB.out) (HH.out.2.2.2.2.2.1.ext kB.out)).mono ?_; rw [show (⟨d.size, d.ptrs, d.elem, d.eptrs⟩ : DescR) = d from rfl, decide_eq_false HM.out]; rintro e w3 ⟨rfl, k3⟩; have bX3 := bX.ext k3; simp only [DRow.cells] at bX3; have q0 := bX3.cell 0; have q1 := bX3.cell 1; have q2 := bX3.cell 2; have q3 := bX3.cell 3; simp only [List.getElem?_toArray, List.getElem?_cons_zero, List.getElem?_cons_succ] at q0 q1 q2 q3) | (at_builtin; go_loud (refine wpList_append_row rfl _ _ 22 rfl w.heap.size 25 i0 (.agg #[.int .i64 0, .slice none 0 0, .int .i64 0, .slice none 0 0]) 4 64 Tryz.underlying22 HI.out.1 HI.out.2.1 HI.out.2.2.1 HI.out.2.2.2 rfl (by decide) _ _ _ rfl (ownN_ext HB.out.2.2.2.2.2.1 (Ext.trans kX.out (Ext.trans k3 (ext1 _ _)))) ⟨w3.heap.size, 0, none⟩ 1 (DRow.mk d.size A2 d.ptrs.length c2 d.elem B2 d.eptrs.length c2').cells.toList rfl rfl (fun j u hj => new_cells1 _ _ _ j u (by simpa [DRow.cells] using hj)) (row_one _) (by unfold maxLen; omega) (by omega) (by have := HB.out.2.2.2.2.1.size; have := kX.out.size; have := k3.size; simp; omega) ?_; intro v' w4 hown4 hgrow hnew)))
                  go_roundg ((linesS s).length - (k + 1))
                  case measure => have := HB.out.2.2.2.1; omega
                  case rel =>
                    have hA2 := HH.out.2.2.2.2.2.2.1
                    have hB2 := HH.out.2.2.2.2.2.2.2
                    have eo : outS s (k + 1) = outS s k ++ [d] := by simp only [outS, HB.out.2.1, HEL.out.2]
                    have hown := HB.out.2.2.2.2.2.1
                    have hyl := HB.out.2.2.2.2.2.2.1
                    have XX := Ext.trans kX.out (Ext.trans k3 (ext1 w3 (.cells (DRow.mk d.size A2 d.ptrs.length c2 d.elem B2 d.eptrs.length c2').cells 25)))
                    have XB := Ext.trans kB.out (Ext.trans k3 (ext1 w3 (.cells (DRow.mk d.size A2 d.ptrs.length c2 d.elem B2 d.eptrs.length c2').cells 25)))
                    have hob : ∀ g, (Value.slice A5 (outS s k).length c5).ownBlock = some g → g < wr.heap.size := fun g hg => (World.ownsRow.lt hown g hg).2
                    have hDn : Dn w2 (DRow.mk d.size A2 d.ptrs.length c2 d.elem B2 d.eptrs.length c2') d := ⟨rfl, rfl, HH.out.2.2.2.2.1, HH.out.2.2.2.2.2.1, HH.out.1, HH.out.2.1, HH.out.2.2.1, HH.out.2.2.2.1⟩
                    have hYs6 := ((HB.out.2.2.2.2.2.2.2.1.ext XX).appL (M := [d]) (by rw [hyl]; exact Nat.le_refl _)).snoc (k := (outS s k).length) hyl (by rw [List.getElem?_append_right (Nat.le_refl _)]; simp) (hDn.ext XB) (fun a1 e1 e2 => by have := hA2 a1 e1; have := hob _ e2; omega) (fun a1 e1 e2 => by have := hB2 a1 e1; have := hob _ e2; omega)
                    refine ⟨k + 1, ys ++ [DRow.mk d.size A2 d.ptrs.length c2 d.elem B2 d.eptrs.length c2'], by have := HB.out.2.2.2.1; omega, by rw [HB.out.2.2.1], by go_num, okS_succ s k _ HB.out.1 HB.out.2.1 HEL.out.1, ?_, ?_, ?_, ?_, ?_⟩
                    · exact Below.grown (Ext.trans HB.out.2.2.2.2.1 XX) hgrow (by have := HB.out.2.2.2.2.1.size; have := XX.size; omega) (fun g hg => ownN_block hown g hg)
                    · rw [eo, List.length_append, flatD_snoc]; exact hown4
                    · rw [eo, List.length_append, List.length_append, hyl]; rfl
                    · rw [eo]; exact hYs6.grown hgrow hnew
                    · exact HB.out.2.2.2.2.2.2.2.2.1.snoc _ HS.out.1 HS.out.2
end
end Go.Proofs.YtopgbggighaknaaGreatDoor
/- selionlaw05: cut, shown. -/
namespace Go.Proofs.YtopgbggighaknaaGreatDoor
open Go.RowKit Go
theorem num_low (n : Nat) (h : n < 10) : numS n = [dg n] := by rw [numS, dif_pos h]
abbrev dA : DescR := ⟨8, [4], 0, []⟩
abbrev dB : DescR := ⟨8, [], 0, []⟩
theorem text_dA : textS dA = [56, 58, 32, 52, 59, 32, 48, 58] := by
  show (numS 8 ++ 58 :: ((32 :: numS 4) ++ [])) ++ 59 :: 32 :: (numS 0 ++ 58 :: []) = _
  rw [num_low 8 (by decide), num_low 4 (by decide), num_low 0 (by decide)]
  rfl
theorem text_dB : textS dB = [56, 58, 59, 32, 48, 58] := by
  show (numS 8 ++ 58 :: []) ++ 59 :: 32 :: (numS 0 ++ 58 :: []) = _
  rw [num_low 8 (by decide), num_low 0 (by decide)]
  rfl
theorem right_AB : rightK [dA, dB] = true := by decide
theorem text_AB : textKV [dA, dB] = [56, 58, 32, 52, 59, 32, 48, 58, 10, 56, 58, 59, 32, 48, 58, 10] := by
  rw [textKV, if_pos right_AB]
  show textS dA ++ [10] ++ (textS dB ++ [10] ++ []) = _
  rw [text_dA, text_dB]; rfl
theorem read_AA : readK [] 0 [56, 58, 32, 52, 59, 32, 48, 58, 10, 56, 58, 32, 52, 59, 32, 48, 58, 10] = .bad 2 52 := by
  have e : ([56, 58, 32, 52, 59, 32, 48, 58, 10, 56, 58, 32, 52, 59, 32, 48, 58, 10] : List UInt8) = textS dA ++ 10 :: (textS dA ++ 10 :: []) := by rw [text_dA]; rfl
  rw [e, readK_step [] 0 dA _ (by decide) (by decide) (by decide)]
  have hl := lineK_of (textS dA) [] (text_no10 dA)
  rw [readK, if_neg (by simp)]
  split
  · rename_i r' d' e1 e2
    rw [hl] at e1 e2
    rw [parse_text dA (by decide)] at e2
    obtain rfl : dA = d' := by simpa using e2
    rw [if_pos (by simp)]
  · rename_i h
    exact absurd (by rw [hl]; exact parse_text dA (by decide)) (h [] dA (by rw [hl]))
theorem il_lit5 (l : List Int) (w : World) (ty : TypeId) : Il (w.alloc (.cells (l.map (Value.int .i64)).toArray ty)) (some ⟨w.heap.size, 0, none⟩) l.length l := by
  refine ⟨rfl, fun hn => ⟨_, rfl, by show w.heap.size < (w.alloc _).heap.size; rw [World.size_alloc]; omega, fun j hj => ?_⟩⟩
  have h0 := (Blk.new w (l.map (Value.int .i64)).toArray ty).cell j
  have e : (⟨w.heap.size, 0, none⟩ : Addr).add j = ⟨w.heap.size, j, none⟩ := by unfold Addr.add; split <;> simp_all
  rw [e, h0]
  simp [hj]
theorem cut5_list (l : List UInt8) : (⟨l.toArray⟩ : ByteArray).extract 0 (min (⟨l.toArray⟩ : ByteArray).size 800) = ⟨(l.take 800).toArray⟩ := by
  apply ByteArray.ext
  rw [ByteArray.data_extract]
  apply Array.toList_inj.1
  have e : (⟨l.toArray⟩ : ByteArray).size = l.length := by show l.toArray.size = _; simp
  rw [e]
  simp
  omega
section
set_option maxHeartbeats 1000000 in
theorem cut5_any (X : ByteArray) (w : World) :
    Calls Tryz.prog 25 #[.string X] w fun e w' => e = .returned (.string (X.extract 0 (min X.size 800))) ∧ Ext w w' := by
  have h1 : (0 : Int) ≤ min (X.size : Int) 800 := by omega
  have h2 : min (X.size : Int) 800 ≤ X.size := by omega
  have h3 : (min (X.size : Int) 800).toNat = min X.size 800 := by omega
  have H3 := Lib.hid h3
  clear h3
  go_enter Tryz.func25, Tryz.ntmps25
  go_wp2
  go_ret
  rw [← H3.out]
  exact ⟨rfl, Ext.refl _⟩
theorem cut5_is (l : List UInt8) (w : World) :
    Calls Tryz.prog 25 #[.string ⟨l.toArray⟩] w fun e w' => e = .returned (.string ⟨(l.take 800).toArray⟩) ∧ Ext w w' := by
  have h := cut5_any ⟨l.toArray⟩ w
  rw [cut5_list] at h
  exact h
set_option maxHeartbeats 8000000 in
set_option maxRecDepth 100000 in
theorem shown5_is (w : World) (hG : K.G w) (hT : HTab w) :
    Calls Tryz.prog 8 #[] w fun e w' => e = .returned (.bool true) ∧ Ext w w' := by
  have E2 := ext2 w (.cells #[.int .i64 4] 3) (.cells #[.int .i64 8, .slice (some ⟨w.heap.size, 0, none⟩) 1 1, .int .i64 0, .slice none 0 0] 25)
  have hI := (il_lit5 [4] w 3).ext (ext1 _ (.cells #[.int .i64 8, .slice (some ⟨w.heap.size, 0, none⟩) 1 1, .int .i64 0, .slice none 0 0] 25))
  have bX := Blk.new (w.alloc (.cells #[.int .i64 4] 3)) #[.int .i64 8, .slice (some ⟨w.heap.size, 0, none⟩) 1 1, .int .i64 0, .slice none 0 0] 25
  have e1 : (w.alloc (.cells #[.int .i64 4] 3)).heap.size = w.heap.size + 1 := by simp
  rw [e1] at bX
  have hDA : ∀ W, Ext ((w.alloc (.cells #[.int .i64 4] 3)).alloc (.cells #[.int .i64 8, .slice (some ⟨w.heap.size, 0, none⟩) 1 1, .int .i64 0, .slice none 0 0] 25)) W → Dn W ⟨8, some ⟨w.heap.size, 0, none⟩, 1, 1, 0, none, 0, 0⟩ dA := fun W hW => ⟨rfl, rfl, hI.ext hW, ⟨rfl, fun h => absurd h (by simp)⟩, by simp, by simp, by simp, by simp⟩
  have hDB : ∀ W, Dn W ⟨8, none, 0, 0, 0, none, 0, 0⟩ dB := fun W => ⟨rfl, rfl, ⟨rfl, fun h => absurd h (by decide)⟩, ⟨rfl, fun h => absurd h (by decide)⟩, by decide, by decide, by decide, by decide⟩
  have HG := Lib.hid (fun W (hW : Ext ((w.alloc (.cells #[.int .i64 4] 3)).alloc (.cells #[.int .i64 8, .slice (some ⟨w.heap.size, 0, none⟩) 1 1, .int .i64 0, .slice none 0 0] 25)) W) => hG.ext (Ext.trans E2 hW))
  have HT := Lib.hid (fun W (hW : Ext ((w.alloc (.cells #[.int .i64 4] 3)).alloc (.cells #[.int .i64 8, .slice (some ⟨w.heap.size, 0, none⟩) 1 1, .int .i64 0, .slice none 0 0] 25)) W) => hT.ext (Ext.trans E2 hW))
  have HX := Lib.hid (And.intro bX (And.intro hDA (And.intro hDB E2)))
  have A1 := Lib.hid (fun W hG hx => kadd_is none 0 0 [] [] ⟨8, some ⟨w.heap.size, 0, none⟩, 1, 1, 0, none, 0, 0⟩ dA (by decide) (by decide) Small.nil (by simp) (by simp) W hG (Dl.nil W) hx)
  have A2 := Lib.hid (fun A c xs W hc hs hG h hx => kadd_is A 1 c xs [dA] ⟨8, none, 0, 0, 0, none, 0, 0⟩ dB (by decide) hc hs (by decide) (by decide) W hG h hx)
  have A3 := Lib.hid (fun A c xs W hc hs hG h hx => kadd_is A 2 c xs [dA, dB] ⟨8, some ⟨w.heap.size, 0, none⟩, 1, 1, 0, none, 0, 0⟩ dA (by decide) hc hs (by simp) (by simp) W hG h hx)
  have AP := Lib.hid (fun A c xs W hc hs hG hT h => kprint_is A 2 c xs [dA, dB] (by decide) hc hs (fun _ => by have := text_AB; rw [textKV, if_pos right_AB] at this; rw [this]; decide) W hG hT h)
  have AR := Lib.hid (fun W hG => kparse_is [56, 58, 32, 52, 59, 32, 48, 58, 10, 56, 58, 32, 52, 59, 32, 48, 58, 10] (by decide) W hG)
  have AO := Lib.hid (fun A c xs W hc hs hG h => kof_is A 2 c xs [dA, dB] 1 (by decide) hc hs W hG h)
  unfold AddR at A1 A2 A3
  unfold KParseR at AR
  unfold OfR at AO
  obtain ⟨p1, p2, p3⟩ := par_bad read_AA
  rw [p1, p2, p3] at AR
  simp only [show addE [] dA = 0 by decide, show addK [] dA = 1 by decide, show addL [] dA = [dA] by decide] at A1
  simp only [show addE [dA] dB = 0 by decide, show addK [dA] dB = 2 by decide, show addL [dA] dB = [dA, dB] by decide] at A2
  simp only [show addE [dA, dB] dA = 0 by decide, show addK [dA, dB] dA = 1 by decide, show addL [dA, dB] dA = [dA, dB] by decide] at A3
  rw [text_AB, show textKE [dA, dB] = 0 by rw [textKE, if_pos right_AB]] at AP
  simp only [show ofE [dA, dB] 1 = 0 by decide, show ofD [dA, dB] 1 = dA by decide] at AO
  clear hG hT E2 hI bX e1 hDA hDB p1 p2 p3
  go_enter Tryz.func8, Tryz.ntmps8
  go_wp2_with (first | (go_at_call 11; refine (A1.out _ (HG.out _ (Ext.refl _)) (HX.out.2.1 _ (Ext.refl _))).mono ?_; rintro e w1 ⟨L1, n1, c1, xs1, rfl, rfl, h1, h2, h3, k1⟩; have H1 := Lib.hid (And.intro h1 (And.intro h2 h3)); clear h1 h2 h3 A1) | (go_at_call 11; refine (A2.out L1 c1 xs1 _ H1.out.1 H1.out.2.2 (HG.out _ k1) H1.out.2.1 (HX.out.2.2.1 _)).mono ?_; rintro e w2 ⟨L2, n2, c2, xs2, rfl, rfl, h1, h2, h3, k2⟩; have H2 := Lib.hid (And.intro h1 (And.intro h2 h3)); replace k2 := Ext.trans k1 k2; obtain ⟨⟨q0, q1, q2, q3⟩, _⟩ := cells4 (HX.out.1.ext k2); clear h1 h2 h3 A2) | (go_at_call 11; refine (A3.out L2 c2 xs2 _ H2.out.1 H2.out.2.2 (HG.out _ k2) H2.out.2.1 (HX.out.2.1 _ k2)).mono ?_; rintro e w3 ⟨L3, n3, c3, xs3, rfl, rfl, h1, h2, h3, k3⟩; have D2 := Lib.hid (H2.out.2.1.ext k3); replace k3 := Ext.trans k2 k3; clear h1 h2 h3 A3 q0 q1 q2 q3) | (go_at_call 22; refine (AP.out L2 c2 xs2 _ H2.out.1 H2.out.2.2 (HG.out _ k3) (HT.out _ k3) D2.out).mono ?_; rintro e w4 ⟨rfl, k4⟩; replace D2 := Lib.hid (D2.out.ext k4); replace k4 := Ext.trans k3 k4; clear AP) | (go_at_call 24; refine (AR.out _ (HG.out _ k4)).mono ?_; rintro e w5 ⟨L5, n5, c5, xs5, rfl, rfl, h1, h2, h3, k5⟩; replace D2 := Lib.hid (D2.out.ext k5); replace k5 := Ext.trans k4 k5; clear h1 h2 h3 AR) | (go_at_call 13; refine (AO.out L2 c2 xs2 _ H2.out.1 H2.out.2.2 (HG.out _ k5) D2.out).mono ?_; rintro e w6 ⟨⟨rs, rA, rn, rc, rt, rB, rm, re⟩, rfl, h1, h2, h3, k6⟩; simp only [DRow.cells]; have H6 := Lib.hid (And.intro h1 (And.intro h2 h3)); replace k6 := Ext.trans k5 k6; have kB := ext1 w6 (.cells #[.int .i64 rs, .slice rA rn rc, .int .i64 rt, .slice rB rm re] 25); obtain ⟨⟨q0, q1, q2, q3⟩, _⟩ := cells4 (HX.out.1.ext (Ext.trans k6 kB)); clear h1 h2 h3 AO) | (go_at_call 27; have DS := dsame_is rA rB rn rm rc re rs rt [4] [] (Nat.le_trans H6.out.2.1 (by decide)) (Nat.le_trans H6.out.2.2 (by decide)) (some ⟨w.heap.size, 0, none⟩) none 1 0 1 0 8 0 [4] [] _ (H6.out.1.p.ext kB) (H6.out.1.q.ext kB) (HX.out.2.1 _ (Ext.trans k6 kB)).p (HX.out.2.1 _ (Ext.trans k6 kB)).q; rw [show decide ((⟨rs, [4], rt, []⟩ : DescR) = ⟨8, [4], 0, []⟩) = true from decide_eq_true (by have a1 : rs = 8 := H6.out.1.s; have a2 : rt = 0 := H6.out.1.t; rw [a1, a2])] at DS; refine DS.mono ?_; rintro e w7 ⟨rfl, k7⟩; clear DS))
  go_ret
  exact ⟨rfl, Ext.trans HX.out.2.2.2 (Ext.trans k6 (Ext.trans kB k7))⟩
end
end Go.Proofs.YtopgbggighaknaaGreatDoor
/- selionlaw05: Few, and where its answer lies; a list of descriptors while other blocks turn. -/
namespace Go.Proofs.YtopgbggighaknaaGreatDoor
open Go.RowKit Go
def Pz (P : Nat → Prop) (xs : List DRow) : Prop := ∀ (i : Nat) (x : DRow), xs[i]? = some x → (0 < x.n → ∀ ad, x.A = some ad → P ad.block) ∧ (0 < x.m → ∀ ad, x.B = some ad → P ad.block)
theorem Pz.cut {P : Nat → Prop} {xs : List DRow} (h : Pz P xs) : Pz P ((xs.take 62).map cutX) := fun i x hx => by
  rw [List.getElem?_map] at hx
  obtain ⟨y, g1, rfl⟩ := Option.map_eq_some_iff.1 hx
  rw [List.getElem?_take] at g1
  split at g1
  · obtain ⟨p1, p2⟩ := h i y g1
    exact ⟨fun h0 => p1 (by have h1 : 0 < min y.n 20 := h0; omega), fun h0 => p2 (by have h1 : 0 < min y.m 20 := h0; omega)⟩
  · cases g1
theorem Pz.of_dl {W : World} {A : Option Addr} {n : Nat} {xs : List DRow} {L : List DescR} (h : Dl W A n xs L) : Pz (fun k => k < W.heap.size) xs := fun i x hx => by
  have hi : i < L.length := by rw [h.2.1, ← h.1.1]; exact (List.getElem?_eq_some_iff.1 hx).1
  have hd := h.2.2 i x _ hx (List.getElem?_eq_getElem hi)
  refine ⟨fun h0 ad e => ?_, fun h0 ad e => ?_⟩
  · obtain ⟨ad', e', hl, _⟩ := hd.p.2 h0
    rw [e] at e'; cases e'; exact hl
  · obtain ⟨ad', e', hl, _⟩ := hd.q.2 h0
    rw [e] at e'; cases e'; exact hl
theorem Dl.chgU {u : Nat → Prop} {W W' : World} {A : Option Addr} {n : Nat} {xs : List DRow} {L : List DescR} (h : Dl W A n xs L) (k : ChgU u W W') (hA : ∀ ad, A = some ad → ¬ u ad.block) (hx : Pz (fun b => ¬ u b) xs) : Dl W' A n xs L :=
  ⟨⟨h.1.1, fun hn => by
    obtain ⟨ad, e, hb, hc⟩ := h.1.2 hn
    exact ⟨ad, e, Nat.lt_of_lt_of_le hb k.size, fun i j hi hj => (World.cell?_of_block (w := W) (a := ad.add (i * 4 + j)) (by rw [block_of_add]; exact k.block _ hb (hA ad e))).trans (hc i j hi hj)⟩⟩, h.2.1,
    fun i x d h1 h2 => (h.2.2 i x d h1 h2).chgU k (hx i x h1).1 (hx i x h1).2⟩
/-- An own row of m descriptors, of its own block; its lists lie at P's blocks. -/
def RowQ (P : Nat → Prop) (w : World) (m : Nat) (L : List DescR) (e : Ending) (w' : World) : Prop := ∃ A' c' xs', e = .returned (.slice A' m c') ∧ m ≤ c' ∧ Dl w' A' m xs' L ∧ Small xs' ∧ Zs xs' ∧ ((∀ ad, A' = some ad → w.heap.size ≤ ad.block) ∧ Pz P xs') ∧ Ext w w'
section
set_option maxHeartbeats 4000000 in
set_option maxRecDepth 100000 in
theorem few_q (P : Nat → Prop) (A : Option Addr) (n c : Nat) (xs : List DRow) (L : List DescR) (w : World) (h : Dl w A n xs L) (hz : Zs xs) (hp : Pz P xs) :
    Calls Tryz.prog 9 #[.slice A n c] w (RowQ P w (min n 62) (fewD L)) := by
  obtain ⟨i0, hi0⟩ := info_desc
  have HI := Lib.hid hi0
  clear hi0
  have HO := Lib.hid h
  have HZ := Lib.hid hz
  have HPz := Lib.hid hp.cut
  clear h hz hp
  go_enter Tryz.func9, Tryz.ntmps9
  go_wp2
  go_loopg [3, 4] (min n 62) (fun m v i wr => ∃ k : Nat, k + m = min n 62 ∧ i = .int .i64 k ∧ Ext w wr ∧ wr.ownsRow w.heap.size 25 4 v k (flatD ((xs.take k).map cutX)))
  case atStart => exact ⟨0, by omega, rfl, Ext.refl _, rfl, .inl ⟨rfl, rfl⟩⟩
  case round =>
    obtain ⟨k, hk, rfl, hE, hown⟩ := hrel
    by_cases hlt : k < min n 62
    · obtain ⟨ad, x, d, rfl, hb, hx, hd, hdn, e0, e1, e2, e3⟩ := (HO.out.ext hE).at_ (show k < n by omega)
      have RC := Lib.hid (fun W => cutd_is x.A x.B x.n x.m x.c x.e x.s x.t (HZ.out k x hx).1 (HZ.out k x hx).2 hdn.pc hdn.qc hdn.pm hdn.qm W)
      have h1 : (k : Int) < n := by omega
      have h2 : (k : Int) < 62 := by omega
      have HH := Lib.hid (And.intro hE (And.intro hown (And.intro hx hk)))
      clear hE hown hx hk hd hdn hb hlt
      go_wp2_with (first | (go_at_call 10; refine (RC.out _).mono ?_; rintro e w2 ⟨rfl, k2⟩) | (at_builtin; go_loud (refine wpList_append_own _ rfl _ _ 22 rfl w.heap.size 25 i0 (.agg #[.int .i64 0, .slice none 0 0, .int .i64 0, .slice none 0 0]) 4 64 Tryz.underlying22 HI.out.1 HI.out.2.1 HI.out.2.2.1 HI.out.2.2.2 rfl (by decide) _ _ _ rfl (ownN_ext HH.out.2.1 (Ext.trans k2 (ext1 _ _))) ⟨w2.heap.size, 0, none⟩ 1 1 (cutX x).cells.toList rfl rfl (fun j u hj => new_cells1 _ _ _ j u (by simpa [cutX, DRow.cells] using hj)) (row_one _) (by have := HH.out.2.2.2; unfold maxLen; omega) (by have := HH.out.2.2.2; omega) (by have := HH.out.1.size; have := k2.size; simp; omega) ?_; intro v' w3 hown3 hgrow _)))
      go_roundg (gk - 1)
      case measure => have := HH.out.2.2.2; omega
      case rel =>
        refine ⟨k + 1, by have := HH.out.2.2.2; omega, by go_num, ?_, ?_⟩
        · exact Below.grown (Ext.trans HH.out.1 (Ext.trans k2 (ext1 _ _))) hgrow (by have := HH.out.1.size; have := k2.size; simp; omega) (fun g hg => ownN_block HH.out.2.1 g hg)
        · rw [List.take_add_one, HH.out.2.2.1]
          simp only [Option.toList_some, List.map_append, List.map_cons, List.map_nil, flatD_snoc]
          exact hown3
    · obtain rfl : k = min n 62 := by omega
      have hX : List.take (min n 62) xs = List.take 62 xs := by
        rcases Nat.le_total n 62 with h | h
        · rw [Nat.min_eq_left h, List.take_of_length_le (by rw [HO.out.1.1]; exact Nat.le_refl _), List.take_of_length_le (by rw [HO.out.1.1]; exact h)]
        · rw [Nat.min_eq_right h]
      rw [hX] at hown
      obtain ⟨A', c', rfl, hmc, hrow, hbk⟩ := rows_of_own hown (by rw [List.length_map, List.length_take, HO.out.1.1]; omega)
      have hdl : Dl wr A' (min n 62) ((xs.take 62).map cutX) (fewD L) := ⟨hrow, by rw [fewD, List.length_map, List.length_take, HO.out.2.1]; omega, fun i x d h1 h2 => by
        rw [fewD] at h2
        rw [List.getElem?_map] at h1 h2
        obtain ⟨x0, g1, rfl⟩ := Option.map_eq_some_iff.1 h1
        obtain ⟨d0, g2, rfl⟩ := Option.map_eq_some_iff.1 h2
        rw [List.getElem?_take] at g1 g2
        split at g1
        · rename_i hi
          rw [if_pos hi] at g2
          exact ((HO.out.2.2 i x0 d0 g1 g2).ext hE).cut
        · cases g1⟩
      have hzs : Zs ((xs.take 62).map cutX) := fun i x hx => by
        rw [List.getElem?_map] at hx
        obtain ⟨y, g1, rfl⟩ := Option.map_eq_some_iff.1 hx
        rw [List.getElem?_take] at g1
        split at g1
        · exact (HZ.out i y g1).cut
        · cases g1
      have HBK := Lib.hid hbk
      have HH := Lib.hid (And.intro hmc (And.intro hdl (And.intro (small_cut (xs.take 62)) (And.intro hzs hE))))
      clear hE hrow hbk hown hX hk hdl hmc hzs
      generalize hK : min n 62 = K at *
      by_cases h1 : n ≤ 62
      · have h3 : K = n := by omega
        have h2 : ¬ (K : Int) < n := by omega
        have h4 := Lib.hid hK
        clear hK h1 h3
        go_wp2
        go_ret
        exact ⟨A', c', _, rfl, HH.out.1, HH.out.2.1, HH.out.2.2.1, HH.out.2.2.2.1, ⟨HBK.out, HPz.out⟩, HH.out.2.2.2.2⟩
      · have h3 : K = 62 := by omega
        have h2 : (K : Int) < n := by omega
        have h5 : ¬ (K : Int) < 62 := by omega
        have h4 := Lib.hid hK
        clear hK h1 h3
        go_wp2
        go_ret
        exact ⟨A', c', _, rfl, HH.out.1, HH.out.2.1, HH.out.2.2.1, HH.out.2.2.2.1, ⟨HBK.out, HPz.out⟩, HH.out.2.2.2.2⟩
end
end Go.Proofs.YtopgbggighaknaaGreatDoor
