/- The law BitsSums, walked. -/
import Derived.Test.YtfldgiocaboelaaDoorCut
import Derived.Test.YtfldgiocaboelaaDoorLawMath
namespace Go.Proofs.YtfldgiocaboelaaDoor
open Go.RowKit Go
section
variable {a : Nat → Addr}
set_option maxHeartbeats 4000000 in
theorem sums_no (N : Int) (A : Option Addr) (n n' c : Nat) (ws : List Nat) (N2 : Int) (A2 : Option Addr) (n2 n2' c2 : Nat) (vs : List Nat) (w : World)
    (C : ∀ W : World, Calls Tryd.prog 12 #[.agg #[.int .i64 N, .slice A n c]] W fun e w' => e = .returned (.agg #[.int .i64 N, .slice A n' c]) ∧ Ext W w') (C2 : ∀ W : World, Calls Tryd.prog 12 #[.agg #[.int .i64 N2, .slice A2 n2 c2]] W fun e w' => e = .returned (.agg #[.int .i64 N2, .slice A2 n2' c2]) ∧ Ext W w') (B : Bt w A n' ws) (B2 : Bt w A2 n2' vs) (hG : G a w) (hk : eitB N N2 ws vs = false) :
    Calls Tryd.prog 10 #[.agg #[.int .i64 N, .slice A n c], .agg #[.int .i64 N2, .slice A2 n2 c2]] w fun e w' => e = .returned (.bool true) ∧ Ext w w' := by
  have SH := Lib.hid (fun W (hW : Ext w W) => shown_any (a := a) W (hG.ext hW))
  have CU := Lib.hid C
  clear C
  have CV := Lib.hid C2
  clear C2
  have EA := Lib.hid (fun W (hW : Ext w W) => either_no (a := a) N N2 A A2 n' c n2' c2 ws vs hk W (B.ext hW) (B2.ext hW) (hG.ext hW))
  have CZ := Lib.hid (fun W => (show cntN 0 [] = 0 by decide +kernel) ▸ count_any 0 none 0 0 [] W ⟨rfl, (fun x hx => by simp at hx), by decide, fun h => absurd h (by decide)⟩)
  clear hk
  clear B B2 hG
  go_enter Tryd.func10, Tryd.ntmps10
  go_wp2_with (first
    | (go_at_call 11; refine (SH.out _ (ext2 _ _ _)).mono ?_; rintro e w1 ⟨rfl, h1⟩; have x := at_old h1; have y := at_new2 h1; have hW := Ext.trans (ext2 _ _ _) h1; clear h1; have r0 := x.cell 0; have r1 := x.cell 1; have s0 := y.cell 0; have s1 := y.cell 1; simp only [List.getElem?_toArray, List.getElem?_cons_zero, List.getElem?_cons_succ] at r0 r1 s0 s1)
    | (go_at_call 12; (with_reducible refine (CU.out _).mono ?_); rintro e w' ⟨rfl, hx⟩; replace x := x.ext hx; replace y := y.ext hx; replace hW := Ext.trans hW hx; clear hx r0 r1 s0 s1; have p0 := x.cell 0; have p1 := x.cell 1; simp only [List.getElem?_toArray, List.getElem?_cons_zero, List.getElem?_cons_succ] at p0 p1; have q0 := x.frozen 0; have q1 := x.frozen 1; obtain ⟨z9, hV⟩ := reborn x hW (Nat.le_refl _) (.int .i64 N) (.slice A n' c); have y9 := keepOther y (by show w.heap.size + 1 ≠ w.heap.size; omega) (.int .i64 N) (.slice A n' c); clear x y hW; have x := z9; have y := y9; have hW := hV; clear z9 y9 hV; have r0 := x.cell 0; have r1 := x.cell 1; have s0 := y.cell 0; have s1 := y.cell 1; simp only [List.getElem?_toArray, List.getElem?_cons_zero, List.getElem?_cons_succ] at r0 r1 s0 s1)
    | (go_at_call 12; (with_reducible refine (CV.out _).mono ?_); rintro e w' ⟨rfl, hx⟩; replace x := x.ext hx; replace y := y.ext hx; replace hW := Ext.trans hW hx; clear hx r0 r1 s0 s1; have p0 := y.cell 0; have p1 := y.cell 1; simp only [List.getElem?_toArray, List.getElem?_cons_zero, List.getElem?_cons_succ] at p0 p1; have q0 := y.frozen 0; have q1 := y.frozen 1; obtain ⟨z9, hV⟩ := reborn y hW (Nat.le_succ _) (.int .i64 N2) (.slice A2 n2' c2); have y9 := keepOther x (by show w.heap.size ≠ w.heap.size + 1; omega) (.int .i64 N2) (.slice A2 n2' c2); clear y x hW; have y := z9; have x := y9; have hW := hV; clear z9 y9 hV; have r0 := x.cell 0; have r1 := x.cell 1; have s0 := y.cell 0; have s1 := y.cell 1; simp only [List.getElem?_toArray, List.getElem?_cons_zero, List.getElem?_cons_succ] at r0 r1 s0 s1)
    | (go_at_call 32; (with_reducible refine (EA.out _ hW).mono ?_); rintro e w' ⟨rfl, hx⟩; replace hx := Ext.trans hx (ext1 _ (.cells #[.int .i64 0, .slice none 0 0] 24)); have b4 := Blk.new w' #[.int .i64 0, .slice none 0 0] 24; replace hW := Ext.trans hW hx; replace x := x.ext hx; replace y := y.ext hx; clear hx; (try clear r0 r1); (try clear s0 s1); (try clear t0 t1); have r0 := x.cell 0; have r1 := x.cell 1; have s0 := y.cell 0; have s1 := y.cell 1; have t0 := b4.cell 0; have t1 := b4.cell 1; simp only [List.getElem?_toArray, List.getElem?_cons_zero, List.getElem?_cons_succ] at r0 r1 s0 s1 t0 t1)
    | (go_at_call 19; (with_reducible refine (CZ.out _).mono ?_); rintro e w' ⟨rfl, hx⟩; replace hW := Ext.trans hW hx; replace x := x.ext hx; replace y := y.ext hx; replace b4 := b4.ext hx; clear hx; (try clear r0 r1); (try clear s0 s1); (try clear t0 t1); have r0 := x.cell 0; have r1 := x.cell 1; have s0 := y.cell 0; have s1 := y.cell 1; have t0 := b4.cell 0; have t1 := b4.cell 1; simp only [List.getElem?_toArray, List.getElem?_cons_zero, List.getElem?_cons_succ] at r0 r1 s0 s1 t0 t1))
  go_ret
  exact ⟨rfl, hW⟩
set_option maxHeartbeats 4000000 in
theorem sums_yes (N : Int) (A : Option Addr) (n n' c : Nat) (ws : List Nat) (A2 : Option Addr) (n2 n2' c2 : Nat) (vs : List Nat) (w : World)
    (C : ∀ W : World, Calls Tryd.prog 12 #[.agg #[.int .i64 N, .slice A n c]] W fun e w' => e = .returned (.agg #[.int .i64 N, .slice A n' c]) ∧ Ext W w') (C2 : ∀ W : World, Calls Tryd.prog 12 #[.agg #[.int .i64 N, .slice A2 n2 c2]] W fun e w' => e = .returned (.agg #[.int .i64 N, .slice A2 n2' c2]) ∧ Ext W w') (B : Bt w A n' ws) (B2 : Bt w A2 n2' vs) (hG : G a w) (hr : rightB N ws = true) (hs : rightB N vs = true) :
    Calls Tryd.prog 10 #[.agg #[.int .i64 N, .slice A n c], .agg #[.int .i64 N, .slice A2 n2 c2]] w fun e w' => e = .returned (.bool true) ∧ Ext w w' := by
  obtain ⟨js, hj⟩ : ∃ js, joinW ws vs = js := ⟨_, rfl⟩
  obtain ⟨mj, m1, m2, m3, m4, m5, m6⟩ := sums_math hr hs hj
  have SH := Lib.hid (fun W (hW : Ext w W) => shown_any (a := a) W (hG.ext hW))
  have CU := Lib.hid C
  clear C
  have CV := Lib.hid C2
  clear C2
  have EA := Lib.hid (fun W (hW : Ext w W) => hj ▸ either_ok (a := a) N A A2 n' c n2' c2 ws vs hr hs W (B.ext hW) (B2.ext hW) (hG.ext hW))
  obtain ⟨L, hL⟩ : ∃ L, plist N js 0 false = L := ⟨_, rfl⟩
  have NZ := Lib.hid (fun A n c W (hW : Ext w W) (B4 : Bt W A n js) => sums_first hL (next_right (a := a) N A n c js 0 false mj (by decide) W B4 (hG.ext hW)))
  obtain ⟨v0, hv0⟩ : ∃ v0, optI L[0]? = v0 := ⟨_, rfl⟩
  obtain ⟨b0, hb0⟩ : ∃ b0, L[0]?.isSome = b0 := ⟨_, rfl⟩
  rw [hv0, hb0] at NZ
  have H0 := Lib.hid (And.intro hv0 hb0)
  clear hv0 hb0
  have NX := Lib.hid (fun k x (hx : L[k]? = some x) A n c W (hW : Ext w W) (B4 : Bt W A n js) => sums_next hL hx (next_right (a := a) N A n c js ((x : Int) + 1) false mj (sums_le hL hx ((right_iff N js).1 mj).n1) W B4 (hG.ext hW)))
  have XL := Lib.hid (fun k x (hx : L[k]? = some x) => sums_bd hL hx)
  have CA := Lib.hid (fun W (hW : Ext w W) => count_any N A n' c ws W (B.ext hW))
  have CB := Lib.hid (fun W (hW : Ext w W) => count_any N A2 n2' c2 vs W (B2.ext hW))
  have CJ := Lib.hid (fun A n c W (B4 : Bt W A n js) => count_any N A n c js W B4)
  rw [hL] at m6
  have hN : N ≤ 20000 := ((right_iff N js).1 mj).n1
  generalize cntN N ws = ca at *
  generalize cntN N vs = cb at *
  generalize cntN N js = cj at *
  have i1 : ((ca : Nat) : Int) ≤ (cj : Nat) := by omega
  have i2 : ((cb : Nat) : Int) ≤ (cj : Nat) := by omega
  have i3 : ((cj : Nat) : Int) ≤ (ca : Nat) + (cb : Nat) := by omega
  clear hj hL mj hr hs
  clear B B2 hG
  go_enter Tryd.func10, Tryd.ntmps10
  go_wp2_with (first
    | (go_at_call 11; refine (SH.out _ (ext2 _ _ _)).mono ?_; rintro e w1 ⟨rfl, h1⟩; have x := at_old h1; have y := at_new2 h1; have hW := Ext.trans (ext2 _ _ _) h1; clear h1; have r0 := x.cell 0; have r1 := x.cell 1; have s0 := y.cell 0; have s1 := y.cell 1; simp only [List.getElem?_toArray, List.getElem?_cons_zero, List.getElem?_cons_succ] at r0 r1 s0 s1)
    | (go_at_call 12; (with_reducible refine (CU.out _).mono ?_); rintro e w' ⟨rfl, hx⟩; replace x := x.ext hx; replace y := y.ext hx; replace hW := Ext.trans hW hx; clear hx r0 r1 s0 s1; have p0 := x.cell 0; have p1 := x.cell 1; simp only [List.getElem?_toArray, List.getElem?_cons_zero, List.getElem?_cons_succ] at p0 p1; have q0 := x.frozen 0; have q1 := x.frozen 1; obtain ⟨z9, hV⟩ := reborn x hW (Nat.le_refl _) (.int .i64 N) (.slice A n' c); have y9 := keepOther y (by show w.heap.size + 1 ≠ w.heap.size; omega) (.int .i64 N) (.slice A n' c); clear x y hW; have x := z9; have y := y9; have hW := hV; clear z9 y9 hV; have r0 := x.cell 0; have r1 := x.cell 1; have s0 := y.cell 0; have s1 := y.cell 1; simp only [List.getElem?_toArray, List.getElem?_cons_zero, List.getElem?_cons_succ] at r0 r1 s0 s1)
    | (go_at_call 12; (with_reducible refine (CV.out _).mono ?_); rintro e w' ⟨rfl, hx⟩; replace x := x.ext hx; replace y := y.ext hx; replace hW := Ext.trans hW hx; clear hx r0 r1 s0 s1; have p0 := y.cell 0; have p1 := y.cell 1; simp only [List.getElem?_toArray, List.getElem?_cons_zero, List.getElem?_cons_succ] at p0 p1; have q0 := y.frozen 0; have q1 := y.frozen 1; obtain ⟨z9, hV⟩ := reborn y hW (Nat.le_succ _) (.int .i64 N) (.slice A2 n2' c2); have y9 := keepOther x (by show w.heap.size ≠ w.heap.size + 1; omega) (.int .i64 N) (.slice A2 n2' c2); clear y x hW; have y := z9; have x := y9; have hW := hV; clear z9 y9 hV; have r0 := x.cell 0; have r1 := x.cell 1; have s0 := y.cell 0; have s1 := y.cell 1; simp only [List.getElem?_toArray, List.getElem?_cons_zero, List.getElem?_cons_succ] at r0 r1 s0 s1)
    | (go_at_call 32; (with_reducible refine (EA.out _ hW).mono ?_); rintro e w' ⟨A4, n4, c4, rfl, B4, hx⟩; replace B4 := B4.ext (ext1 _ (.cells #[.int .i64 N, .slice A4 n4 c4] 24)); replace hx := Ext.trans hx (ext1 _ (.cells #[.int .i64 N, .slice A4 n4 c4] 24)); have b4 := Blk.new w' #[.int .i64 N, .slice A4 n4 c4] 24; replace hW := Ext.trans hW hx; replace x := x.ext hx; replace y := y.ext hx; clear hx; (try clear r0 r1); (try clear s0 s1); (try clear t0 t1); have r0 := x.cell 0; have r1 := x.cell 1; have s0 := y.cell 0; have s1 := y.cell 1; have t0 := b4.cell 0; have t1 := b4.cell 1; simp only [List.getElem?_toArray, List.getElem?_cons_zero, List.getElem?_cons_succ] at r0 r1 s0 s1 t0 t1)
    | (go_at_call 30; (with_reducible refine (NZ.out _ _ _ _ hW B4).mono ?_); rintro e w' ⟨rfl, hx⟩; replace hW := Ext.trans hW hx; replace x := x.ext hx; replace y := y.ext hx; replace b4 := b4.ext hx; replace B4 := B4.ext hx; clear hx; (try clear r0 r1); (try clear s0 s1); (try clear t0 t1); have r0 := x.cell 0; have r1 := x.cell 1; have s0 := y.cell 0; have s1 := y.cell 1; have t0 := b4.cell 0; have t1 := b4.cell 1; simp only [List.getElem?_toArray, List.getElem?_cons_zero, List.getElem?_cons_succ] at r0 r1 s0 s1 t0 t1))
  clear r0 r1 s0 s1 t0 t1
  have XH := Lib.hid (And.intro m6 hN)
  go_loopw [8, 9, 10] (fun n at' ok wr => ∃ k : Nat, n = .int .i64 k ∧ k ≤ L.length ∧ at' = .int .i64 (optI L[k]?) ∧ ok = .bool (L[k]?).isSome ∧ Ext w' wr) (fun n _ _ _ => L.length - (intOf n).toNat)
  case atStart => exact ⟨0, rfl, Nat.zero_le _, by rw [H0.out.1], by rw [H0.out.2], Ext.refl _⟩
  case round =>
    obtain ⟨k, rfl, hk, rfl, rfl, hE⟩ := hrel
    replace x := x.ext hE; replace y := y.ext hE; replace b4 := b4.ext hE; replace B4 := B4.ext hE
    replace hW := Ext.trans hW hE
    have r0 := x.cell 0; have r1 := x.cell 1; have s0 := y.cell 0; have s1 := y.cell 1; have t0 := b4.cell 0; have t1 := b4.cell 1; simp only [List.getElem?_toArray, List.getElem?_cons_zero, List.getElem?_cons_succ] at r0 r1 s0 s1 t0 t1
    rcases hx0 : L[k]? with _ | x0
    · have hkl := List.getElem?_eq_none_iff.1 hx0
      have hq : (((k : Nat) : Int) + (cj : Nat) == N) = true := by rw [beq_iff_eq]; omega
      dsimp only [optI, Option.isSome]
      go_wp2
      refine wp_region_on (by kernel_rfl) (by kernel_rfl) ?_
      have hx := fromOf hW
      repeat (go_big_quiet_step ((first | (go_at_call 19; with_reducible exact on_call (fun W hx => CA.out _ (Ext.trans hW hx)) _) | (go_at_call 19; with_reducible exact on_call (fun W hx => CB.out _ (Ext.trans hW hx)) _) | (go_at_call 19; with_reducible exact on_call (fun W hx => CJ.out _ _ _ _ (B4.ext hx)) _))))
      refine wpQuiet_nil ?_
      intro W hZ
      go_wp2
      go_ret
      exact ⟨rfl, Ext.trans hW hZ⟩
    · have hkl := (List.getElem?_eq_some_iff.1 hx0).1
      have h5 : (k : Int) ≤ N := by omega
      have h6 := XL.out k x0 hx0
      dsimp only [optI, Option.isSome]
      go_wp2_with (first
        | (go_at_call 30; (with_reducible refine (NX.out _ _ hx0 _ _ _ _ hW B4).mono ?_); rintro e w' ⟨rfl, hx⟩; replace hE := Ext.trans hE hx; replace hW := Ext.trans hW hx; replace x := x.ext hx; replace y := y.ext hx; replace b4 := b4.ext hx; replace B4 := B4.ext hx; clear hx; (try clear r0 r1); (try clear s0 s1); (try clear t0 t1); have r0 := x.cell 0; have r1 := x.cell 1; have s0 := y.cell 0; have s1 := y.cell 1; have t0 := b4.cell 0; have t1 := b4.cell 1; simp only [List.getElem?_toArray, List.getElem?_cons_zero, List.getElem?_cons_succ] at r0 r1 s0 s1 t0 t1))
      go_roundw
      case rel => exact ⟨k + 1, by go_num, by omega, rfl, rfl, hE⟩
      case measure => simp [intOf]; omega
theorem sums_walk (N : Int) (A : Option Addr) (n n' c : Nat) (ws : List Nat) (N2 : Int) (A2 : Option Addr) (n2 n2' c2 : Nat) (vs : List Nat) (w : World)
    (C : ∀ W : World, Calls Tryd.prog 12 #[.agg #[.int .i64 N, .slice A n c]] W fun e w' => e = .returned (.agg #[.int .i64 N, .slice A n' c]) ∧ Ext W w') (C2 : ∀ W : World, Calls Tryd.prog 12 #[.agg #[.int .i64 N2, .slice A2 n2 c2]] W fun e w' => e = .returned (.agg #[.int .i64 N2, .slice A2 n2' c2]) ∧ Ext W w') (B : Bt w A n' ws) (B2 : Bt w A2 n2' vs) (hG : G a w) :
    Calls Tryd.prog 10 #[.agg #[.int .i64 N, .slice A n c], .agg #[.int .i64 N2, .slice A2 n2 c2]] w fun e w' => e = .returned (.bool true) ∧ Ext w w' := by
  rcases hk : eitB N N2 ws vs with _ | _
  · exact sums_no N A n n' c ws N2 A2 n2 n2' c2 vs w C C2 B B2 hG hk
  · obtain ⟨hr, hs, rfl⟩ := eit_iff.1 hk
    exact sums_yes N A n n' c ws A2 n2 n2' c2 vs w C C2 B B2 hG hr hs
end
end Go.Proofs.YtfldgiocaboelaaDoor
