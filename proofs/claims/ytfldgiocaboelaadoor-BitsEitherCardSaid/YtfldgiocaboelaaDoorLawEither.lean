/- The law BitsEither, walked. -/
import Derived.Test.YtfldgiocaboelaaDoorCut
import Derived.Test.YtfldgiocaboelaaDoorLawMath
namespace Go.Proofs.YtfldgiocaboelaaDoor
open Go.RowKit Go
section
variable {a : Nat → Addr}
set_option maxHeartbeats 4000000 in
theorem either_no_false (N : Int) (A : Option Addr) (n n' c : Nat) (ws : List Nat) (N2 : Int) (A2 : Option Addr) (n2 n2' c2 : Nat) (vs : List Nat) (i : Int) (w : World)
    (C : ∀ W : World, Calls Tryd.prog 12 #[.agg #[.int .i64 N, .slice A n c]] W fun e w' => e = .returned (.agg #[.int .i64 N, .slice A n' c]) ∧ Ext W w') (C2 : ∀ W : World, Calls Tryd.prog 12 #[.agg #[.int .i64 N2, .slice A2 n2 c2]] W fun e w' => e = .returned (.agg #[.int .i64 N2, .slice A2 n2' c2]) ∧ Ext W w') (B : Bt w A n' ws) (B2 : Bt w A2 n2' vs) (hG : G a w) (hk : eitB N N2 ws vs = false) (hr : rightB N ws = false) :
    Calls Tryd.prog 8 #[.agg #[.int .i64 N, .slice A n c], .agg #[.int .i64 N2, .slice A2 n2 c2], .int .i64 i] w fun e w' => e = .returned (.bool true) ∧ Ext w w' := by
  have SH := Lib.hid (fun W (hW : Ext w W) => shown_any (a := a) W (hG.ext hW))
  have CU := Lib.hid C
  clear C
  have CV := Lib.hid C2
  clear C2
  have EA := Lib.hid (fun W (hW : Ext w W) => either_no (a := a) N N2 A A2 n' c n2' c2 ws vs hk W (B.ext hW) (B2.ext hW) (hG.ext hW))
  have EB := Lib.hid (fun W (hW : Ext w W) => either_no (a := a) N2 N A2 A n2' c2 n' c vs ws (by rw [eit_comm]; exact hk) W (B2.ext hW) (B.ext hW) (hG.ext hW))
  have EC := Lib.hid (fun W (hW : Ext w W) => either_no (a := a) N N A A n' c n' c ws ws (by rw [eitB, hr]; rfl) W (B.ext hW) (B.ext hW) (hG.ext hW))
  have RR := Lib.hid (fun W (hW : Ext w W) => hr ▸ right_any N A n' c ws W (B.ext hW))
  clear hr hk
  clear B B2 hG
  go_enter Tryd.func8, Tryd.ntmps8
  go_wp2_with (first
    | (go_at_call 11; refine (SH.out _ (ext2 _ _ _)).mono ?_; rintro e w1 ⟨rfl, h1⟩; have x := at_old h1; have y := at_new2 h1; have hW := Ext.trans (ext2 _ _ _) h1; clear h1; have r0 := x.cell 0; have r1 := x.cell 1; have s0 := y.cell 0; have s1 := y.cell 1; simp only [List.getElem?_toArray, List.getElem?_cons_zero, List.getElem?_cons_succ] at r0 r1 s0 s1)
    | (go_at_call 12; (with_reducible refine (CU.out _).mono ?_); rintro e w' ⟨rfl, hx⟩; replace x := x.ext hx; replace y := y.ext hx; replace hW := Ext.trans hW hx; clear hx r0 r1 s0 s1; have p0 := x.cell 0; have p1 := x.cell 1; simp only [List.getElem?_toArray, List.getElem?_cons_zero, List.getElem?_cons_succ] at p0 p1; have q0 := x.frozen 0; have q1 := x.frozen 1; obtain ⟨z9, hV⟩ := reborn x hW (Nat.le_refl _) (.int .i64 N) (.slice A n' c); have y9 := keepOther y (by show w.heap.size + 1 ≠ w.heap.size; omega) (.int .i64 N) (.slice A n' c); clear x y hW; have x := z9; have y := y9; have hW := hV; clear z9 y9 hV; have r0 := x.cell 0; have r1 := x.cell 1; have s0 := y.cell 0; have s1 := y.cell 1; simp only [List.getElem?_toArray, List.getElem?_cons_zero, List.getElem?_cons_succ] at r0 r1 s0 s1)
    | (go_at_call 12; (with_reducible refine (CV.out _).mono ?_); rintro e w' ⟨rfl, hx⟩; replace x := x.ext hx; replace y := y.ext hx; replace hW := Ext.trans hW hx; clear hx r0 r1 s0 s1; have p0 := y.cell 0; have p1 := y.cell 1; simp only [List.getElem?_toArray, List.getElem?_cons_zero, List.getElem?_cons_succ] at p0 p1; have q0 := y.frozen 0; have q1 := y.frozen 1; obtain ⟨z9, hV⟩ := reborn y hW (Nat.le_succ _) (.int .i64 N2) (.slice A2 n2' c2); have y9 := keepOther x (by show w.heap.size ≠ w.heap.size + 1; omega) (.int .i64 N2) (.slice A2 n2' c2); clear y x hW; have y := z9; have x := y9; have hW := hV; clear z9 y9 hV; have r0 := x.cell 0; have r1 := x.cell 1; have s0 := y.cell 0; have s1 := y.cell 1; simp only [List.getElem?_toArray, List.getElem?_cons_zero, List.getElem?_cons_succ] at r0 r1 s0 s1)
    | (go_at_call 32; (with_reducible refine (EA.out _ hW).mono ?_); rintro e w' ⟨rfl, hx⟩; replace hx := Ext.trans hx (ext1 _ (.cells #[.int .i64 0, .slice none 0 0] 24)); have b4 := Blk.new w' #[.int .i64 0, .slice none 0 0] 24; replace hW := Ext.trans hW hx; replace x := x.ext hx; replace y := y.ext hx; clear hx; (try clear r0 r1); (try clear s0 s1); (try clear t0 t1); have r0 := x.cell 0; have r1 := x.cell 1; have s0 := y.cell 0; have s1 := y.cell 1; have t0 := b4.cell 0; have t1 := b4.cell 1; simp only [List.getElem?_toArray, List.getElem?_cons_zero, List.getElem?_cons_succ] at r0 r1 s0 s1 t0 t1)
    | (go_at_call 32; (with_reducible refine (EB.out _ hW).mono ?_); rintro e w' ⟨rfl, hx⟩; replace hx := Ext.trans hx (ext1 _ (.cells #[.int .i64 0, .slice none 0 0] 24)); have b5 := Blk.new w' #[.int .i64 0, .slice none 0 0] 24; replace hW := Ext.trans hW hx; replace x := x.ext hx; replace y := y.ext hx; replace b4 := b4.ext hx; clear hx; (try clear r0 r1); (try clear s0 s1); (try clear t0 t1); (try clear u0 u1); have r0 := x.cell 0; have r1 := x.cell 1; have s0 := y.cell 0; have s1 := y.cell 1; have t0 := b4.cell 0; have t1 := b4.cell 1; have u0 := b5.cell 0; have u1 := b5.cell 1; simp only [List.getElem?_toArray, List.getElem?_cons_zero, List.getElem?_cons_succ] at r0 r1 s0 s1 t0 t1 u0 u1)
    | (go_at_call 32; (with_reducible refine (EC.out _ hW).mono ?_); rintro e w' ⟨rfl, hx⟩; replace hx := Ext.trans hx (ext1 _ (.cells #[.int .i64 0, .slice none 0 0] 24)); have b6 := Blk.new w' #[.int .i64 0, .slice none 0 0] 24; replace hW := Ext.trans hW hx; replace x := x.ext hx; replace y := y.ext hx; replace b4 := b4.ext hx; replace b5 := b5.ext hx; clear hx; (try clear r0 r1); (try clear s0 s1); (try clear t0 t1); (try clear u0 u1); (try clear v0 v1); have r0 := x.cell 0; have r1 := x.cell 1; have s0 := y.cell 0; have s1 := y.cell 1; have t0 := b4.cell 0; have t1 := b4.cell 1; have u0 := b5.cell 0; have u1 := b5.cell 1; have v0 := b6.cell 0; have v1 := b6.cell 1; simp only [List.getElem?_toArray, List.getElem?_cons_zero, List.getElem?_cons_succ] at r0 r1 s0 s1 t0 t1 u0 u1 v0 v1)
    | (go_at_call 15; (with_reducible refine (RR.out _ hW).mono ?_); rintro e w' ⟨rfl, hx⟩; replace hW := Ext.trans hW hx; replace x := x.ext hx; replace y := y.ext hx; replace b4 := b4.ext hx; replace b5 := b5.ext hx; replace b6 := b6.ext hx; clear hx; (try clear r0 r1); (try clear s0 s1); (try clear t0 t1); (try clear u0 u1); (try clear v0 v1); have r0 := x.cell 0; have r1 := x.cell 1; have s0 := y.cell 0; have s1 := y.cell 1; have t0 := b4.cell 0; have t1 := b4.cell 1; have u0 := b5.cell 0; have u1 := b5.cell 1; have v0 := b6.cell 0; have v1 := b6.cell 1; simp only [List.getElem?_toArray, List.getElem?_cons_zero, List.getElem?_cons_succ] at r0 r1 s0 s1 t0 t1 u0 u1 v0 v1))
  go_ret
  exact ⟨rfl, hW⟩
set_option maxHeartbeats 4000000 in
theorem either_no_true (N : Int) (A : Option Addr) (n n' c : Nat) (ws : List Nat) (N2 : Int) (A2 : Option Addr) (n2 n2' c2 : Nat) (vs : List Nat) (i : Int) (w : World)
    (C : ∀ W : World, Calls Tryd.prog 12 #[.agg #[.int .i64 N, .slice A n c]] W fun e w' => e = .returned (.agg #[.int .i64 N, .slice A n' c]) ∧ Ext W w') (C2 : ∀ W : World, Calls Tryd.prog 12 #[.agg #[.int .i64 N2, .slice A2 n2 c2]] W fun e w' => e = .returned (.agg #[.int .i64 N2, .slice A2 n2' c2]) ∧ Ext W w') (B : Bt w A n' ws) (B2 : Bt w A2 n2' vs) (hG : G a w) (hk : eitB N N2 ws vs = false) (hr : rightB N ws = true) :
    Calls Tryd.prog 8 #[.agg #[.int .i64 N, .slice A n c], .agg #[.int .i64 N2, .slice A2 n2 c2], .int .i64 i] w fun e w' => e = .returned (.bool true) ∧ Ext w w' := by
  have SH := Lib.hid (fun W (hW : Ext w W) => shown_any (a := a) W (hG.ext hW))
  have CU := Lib.hid C
  clear C
  have CV := Lib.hid C2
  clear C2
  have EA := Lib.hid (fun W (hW : Ext w W) => either_no (a := a) N N2 A A2 n' c n2' c2 ws vs hk W (B.ext hW) (B2.ext hW) (hG.ext hW))
  have EB := Lib.hid (fun W (hW : Ext w W) => either_no (a := a) N2 N A2 A n2' c2 n' c vs ws (by rw [eit_comm]; exact hk) W (B2.ext hW) (B.ext hW) (hG.ext hW))
  have EC := Lib.hid (fun W (hW : Ext w W) => either_ok (a := a) N A A n' c n' c ws ws hr hr W (B.ext hW) (B.ext hW) (hG.ext hW))
  have RR := Lib.hid (fun W (hW : Ext w W) => hr ▸ right_any N A n' c ws W (B.ext hW))
  clear hr hk
  clear B B2 hG
  go_enter Tryd.func8, Tryd.ntmps8
  go_wp2_with (first
    | (go_at_call 11; refine (SH.out _ (ext2 _ _ _)).mono ?_; rintro e w1 ⟨rfl, h1⟩; have x := at_old h1; have y := at_new2 h1; have hW := Ext.trans (ext2 _ _ _) h1; clear h1; have r0 := x.cell 0; have r1 := x.cell 1; have s0 := y.cell 0; have s1 := y.cell 1; simp only [List.getElem?_toArray, List.getElem?_cons_zero, List.getElem?_cons_succ] at r0 r1 s0 s1)
    | (go_at_call 12; (with_reducible refine (CU.out _).mono ?_); rintro e w' ⟨rfl, hx⟩; replace x := x.ext hx; replace y := y.ext hx; replace hW := Ext.trans hW hx; clear hx r0 r1 s0 s1; have p0 := x.cell 0; have p1 := x.cell 1; simp only [List.getElem?_toArray, List.getElem?_cons_zero, List.getElem?_cons_succ] at p0 p1; have q0 := x.frozen 0; have q1 := x.frozen 1; obtain ⟨z9, hV⟩ := reborn x hW (Nat.le_refl _) (.int .i64 N) (.slice A n' c); have y9 := keepOther y (by show w.heap.size + 1 ≠ w.heap.size; omega) (.int .i64 N) (.slice A n' c); clear x y hW; have x := z9; have y := y9; have hW := hV; clear z9 y9 hV; have r0 := x.cell 0; have r1 := x.cell 1; have s0 := y.cell 0; have s1 := y.cell 1; simp only [List.getElem?_toArray, List.getElem?_cons_zero, List.getElem?_cons_succ] at r0 r1 s0 s1)
    | (go_at_call 12; (with_reducible refine (CV.out _).mono ?_); rintro e w' ⟨rfl, hx⟩; replace x := x.ext hx; replace y := y.ext hx; replace hW := Ext.trans hW hx; clear hx r0 r1 s0 s1; have p0 := y.cell 0; have p1 := y.cell 1; simp only [List.getElem?_toArray, List.getElem?_cons_zero, List.getElem?_cons_succ] at p0 p1; have q0 := y.frozen 0; have q1 := y.frozen 1; obtain ⟨z9, hV⟩ := reborn y hW (Nat.le_succ _) (.int .i64 N2) (.slice A2 n2' c2); have y9 := keepOther x (by show w.heap.size ≠ w.heap.size + 1; omega) (.int .i64 N2) (.slice A2 n2' c2); clear y x hW; have y := z9; have x := y9; have hW := hV; clear z9 y9 hV; have r0 := x.cell 0; have r1 := x.cell 1; have s0 := y.cell 0; have s1 := y.cell 1; simp only [List.getElem?_toArray, List.getElem?_cons_zero, List.getElem?_cons_succ] at r0 r1 s0 s1)
    | (go_at_call 32; (with_reducible refine (EA.out _ hW).mono ?_); rintro e w' ⟨rfl, hx⟩; replace hx := Ext.trans hx (ext1 _ (.cells #[.int .i64 0, .slice none 0 0] 24)); have b4 := Blk.new w' #[.int .i64 0, .slice none 0 0] 24; replace hW := Ext.trans hW hx; replace x := x.ext hx; replace y := y.ext hx; clear hx; (try clear r0 r1); (try clear s0 s1); (try clear t0 t1); have r0 := x.cell 0; have r1 := x.cell 1; have s0 := y.cell 0; have s1 := y.cell 1; have t0 := b4.cell 0; have t1 := b4.cell 1; simp only [List.getElem?_toArray, List.getElem?_cons_zero, List.getElem?_cons_succ] at r0 r1 s0 s1 t0 t1)
    | (go_at_call 32; (with_reducible refine (EB.out _ hW).mono ?_); rintro e w' ⟨rfl, hx⟩; replace hx := Ext.trans hx (ext1 _ (.cells #[.int .i64 0, .slice none 0 0] 24)); have b5 := Blk.new w' #[.int .i64 0, .slice none 0 0] 24; replace hW := Ext.trans hW hx; replace x := x.ext hx; replace y := y.ext hx; replace b4 := b4.ext hx; clear hx; (try clear r0 r1); (try clear s0 s1); (try clear t0 t1); (try clear u0 u1); have r0 := x.cell 0; have r1 := x.cell 1; have s0 := y.cell 0; have s1 := y.cell 1; have t0 := b4.cell 0; have t1 := b4.cell 1; have u0 := b5.cell 0; have u1 := b5.cell 1; simp only [List.getElem?_toArray, List.getElem?_cons_zero, List.getElem?_cons_succ] at r0 r1 s0 s1 t0 t1 u0 u1)
    | (go_at_call 32; (with_reducible refine (EC.out _ hW).mono ?_); rintro e w' ⟨A6, n6, c6, rfl, B6, hx⟩; replace B6 := B6.ext (ext1 _ (.cells #[.int .i64 N, .slice A6 n6 c6] 24)); replace hx := Ext.trans hx (ext1 _ (.cells #[.int .i64 N, .slice A6 n6 c6] 24)); have b6 := Blk.new w' #[.int .i64 N, .slice A6 n6 c6] 24; replace hW := Ext.trans hW hx; replace x := x.ext hx; replace y := y.ext hx; replace b4 := b4.ext hx; replace b5 := b5.ext hx; clear hx; (try clear r0 r1); (try clear s0 s1); (try clear t0 t1); (try clear u0 u1); (try clear v0 v1); have r0 := x.cell 0; have r1 := x.cell 1; have s0 := y.cell 0; have s1 := y.cell 1; have t0 := b4.cell 0; have t1 := b4.cell 1; have u0 := b5.cell 0; have u1 := b5.cell 1; have v0 := b6.cell 0; have v1 := b6.cell 1; simp only [List.getElem?_toArray, List.getElem?_cons_zero, List.getElem?_cons_succ] at r0 r1 s0 s1 t0 t1 u0 u1 v0 v1)
    | (go_at_call 15; (with_reducible refine (RR.out _ hW).mono ?_); rintro e w' ⟨rfl, hx⟩; replace hW := Ext.trans hW hx; replace x := x.ext hx; replace y := y.ext hx; replace b4 := b4.ext hx; replace b5 := b5.ext hx; replace b6 := b6.ext hx; replace B6 := B6.ext hx; clear hx; (try clear r0 r1); (try clear s0 s1); (try clear t0 t1); (try clear u0 u1); (try clear v0 v1); have r0 := x.cell 0; have r1 := x.cell 1; have s0 := y.cell 0; have s1 := y.cell 1; have t0 := b4.cell 0; have t1 := b4.cell 1; have u0 := b5.cell 0; have u1 := b5.cell 1; have v0 := b6.cell 0; have v1 := b6.cell 1; simp only [List.getElem?_toArray, List.getElem?_cons_zero, List.getElem?_cons_succ] at r0 r1 s0 s1 t0 t1 u0 u1 v0 v1))
  go_ret
  exact ⟨rfl, hW⟩
set_option maxHeartbeats 4000000 in
theorem either_yes (N : Int) (A : Option Addr) (n n' c : Nat) (ws : List Nat) (A2 : Option Addr) (n2 n2' c2 : Nat) (vs : List Nat) (i : Int) (w : World)
    (C : ∀ W : World, Calls Tryd.prog 12 #[.agg #[.int .i64 N, .slice A n c]] W fun e w' => e = .returned (.agg #[.int .i64 N, .slice A n' c]) ∧ Ext W w') (C2 : ∀ W : World, Calls Tryd.prog 12 #[.agg #[.int .i64 N, .slice A2 n2 c2]] W fun e w' => e = .returned (.agg #[.int .i64 N, .slice A2 n2' c2]) ∧ Ext W w') (B : Bt w A n' ws) (B2 : Bt w A2 n2' vs) (hG : G a w) (hr : rightB N ws = true) (hs : rightB N vs = true) :
    Calls Tryd.prog 8 #[.agg #[.int .i64 N, .slice A n c], .agg #[.int .i64 N, .slice A2 n2 c2], .int .i64 i] w fun e w' => e = .returned (.bool true) ∧ Ext w w' := by
  obtain ⟨js, hj⟩ : ∃ js, joinW ws vs = js := ⟨_, rfl⟩
  obtain ⟨ks, hk⟩ : ∃ ks, joinW vs ws = ks := ⟨_, rfl⟩
  obtain ⟨m1, rfl, m3, m4⟩ := either_math hr hs B.lt B2.lt i hj hk
  obtain ⟨ha, ea⟩ : ∃ ha, hasB N ws i = ha := ⟨_, rfl⟩
  obtain ⟨hb, eb⟩ : ∃ hb, hasB N vs i = hb := ⟨_, rfl⟩
  rw [ea, eb] at m4
  rcases ha with _ | _ <;> rcases hb with _ | _
  all_goals
    have SH := Lib.hid (fun W (hW : Ext w W) => shown_any (a := a) W (hG.ext hW))
    have CU := Lib.hid C
    clear C
    have CV := Lib.hid C2
    clear C2
    have EA := Lib.hid (fun W (hW : Ext w W) => hj ▸ either_ok (a := a) N A A2 n' c n2' c2 ws vs hr hs W (B.ext hW) (B2.ext hW) (hG.ext hW))
    have EB := Lib.hid (fun W (hW : Ext w W) => hk ▸ either_ok (a := a) N A2 A n2' c2 n' c vs ws hs hr W (B2.ext hW) (B.ext hW) (hG.ext hW))
    have EC := Lib.hid (fun W (hW : Ext w W) => m3 ▸ either_ok (a := a) N A A n' c n' c ws ws hr hr W (B.ext hW) (B.ext hW) (hG.ext hW))
    have SM := Lib.hid (fun A n c A2 n2 c2 W (B5 : Bt W A n ks) (B6 : Bt W A2 n2 ks) => (show sameB N N ks ks = true by simp [sameB]) ▸ same_any N N A A2 n c n2 c2 ks ks W B5 B6)
    have SG := Lib.hid (fun A6 n6 c6 W (hW : Ext w W) (B6 : Bt W A6 n6 ws) => (show sameB N N ws ws = true by simp [sameB]) ▸ same_any N N A6 A n6 c6 n' c ws ws W B6 (B.ext hW))
    have HC := Lib.hid (fun A n c W (B4 : Bt W A n ks) => m4 ▸ has_any N A n c ks i W B4)
    have HA := Lib.hid (fun W (hW : Ext w W) => ea ▸ has_any N A n' c ws i W (B.ext hW))
    have HB := Lib.hid (fun W (hW : Ext w W) => eb ▸ has_any N A2 n2' c2 vs i W (B2.ext hW))
    clear m1 m3 m4 ea eb hj hk hr hs
    clear B B2 hG
    go_enter Tryd.func8, Tryd.ntmps8
    go_wp2_with (first
      | (go_at_call 11; refine (SH.out _ (ext2 _ _ _)).mono ?_; rintro e w1 ⟨rfl, h1⟩; have x := at_old h1; have y := at_new2 h1; have hW := Ext.trans (ext2 _ _ _) h1; clear h1; have r0 := x.cell 0; have r1 := x.cell 1; have s0 := y.cell 0; have s1 := y.cell 1; simp only [List.getElem?_toArray, List.getElem?_cons_zero, List.getElem?_cons_succ] at r0 r1 s0 s1)
      | (go_at_call 12; (with_reducible refine (CU.out _).mono ?_); rintro e w' ⟨rfl, hx⟩; replace x := x.ext hx; replace y := y.ext hx; replace hW := Ext.trans hW hx; clear hx r0 r1 s0 s1; have p0 := x.cell 0; have p1 := x.cell 1; simp only [List.getElem?_toArray, List.getElem?_cons_zero, List.getElem?_cons_succ] at p0 p1; have q0 := x.frozen 0; have q1 := x.frozen 1; obtain ⟨z9, hV⟩ := reborn x hW (Nat.le_refl _) (.int .i64 N) (.slice A n' c); have y9 := keepOther y (by show w.heap.size + 1 ≠ w.heap.size; omega) (.int .i64 N) (.slice A n' c); clear x y hW; have x := z9; have y := y9; have hW := hV; clear z9 y9 hV; have r0 := x.cell 0; have r1 := x.cell 1; have s0 := y.cell 0; have s1 := y.cell 1; simp only [List.getElem?_toArray, List.getElem?_cons_zero, List.getElem?_cons_succ] at r0 r1 s0 s1)
      | (go_at_call 12; (with_reducible refine (CV.out _).mono ?_); rintro e w' ⟨rfl, hx⟩; replace x := x.ext hx; replace y := y.ext hx; replace hW := Ext.trans hW hx; clear hx r0 r1 s0 s1; have p0 := y.cell 0; have p1 := y.cell 1; simp only [List.getElem?_toArray, List.getElem?_cons_zero, List.getElem?_cons_succ] at p0 p1; have q0 := y.frozen 0; have q1 := y.frozen 1; obtain ⟨z9, hV⟩ := reborn y hW (Nat.le_succ _) (.int .i64 N) (.slice A2 n2' c2); have y9 := keepOther x (by show w.heap.size ≠ w.heap.size + 1; omega) (.int .i64 N) (.slice A2 n2' c2); clear y x hW; have y := z9; have x := y9; have hW := hV; clear z9 y9 hV; have r0 := x.cell 0; have r1 := x.cell 1; have s0 := y.cell 0; have s1 := y.cell 1; simp only [List.getElem?_toArray, List.getElem?_cons_zero, List.getElem?_cons_succ] at r0 r1 s0 s1)
      | (go_at_call 32; (with_reducible refine (EA.out _ hW).mono ?_); rintro e w' ⟨A4, n4, c4, rfl, B4, hx⟩; replace B4 := B4.ext (ext1 _ (.cells #[.int .i64 N, .slice A4 n4 c4] 24)); replace hx := Ext.trans hx (ext1 _ (.cells #[.int .i64 N, .slice A4 n4 c4] 24)); have b4 := Blk.new w' #[.int .i64 N, .slice A4 n4 c4] 24; replace hW := Ext.trans hW hx; replace x := x.ext hx; replace y := y.ext hx; clear hx; (try clear r0 r1); (try clear s0 s1); (try clear t0 t1); have r0 := x.cell 0; have r1 := x.cell 1; have s0 := y.cell 0; have s1 := y.cell 1; have t0 := b4.cell 0; have t1 := b4.cell 1; simp only [List.getElem?_toArray, List.getElem?_cons_zero, List.getElem?_cons_succ] at r0 r1 s0 s1 t0 t1)
      | (go_at_call 32; (with_reducible refine (EB.out _ hW).mono ?_); rintro e w' ⟨A5, n5, c5, rfl, B5, hx⟩; replace B5 := B5.ext (ext1 _ (.cells #[.int .i64 N, .slice A5 n5 c5] 24)); replace hx := Ext.trans hx (ext1 _ (.cells #[.int .i64 N, .slice A5 n5 c5] 24)); have b5 := Blk.new w' #[.int .i64 N, .slice A5 n5 c5] 24; replace hW := Ext.trans hW hx; replace x := x.ext hx; replace y := y.ext hx; replace b4 := b4.ext hx; replace B4 := B4.ext hx; clear hx; (try clear r0 r1); (try clear s0 s1); (try clear t0 t1); (try clear u0 u1); have r0 := x.cell 0; have r1 := x.cell 1; have s0 := y.cell 0; have s1 := y.cell 1; have t0 := b4.cell 0; have t1 := b4.cell 1; have u0 := b5.cell 0; have u1 := b5.cell 1; simp only [List.getElem?_toArray, List.getElem?_cons_zero, List.getElem?_cons_succ] at r0 r1 s0 s1 t0 t1 u0 u1)
      | (go_at_call 32; (with_reducible refine (EC.out _ hW).mono ?_); rintro e w' ⟨A6, n6, c6, rfl, B6, hx⟩; replace B6 := B6.ext (ext1 _ (.cells #[.int .i64 N, .slice A6 n6 c6] 24)); replace hx := Ext.trans hx (ext1 _ (.cells #[.int .i64 N, .slice A6 n6 c6] 24)); have b6 := Blk.new w' #[.int .i64 N, .slice A6 n6 c6] 24; replace hW := Ext.trans hW hx; replace x := x.ext hx; replace y := y.ext hx; replace b4 := b4.ext hx; replace b5 := b5.ext hx; replace B4 := B4.ext hx; replace B5 := B5.ext hx; clear hx; (try clear r0 r1); (try clear s0 s1); (try clear t0 t1); (try clear u0 u1); (try clear v0 v1); have r0 := x.cell 0; have r1 := x.cell 1; have s0 := y.cell 0; have s1 := y.cell 1; have t0 := b4.cell 0; have t1 := b4.cell 1; have u0 := b5.cell 0; have u1 := b5.cell 1; have v0 := b6.cell 0; have v1 := b6.cell 1; simp only [List.getElem?_toArray, List.getElem?_cons_zero, List.getElem?_cons_succ] at r0 r1 s0 s1 t0 t1 u0 u1 v0 v1))
    refine wp_region_on (by kernel_rfl) (by kernel_rfl) ?_
    have hx := fromOf hW
    repeat (go_big_quiet_step ((first | (go_at_call 24; with_reducible exact on_call (fun W hx => SM.out _ _ _ _ _ _ _ (B4.ext hx) (B5.ext hx)) _) | (go_at_call 24; with_reducible exact on_call (fun W hx => SG.out _ _ _ _ (Ext.trans hW hx) (B6.ext hx)) _) | (go_at_call 17; with_reducible exact on_call (fun W hx => HC.out _ _ _ _ (B4.ext hx)) _) | (go_at_call 17; with_reducible exact on_call (fun W hx => HA.out _ (Ext.trans hW hx)) _) | (go_at_call 17; with_reducible exact on_call (fun W hx => HB.out _ (Ext.trans hW hx)) _))))
    refine wpQuiet_nil ?_
    intro W hZ
    go_wp2
    go_ret
    exact ⟨rfl, Ext.trans hW hZ⟩
theorem either_walk (N : Int) (A : Option Addr) (n n' c : Nat) (ws : List Nat) (N2 : Int) (A2 : Option Addr) (n2 n2' c2 : Nat) (vs : List Nat) (i : Int) (w : World)
    (C : ∀ W : World, Calls Tryd.prog 12 #[.agg #[.int .i64 N, .slice A n c]] W fun e w' => e = .returned (.agg #[.int .i64 N, .slice A n' c]) ∧ Ext W w') (C2 : ∀ W : World, Calls Tryd.prog 12 #[.agg #[.int .i64 N2, .slice A2 n2 c2]] W fun e w' => e = .returned (.agg #[.int .i64 N2, .slice A2 n2' c2]) ∧ Ext W w') (B : Bt w A n' ws) (B2 : Bt w A2 n2' vs) (hG : G a w) :
    Calls Tryd.prog 8 #[.agg #[.int .i64 N, .slice A n c], .agg #[.int .i64 N2, .slice A2 n2 c2], .int .i64 i] w fun e w' => e = .returned (.bool true) ∧ Ext w w' := by
  rcases hk : eitB N N2 ws vs with _ | _
  · rcases hr : rightB N ws with _ | _
    · exact either_no_false N A n n' c ws N2 A2 n2 n2' c2 vs i w C C2 B B2 hG hk hr
    · exact either_no_true N A n n' c ws N2 A2 n2 n2' c2 vs i w C C2 B B2 hG hk hr
  · obtain ⟨hr, hs, rfl⟩ := eit_iff.1 hk
    exact either_yes N A n n' c ws A2 n2 n2' c2 vs i w C C2 B B2 hG hr hs
end
end Go.Proofs.YtfldgiocaboelaaDoor
