/- The law BitsFills, walked. -/
import Derived.Test.YtfldgiocaboelaaDoorCut
import Derived.Test.YtfldgiocaboelaaDoorLawMath
namespace Go.Proofs.YtfldgiocaboelaaDoor
open Go.RowKit Go
section
variable {a : Nat → Addr}
set_option maxHeartbeats 4000000 in
theorem fills_no20_false (N : Int) (A : Option Addr) (n n' c : Nat) (ws : List Nat) (f t : Int) (w : World)
    (C : ∀ W : World, Calls Tryd.prog 12 #[.agg #[.int .i64 N, .slice A n c]] W fun e w' => e = .returned (.agg #[.int .i64 N, .slice A n' c]) ∧ Ext W w') (B : Bt w A n' ws) (hG : G a w) (hr : rightB N ws = false) (hz : rngB 0 f t = false) :
    Calls Tryd.prog 7 #[.agg #[.int .i64 N, .slice A n c], .int .i64 f, .int .i64 t] w fun e w' => e = .returned (.bool true) ∧ Ext w w' := by
  have SH := Lib.hid (fun W (hW : Ext w W) => shown_any (a := a) W (hG.ext hW))
  have CU := Lib.hid C
  clear C
  have FB := Lib.hid (fun on W (hW : Ext w W) => fill_no (a := a) N A n' c ws f t on 20 (Or.inl ⟨hr, rfl⟩) W (B.ext hW) (hG.ext hW))
  have FZ := Lib.hid (fun W (hW : Ext w W) => fill_no (a := a) 0 none 0 0 [] f t false 21 (Or.inr ⟨by decide +kernel, hz, rfl⟩) W ⟨rfl, (fun x hx => by simp at hx), by decide, fun h => absurd h (by decide)⟩ (hG.ext hW))
  clear hr hz
  clear B hG
  go_enter Tryd.func7, Tryd.ntmps7
  go_wp2_with (first
    | (go_at_call 11; refine (SH.out _ (ext1 _ _)).mono ?_; rintro e w1 ⟨rfl, h1⟩; have p0 := (at_new h1).cell 0; have p1 := (at_new h1).cell 1; simp only [List.getElem?_toArray, List.getElem?_cons_zero, List.getElem?_cons_succ] at p0 p1)
    | (go_at_call 12; refine (CU.out _).mono ?_; rintro e w2 ⟨rfl, h2⟩; replace h2 := Ext.trans h1 h2; clear p0 p1 h1; have p0 := (at_new h2).cell 0; have p1 := (at_new h2).cell 1; have q0 := (at_new h2).frozen 0; have q1 := (at_new h2).frozen 1; simp only [List.getElem?_toArray, List.getElem?_cons_zero, List.getElem?_cons_succ] at p0 p1; obtain ⟨b, hW⟩ := reborn (at_new h2) (Ext.trans (ext1 _ _) h2) (Nat.le_refl _) (.int .i64 N) (.slice A n' c); clear h2; have r0 := b.cell 0; have r1 := b.cell 1; simp only [List.getElem?_toArray, List.getElem?_cons_zero, List.getElem?_cons_succ] at r0 r1)
    | (go_at_call 28; (with_reducible refine (FB.out true _ hW).mono ?_); rintro e w' ⟨rfl, hx⟩; replace hx := Ext.trans hx (ext1 _ (.cells #[.int .i64 0, .slice none 0 0] 24)); have b4 := Blk.new w' #[.int .i64 0, .slice none 0 0] 24; replace hW := Ext.trans hW hx; replace b := b.ext hx; clear hx; (try clear r0 r1); (try clear s0 s1); have r0 := b.cell 0; have r1 := b.cell 1; have s0 := b4.cell 0; have s1 := b4.cell 1; simp only [List.getElem?_toArray, List.getElem?_cons_zero, List.getElem?_cons_succ] at r0 r1 s0 s1)
    | (go_at_call 28; (with_reducible refine (FB.out false _ hW).mono ?_); rintro e w' ⟨rfl, hx⟩; replace hx := Ext.trans hx (ext1 _ (.cells #[.int .i64 0, .slice none 0 0] 24)); have b5 := Blk.new w' #[.int .i64 0, .slice none 0 0] 24; replace hW := Ext.trans hW hx; replace b := b.ext hx; replace b4 := b4.ext hx; clear hx; (try clear r0 r1); (try clear s0 s1); (try clear t0 t1); have r0 := b.cell 0; have r1 := b.cell 1; have s0 := b4.cell 0; have s1 := b4.cell 1; have t0 := b5.cell 0; have t1 := b5.cell 1; simp only [List.getElem?_toArray, List.getElem?_cons_zero, List.getElem?_cons_succ] at r0 r1 s0 s1 t0 t1)
    | (go_at_call 28; (with_reducible refine (FZ.out _ hW).mono ?_); rintro e w' ⟨rfl, hx⟩; replace hx := Ext.trans hx (ext1 _ (.cells #[.int .i64 0, .slice none 0 0] 24)); have b6 := Blk.new w' #[.int .i64 0, .slice none 0 0] 24; replace hW := Ext.trans hW hx; replace b := b.ext hx; replace b4 := b4.ext hx; replace b5 := b5.ext hx; clear hx; (try clear r0 r1); (try clear s0 s1); (try clear t0 t1); (try clear u0 u1); have r0 := b.cell 0; have r1 := b.cell 1; have s0 := b4.cell 0; have s1 := b4.cell 1; have t0 := b5.cell 0; have t1 := b5.cell 1; have u0 := b6.cell 0; have u1 := b6.cell 1; simp only [List.getElem?_toArray, List.getElem?_cons_zero, List.getElem?_cons_succ] at r0 r1 s0 s1 t0 t1 u0 u1))
  go_ret
  exact ⟨rfl, hW⟩
set_option maxHeartbeats 4000000 in
theorem fills_no20_true (N : Int) (A : Option Addr) (n n' c : Nat) (ws : List Nat) (f t : Int) (w : World)
    (C : ∀ W : World, Calls Tryd.prog 12 #[.agg #[.int .i64 N, .slice A n c]] W fun e w' => e = .returned (.agg #[.int .i64 N, .slice A n' c]) ∧ Ext W w') (B : Bt w A n' ws) (hG : G a w) (hr : rightB N ws = false) (hz : rngB 0 f t = true) :
    Calls Tryd.prog 7 #[.agg #[.int .i64 N, .slice A n c], .int .i64 f, .int .i64 t] w fun e w' => e = .returned (.bool true) ∧ Ext w w' := by
  have SH := Lib.hid (fun W (hW : Ext w W) => shown_any (a := a) W (hG.ext hW))
  have CU := Lib.hid C
  clear C
  have FB := Lib.hid (fun on W (hW : Ext w W) => fill_no (a := a) N A n' c ws f t on 20 (Or.inl ⟨hr, rfl⟩) W (B.ext hW) (hG.ext hW))
  have FZ := Lib.hid (fun W (hW : Ext w W) => fill_ok (a := a) 0 none 0 0 [] f t false (by decide +kernel) hz W ⟨rfl, (fun x hx => by simp at hx), by decide, fun h => absurd h (by decide)⟩ (hG.ext hW))
  clear hr hz
  clear B hG
  go_enter Tryd.func7, Tryd.ntmps7
  go_wp2_with (first
    | (go_at_call 11; refine (SH.out _ (ext1 _ _)).mono ?_; rintro e w1 ⟨rfl, h1⟩; have p0 := (at_new h1).cell 0; have p1 := (at_new h1).cell 1; simp only [List.getElem?_toArray, List.getElem?_cons_zero, List.getElem?_cons_succ] at p0 p1)
    | (go_at_call 12; refine (CU.out _).mono ?_; rintro e w2 ⟨rfl, h2⟩; replace h2 := Ext.trans h1 h2; clear p0 p1 h1; have p0 := (at_new h2).cell 0; have p1 := (at_new h2).cell 1; have q0 := (at_new h2).frozen 0; have q1 := (at_new h2).frozen 1; simp only [List.getElem?_toArray, List.getElem?_cons_zero, List.getElem?_cons_succ] at p0 p1; obtain ⟨b, hW⟩ := reborn (at_new h2) (Ext.trans (ext1 _ _) h2) (Nat.le_refl _) (.int .i64 N) (.slice A n' c); clear h2; have r0 := b.cell 0; have r1 := b.cell 1; simp only [List.getElem?_toArray, List.getElem?_cons_zero, List.getElem?_cons_succ] at r0 r1)
    | (go_at_call 28; (with_reducible refine (FB.out true _ hW).mono ?_); rintro e w' ⟨rfl, hx⟩; replace hx := Ext.trans hx (ext1 _ (.cells #[.int .i64 0, .slice none 0 0] 24)); have b4 := Blk.new w' #[.int .i64 0, .slice none 0 0] 24; replace hW := Ext.trans hW hx; replace b := b.ext hx; clear hx; (try clear r0 r1); (try clear s0 s1); have r0 := b.cell 0; have r1 := b.cell 1; have s0 := b4.cell 0; have s1 := b4.cell 1; simp only [List.getElem?_toArray, List.getElem?_cons_zero, List.getElem?_cons_succ] at r0 r1 s0 s1)
    | (go_at_call 28; (with_reducible refine (FB.out false _ hW).mono ?_); rintro e w' ⟨rfl, hx⟩; replace hx := Ext.trans hx (ext1 _ (.cells #[.int .i64 0, .slice none 0 0] 24)); have b5 := Blk.new w' #[.int .i64 0, .slice none 0 0] 24; replace hW := Ext.trans hW hx; replace b := b.ext hx; replace b4 := b4.ext hx; clear hx; (try clear r0 r1); (try clear s0 s1); (try clear t0 t1); have r0 := b.cell 0; have r1 := b.cell 1; have s0 := b4.cell 0; have s1 := b4.cell 1; have t0 := b5.cell 0; have t1 := b5.cell 1; simp only [List.getElem?_toArray, List.getElem?_cons_zero, List.getElem?_cons_succ] at r0 r1 s0 s1 t0 t1)
    | (go_at_call 28; (with_reducible refine (FZ.out _ hW).mono ?_); rintro e w' ⟨A6, n6, c6, rfl, B6, hx⟩; replace B6 := B6.ext (ext1 _ (.cells #[.int .i64 0, .slice A6 n6 c6] 24)); replace hx := Ext.trans hx (ext1 _ (.cells #[.int .i64 0, .slice A6 n6 c6] 24)); have b6 := Blk.new w' #[.int .i64 0, .slice A6 n6 c6] 24; replace hW := Ext.trans hW hx; replace b := b.ext hx; replace b4 := b4.ext hx; replace b5 := b5.ext hx; clear hx; (try clear r0 r1); (try clear s0 s1); (try clear t0 t1); (try clear u0 u1); have r0 := b.cell 0; have r1 := b.cell 1; have s0 := b4.cell 0; have s1 := b4.cell 1; have t0 := b5.cell 0; have t1 := b5.cell 1; have u0 := b6.cell 0; have u1 := b6.cell 1; simp only [List.getElem?_toArray, List.getElem?_cons_zero, List.getElem?_cons_succ] at r0 r1 s0 s1 t0 t1 u0 u1))
  go_ret
  exact ⟨rfl, hW⟩
set_option maxHeartbeats 4000000 in
theorem fills_no21_false (N : Int) (A : Option Addr) (n n' c : Nat) (ws : List Nat) (f t : Int) (w : World)
    (C : ∀ W : World, Calls Tryd.prog 12 #[.agg #[.int .i64 N, .slice A n c]] W fun e w' => e = .returned (.agg #[.int .i64 N, .slice A n' c]) ∧ Ext W w') (B : Bt w A n' ws) (hG : G a w) (hr : rightB N ws = true) (hp : rngB N f t = false) (hz : rngB 0 f t = false) :
    Calls Tryd.prog 7 #[.agg #[.int .i64 N, .slice A n c], .int .i64 f, .int .i64 t] w fun e w' => e = .returned (.bool true) ∧ Ext w w' := by
  have SH := Lib.hid (fun W (hW : Ext w W) => shown_any (a := a) W (hG.ext hW))
  have CU := Lib.hid C
  clear C
  have FB := Lib.hid (fun on W (hW : Ext w W) => fill_no (a := a) N A n' c ws f t on 21 (Or.inr ⟨hr, hp, rfl⟩) W (B.ext hW) (hG.ext hW))
  have FZ := Lib.hid (fun W (hW : Ext w W) => fill_no (a := a) 0 none 0 0 [] f t false 21 (Or.inr ⟨by decide +kernel, hz, rfl⟩) W ⟨rfl, (fun x hx => by simp at hx), by decide, fun h => absurd h (by decide)⟩ (hG.ext hW))
  clear hr hz hp
  clear B hG
  go_enter Tryd.func7, Tryd.ntmps7
  go_wp2_with (first
    | (go_at_call 11; refine (SH.out _ (ext1 _ _)).mono ?_; rintro e w1 ⟨rfl, h1⟩; have p0 := (at_new h1).cell 0; have p1 := (at_new h1).cell 1; simp only [List.getElem?_toArray, List.getElem?_cons_zero, List.getElem?_cons_succ] at p0 p1)
    | (go_at_call 12; refine (CU.out _).mono ?_; rintro e w2 ⟨rfl, h2⟩; replace h2 := Ext.trans h1 h2; clear p0 p1 h1; have p0 := (at_new h2).cell 0; have p1 := (at_new h2).cell 1; have q0 := (at_new h2).frozen 0; have q1 := (at_new h2).frozen 1; simp only [List.getElem?_toArray, List.getElem?_cons_zero, List.getElem?_cons_succ] at p0 p1; obtain ⟨b, hW⟩ := reborn (at_new h2) (Ext.trans (ext1 _ _) h2) (Nat.le_refl _) (.int .i64 N) (.slice A n' c); clear h2; have r0 := b.cell 0; have r1 := b.cell 1; simp only [List.getElem?_toArray, List.getElem?_cons_zero, List.getElem?_cons_succ] at r0 r1)
    | (go_at_call 28; (with_reducible refine (FB.out true _ hW).mono ?_); rintro e w' ⟨rfl, hx⟩; replace hx := Ext.trans hx (ext1 _ (.cells #[.int .i64 0, .slice none 0 0] 24)); have b4 := Blk.new w' #[.int .i64 0, .slice none 0 0] 24; replace hW := Ext.trans hW hx; replace b := b.ext hx; clear hx; (try clear r0 r1); (try clear s0 s1); have r0 := b.cell 0; have r1 := b.cell 1; have s0 := b4.cell 0; have s1 := b4.cell 1; simp only [List.getElem?_toArray, List.getElem?_cons_zero, List.getElem?_cons_succ] at r0 r1 s0 s1)
    | (go_at_call 28; (with_reducible refine (FB.out false _ hW).mono ?_); rintro e w' ⟨rfl, hx⟩; replace hx := Ext.trans hx (ext1 _ (.cells #[.int .i64 0, .slice none 0 0] 24)); have b5 := Blk.new w' #[.int .i64 0, .slice none 0 0] 24; replace hW := Ext.trans hW hx; replace b := b.ext hx; replace b4 := b4.ext hx; clear hx; (try clear r0 r1); (try clear s0 s1); (try clear t0 t1); have r0 := b.cell 0; have r1 := b.cell 1; have s0 := b4.cell 0; have s1 := b4.cell 1; have t0 := b5.cell 0; have t1 := b5.cell 1; simp only [List.getElem?_toArray, List.getElem?_cons_zero, List.getElem?_cons_succ] at r0 r1 s0 s1 t0 t1)
    | (go_at_call 28; (with_reducible refine (FZ.out _ hW).mono ?_); rintro e w' ⟨rfl, hx⟩; replace hx := Ext.trans hx (ext1 _ (.cells #[.int .i64 0, .slice none 0 0] 24)); have b6 := Blk.new w' #[.int .i64 0, .slice none 0 0] 24; replace hW := Ext.trans hW hx; replace b := b.ext hx; replace b4 := b4.ext hx; replace b5 := b5.ext hx; clear hx; (try clear r0 r1); (try clear s0 s1); (try clear t0 t1); (try clear u0 u1); have r0 := b.cell 0; have r1 := b.cell 1; have s0 := b4.cell 0; have s1 := b4.cell 1; have t0 := b5.cell 0; have t1 := b5.cell 1; have u0 := b6.cell 0; have u1 := b6.cell 1; simp only [List.getElem?_toArray, List.getElem?_cons_zero, List.getElem?_cons_succ] at r0 r1 s0 s1 t0 t1 u0 u1))
  go_ret
  exact ⟨rfl, hW⟩
set_option maxHeartbeats 4000000 in
theorem fills_no21_true (N : Int) (A : Option Addr) (n n' c : Nat) (ws : List Nat) (f t : Int) (w : World)
    (C : ∀ W : World, Calls Tryd.prog 12 #[.agg #[.int .i64 N, .slice A n c]] W fun e w' => e = .returned (.agg #[.int .i64 N, .slice A n' c]) ∧ Ext W w') (B : Bt w A n' ws) (hG : G a w) (hr : rightB N ws = true) (hp : rngB N f t = false) (hz : rngB 0 f t = true) :
    Calls Tryd.prog 7 #[.agg #[.int .i64 N, .slice A n c], .int .i64 f, .int .i64 t] w fun e w' => e = .returned (.bool true) ∧ Ext w w' := by
  have SH := Lib.hid (fun W (hW : Ext w W) => shown_any (a := a) W (hG.ext hW))
  have CU := Lib.hid C
  clear C
  have FB := Lib.hid (fun on W (hW : Ext w W) => fill_no (a := a) N A n' c ws f t on 21 (Or.inr ⟨hr, hp, rfl⟩) W (B.ext hW) (hG.ext hW))
  have FZ := Lib.hid (fun W (hW : Ext w W) => fill_ok (a := a) 0 none 0 0 [] f t false (by decide +kernel) hz W ⟨rfl, (fun x hx => by simp at hx), by decide, fun h => absurd h (by decide)⟩ (hG.ext hW))
  clear hr hz hp
  clear B hG
  go_enter Tryd.func7, Tryd.ntmps7
  go_wp2_with (first
    | (go_at_call 11; refine (SH.out _ (ext1 _ _)).mono ?_; rintro e w1 ⟨rfl, h1⟩; have p0 := (at_new h1).cell 0; have p1 := (at_new h1).cell 1; simp only [List.getElem?_toArray, List.getElem?_cons_zero, List.getElem?_cons_succ] at p0 p1)
    | (go_at_call 12; refine (CU.out _).mono ?_; rintro e w2 ⟨rfl, h2⟩; replace h2 := Ext.trans h1 h2; clear p0 p1 h1; have p0 := (at_new h2).cell 0; have p1 := (at_new h2).cell 1; have q0 := (at_new h2).frozen 0; have q1 := (at_new h2).frozen 1; simp only [List.getElem?_toArray, List.getElem?_cons_zero, List.getElem?_cons_succ] at p0 p1; obtain ⟨b, hW⟩ := reborn (at_new h2) (Ext.trans (ext1 _ _) h2) (Nat.le_refl _) (.int .i64 N) (.slice A n' c); clear h2; have r0 := b.cell 0; have r1 := b.cell 1; simp only [List.getElem?_toArray, List.getElem?_cons_zero, List.getElem?_cons_succ] at r0 r1)
    | (go_at_call 28; (with_reducible refine (FB.out true _ hW).mono ?_); rintro e w' ⟨rfl, hx⟩; replace hx := Ext.trans hx (ext1 _ (.cells #[.int .i64 0, .slice none 0 0] 24)); have b4 := Blk.new w' #[.int .i64 0, .slice none 0 0] 24; replace hW := Ext.trans hW hx; replace b := b.ext hx; clear hx; (try clear r0 r1); (try clear s0 s1); have r0 := b.cell 0; have r1 := b.cell 1; have s0 := b4.cell 0; have s1 := b4.cell 1; simp only [List.getElem?_toArray, List.getElem?_cons_zero, List.getElem?_cons_succ] at r0 r1 s0 s1)
    | (go_at_call 28; (with_reducible refine (FB.out false _ hW).mono ?_); rintro e w' ⟨rfl, hx⟩; replace hx := Ext.trans hx (ext1 _ (.cells #[.int .i64 0, .slice none 0 0] 24)); have b5 := Blk.new w' #[.int .i64 0, .slice none 0 0] 24; replace hW := Ext.trans hW hx; replace b := b.ext hx; replace b4 := b4.ext hx; clear hx; (try clear r0 r1); (try clear s0 s1); (try clear t0 t1); have r0 := b.cell 0; have r1 := b.cell 1; have s0 := b4.cell 0; have s1 := b4.cell 1; have t0 := b5.cell 0; have t1 := b5.cell 1; simp only [List.getElem?_toArray, List.getElem?_cons_zero, List.getElem?_cons_succ] at r0 r1 s0 s1 t0 t1)
    | (go_at_call 28; (with_reducible refine (FZ.out _ hW).mono ?_); rintro e w' ⟨A6, n6, c6, rfl, B6, hx⟩; replace B6 := B6.ext (ext1 _ (.cells #[.int .i64 0, .slice A6 n6 c6] 24)); replace hx := Ext.trans hx (ext1 _ (.cells #[.int .i64 0, .slice A6 n6 c6] 24)); have b6 := Blk.new w' #[.int .i64 0, .slice A6 n6 c6] 24; replace hW := Ext.trans hW hx; replace b := b.ext hx; replace b4 := b4.ext hx; replace b5 := b5.ext hx; clear hx; (try clear r0 r1); (try clear s0 s1); (try clear t0 t1); (try clear u0 u1); have r0 := b.cell 0; have r1 := b.cell 1; have s0 := b4.cell 0; have s1 := b4.cell 1; have t0 := b5.cell 0; have t1 := b5.cell 1; have u0 := b6.cell 0; have u1 := b6.cell 1; simp only [List.getElem?_toArray, List.getElem?_cons_zero, List.getElem?_cons_succ] at r0 r1 s0 s1 t0 t1 u0 u1))
  go_ret
  exact ⟨rfl, hW⟩
set_option maxHeartbeats 4000000 in
theorem fills_ok (N : Int) (A : Option Addr) (n n' c : Nat) (ws : List Nat) (f t : Int) (w : World)
    (C : ∀ W : World, Calls Tryd.prog 12 #[.agg #[.int .i64 N, .slice A n c]] W fun e w' => e = .returned (.agg #[.int .i64 N, .slice A n' c]) ∧ Ext W w') (B : Bt w A n' ws) (hG : G a w) (hr : rightB N ws = true) (hp : rngB N f t = true) :
    Calls Tryd.prog 7 #[.agg #[.int .i64 N, .slice A n c], .int .i64 f, .int .i64 t] w fun e w' => e = .returned (.bool true) ∧ Ext w w' := by
  have SH := Lib.hid (fun W (hW : Ext w W) => shown_any (a := a) W (hG.ext hW))
  have CU := Lib.hid C
  clear C
  have FT := Lib.hid (fun W (hW : Ext w W) => fill_ok (a := a) N A n' c ws f t true hr hp W (B.ext hW) (hG.ext hW))
  have FF := Lib.hid (fun W (hW : Ext w W) => fill_ok (a := a) N A n' c ws f t false hr hp W (B.ext hW) (hG.ext hW))
  obtain ⟨wsT, hT⟩ : ∃ wsT, turnW f t true ws = wsT := ⟨_, rfl⟩
  obtain ⟨wsF, hF⟩ : ∃ wsF, turnW f t false ws = wsF := ⟨_, rfl⟩
  obtain ⟨m1, m2, m3, m4, m5⟩ := fill_math hr hp B.lt hT hF
  rw [hT] at FT
  rw [hF] at FF
  have FB := Lib.hid (fun A n c W (hW : Ext w W) (B4 : Bt W A n wsT) => m2 ▸ fill_ok (a := a) N A n c wsT f t false m1 hp W B4 (hG.ext hW))
  have SM := Lib.hid (fun A n c A2 n2 c2 W (B5 : Bt W A n wsF) (B6 : Bt W A2 n2 wsF) => (show sameB N N wsF wsF = true by simp [sameB]) ▸ same_any N N A A2 n c n2 c2 wsF wsF W B5 B6)
  have CT := Lib.hid (fun A n c W (B4 : Bt W A n wsT) => count_any N A n c wsT W B4)
  have CF := Lib.hid (fun A n c W (B4 : Bt W A n wsF) => count_any N A n c wsF W B4)
  have P := rng_iff.1 hp
  have i0 := P.1.1
  have i1 := P.1.2
  have i2 : t ≤ 20000 := by have := ((right_iff N ws).1 hr).n1; omega
  generalize cntN N wsT = cT at *
  generalize cntN N wsF = cF at *
  have hq : (((cT : Nat) : Int) - (cF : Nat) == t - f) = true := by rw [m3]; exact beq_self_eq_true _
  clear hT hF m1 m2 P hr hp
  clear B hG
  go_enter Tryd.func7, Tryd.ntmps7
  go_wp2_with (first
    | (go_at_call 11; refine (SH.out _ (ext1 _ _)).mono ?_; rintro e w1 ⟨rfl, h1⟩; have p0 := (at_new h1).cell 0; have p1 := (at_new h1).cell 1; simp only [List.getElem?_toArray, List.getElem?_cons_zero, List.getElem?_cons_succ] at p0 p1)
    | (go_at_call 12; refine (CU.out _).mono ?_; rintro e w2 ⟨rfl, h2⟩; replace h2 := Ext.trans h1 h2; clear p0 p1 h1; have p0 := (at_new h2).cell 0; have p1 := (at_new h2).cell 1; have q0 := (at_new h2).frozen 0; have q1 := (at_new h2).frozen 1; simp only [List.getElem?_toArray, List.getElem?_cons_zero, List.getElem?_cons_succ] at p0 p1; obtain ⟨b, hW⟩ := reborn (at_new h2) (Ext.trans (ext1 _ _) h2) (Nat.le_refl _) (.int .i64 N) (.slice A n' c); clear h2; have r0 := b.cell 0; have r1 := b.cell 1; simp only [List.getElem?_toArray, List.getElem?_cons_zero, List.getElem?_cons_succ] at r0 r1)
    | (go_at_call 28; (with_reducible refine (FT.out _ hW).mono ?_); rintro e w' ⟨A4, n4, c4, rfl, B4, hx⟩; replace B4 := B4.ext (ext1 _ (.cells #[.int .i64 N, .slice A4 n4 c4] 24)); replace hx := Ext.trans hx (ext1 _ (.cells #[.int .i64 N, .slice A4 n4 c4] 24)); have b4 := Blk.new w' #[.int .i64 N, .slice A4 n4 c4] 24; replace hW := Ext.trans hW hx; replace b := b.ext hx; clear hx; (try clear r0 r1); (try clear s0 s1); have r0 := b.cell 0; have r1 := b.cell 1; have s0 := b4.cell 0; have s1 := b4.cell 1; simp only [List.getElem?_toArray, List.getElem?_cons_zero, List.getElem?_cons_succ] at r0 r1 s0 s1)
    | (go_at_call 28; (with_reducible refine (FF.out _ hW).mono ?_); rintro e w' ⟨A5, n5, c5, rfl, B5, hx⟩; replace B5 := B5.ext (ext1 _ (.cells #[.int .i64 N, .slice A5 n5 c5] 24)); replace hx := Ext.trans hx (ext1 _ (.cells #[.int .i64 N, .slice A5 n5 c5] 24)); have b5 := Blk.new w' #[.int .i64 N, .slice A5 n5 c5] 24; replace hW := Ext.trans hW hx; replace b := b.ext hx; replace b4 := b4.ext hx; replace B4 := B4.ext hx; clear hx; (try clear r0 r1); (try clear s0 s1); (try clear t0 t1); have r0 := b.cell 0; have r1 := b.cell 1; have s0 := b4.cell 0; have s1 := b4.cell 1; have t0 := b5.cell 0; have t1 := b5.cell 1; simp only [List.getElem?_toArray, List.getElem?_cons_zero, List.getElem?_cons_succ] at r0 r1 s0 s1 t0 t1)
    | (go_at_call 28; (with_reducible refine (FB.out _ _ _ _ hW B4).mono ?_); rintro e w' ⟨A6, n6, c6, rfl, B6, hx⟩; replace B6 := B6.ext (ext1 _ (.cells #[.int .i64 N, .slice A6 n6 c6] 24)); replace hx := Ext.trans hx (ext1 _ (.cells #[.int .i64 N, .slice A6 n6 c6] 24)); have b6 := Blk.new w' #[.int .i64 N, .slice A6 n6 c6] 24; replace hW := Ext.trans hW hx; replace b := b.ext hx; replace b4 := b4.ext hx; replace b5 := b5.ext hx; replace B4 := B4.ext hx; replace B5 := B5.ext hx; clear hx; (try clear r0 r1); (try clear s0 s1); (try clear t0 t1); (try clear u0 u1); have r0 := b.cell 0; have r1 := b.cell 1; have s0 := b4.cell 0; have s1 := b4.cell 1; have t0 := b5.cell 0; have t1 := b5.cell 1; have u0 := b6.cell 0; have u1 := b6.cell 1; simp only [List.getElem?_toArray, List.getElem?_cons_zero, List.getElem?_cons_succ] at r0 r1 s0 s1 t0 t1 u0 u1))
  refine wp_region_on (by kernel_rfl) (by kernel_rfl) ?_
  have hx := fromOf hW
  repeat (go_big_quiet_step ((first | (go_at_call 24; with_reducible exact on_call (fun W hx => SM.out _ _ _ _ _ _ _ (B6.ext hx) (B5.ext hx)) _) | (go_at_call 19; with_reducible exact on_call (fun W hx => CT.out _ _ _ _ (B4.ext hx)) _) | (go_at_call 19; with_reducible exact on_call (fun W hx => CF.out _ _ _ _ (B5.ext hx)) _))))
  refine wpQuiet_nil ?_
  intro W hZ
  go_wp2
  go_ret
  exact ⟨rfl, Ext.trans hW hZ⟩
theorem fills_walk (N : Int) (A : Option Addr) (n n' c : Nat) (ws : List Nat) (f t : Int) (w : World)
    (C : ∀ W : World, Calls Tryd.prog 12 #[.agg #[.int .i64 N, .slice A n c]] W fun e w' => e = .returned (.agg #[.int .i64 N, .slice A n' c]) ∧ Ext W w') (B : Bt w A n' ws) (hG : G a w) :
    Calls Tryd.prog 7 #[.agg #[.int .i64 N, .slice A n c], .int .i64 f, .int .i64 t] w fun e w' => e = .returned (.bool true) ∧ Ext w w' := by
  rcases hr : rightB N ws with _ | _
  · rcases hz : rngB 0 f t with _ | _
    · exact fills_no20_false N A n n' c ws f t w C B hG hr hz
    · exact fills_no20_true N A n n' c ws f t w C B hG hr hz
  · rcases hp : rngB N f t with _ | _
    · rcases hz : rngB 0 f t with _ | _
      · exact fills_no21_false N A n n' c ws f t w C B hG hr hp hz
      · exact fills_no21_true N A n n' c ws f t w C B hG hr hp hz
    · exact fills_ok N A n n' c ws f t w C B hG hr hp
end
end Go.Proofs.YtfldgiocaboelaaDoor
