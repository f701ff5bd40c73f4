/- The law BitsWalks, walked. -/
import Derived.Test.YtfldgiocaboelaaDoorCut
import Derived.Test.YtfldgiocaboelaaDoorLawMath2
namespace Go.Proofs.YtfldgiocaboelaaDoor
open Go.RowKit Go
section
variable {a : Nat → Addr}
set_option maxHeartbeats 4000000 in
theorem walks_wrong (N : Int) (A : Option Addr) (n n' c : Nat) (ws : List Nat) (w : World)
    (C : ∀ W : World, Calls Tryd.prog 12 #[.agg #[.int .i64 N, .slice A n c]] W fun e w' => e = .returned (.agg #[.int .i64 N, .slice A n' c]) ∧ Ext W w') (B : Bt w A n' ws) (hG : G a w) (hr : rightB N ws = false) :
    Calls Tryd.prog 6 #[.agg #[.int .i64 N, .slice A n c]] w fun e w' => e = .returned (.bool true) ∧ Ext w w' := by
  have SH := Lib.hid (fun W (hW : Ext w W) => shown_any (a := a) W (hG.ext hW))
  have CU := Lib.hid C
  clear C
  have LS := Lib.hid (fun W (hW : Ext w W) => list_any (a := a) N A n' c ws W (B.ext hW) (hG.ext hW))
  have NX := Lib.hid (fun W (hW : Ext w W) => next_wrong N A n' c ws 0 true hr W (B.ext hW))
  have CT := Lib.hid (fun W (hW : Ext w W) => count_any N A n' c ws W (B.ext hW))
  have e0 : lst N ws = [] := by rw [lst, hr]; rfl
  have e1 : cntN N ws = 0 := by rw [cntN, hr]; rfl
  rw [e0] at LS
  rw [e1] at CT
  clear e0 e1 hr
  clear B hG
  go_enter Tryd.func6, Tryd.ntmps6
  go_wp2_with (first
    | (go_at_call 11; refine (SH.out _ (ext1 _ _)).mono ?_; rintro e w1 ⟨rfl, h1⟩; have p0 := (at_new h1).cell 0; have p1 := (at_new h1).cell 1; simp only [List.getElem?_toArray, List.getElem?_cons_zero, List.getElem?_cons_succ] at p0 p1)
    | (go_at_call 12; refine (CU.out _).mono ?_; rintro e w2 ⟨rfl, h2⟩; replace h2 := Ext.trans h1 h2; clear p0 p1 h1; have p0 := (at_new h2).cell 0; have p1 := (at_new h2).cell 1; have q0 := (at_new h2).frozen 0; have q1 := (at_new h2).frozen 1; simp only [List.getElem?_toArray, List.getElem?_cons_zero, List.getElem?_cons_succ] at p0 p1; obtain ⟨b, hW⟩ := reborn (at_new h2) (Ext.trans (ext1 _ _) h2) (Nat.le_refl _) (.int .i64 N) (.slice A n' c); clear h2; have r0 := b.cell 0; have r1 := b.cell 1; simp only [List.getElem?_toArray, List.getElem?_cons_zero, List.getElem?_cons_succ] at r0 r1)
    | (go_at_call 22; (with_reducible refine (LS.out _ hW).mono ?_); rintro e w' ⟨Al, cl, rfl, hRd, hx⟩; replace hW := Ext.trans hW hx; replace b := b.ext hx; clear hx r0 r1; have r0 := b.cell 0; have r1 := b.cell 1; simp only [List.getElem?_toArray, List.getElem?_cons_zero, List.getElem?_cons_succ] at r0 r1))
  refine wp_loop_rounds 1 ?_
  rw [rounds_succ]
  go_wp2_with (first
    | (go_at_call 30; (with_reducible refine (NX.out _ hW).mono ?_); rintro e w' ⟨rfl, hx⟩; replace hW := Ext.trans hW hx; replace b := b.ext hx; clear hx; (try clear r0 r1); have r0 := b.cell 0; have r1 := b.cell 1; simp only [List.getElem?_toArray, List.getElem?_cons_zero, List.getElem?_cons_succ] at r0 r1)
    | (go_at_call 19; (with_reducible refine (CT.out _ hW).mono ?_); rintro e w' ⟨rfl, hx⟩; replace hW := Ext.trans hW hx; replace b := b.ext hx; clear hx; (try clear r0 r1); have r0 := b.cell 0; have r1 := b.cell 1; simp only [List.getElem?_toArray, List.getElem?_cons_zero, List.getElem?_cons_succ] at r0 r1))
  go_ret
  exact ⟨rfl, hW⟩
set_option maxHeartbeats 4000000 in
theorem walks_right (N : Int) (A : Option Addr) (n n' c : Nat) (ws : List Nat) (w : World)
    (C : ∀ W : World, Calls Tryd.prog 12 #[.agg #[.int .i64 N, .slice A n c]] W fun e w' => e = .returned (.agg #[.int .i64 N, .slice A n' c]) ∧ Ext W w') (B : Bt w A n' ws) (hG : G a w) (hr : rightB N ws = true) :
    Calls Tryd.prog 6 #[.agg #[.int .i64 N, .slice A n c]] w fun e w' => e = .returned (.bool true) ∧ Ext w w' := by
  obtain ⟨L, hL⟩ : ∃ L, plist N ws 0 true = L := ⟨_, rfl⟩
  have hN : N ≤ 20000 := ((right_iff N ws).1 hr).n1
  have SH := Lib.hid (fun W (hW : Ext w W) => shown_any (a := a) W (hG.ext hW))
  have CU := Lib.hid C
  clear C
  have LS := Lib.hid (fun W (hW : Ext w W) => list_any (a := a) N A n' c ws W (B.ext hW) (hG.ext hW))
  have NX := Lib.hid (fun k (hk : k ≤ L.length) W (hW : Ext w W) => walk_next hL hk (next_right (a := a) N A n' c ws (fr L k) true hr (Int.le_trans (fr_le hL hN hk) (by decide)) W (B.ext hW) (hG.ext hW)))
  have HS := Lib.hid (fun k (hk : k < L.length) W (hW : Ext w W) => (walk_math hr hL hk).2.2.1 ▸ has_any N A n' c ws (L.getD k 0 : Nat) W (B.ext hW))
  have WM := Lib.hid (fun k (hk : k < L.length) => And.intro (walk_math hr hL hk).1 (And.intro (walk_math hr hL hk).2.1 (And.intro (walk_math hr hL hk).2.2.2.1 (walk_math hr hL hk).2.2.2.2)))
  have FN := Lib.hid (fun k (hk : k ≤ L.length) => And.intro (fr_nonneg L k) (fr_le hL hN hk))
  have CT := Lib.hid (fun W (hW : Ext w W) => count_any N A n' c ws W (B.ext hW))
  have e0 : lst N ws = L := by rw [lst, if_pos hr, hL]
  have e1 : cntN N ws = L.length := by rw [cnt_right hr, hL]
  rw [e0] at LS
  rw [e1] at CT
  have hLl : L.length ≤ 40000 := by have := cnt_le N ws; have := B.le; have := B.len; omega
  clear e0 e1 hr hL
  clear B hG
  go_enter Tryd.func6, Tryd.ntmps6
  go_wp2_with (first
    | (go_at_call 11; refine (SH.out _ (ext1 _ _)).mono ?_; rintro e w1 ⟨rfl, h1⟩; have p0 := (at_new h1).cell 0; have p1 := (at_new h1).cell 1; simp only [List.getElem?_toArray, List.getElem?_cons_zero, List.getElem?_cons_succ] at p0 p1)
    | (go_at_call 12; refine (CU.out _).mono ?_; rintro e w2 ⟨rfl, h2⟩; replace h2 := Ext.trans h1 h2; clear p0 p1 h1; have p0 := (at_new h2).cell 0; have p1 := (at_new h2).cell 1; have q0 := (at_new h2).frozen 0; have q1 := (at_new h2).frozen 1; simp only [List.getElem?_toArray, List.getElem?_cons_zero, List.getElem?_cons_succ] at p0 p1; obtain ⟨b, hW⟩ := reborn (at_new h2) (Ext.trans (ext1 _ _) h2) (Nat.le_refl _) (.int .i64 N) (.slice A n' c); clear h2; have r0 := b.cell 0; have r1 := b.cell 1; simp only [List.getElem?_toArray, List.getElem?_cons_zero, List.getElem?_cons_succ] at r0 r1)
    | (go_at_call 22; (with_reducible refine (LS.out _ hW).mono ?_); rintro e w' ⟨Al, cl, rfl, hRd, hx⟩; replace hW := Ext.trans hW hx; replace b := b.ext hx; clear hx r0 r1; have r0 := b.cell 0; have r1 := b.cell 1; simp only [List.getElem?_toArray, List.getElem?_cons_zero, List.getElem?_cons_succ] at r0 r1))
  clear r0 r1
  go_loopw [5, 6] (fun f i wr => ∃ k : Nat, i = .int .i64 k ∧ k ≤ L.length ∧ f = .int .i64 (fr L k) ∧ Ext w' wr) (fun _ i _ => L.length - (intOf i).toNat)
  case atStart => exact ⟨0, rfl, Nat.zero_le _, rfl, Ext.refl _⟩
  case round =>
    obtain ⟨k, rfl, hk, rfl, hE⟩ := hrel
    replace b := b.ext hE
    replace hW := Ext.trans hW hE
    have hf := FN.out k hk
    have r0 := b.cell 0
    have r1 := b.cell 1
    simp only [List.getElem?_toArray, List.getElem?_cons_zero, List.getElem?_cons_succ] at r0 r1
    by_cases hkl : k < L.length
    · have h5 : (k : Int) < L.length := by omega
      obtain ⟨m1, m2, m3, m4⟩ := WM.out k hkl
      have hRw := hRd.ext hE
      obtain ⟨ad, rfl, hab, hcc⟩ := hRw (by omega)
      have ck : wr.cell? (ad.add k) = some (.int .i64 (L.getD k 0 : Nat)) := hcc k hkl
      have CK := Lib.hid ck
      clear ck
      have NK0 := NX.out k hk
      rw [m4] at NK0
      dsimp only [optI, Option.isSome] at NK0
      have NK := Lib.hid NK0
      have HK := Lib.hid (HS.out k hkl)
      have FK := Lib.hid m3
      clear NK0 m3 m4 hRw hcc
      generalize L.getD k 0 = x at *
      generalize fr L k = q at *
      have ex : ((x : Int) != (x : Int)) = false := by simp
      have q0 := hf.1
      have q1 := hf.2
      clear p0 p1
      go_wp2_with (first
        | (go_at_call 30; (with_reducible refine (NK.out _ hW).mono ?_); rintro e w' ⟨rfl, hx⟩; replace hE := Ext.trans hE hx; replace hW := Ext.trans hW hx; replace b := b.ext hx; have cw := (hx.cell (p := ad.add k) (by rw [block_of_add]; exact hab)).trans CK.out; clear hx; (try clear r0 r1); have r0 := b.cell 0; have r1 := b.cell 1; simp only [List.getElem?_toArray, List.getElem?_cons_zero, List.getElem?_cons_succ] at r0 r1)
        | (go_at_call 17; (with_reducible refine (HK.out _ hW).mono ?_); rintro e w' ⟨rfl, hx⟩; replace hE := Ext.trans hE hx; replace hW := Ext.trans hW hx; replace b := b.ext hx; clear hx; (try clear r0 r1); have r0 := b.cell 0; have r1 := b.cell 1; simp only [List.getElem?_toArray, List.getElem?_cons_zero, List.getElem?_cons_succ] at r0 r1))
      go_roundw
      case rel => exact ⟨k + 1, by go_num, by omega, by rw [FK.out], hE⟩
      case measure => simp [intOf]; omega
    · have hkL : k = L.length := by omega
      subst hkL
      have h5 : ¬ ((L.length : Nat) : Int) < (L.length : Nat) := by omega
      have NE0 := NX.out _ (Nat.le_refl _)
      rw [List.getElem?_eq_none (Nat.le_refl _)] at NE0
      dsimp only [optI, Option.isSome] at NE0
      have NE := Lib.hid NE0
      clear NE0 p0 p1
      generalize fr L L.length = q at *
      generalize L.length = m at *
      go_wp2_with (first
        | (go_at_call 30; (with_reducible refine (NE.out _ hW).mono ?_); rintro e w' ⟨rfl, hx⟩; replace hW := Ext.trans hW hx; replace b := b.ext hx; clear hx; (try clear r0 r1); have r0 := b.cell 0; have r1 := b.cell 1; simp only [List.getElem?_toArray, List.getElem?_cons_zero, List.getElem?_cons_succ] at r0 r1)
        | (go_at_call 19; (with_reducible refine (CT.out _ hW).mono ?_); rintro e w' ⟨rfl, hx⟩; replace hW := Ext.trans hW hx; replace b := b.ext hx; clear hx; (try clear r0 r1); have r0 := b.cell 0; have r1 := b.cell 1; simp only [List.getElem?_toArray, List.getElem?_cons_zero, List.getElem?_cons_succ] at r0 r1))
      go_ret
      exact ⟨rfl, hW⟩
theorem walks_walk (N : Int) (A : Option Addr) (n n' c : Nat) (ws : List Nat) (w : World)
    (C : ∀ W : World, Calls Tryd.prog 12 #[.agg #[.int .i64 N, .slice A n c]] W fun e w' => e = .returned (.agg #[.int .i64 N, .slice A n' c]) ∧ Ext W w') (B : Bt w A n' ws) (hG : G a w) :
    Calls Tryd.prog 6 #[.agg #[.int .i64 N, .slice A n c]] w fun e w' => e = .returned (.bool true) ∧ Ext w w' := by
  rcases hr : rightB N ws with _ | _
  · exact walks_wrong N A n n' c ws w C B hG hr
  · exact walks_right N A n n' c ws w C B hG hr
end
end Go.Proofs.YtfldgiocaboelaaDoor
