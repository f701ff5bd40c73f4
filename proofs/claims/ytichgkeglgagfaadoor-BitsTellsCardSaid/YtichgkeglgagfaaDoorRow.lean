/- A row of words of one's own, that is written to. -/
import Derived.Test.YtichgkeglgagfaaDoorRefApp
import Derived.Test.YtichgkeglgagfaaDoorSet
namespace Go.Proofs.YtichgkeglgagfaaDoor
open Go.RowKit Go
structure Row (S : Nat) (W : World) (A : Option Addr) (n : Nat) (ws : List Nat) : Prop where
  len : ws.length = n
  lt : W32 ws
  le : n ≤ 1000
  row : 0 < n → ∃ g cur, A = some ⟨g, 0, none⟩ ∧ S ≤ g ∧ Blk W g cur 47 ∧ ∀ j, j < n → cur[j]? = some (.int .u32 (wd ws j : Nat))
theorem Row.bt {S : Nat} {W : World} {A : Option Addr} {n : Nat} {ws : List Nat} (h : Row S W A n ws) : Bt W A n ws :=
  ⟨h.len, h.lt, h.le, fun hn => by
    obtain ⟨g, cur, rfl, _, hb, hc⟩ := h.row hn
    exact Rd.blk hb n _ hc hn⟩
theorem Row.ext {S : Nat} {W W' : World} {A : Option Addr} {n : Nat} {ws : List Nat} (h : Row S W A n ws) (k : Ext W W') : Row S W' A n ws :=
  ⟨h.len, h.lt, h.le, fun hn => by
    obtain ⟨g, cur, e, hg, hb, hc⟩ := h.row hn
    exact ⟨g, cur, e, hg, hb.ext k, hc⟩⟩
theorem Row.other {S : Nat} {W : World} {A : Option Addr} {n : Nat} {ws : List Nat} (h : Row S W A n ws) (p : Addr) (v : Value) (hne : 0 < n → ∀ g, A = some ⟨g, 0, none⟩ → g ≠ p.block) : Row S (W.setCell p v) A n ws :=
  ⟨h.len, h.lt, h.le, fun hn => by
    obtain ⟨g, cur, e, hg, hb, hc⟩ := h.row hn
    exact ⟨g, cur, e, hg, hb.other p v (hne hn g e), hc⟩⟩
theorem Row.set {S g : Nat} {W : World} {n : Nat} {ws : List Nat} (h : Row S W (some ⟨g, 0, none⟩) n ws) (j x : Nat) (hj : j < n) (hx : x < 4294967296) : Row S (W.setCell ⟨g, j, none⟩ (.int .u32 (x : Nat))) (some ⟨g, 0, none⟩) n (ws.set j x) :=
  ⟨by rw [List.length_set, h.len], W32_set h.lt hx, h.le, fun hn => by
    obtain ⟨g', cur, e, hg, hb, hc⟩ := h.row hn
    cases e
    refine ⟨g, _, rfl, hg, hb.set j _, fun i hi => ?_⟩
    have hl := h.len
    rw [wd_set (by omega)]
    by_cases hij : i = j
    · subst hij
      have := (Array.getElem?_eq_some_iff.1 (hc i hi)).1
      simp [this]
    · rw [Array.getElem?_setIfInBounds_ne (Ne.symm hij), hc i hi, if_neg hij]⟩
theorem Row.of_own {S c : Nat} {W : World} {A : Option Addr} {n : Nat} {ws : List Nat} (h : W.ownsRow S 47 1 (.slice A n c) n (encL ws)) (hl : ws.length = n) (hw : W32 ws) (hn : n ≤ 1000) : Row S W A n ws :=
  ⟨hl, hw, hn, fun h0 => by
    rcases h.2 with ⟨_, h1⟩ | ⟨g, cap, cur, e, hb, hg, hnc, hm, hs, ht⟩
    · omega
    · cases e
      refine ⟨g, cur, rfl, hb, hg, fun j hj => ?_⟩
      have h1 := encL_get ws j (by omega)
      rw [← ht, List.getElem?_take, if_pos (by omega)] at h1
      simpa using h1⟩
theorem Row.apart {S R : Nat} {W : World} {A : Option Addr} {n : Nat} {ws : List Nat} {cs : Array Value} (h : Row S W A n ws) (hR : Blk W R cs 24) : 0 < n → ∀ g, A = some ⟨g, 0, none⟩ → g ≠ R := by
  rintro hn g rfl rfl
  obtain ⟨g', cur, e, _, hb, _⟩ := h.row hn
  cases e
  have : (some (Obj.cells cur 47 (0, 0))) = some (Obj.cells cs 24 (0, 0)) := (show W.heap[g]? = _ from hb).symm.trans hR
  simp at this
theorem reborn2 {w w2 : World} {R : Nat} {x y : Value} {t : TypeId} (hB : Blk w2 R #[x, y] t) (hE : Ext w w2) (hR : w.heap.size ≤ R) (u v : Value) :
    Blk ((w2.setCell ⟨R, 0, none⟩ u).setCell ⟨R, 1, none⟩ v) R #[u, v] t ∧ Ext w ((w2.setCell ⟨R, 0, none⟩ u).setCell ⟨R, 1, none⟩ v) :=
  ⟨(hB.set 0 u).set 1 v, (hE.setCell (p := ⟨R, 0, none⟩) hR _).setCell (p := ⟨R, 1, none⟩) hR _⟩
theorem step_add {F k : Nat} {ws : List Nat} (hw : W32 ws) (hi : k < 32 * ws.length) (hf : F ≤ k) (hb : bit (turnW F k true ws) k = false) :
    wd (turnW F k true ws) (k / 32) + 2 ^ (k % 32) < 4294967296 ∧ turnW F ((k + 1 : Nat) : Int) true ws = (turnW F k true ws).set (k / 32) (wd (turnW F k true ws) (k / 32) + 2 ^ (k % 32)) := by
  have h0 : (wd (turnW F k true ws) (k / 32)).testBit (k % 32) = false := hb
  have h1 := add_lt (wd_lt (turn_W32 F k true hw) (k / 32)) (by omega) h0
  exact ⟨h1, turn_step_set hw hi (by omega) h1 (fun j => testBit_add_pow h0 j)⟩
theorem step_sub {F k : Nat} {ws : List Nat} (hw : W32 ws) (hi : k < 32 * ws.length) (hf : F ≤ k) (hb : bit (turnW F k false ws) k = true) :
    2 ^ (k % 32) ≤ wd (turnW F k false ws) (k / 32) ∧ turnW F ((k + 1 : Nat) : Int) false ws = (turnW F k false ws).set (k / 32) (wd (turnW F k false ws) (k / 32) - 2 ^ (k % 32)) ∧ bit (turnW F ((k + 1 : Nat) : Int) false ws) k = false := by
  have h0 : (wd (turnW F k false ws) (k / 32)).testBit (k % 32) = true := hb
  have h1 := wd_lt (turn_W32 F k false hw) (k / 32)
  exact ⟨pow_le_of_bit h0, turn_step_set hw hi (by omega) (Nat.lt_of_le_of_lt (Nat.sub_le _ _) h1) (fun j => testBit_sub_pow h0 j), by rw [turn_bit _ _ _ _ hi, if_pos (by omega)]⟩
theorem worth_at (k : Nat) (hk : k ≤ 100000) (w : World) : Calls Tryd.prog 50 #[.int .i64 k] w fun e w' => e = .returned (.int .u32 ((2 ^ (k % 32) : Nat))) ∧ w = w' := by
  have := worth_any k (by omega) (by omega) w
  rwa [show ((k : Int) % 32).toNat = k % 32 by omega] at this
theorem Row.low {S : Nat} {W : World} {A : Option Addr} {n : Nat} {ws : List Nat} (h : Row S W A n ws) (hn : 0 < n) : ∀ g, A = some ⟨g, 0, none⟩ → S ≤ g := by
  rintro g rfl
  obtain ⟨g', cur, e, hg, _⟩ := h.row hn
  cases e
  exact hg
end Go.Proofs.YtichgkeglgagfaaDoor
