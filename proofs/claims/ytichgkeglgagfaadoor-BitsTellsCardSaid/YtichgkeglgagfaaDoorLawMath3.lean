/- What BitsBack says of words. -/
import Derived.Test.YtichgkeglgagfaaDoorLawMath2
import Derived.Test.YtichgkeglgagfaaDoorLawBoth
namespace Go.Proofs.YtichgkeglgagfaaDoor
open Go.RowKit Go
/-- The first k places of a list are on. -/
def OnK (ws L : List Nat) (k : Nat) (cur : List Nat) : Prop := cur.length = ws.length ∧ W32 cur ∧ ∀ j, j < 32 * ws.length → bit cur j = decide (j ∈ L.take k)
theorem on_zero {N : Int} {ws L : List Nat} (hr : rightB N ws = true) : OnK ws L 0 (List.replicate ((N + 31) / 32).toNat 0) := by
  have hl := ((right_iff N ws).1 hr).len
  exact ⟨by rw [List.length_replicate]; omega, zeros_W32 _, fun j _ => by rw [zeros_bit]; simp⟩
theorem on_right {N : Int} {ws L cur : List Nat} {k : Nat} (hr : rightB N ws = true) (hL : plist N ws 0 true = L) (h : OnK ws L k cur) : rightB N cur = true := by
  have R := (right_iff N ws).1 hr
  refine Right.b ⟨R.n0, R.n1, by rw [h.1]; exact R.len, fun i hi hni => ?_⟩
  rw [h.2.2 i (by rw [← h.1]; exact hi)]
  have hlt : ¬ i ∈ L.take k := fun hm => by
    subst hL
    have := mem_plist.1 (List.mem_of_mem_take hm)
    omega
  simp [hlt]
theorem on_step {ws L cur : List Nat} {k : Nat} (hk : k < L.length) (h : OnK ws L k cur) : OnK ws L (k + 1) (turnW ((L.getD k 0 : Nat) : Int) (((L.getD k 0 : Nat) : Int) + 1) true cur) := by
  have h1 : L[k]? = some (L.getD k 0) := by rw [List.getD_eq_getElem?_getD, List.getElem?_eq_getElem hk]; rfl
  generalize L.getD k 0 = x at *
  refine ⟨by rw [turn_len, h.1], turn_W32 _ _ _ h.2.1, fun j hj => ?_⟩
  rw [turn_bit _ _ _ _ (by rw [h.1]; exact hj), List.take_add_one, h1]
  by_cases hx : j = x
  · subst hx
    rw [if_pos (by omega)]
    simp
  · rw [if_neg (by omega), h.2.2 j hj]
    simp [hx]
theorem on_end {N : Int} {ws L cur : List Nat} (hr : rightB N ws = true) (hw : W32 ws) (hL : plist N ws 0 true = L) (h : OnK ws L L.length cur) : cur = ws := by
  have R := (right_iff N ws).1 hr
  refine ext_bits h.1 h.2.1 hw fun j hj => ?_
  rw [h.1] at hj
  rw [h.2.2 j hj, List.take_length, Bool.eq_iff_iff, decide_eq_true_eq, ← hL, mem_plist]
  constructor
  · exact fun h => h.2.2.2
  · intro hb
    have hN : (j : Int) < N := by
      have := R.off j hj
      by_cases h : (j : Int) < N
      · exact h
      · rw [this (by omega)] at hb; cases hb
    exact ⟨hj, by omega, hN, hb⟩
theorem cnt_ok {N : Int} {ws : List Nat} (hr : rightB N ws = true) : cntB N = true := by
  have R := (right_iff N ws).1 hr
  simp [cntB, R.n0, R.n1]
theorem Rd.otherBits {W : World} {A : Option Addr} {L : List Nat} {N : Int} (h : Rd W A L.length fun j => .int .i64 (L.getD j 0 : Nat)) (hlt : 0 < L.length → ((L.getD 0 0 : Nat) : Int) < N) {R : Nat} {a : Option Addr} {l c : Nat} {t : TypeId} (hR : Blk W R #[.int .i64 N, .slice a l c] t) (u v : Value) :
    Rd ((W.setCell ⟨R, 0, none⟩ u).setCell ⟨R, 1, none⟩ v) A L.length fun j => .int .i64 (L.getD j 0 : Nat) := fun hn => by
  obtain ⟨ad, rfl, hb, hc⟩ := h hn
  have hne : ad.block ≠ R := by
    rintro rfl
    have h0 := hc 0 hn
    have hl := hlt hn
    simp only [World.cell?, block_of_add, show W.heap[ad.block]? = _ from hR] at h0
    generalize (ad.add 0).off = o at h0
    rcases o with _ | _ | o
    · simp at h0; simp at hl; omega
    · simp at h0
    · simp at h0
  refine ⟨ad, rfl, by simpa using hb, fun j hj => ?_⟩
  rw [World.cell?_setCell_other _ _ _ _ (by intro e; have := congrArg Addr.block e; rw [block_of_add] at this; exact hne (by simpa using this.symm)), World.cell?_setCell_other _ _ _ _ (by intro e; have := congrArg Addr.block e; rw [block_of_add] at this; exact hne (by simpa using this.symm)), hc j hj]
end Go.Proofs.YtichgkeglgagfaaDoor
