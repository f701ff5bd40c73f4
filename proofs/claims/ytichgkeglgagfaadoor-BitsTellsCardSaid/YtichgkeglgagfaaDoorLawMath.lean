/- What the laws of layer 2 say of words. -/
import Derived.Test.YtichgkeglgagfaaDoorRefList
import Derived.Test.YtichgkeglgagfaaDoorEither
import Derived.Test.YtichgkeglgagfaaDoorNext
namespace Go.Proofs.YtichgkeglgagfaaDoor
open Go.RowKit Go
theorem plB_iff {N i : Int} : plB N i = true ↔ 0 ≤ i ∧ i < N := by simp [plB]
theorem set_math {N i : Int} {ws ws2 : List Nat} (hr : rightB N ws = true) (hp : plB N i = true) (on : Bool) (h : turnW i (i + 1) on ws = ws2) (_hw : W32 ws) :
    rightB N ws2 = true ∧ hasB N ws2 i = on ∧ ∀ k, ¬ k = i → hasB N ws2 k = hasB N ws k := by
  subst h
  have R := (right_iff N ws).1 hr
  have P := plB_iff.1 hp
  have R2 : rightB N (turnW i (i + 1) on ws) = true := (turn_right on R (by omega)).b
  have hl := R.len
  refine ⟨R2, ?_, fun k hk => ?_⟩
  · unfold hasB
    rw [R2, hp, turn_bit _ _ _ _ (by omega), if_pos (by omega)]
    rfl
  · unfold hasB
    rw [R2, hr]
    rcases hq : plB N k with _ | _
    · rfl
    · have Q := plB_iff.1 hq
      rw [turn_bit _ _ _ _ (by omega), if_neg (by omega)]
theorem cnt_le (N : Int) (ws : List Nat) : cntN N ws ≤ 32 * ws.length := by
  unfold cntN
  split
  · exact plist_len _ _ _ _
  · exact Nat.zero_le _
theorem cnt_right {N : Int} {ws : List Nat} (h : rightB N ws = true) : cntN N ws = (plist N ws 0 true).length := by rw [cntN, if_pos h]
theorem rng_iff {N f t : Int} : rngB N f t = true ↔ (0 ≤ f ∧ f ≤ t) ∧ t ≤ N := by simp [rngB]
theorem fill_math {N f t : Int} {ws wsT wsF : List Nat} (hr : rightB N ws = true) (hp : rngB N f t = true) (hw : W32 ws) (hT : turnW f t true ws = wsT) (hF : turnW f t false ws = wsF) :
    rightB N wsT = true ∧ turnW f t false wsT = wsF ∧ ((cntN N wsT : Nat) : Int) - (cntN N wsF : Nat) = t - f ∧ cntN N wsT ≤ 40000 ∧ cntN N wsF ≤ 40000 := by
  subst hT hF
  have R := (right_iff N ws).1 hr
  have P := rng_iff.1 hp
  have hl := R.len
  have n1 := R.n1
  have RT : Right N (turnW f t true ws) := turn_right true R P.2
  have RF : Right N (turnW f t false ws) := turn_right false R P.2
  have lT := turn_len f t true ws
  have lF := turn_len f t false ws
  refine ⟨RT.b, ?_, ?_, ?_, ?_⟩
  · refine ext_bits (by simp [turn_len]) (turn_W32 _ _ _ (turn_W32 _ _ _ hw)) (turn_W32 _ _ _ hw) fun i hi => ?_
    rw [turn_len, turn_len] at hi
    rw [turn_bit _ _ _ _ (by rw [lT]; exact hi), turn_bit _ _ _ _ hi, turn_bit _ _ _ _ hi]
    split <;> rfl
  · have key : (plist N (turnW f t true ws) 0 true).length = (plist N (turnW f t false ws) 0 true).length + (t.toNat - f.toNat) := by
      rw [← filter_range_len f.toNat t.toNat (by omega) (32 * ws.length) (by omega)]
      unfold plist plTo
      rw [lT, lF]
      refine filter_len_add (fun i => ?_) (fun i => ?_) _
      · by_cases hi : i < 32 * ws.length
        · simp only [sel]
          rw [turn_bit _ _ _ _ hi, turn_bit _ _ _ _ hi, Bool.eq_iff_iff]
          by_cases hx : f ≤ i ∧ (i : Int) < t
          · simp [hx]; omega
          · simp only [if_neg hx, Bool.or_eq_true, Bool.and_eq_true, decide_eq_true_eq, beq_iff_eq]
            constructor
            · intro h; exact Or.inl h
            · rintro (h | h)
              · exact h
              · exact absurd (by omega) hx
        · rw [Bool.eq_iff_iff]
          simp only [sel, Bool.or_eq_true, Bool.and_eq_true, decide_eq_true_eq, beq_iff_eq]
          omega
      · by_cases hi : i < 32 * ws.length
        · simp only [sel]
          rw [turn_bit _ _ _ _ hi]
          by_cases hx : f ≤ i ∧ (i : Int) < t
          · simp [hx]
          · rw [Bool.eq_false_iff]
            simp only [if_neg hx, ne_eq, Bool.and_eq_true, decide_eq_true_eq, beq_iff_eq]
            rintro ⟨_, h⟩
            exact hx (by omega)
        · rw [Bool.eq_false_iff]
          simp only [sel, ne_eq, Bool.and_eq_true, decide_eq_true_eq, beq_iff_eq]
          omega
    rw [cnt_right RT.b, cnt_right RF.b, key]
    omega
  · have := cnt_le N (turnW f t true ws)
    omega
  · have := cnt_le N (turnW f t false ws)
    omega
theorem either_math {N : Int} {ws vs js ks : List Nat} (hr : rightB N ws = true) (hs : rightB N vs = true) (hw : W32 ws) (hv : W32 vs) (i : Int) (hj : joinW ws vs = js) (hk : joinW vs ws = ks) :
    rightB N js = true ∧ ks = js ∧ joinW ws ws = ws ∧ hasB N js i = (hasB N ws i || hasB N vs i) := by
  subst hj hk
  have R := (right_iff N ws).1 hr
  have S := (right_iff N vs).1 hs
  have hl := R.len
  have hl' := S.len
  have RJ := join_right R S
  refine ⟨RJ.b, (join_comm (by omega) hw hv).symm, join_self hw, ?_⟩
  unfold hasB
  rw [RJ.b, hr, hs]
  rcases hq : plB N i with _ | _
  · rfl
  · have Q := plB_iff.1 hq
    rw [join_bit _ _ (by omega)]
    simp
theorem sums_math {N : Int} {ws vs js : List Nat} (hr : rightB N ws = true) (hs : rightB N vs = true) (hj : joinW ws vs = js) :
    rightB N js = true ∧ cntN N ws ≤ cntN N js ∧ cntN N vs ≤ cntN N js ∧ cntN N js ≤ cntN N ws + cntN N vs ∧ cntN N ws ≤ 40000 ∧ cntN N vs ≤ 40000 ∧ (((plist N js 0 false).length : Nat) : Int) + (cntN N js : Nat) = N := by
  subst hj
  have R := (right_iff N ws).1 hr
  have S := (right_iff N vs).1 hs
  have hl := R.len
  have hl' := S.len
  have n1 := R.n1
  have n0 := R.n0
  have RJ := join_right R S
  have lJ := join_len ws vs
  have hlv : vs.length = ws.length := by omega
  have bj : ∀ i : Nat, (i : Int) < N → bit (joinW ws vs) i = (bit ws i || bit vs i) := fun i hi => join_bit _ _ (by omega)
  have mono : ∀ (p q : Nat → Bool) n, (∀ i, p i = true → q i = true) → ((List.range n).filter p).length ≤ ((List.range n).filter q).length := fun p q n h => by
    rw [← List.countP_eq_length_filter, ← List.countP_eq_length_filter]
    exact List.countP_mono_left fun i _ => h i
  have cw := cnt_le N ws
  have cv := cnt_le N vs
  rw [cnt_right hr] at cw ⊢
  rw [cnt_right hs] at cv ⊢
  rw [cnt_right RJ.b]
  refine ⟨RJ.b, ?_, ?_, ?_, by omega, by omega, ?_⟩
  · unfold plist plTo
    rw [lJ]
    refine mono _ _ _ fun i hi => ?_
    simp only [sel, Bool.and_eq_true, decide_eq_true_eq, beq_iff_eq] at hi ⊢
    rw [bj i hi.1.2, hi.2]
    exact ⟨hi.1, rfl⟩
  · unfold plist plTo
    rw [lJ, hlv]
    refine mono _ _ _ fun i hi => ?_
    simp only [sel, Bool.and_eq_true, decide_eq_true_eq, beq_iff_eq] at hi ⊢
    rw [bj i hi.1.2, hi.2, Bool.or_true]
    exact ⟨hi.1, rfl⟩
  · unfold plist plTo
    rw [lJ, hlv]
    have h1 := filter_len_add (p := sel N (joinW ws vs) 0 true) (q := sel N ws 0 true) (r := fun i => sel N vs 0 true i && !sel N ws 0 true i) (fun i => by
      rw [Bool.eq_iff_iff]
      simp only [sel, Bool.or_eq_true, Bool.and_eq_true, decide_eq_true_eq, beq_iff_eq, Bool.not_eq_true', Bool.eq_false_iff, ne_eq]
      constructor
      · rintro ⟨h, hb⟩
        rw [bj i h.2] at hb
        by_cases hw : bit ws i = true
        · exact Or.inl ⟨h, hw⟩
        · rw [Bool.not_eq_true] at hw
          rw [hw, Bool.false_or] at hb
          exact Or.inr ⟨⟨h, hb⟩, fun c => by rw [c.2] at hw; cases hw⟩
      · rintro (⟨h, hb⟩ | ⟨⟨h, hb⟩, _⟩)
        · exact ⟨h, by rw [bj i h.2, hb]; rfl⟩
        · exact ⟨h, by rw [bj i h.2, hb, Bool.or_true]⟩) (fun i => by cases sel N ws 0 true i <;> simp) (32 * ws.length)
    have h2 := mono (fun i => sel N vs 0 true i && !sel N ws 0 true i) (sel N vs 0 true) (32 * ws.length) (fun i hi => by
      simp only [Bool.and_eq_true] at hi
      exact hi.1)
    omega
  · have h1 := filter_len_add (p := fun i => decide (0 ≤ i) && decide (i < N.toNat)) (q := sel N (joinW ws vs) 0 false) (r := sel N (joinW ws vs) 0 true) (fun i => by
      rw [Bool.eq_iff_iff]
      simp only [sel, Bool.or_eq_true, Bool.and_eq_true, decide_eq_true_eq, beq_iff_eq]
      constructor
      · intro h
        rcases hb : bit (joinW ws vs) i with _ | _
        · exact Or.inl ⟨⟨by omega, by omega⟩, rfl⟩
        · exact Or.inr ⟨⟨by omega, by omega⟩, rfl⟩
      · rintro (h | h) <;> exact ⟨by omega, by omega⟩) (fun i => by
      rw [Bool.eq_false_iff]
      simp only [sel, ne_eq, Bool.and_eq_true, decide_eq_true_eq, beq_iff_eq]
      rintro ⟨h, h'⟩
      rw [h.2] at h'
      exact absurd h'.2 (by decide)) (32 * ws.length)
    rw [filter_range_len 0 N.toNat (by omega) (32 * ws.length) (by omega)] at h1
    unfold plist plTo
    rw [lJ]
    omega
theorem eit_iff {N M : Int} {ws vs : List Nat} : eitB N M ws vs = true ↔ rightB N ws = true ∧ rightB M vs = true ∧ N = M := by
  simp [eitB, and_assoc]
theorem eit_comm (N M : Int) (ws vs : List Nat) : eitB M N vs ws = eitB N M ws vs := by
  unfold eitB
  rw [Bool.and_comm (rightB M vs), show (M == N) = (N == M) from BEq.comm]
theorem keepOther {w2 : World} {R R' : Nat} {cs : Array Value} {t : TypeId} (hB : Blk w2 R' cs t) (h : R' ≠ R) (u v : Value) : Blk ((w2.setCell ⟨R, 0, none⟩ u).setCell ⟨R, 1, none⟩ v) R' cs t :=
  (hB.other ⟨R, 0, none⟩ u h).other ⟨R, 1, none⟩ v h
section
variable {P : Program} {f : FuncId} {args : Array Value} {N : Int} {js L : List Nat}
theorem sums_bd {on : Bool} (hL : plist N js 0 on = L) {k x : Nat} (hx : L[k]? = some x) : (x : Int) < N := by
  subst hL
  exact (mem_plist.1 (List.mem_of_getElem? hx)).2.2.1
theorem sums_le {on : Bool} (hL : plist N js 0 on = L) {k x : Nat} (hx : L[k]? = some x) (h : N ≤ 20000) : ((x : Int) + 1) ≤ 9223372036854775807 := by
  have := sums_bd hL hx
  omega
theorem sums_first {on : Bool} {w : World} (hL : plist N js 0 on = L) (h : Calls P f args w fun e w' => e = .returned (.tuple #[.int .i64 (optI (nxt N js (max 0 0) on)), .bool (nxt N js (max 0 0) on).isSome]) ∧ Ext w w') :
    Calls P f args w fun e w' => e = .returned (.tuple #[.int .i64 (optI L[0]?), .bool L[0]?.isSome]) ∧ Ext w w' := by
  rw [show (max 0 0 : Int) = 0 from rfl, nxt_zero, hL] at h
  exact h
theorem sums_next {on : Bool} {w : World} (hL : plist N js 0 on = L) {k x : Nat} (hx : L[k]? = some x) (h : Calls P f args w fun e w' => e = .returned (.tuple #[.int .i64 (optI (nxt N js (max ((x : Int) + 1) 0) on)), .bool (nxt N js (max ((x : Int) + 1) 0) on).isSome]) ∧ Ext w w') :
    Calls P f args w fun e w' => e = .returned (.tuple #[.int .i64 (optI L[k + 1]?), .bool L[k + 1]?.isSome]) ∧ Ext w w' := by
  obtain ⟨hk, hv⟩ := List.getElem?_eq_some_iff.1 hx
  subst hL
  have := nxt_after (N := N) (ws := js) (on := on) hk
  rw [hv] at this
  rw [show max ((x : Int) + 1) 0 = (x : Int) + 1 by omega, this] at h
  exact h
end
end Go.Proofs.YtichgkeglgagfaaDoor
