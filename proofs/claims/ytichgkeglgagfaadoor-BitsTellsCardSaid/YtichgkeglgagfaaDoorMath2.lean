/- Places that are on, or off, as lists: the plain mathematics (no program). -/
import Derived.Test.YtichgkeglgagfaaDoorMath
namespace Go.Proofs.YtichgkeglgagfaaDoor

/-! ### a word's ones -/
def ones (x : Nat) : List Nat := (List.range 32).filter fun i => x.testBit i
theorem range_cut {k n : Nat} (h : k < n) : List.range n = List.range k ++ k :: (List.range (n - k - 1)).map (k + 1 + ·) := by
  have e : n = k + 1 + (n - k - 1) := by omega
  conv => lhs; rw [e, List.range_add, List.range_succ]
  simp
theorem filter_first {p : Nat → Bool} {k n : Nat} (h : k < n) (hp : p k = true) (hlow : ∀ i, i < k → p i = false) : (List.range n).filter p = k :: (List.range n).filter (fun i => p i && decide (k < i)) := by
  rw [range_cut h, List.filter_append, List.filter_append, List.filter_cons, List.filter_cons, if_pos hp, if_neg (by simp)]
  have e1 : (List.range k).filter p = [] := by
    rw [List.filter_eq_nil_iff]; intro i hi; rw [hlow i (List.mem_range.1 hi)]; exact Bool.false_ne_true
  have e2 : (List.range k).filter (fun i => p i && decide (k < i)) = [] := by
    rw [List.filter_eq_nil_iff]; intro i hi; rw [hlow i (List.mem_range.1 hi)]; simp
  rw [e1, e2, List.nil_append, List.nil_append]
  congr 1
  apply List.filter_congr
  intro i hi
  obtain ⟨j, _, rfl⟩ := List.mem_map.1 hi
  have : decide (k < k + 1 + j) = true := by rw [decide_eq_true_eq]; omega
  simp [this]
theorem and_pred_bit {x : Nat} (h0 : x ≠ 0) (h : x < 4294967296) : Lib.ctz 32 x < 32 ∧ x.testBit (Lib.ctz 32 x) = true ∧ (∀ i, i < Lib.ctz 32 x → x.testBit i = false) ∧ ∀ i, (x &&& (x - 1)).testBit i = (x.testBit i && decide (Lib.ctz 32 x < i)) := by
  have e : Lib.ctz 32 x = Lib.ctzFrom 32 x := by unfold Lib.ctz; rw [if_neg h0]
  rw [e]
  obtain ⟨m, hm, hk⟩ := Lib.ctzFrom_spec 32 x (by omega) h
  generalize Lib.ctzFrom 32 x = k at hm hk
  have hp := Nat.two_pow_pos k
  have hx : ∀ i, x.testBit i = if i < k then false else (2 * m + 1).testBit (i - k) := fun i => by
    have := Nat.testBit_two_pow_mul_add (2 * m + 1) (i := k) (b := 0) hp i
    rw [Nat.add_zero, ← hm] at this
    simpa using this
  have hy : ∀ i, (x - 1).testBit i = if i < k then true else (2 * m).testBit (i - k) := fun i => by
    have e2 : x - 1 = 2 ^ k * (2 * m) + (2 ^ k - 1) := by rw [hm, Nat.mul_add]; omega
    rw [e2, Nat.testBit_two_pow_mul_add _ (by omega)]
    split
    · rw [Nat.testBit_two_pow_sub_one]; simp [*]
    · rfl
  refine ⟨hk, by rw [hx, if_neg (by omega), Nat.sub_self]; simp, fun i hi => by rw [hx, if_pos hi], fun i => ?_⟩
  rw [Nat.testBit_and, hx, hy]
  by_cases h1 : i < k
  · simp [h1]
  · simp only [h1, if_false]
    by_cases h2 : k < i
    · obtain ⟨j, rfl⟩ : ∃ j, i = k + (j + 1) := ⟨i - k - 1, by omega⟩
      rw [show k + (j + 1) - k = j + 1 by omega, Nat.testBit_succ, Nat.testBit_succ, show (2 * m + 1) / 2 = m by omega, show 2 * m / 2 = m by omega]
      simp [h2]
    · have : i = k := by omega
      subst this
      simp
theorem ones_step {x : Nat} (h0 : x ≠ 0) (h : x < 4294967296) : ones x = Lib.ctz 32 x :: ones (x &&& (x - 1)) := by
  obtain ⟨h1, h2, h3, h4⟩ := and_pred_bit h0 h
  unfold ones
  rw [filter_first h1 h2 h3]
  congr 1
  apply List.filter_congr
  intro i _
  rw [h4]
theorem ones_zero : ones 0 = [] := by simp [ones]
theorem ones_ne {x : Nat} (h0 : x ≠ 0) (h : x < 4294967296) : ones x ≠ [] := by rw [ones_step h0 h]; simp
theorem and_pred_lt {x : Nat} (h : x < 4294967296) : x &&& (x - 1) < 4294967296 := Nat.lt_of_le_of_lt Nat.and_le_left h

/-! ### the places -/
def so (x : Nat) (on : Bool) : Nat := if on then x else 4294967295 - x
def sel (N : Int) (ws : List Nat) (f : Int) (on : Bool) (i : Nat) : Bool := decide (f ≤ i) && decide ((i : Int) < N) && (bit ws i == on)
def plTo (N : Int) (ws : List Nat) (f : Int) (on : Bool) (m : Nat) : List Nat := (List.range (32 * m)).filter (sel N ws f on)
def plist (N : Int) (ws : List Nat) (f : Int) (on : Bool) : List Nat := plTo N ws f on ws.length
def word (N : Int) (ws : List Nat) (f : Int) (on : Bool) (k : Nat) : Nat := so (wd ws k) on &&& dig k f N
def seg (N : Int) (ws : List Nat) (f : Int) (on : Bool) (k : Nat) : List Nat := (ones (word N ws f on k)).map (32 * k + ·)
theorem so_lt (x : Nat) (on : Bool) (h : x < 4294967296) : so x on < 4294967296 := by cases on <;> simp [so] <;> omega
theorem so_bit (x : Nat) (on : Bool) (j : Nat) (hj : j < 32) (h : x < 4294967296) : (so x on).testBit j = (x.testBit j == on) := by
  cases on
  · simp only [so, Bool.false_eq_true, if_false]; rw [comp_bit _ _ h]; cases x.testBit j <;> simp [hj]
  · simp [so]
theorem word_lt (N : Int) (ws : List Nat) (f : Int) (on : Bool) (k : Nat) : word N ws f on k < 4294967296 := Nat.lt_of_le_of_lt Nat.and_le_right (dig_lt _ _ _)
theorem plTo_succ (N : Int) {ws : List Nat} (f : Int) (on : Bool) (k : Nat) (hw : W32 ws) : plTo N ws f on (k + 1) = plTo N ws f on k ++ seg N ws f on k := by
  unfold plTo seg ones
  rw [show 32 * (k + 1) = 32 * k + 32 by omega, List.range_add, List.filter_append, List.filter_map]
  congr 1
  congr 1
  apply List.filter_congr
  intro j hj
  have hj' : j < 32 := List.mem_range.1 hj
  simp only [Function.comp, sel, word]
  rw [Nat.testBit_and, dig_bit, so_bit _ _ _ hj' (wd_lt hw k), bit_word _ _ _ hj', Bool.eq_iff_iff]
  simp only [Bool.and_eq_true, decide_eq_true_eq]
  constructor
  · rintro ⟨⟨a, b⟩, c⟩; exact ⟨c, hj', by omega, by omega⟩
  · rintro ⟨c, _, a, b⟩; exact ⟨⟨by omega, by omega⟩, c⟩
theorem plTo_low {N : Int} {ws : List Nat} {f : Int} {on : Bool} {m : Nat} (h : 32 * (m : Int) ≤ f) : plTo N ws f on m = [] := by
  unfold plTo
  rw [List.filter_eq_nil_iff]
  intro i hi
  have := List.mem_range.1 hi
  simp only [sel, Bool.and_eq_true, decide_eq_true_eq]
  omega
theorem plTo_prefix (N : Int) {ws : List Nat} (f : Int) (on : Bool) (hw : W32 ws) (m : Nat) : ∀ d, ∃ t, plTo N ws f on (m + d) = plTo N ws f on m ++ t
  | 0 => ⟨[], by simp⟩
  | d + 1 => by
    obtain ⟨t, ht⟩ := plTo_prefix N f on hw m d
    exact ⟨t ++ seg N ws f on (m + d), by rw [show m + (d + 1) = (m + d) + 1 by omega, plTo_succ N f on _ hw, ht, List.append_assoc]⟩
theorem plTo_get (N : Int) {ws : List Nat} (f : Int) (on : Bool) (hw : W32 ws) {m i j : Nat} (hm : m < ws.length) (h : (ones (word N ws f on m))[j]? = some i) : (plist N ws f on)[(plTo N ws f on m).length + j]? = some (32 * m + i) := by
  obtain ⟨t, ht⟩ := plTo_prefix N f on hw (m + 1) (ws.length - (m + 1))
  rw [show m + 1 + (ws.length - (m + 1)) = ws.length by omega] at ht
  have hs : (seg N ws f on m)[j]? = some (32 * m + i) := by simp [seg, h]
  have hj := (List.getElem?_eq_some_iff.1 hs).1
  show (plTo N ws f on ws.length)[_]? = _
  rw [ht, plTo_succ N f on m hw, List.append_assoc, List.getElem?_append_right (by omega), Nat.add_sub_cancel_left, List.getElem?_append_left hj, hs]
theorem mem_plist {N : Int} {ws : List Nat} {f : Int} {on : Bool} {i : Nat} : i ∈ plist N ws f on ↔ i < 32 * ws.length ∧ f ≤ i ∧ (i : Int) < N ∧ bit ws i = on := by
  unfold plist plTo sel
  simp only [List.mem_filter, List.mem_range, Bool.and_eq_true, decide_eq_true_eq, beq_iff_eq]
  constructor
  · rintro ⟨a, ⟨b, c⟩, d⟩; exact ⟨a, b, c, d⟩
  · rintro ⟨a, b, c, d⟩; exact ⟨a, ⟨b, c⟩, d⟩
theorem plist_len (N : Int) (ws : List Nat) (f : Int) (on : Bool) : (plist N ws f on).length ≤ 32 * ws.length := by
  have := List.length_filter_le (sel N ws f on) (List.range (32 * ws.length))
  simpa [plist, plTo] using this
theorem plTo_len (N : Int) (ws : List Nat) (f : Int) (on : Bool) (m : Nat) : (plTo N ws f on m).length ≤ 32 * m := by
  have := List.length_filter_le (sel N ws f on) (List.range (32 * m))
  simpa [plTo] using this

/-! ### how many -/
def pop (x : Nat) : Nat := (ones x).length
def popTo (ws : List Nat) (m : Nat) : Nat := ((List.range m).map fun k => pop (wd ws k)).sum
theorem popTo_succ (ws : List Nat) (m : Nat) : popTo ws (m + 1) = popTo ws m + pop (wd ws m) := by simp [popTo, List.range_succ]
theorem pop_le (x : Nat) : pop x ≤ 32 := by have := List.length_filter_le (fun i => x.testBit i) (List.range 32); simpa [pop, ones] using this
theorem popTo_le (ws : List Nat) : ∀ m, popTo ws m ≤ 32 * m
  | 0 => by simp [popTo]
  | m + 1 => by rw [popTo_succ]; have := popTo_le ws m; have := pop_le (wd ws m); omega
theorem word_all {N : Int} {ws : List Nat} (h : Right N ws) (hw : W32 ws) {k : Nat} (hk : k < ws.length) : word N ws 0 true k = wd ws k := by
  apply Nat.eq_of_testBit_eq
  intro j
  unfold word so
  rw [if_pos rfl, Nat.testBit_and, dig_bit]
  by_cases hj : j < 32
  · by_cases hn : ((32 * k + j : Nat) : Int) < N
    · have : decide (j < 32 ∧ (0 : Int) ≤ 32 * k + j ∧ 32 * (k : Int) + j < N) = true := by rw [decide_eq_true_eq]; omega
      rw [this, Bool.and_true]
    · rw [← bit_word _ _ _ hj, h.off _ (by omega) (by omega)]; rfl
  · rw [ge32 (wd_lt hw k) (by omega)]; rfl
theorem popTo_plTo {N : Int} {ws : List Nat} (h : Right N ws) (hw : W32 ws) : ∀ m, m ≤ ws.length → (plTo N ws 0 true m).length = popTo ws m
  | 0, _ => by simp [plTo, popTo]
  | m + 1, hm => by
    rw [plTo_succ N 0 true m hw, List.length_append, popTo_plTo h hw m (by omega), popTo_succ]
    simp [seg, pop, word_all h hw (k := m) (by omega)]
theorem pop_plist {N : Int} {ws : List Nat} (h : Right N ws) (hw : W32 ws) : popTo ws ws.length = (plist N ws 0 true).length := (popTo_plTo h hw _ (Nat.le_refl _)).symm

def pop8 (b : Nat) : Nat := ((List.range 8).filter fun i => b.testBit i).length
theorem pop_bytes (x : Nat) : pop x = pop8 (x / 16777216 % 256) + pop8 (x / 65536 % 256) + pop8 (x / 256 % 256) + pop8 (x % 256) := by
  have key : ∀ s i, i < 8 → (x / 2 ^ s % 256).testBit i = x.testBit (s + i) := fun s i hi => by
    rw [show (256 : Nat) = 2 ^ 8 by decide, Nat.testBit_mod_two_pow, Nat.testBit_div_two_pow]
    simp [hi, Nat.add_comm]
  have part : ∀ s, pop8 (x / 2 ^ s % 256) = ((List.range 8).filter fun i => x.testBit (s + i)).length := fun s => by
    unfold pop8
    congr 1
    apply List.filter_congr
    intro i hi
    exact key s i (List.mem_range.1 hi)
  have cut : ∀ s n, ((List.range (s + n)).filter fun i => x.testBit i).length = ((List.range s).filter fun i => x.testBit i).length + ((List.range n).filter fun i => x.testBit (s + i)).length := fun s n => by
    rw [List.range_add, List.filter_append, List.length_append, List.filter_map, List.length_map]; rfl
  have p0 := part 0
  have p1 := part 8
  have p2 := part 16
  have p3 := part 24
  rw [show x / 2 ^ 0 % 256 = x % 256 by simp] at p0
  rw [show x / 2 ^ 8 = x / 256 by rfl] at p1
  rw [show x / 2 ^ 16 = x / 65536 by rfl] at p2
  rw [show x / 2 ^ 24 = x / 16777216 by rfl] at p3
  have c1 := cut 24 8
  have c2 := cut 16 8
  have c3 := cut 8 8
  have c4 := cut 0 8
  simp only [Nat.reduceAdd] at c1 c2 c3 c4
  unfold pop ones
  rw [c1, c2, c3, c4, ← p3, ← p2, ← p1, ← p0]
  simp
  omega

/-! ### the first one -/
def nxt (N : Int) (ws : List Nat) (f : Int) (on : Bool) : Option Nat := (plist N ws f on).head?
theorem head_filter {p : Nat → Bool} {k n : Nat} (h : k < n) (hp : p k = true) (hlow : ∀ i, i < k → p i = false) : ((List.range n).filter p).head? = some k := by rw [filter_first h hp hlow]; rfl
theorem nxt_some {N : Int} {ws : List Nat} {f : Int} {on : Bool} {i : Nat} (hr : Right N ws) (hf : f ≤ i) (hi : (i : Int) < N) (hb : bit ws i = on) (hlow : ∀ j : Nat, f ≤ j → j < i → bit ws j ≠ on) : nxt N ws f on = some i :=
  head_filter (by have := hr.len; omega) (by simp [sel, hf, hi, hb]) fun j hj => by
    cases h : sel N ws f on j with
    | false => rfl
    | true =>
      simp only [sel, Bool.and_eq_true, decide_eq_true_eq, beq_iff_eq] at h
      exact absurd h.2 (hlow j h.1.1 hj)
theorem nxt_none {N : Int} {ws : List Nat} {f : Int} {on : Bool} (h : ∀ j : Nat, f ≤ j → (j : Int) < N → bit ws j ≠ on) : nxt N ws f on = none := by
  unfold nxt plist plTo
  rw [List.head?_eq_none_iff, List.filter_eq_nil_iff]
  intro j _ hs
  simp only [sel, Bool.and_eq_true, decide_eq_true_eq, beq_iff_eq] at hs
  exact h j hs.1.1 hs.1.2 hs.2
theorem nxt_mem {N : Int} {ws : List Nat} {f : Int} {on : Bool} {i : Nat} (h : nxt N ws f on = some i) : f ≤ i ∧ (i : Int) < N ∧ bit ws i = on := by
  have := List.mem_of_head? h
  exact ⟨(mem_plist.1 this).2.1, (mem_plist.1 this).2.2.1, (mem_plist.1 this).2.2.2⟩

/-- From a later place on: what is left. -/
theorem plist_from {N : Int} {ws : List Nat} {on : Bool} (f : Int) (h0 : 0 ≤ f) : plist N ws f on = (plist N ws 0 on).filter fun (i : Nat) => decide (f ≤ (i : Int)) := by
  unfold plist plTo
  rw [List.filter_filter]
  apply List.filter_congr
  intro i _
  unfold sel
  rw [Bool.eq_iff_iff]
  simp only [Bool.and_eq_true, decide_eq_true_eq]
  constructor
  · rintro ⟨⟨a, b⟩, c⟩; exact ⟨a, ⟨by omega, b⟩, c⟩
  · rintro ⟨a, ⟨_, b⟩, c⟩; exact ⟨⟨a, b⟩, c⟩
theorem plist_sorted (N : Int) (ws : List Nat) (f : Int) (on : Bool) : (plist N ws f on).Pairwise (· < ·) := List.Pairwise.filter _ List.pairwise_lt_range
theorem filter_drop {l : List Nat} (h : l.Pairwise (· < ·)) {k : Nat} (hk : k < l.length) : l.filter (fun i => decide (l[k] < i)) = l.drop (k + 1) := by
  induction l generalizing k with
  | nil => simp at hk
  | cons x l ih =>
    rw [List.pairwise_cons] at h
    cases k with
    | zero =>
      simp only [List.getElem_cons_zero, List.drop_succ_cons, List.drop_zero, List.filter_cons]
      rw [if_neg (by simp), List.filter_eq_self]
      intro y hy
      simpa using h.1 y hy
    | succ k =>
      have hk' : k < l.length := by simpa using hk
      simp only [List.getElem_cons_succ, List.drop_succ_cons, List.filter_cons]
      rw [if_neg (by have := h.1 l[k] (List.getElem_mem hk'); simp; omega)]
      exact ih h.2 hk'
theorem nxt_zero (N : Int) (ws : List Nat) (on : Bool) : nxt N ws 0 on = (plist N ws 0 on)[0]? := by unfold nxt; rw [List.head?_eq_getElem?]
theorem nxt_after {N : Int} {ws : List Nat} {on : Bool} {k : Nat} (hk : k < (plist N ws 0 on).length) : nxt N ws ((((plist N ws 0 on)[k] : Nat) : Int) + 1) on = (plist N ws 0 on)[k + 1]? := by
  unfold nxt
  rw [plist_from _ (by omega)]
  have : (plist N ws 0 on).filter (fun (i : Nat) => decide ((((plist N ws 0 on)[k] : Nat) : Int) + 1 ≤ (i : Int))) = (plist N ws 0 on).filter (fun i => decide ((plist N ws 0 on)[k] < i)) := by
    apply List.filter_congr
    intro i _
    rw [Bool.eq_iff_iff]; simp only [decide_eq_true_eq]; omega
  rw [this, filter_drop (plist_sorted _ _ _ _) hk, List.head?_drop]

/-! ### sums -/
theorem filter_len_add {p q r : Nat → Bool} (h : ∀ i, p i = (q i || r i)) (hd : ∀ i, (q i && r i) = false) : ∀ n, ((List.range n).filter p).length = ((List.range n).filter q).length + ((List.range n).filter r).length
  | 0 => rfl
  | n + 1 => by
    rw [List.range_succ, List.filter_append, List.filter_append, List.filter_append, List.length_append, List.length_append, List.length_append, filter_len_add h hd n]
    have h1 := h n
    have h2 := hd n
    simp only [List.filter_cons, List.filter_nil]
    cases hq : q n <;> cases hr : r n <;> rw [hq, hr] at h1 h2 <;> simp at h1 h2 <;> simp [h1] <;> omega
theorem filter_range_len (f t : Nat) (h : f ≤ t) : ∀ n, t ≤ n → ((List.range n).filter fun i => decide (f ≤ i) && decide (i < t)).length = t - f
  | 0, hn => by simp; omega
  | n + 1, hn => by
    rw [List.range_succ, List.filter_append, List.length_append]
    by_cases he : t = n + 1
    · subst he
      by_cases hf : f = n + 1
      · subst hf
        rw [List.filter_eq_nil_iff.2, List.filter_eq_nil_iff.2]
        · simp
        · intro i hi; simp at hi ⊢ <;> omega
        · intro i hi; simp at hi ⊢ <;> omega
      · have := filter_range_len f n (by omega) n (Nat.le_refl _)
        have e : (List.range n).filter (fun i => decide (f ≤ i) && decide (i < n + 1)) = (List.range n).filter (fun i => decide (f ≤ i) && decide (i < n)) := by
          apply List.filter_congr
          intro i hi
          have := List.mem_range.1 hi
          rw [Bool.eq_iff_iff]; simp; omega
        rw [e, this, List.filter_cons, if_pos (by rw [Bool.and_eq_true, decide_eq_true_eq, decide_eq_true_eq]; omega), List.filter_nil, List.length_singleton]
        omega
    · rw [filter_range_len f t h n (by omega), List.filter_cons, if_neg (by rw [Bool.and_eq_true, decide_eq_true_eq, decide_eq_true_eq]; omega)]
      simp
end Go.Proofs.YtichgkeglgagfaaDoor
