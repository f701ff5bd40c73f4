/- Bits in words: the plain mathematics (no program). -/
import Derived.Laws.BitsAllLaws
import Derived.Lib.TrailingZeros
namespace Go.Proofs.YtichgkeglgagfaaDoor

def low (n : Int) : Nat := 2 ^ (min n.toNat 32) - 1
def ndiff (a b : Nat) : Nat := a &&& (4294967295 - b)
def dig (k f t : Int) : Nat := ndiff (low (t - 32 * k)) (low (f - 32 * k))
def wd (ws : List Nat) (k : Nat) : Nat := ws.getD k 0
def bit (ws : List Nat) (i : Nat) : Bool := (wd ws (i / 32)).testBit (i % 32)
def W32 (ws : List Nat) : Prop := ∀ x ∈ ws, x < 4294967296

theorem low_lt (n : Int) : low n < 4294967296 := by
  unfold low
  have : 2 ^ (min n.toNat 32) ≤ 2 ^ 32 := Nat.pow_le_pow_right (by decide) (Nat.min_le_right _ _)
  have h0 : 0 < 2 ^ (min n.toNat 32) := Nat.two_pow_pos _
  omega
theorem low_bit (n : Int) (j : Nat) : (low n).testBit j = decide (j < min n.toNat 32) := Nat.testBit_two_pow_sub_one _ _
theorem comp_bit (b j : Nat) (h : b < 4294967296) : (4294967295 - b).testBit j = (decide (j < 32) && !b.testBit j) := by
  have := Nat.testBit_two_pow_sub_succ (n := 32) (x := b) h j
  rwa [show 2 ^ 32 - (b + 1) = 4294967295 - b by omega] at this
theorem ndiff_bit (a b j : Nat) (h : b < 4294967296) : (ndiff a b).testBit j = (a.testBit j && (decide (j < 32) && !b.testBit j)) := by
  unfold ndiff; rw [Nat.testBit_and, comp_bit b j h]
theorem ndiff_lt (a b : Nat) : ndiff a b < 4294967296 := by
  unfold ndiff
  exact Nat.and_lt_two_pow a (n := 32) (by omega)
theorem dig_lt (k f t : Int) : dig k f t < 4294967296 := ndiff_lt _ _
theorem dig_bit (k f t : Int) (j : Nat) : (dig k f t).testBit j = decide (j < 32 ∧ f ≤ 32 * k + j ∧ 32 * k + j < t) := by
  unfold dig
  rw [ndiff_bit _ _ _ (low_lt _), low_bit, low_bit, Bool.eq_iff_iff]
  simp only [Bool.and_eq_true, Bool.not_eq_true', decide_eq_true_eq, decide_eq_false_iff_not]
  omega
theorem ge32 {x j : Nat} (h : x < 4294967296) (hj : 32 ≤ j) : x.testBit j = false := Nat.testBit_lt_two_pow (Nat.lt_of_lt_of_le h (Nat.pow_le_pow_right (n := 2) (by decide) hj))
theorem wd_lt {ws : List Nat} (h : W32 ws) (k : Nat) : wd ws k < 4294967296 := by
  unfold wd
  rw [List.getD_eq_getElem?_getD]
  cases hk : ws[k]? with
  | none => simp
  | some x => exact h x (List.mem_of_getElem? hk)
theorem bit_word (ws : List Nat) (k j : Nat) (hj : j < 32) : bit ws (32 * k + j) = (wd ws k).testBit j := by
  unfold bit
  rw [show (32 * k + j) / 32 = k by omega, show (32 * k + j) % 32 = j by omega]

/-- Two lists of words with the same bits are one. -/
theorem ext_bits {xs ys : List Nat} (hl : xs.length = ys.length) (hx : W32 xs) (hy : W32 ys) (h : ∀ i, i < 32 * xs.length → bit xs i = bit ys i) : xs = ys := by
  apply List.ext_getElem hl
  intro k h1 h2
  apply Nat.eq_of_testBit_eq
  intro j
  have e1 : xs[k] = wd xs k := by simp [wd, h1]
  have e2 : ys[k] = wd ys k := by simp [wd, h2]
  rw [e1, e2]
  by_cases hj : j < 32
  · rw [← bit_word _ _ _ hj, ← bit_word _ _ _ hj]; exact h _ (by omega)
  · rw [ge32 (wd_lt hx k) (by omega), ge32 (wd_lt hy k) (by omega)]

/-! ### right -/
def rightB (N : Int) (ws : List Nat) : Bool :=
  decide (0 ≤ N) && decide (N ≤ 20000) && decide ((ws.length : Int) = (N + 31) / 32) && (List.range (32 * ws.length)).all (fun i => decide ((i : Int) < N) || !bit ws i)
structure Right (N : Int) (ws : List Nat) : Prop where
  n0 : 0 ≤ N
  n1 : N ≤ 20000
  len : (ws.length : Int) = (N + 31) / 32
  off : ∀ i, i < 32 * ws.length → N ≤ i → bit ws i = false
theorem right_iff (N : Int) (ws : List Nat) : rightB N ws = true ↔ Right N ws := by
  unfold rightB
  simp only [Bool.and_eq_true, decide_eq_true_eq, List.all_eq_true, List.mem_range, Bool.or_eq_true, Bool.not_eq_true']
  constructor
  · rintro ⟨⟨⟨a, b⟩, c⟩, d⟩
    exact ⟨a, b, c, fun i hi hn => (d i hi).resolve_left (by omega)⟩
  · rintro ⟨a, b, c, d⟩
    exact ⟨⟨⟨a, b⟩, c⟩, fun i hi => by
      by_cases hn : (i : Int) < N
      · exact .inl hn
      · exact .inr (d i hi (by omega))⟩
theorem Right.b {N : Int} {ws : List Nat} (h : Right N ws) : rightB N ws = true := (right_iff N ws).2 h
theorem not_right {N : Int} {ws : List Nat} (h : ¬ Right N ws) : rightB N ws = false := by
  rw [Bool.eq_false_iff]; exact fun h' => h ((right_iff N ws).1 h')
/-- The program looks at the last word alone. -/
theorem right_last {N : Int} {ws : List Nat} (h0 : 0 ≤ N) (h1 : N ≤ 20000) (hl : (ws.length : Int) = (N + 31) / 32) (hp : 0 < ws.length) :
    rightB N ws = (ndiff (wd ws (ws.length - 1)) (dig ((ws.length : Int) - 1) 0 N) == 0) := by
  rw [Bool.eq_iff_iff, right_iff, beq_iff_eq]
  constructor
  · intro h
    apply Nat.eq_of_testBit_eq
    intro j
    rw [ndiff_bit _ _ _ (dig_lt _ _ _), dig_bit, Nat.zero_testBit]
    by_cases hj : j < 32
    · by_cases hn : ((32 * (ws.length - 1) + j : Nat) : Int) < N
      · simp [hj]; intro _; omega
      · rw [← bit_word _ _ _ hj, h.off _ (by omega) (by omega)]; rfl
    · simp [hj]
  · intro h
    refine ⟨h0, h1, hl, fun i hi hn => ?_⟩
    have h2 := congrArg (fun x => Nat.testBit x (i % 32)) h
    simp only [ndiff_bit _ _ _ (dig_lt _ _ _), dig_bit, Nat.zero_testBit] at h2
    have e : i / 32 = ws.length - 1 := by omega
    unfold bit
    rw [e]
    have h3 : decide (i % 32 < 32 ∧ (0 : Int) ≤ 32 * ((ws.length : Int) - 1) + (i % 32 : Nat) ∧ 32 * ((ws.length : Int) - 1) + (i % 32 : Nat) < N) = false := by
      rw [decide_eq_false_iff_not]; omega
    rw [h3] at h2
    simpa [Nat.mod_lt] using h2

/-! ### turning places -/
def turnW (f t : Int) (on : Bool) (ws : List Nat) : List Nat := ws.mapIdx fun k x => if on then x ||| dig k f t else ndiff x (dig k f t)
theorem turn_len (f t : Int) (on : Bool) (ws : List Nat) : (turnW f t on ws).length = ws.length := by simp [turnW]
theorem turn_wd (f t : Int) (on : Bool) (ws : List Nat) (k : Nat) (hk : k < ws.length) : wd (turnW f t on ws) k = if on then wd ws k ||| dig k f t else ndiff (wd ws k) (dig k f t) := by
  simp [wd, turnW, hk]
theorem turn_bit (f t : Int) (on : Bool) {ws : List Nat} (i : Nat) (hi : i < 32 * ws.length) : bit (turnW f t on ws) i = if f ≤ i ∧ (i : Int) < t then on else bit ws i := by
  have hk : i / 32 < ws.length := by omega
  have e : (32 : Int) * (i / 32 : Nat) + (i % 32 : Nat) = i := by omega
  have hm : i % 32 < 32 := Nat.mod_lt _ (by decide)
  unfold bit
  rw [turn_wd _ _ _ _ _ hk]
  cases on
  · simp only [Bool.false_eq_true, if_false]
    rw [ndiff_bit _ _ _ (dig_lt _ _ _), dig_bit, e]
    by_cases h : f ≤ i ∧ (i : Int) < t
    · rw [if_pos h]; simp [h, hm]
    · rw [if_neg h]; simp [h, hm]
  · simp only [if_true]
    rw [Nat.testBit_or, dig_bit, e]
    by_cases h : f ≤ i ∧ (i : Int) < t
    · rw [if_pos h]; simp [h, hm]
    · rw [if_neg h]; simp [h, hm]
theorem W32_mapIdx {ws : List Nat} {g : Nat → Nat → Nat} (h : ∀ k x, x ∈ ws → g k x < 4294967296) : W32 (ws.mapIdx g) := by
  intro x hx
  obtain ⟨k, hk, rfl⟩ := List.mem_mapIdx.1 hx
  exact h _ _ (List.getElem_mem _)
theorem turn_W32 (f t : Int) (on : Bool) {ws : List Nat} (h : W32 ws) : W32 (turnW f t on ws) := W32_mapIdx fun k x hx => by
  cases on
  · exact ndiff_lt _ _
  · exact Nat.or_lt_two_pow (n := 32) (h x hx) (dig_lt _ _ _)
theorem turn_right {N f t : Int} (on : Bool) {ws : List Nat} (h : Right N ws) (ht : t ≤ N) : Right N (turnW f t on ws) :=
  ⟨h.n0, h.n1, by rw [turn_len]; exact h.len, fun i hi hn => by
    rw [turn_len] at hi
    rw [turn_bit f t on i hi, if_neg (by omega)]; exact h.off i hi hn⟩
theorem turn_none {f t : Int} (on : Bool) {ws : List Nat} (h : W32 ws) (hft : t ≤ f) : turnW f t on ws = ws :=
  ext_bits (turn_len _ _ _ _) (turn_W32 _ _ _ h) h fun i hi => by rw [turn_len] at hi; rw [turn_bit f t on i hi, if_neg (by omega)]

/-- A word's place put. -/
theorem testBit_add_pow {x j : Nat} (h : x.testBit j = false) (i : Nat) : (x + 2 ^ j).testBit i = if i = j then true else x.testBit i := by
  have hx : x = 2 ^ (j + 1) * (x / 2 ^ (j + 1)) + x % 2 ^ (j + 1) := (Nat.div_add_mod _ _).symm
  have hr : x % 2 ^ (j + 1) < 2 ^ j := by
    have h1 : x % 2 ^ (j + 1) < 2 ^ (j + 1) := Nat.mod_lt _ (Nat.two_pow_pos _)
    rw [Nat.testBit_eq_decide_div_mod_eq, decide_eq_false_iff_not] at h
    have h2 : x % 2 ^ (j + 1) / 2 ^ j = x / 2 ^ j % 2 := by rw [Nat.pow_succ, Nat.mod_mul_right_div_self]
    have h3 : x % 2 ^ (j + 1) / 2 ^ j = 0 := by omega
    have := Nat.div_eq_zero_iff.1 h3
    have hp := Nat.two_pow_pos j
    omega
  generalize x / 2 ^ (j + 1) = q at hx
  generalize x % 2 ^ (j + 1) = r at hx hr
  subst hx
  have e1 : 2 ^ (j + 1) * q + r + 2 ^ j = 2 ^ (j + 1) * q + (2 ^ j + r) := by omega
  have hr' : 2 ^ j + r < 2 ^ (j + 1) := by rw [Nat.pow_succ]; omega
  rw [e1, Nat.testBit_two_pow_mul_add _ hr', Nat.testBit_two_pow_mul_add _ (Nat.lt_trans hr (Nat.pow_lt_pow_right (by decide) (Nat.lt_succ_self j)))]
  by_cases hi : i < j + 1
  · simp only [hi, if_true]
    by_cases hij : i = j
    · subst hij; simp [Nat.testBit_two_pow_add_eq, Nat.testBit_lt_two_pow hr]
    · rw [if_neg hij, Nat.testBit_two_pow_add_gt (by omega)]
  · simp only [hi, if_false]
    rw [if_neg (by omega)]
theorem pow_le_of_bit {x j : Nat} (h : x.testBit j = true) : 2 ^ j ≤ x := Nat.ge_two_pow_of_testBit h
theorem testBit_sub_pow {x j : Nat} (h : x.testBit j = true) (i : Nat) : (x - 2 ^ j).testBit i = if i = j then false else x.testBit i := by
  have hle := pow_le_of_bit h
  have h0 : (x - 2 ^ j).testBit j = false := by
    cases hb : (x - 2 ^ j).testBit j with
    | false => rfl
    | true =>
      have : x = 2 ^ j + (x - 2 ^ j) := by omega
      rw [this, Nat.testBit_two_pow_add_eq, hb] at h
      cases h
  have := testBit_add_pow h0 i
  rw [show x - 2 ^ j + 2 ^ j = x by omega] at this
  by_cases hij : i = j
  · subst hij; rw [if_pos rfl]; exact h0
  · rw [if_neg hij] at this ⊢; exact this.symm
theorem bit_set {ws : List Nat} {k v : Nat} (hk : k < ws.length) (i : Nat) : bit (ws.set k v) i = if i / 32 = k then v.testBit (i % 32) else bit ws i := by
  unfold bit wd
  rw [List.getD_eq_getElem?_getD, List.getD_eq_getElem?_getD, List.getElem?_set]
  by_cases h : i / 32 = k
  · subst h; simp [hk]
  · rw [if_neg h, if_neg (fun e => h e.symm)]
theorem W32_set {ws : List Nat} {k v : Nat} (h : W32 ws) (hv : v < 4294967296) : W32 (ws.set k v) := fun x hx => by
  rcases List.mem_or_eq_of_mem_set hx with h1 | h1
  · exact h x h1
  · omega
/-- A word's value with a place put is no greater than a word. -/
theorem lt32_of_bits {x : Nat} (h : ∀ j, 32 ≤ j → x.testBit j = false) : x < 4294967296 := by
  apply Nat.lt_pow_two_of_testBit (n := 32)
  exact h
theorem add_lt {x j : Nat} (hx : x < 4294967296) (hj : j < 32) (h : x.testBit j = false) : x + 2 ^ j < 4294967296 := lt32_of_bits fun i hi => by
  rw [testBit_add_pow h, if_neg (by omega)]; exact ge32 hx hi
/-- One place more of a fill: nothing to do. -/
theorem turn_step_same {f : Int} {i : Nat} {on : Bool} {ws : List Nat} (hw : W32 ws) (hi : i < 32 * ws.length) (_hf : f ≤ i) (h : bit (turnW f i on ws) i = on) : turnW f ((i + 1 : Nat) : Int) on ws = turnW f i on ws :=
  ext_bits (by rw [turn_len, turn_len]) (turn_W32 _ _ _ hw) (turn_W32 _ _ _ hw) fun j hj => by
    rw [turn_len] at hj
    rw [turn_bit _ _ _ _ hj, turn_bit _ _ _ _ hj]
    by_cases hji : j = i
    · subst hji
      rw [turn_bit _ _ _ _ hi] at h
      rw [h, if_pos (by omega)]
    · by_cases h1 : f ≤ j ∧ (j : Int) < i
      · rw [if_pos h1, if_pos (by omega)]
      · rw [if_neg h1, if_neg (by omega)]
theorem turn_step_set {f : Int} {i : Nat} {on : Bool} {ws : List Nat} (hw : W32 ws) (hi : i < 32 * ws.length) (hf : f ≤ i) {v : Nat} (hv : v < 4294967296)
    (h : ∀ j, v.testBit j = if j = i % 32 then on else (wd (turnW f i on ws) (i / 32)).testBit j) : turnW f ((i + 1 : Nat) : Int) on ws = (turnW f i on ws).set (i / 32) v :=
  ext_bits (by rw [turn_len, List.length_set, turn_len]) (turn_W32 _ _ _ hw) (W32_set (turn_W32 _ _ _ hw) hv) fun j hj => by
    rw [turn_len] at hj
    rw [turn_bit _ _ _ _ hj, bit_set (by rw [turn_len]; omega)]
    by_cases hk : j / 32 = i / 32
    · rw [if_pos hk, h]
      by_cases hji : j % 32 = i % 32
      · rw [if_pos hji, if_pos (by omega)]
      · rw [if_neg hji, ← hk]
        have := turn_bit f i on j hj
        unfold bit at this
        rw [this]
        by_cases h1 : f ≤ j ∧ (j : Int) < i
        · rw [if_pos h1, if_pos (by omega)]
        · rw [if_neg h1, if_neg (by omega)]; rfl
    · rw [if_neg hk, turn_bit _ _ _ _ hj]
      by_cases h1 : f ≤ j ∧ (j : Int) < i
      · rw [if_pos h1, if_pos (by omega)]
      · rw [if_neg h1, if_neg (by omega)]

/-! ### joining -/
def joinW (xs ys : List Nat) : List Nat := xs.mapIdx fun k x => x ||| wd ys k
theorem join_len (xs ys : List Nat) : (joinW xs ys).length = xs.length := by simp [joinW]
theorem join_wd (xs ys : List Nat) (k : Nat) (hk : k < xs.length) : wd (joinW xs ys) k = wd xs k ||| wd ys k := by simp [wd, joinW, hk]
theorem join_bit {xs : List Nat} (ys : List Nat) (i : Nat) (hi : i < 32 * xs.length) : bit (joinW xs ys) i = (bit xs i || bit ys i) := by
  unfold bit
  rw [join_wd _ _ _ (by omega), Nat.testBit_or]
theorem join_W32 {xs ys : List Nat} (hx : W32 xs) (hy : W32 ys) : W32 (joinW xs ys) := W32_mapIdx fun k x h => Nat.or_lt_two_pow (n := 32) (hx x h) (wd_lt hy k)
theorem join_right {N : Int} {xs ys : List Nat} (h : Right N xs) (k : Right N ys) : Right N (joinW xs ys) :=
  ⟨h.n0, h.n1, by rw [join_len]; exact h.len, fun i hi hn => by
    rw [join_len] at hi
    rw [join_bit ys i hi, h.off i hi hn, k.off i (by have := h.len; have := k.len; omega) hn]; rfl⟩
theorem join_comm {xs ys : List Nat} (hl : xs.length = ys.length) (hx : W32 xs) (hy : W32 ys) : joinW xs ys = joinW ys xs :=
  ext_bits (by rw [join_len, join_len]; exact hl) (join_W32 hx hy) (join_W32 hy hx) fun i hi => by
    rw [join_len] at hi
    rw [join_bit _ _ hi, join_bit _ _ (by omega), Bool.or_comm]
theorem join_self {xs : List Nat} (hx : W32 xs) : joinW xs xs = xs :=
  ext_bits (join_len _ _) (join_W32 hx hx) hx fun i hi => by rw [join_len] at hi; rw [join_bit _ _ hi, Bool.or_self]

/-! ### zeros -/
theorem zeros_W32 (m : Nat) : W32 (List.replicate m 0) := fun x hx => by rw [(List.mem_replicate.1 hx).2]; decide
theorem zeros_bit (m i : Nat) : bit (List.replicate m 0) i = false := by
  unfold bit wd
  rw [List.getD_eq_getElem?_getD, List.getElem?_replicate]
  split <;> simp
theorem zeros_right {N : Int} (h0 : 0 ≤ N) (h1 : N ≤ 20000) : Right N (List.replicate ((N + 31) / 32).toNat 0) := ⟨h0, h1, by simp; omega, fun i _ _ => zeros_bit _ _⟩
end Go.Proofs.YtichgkeglgagfaaDoor
