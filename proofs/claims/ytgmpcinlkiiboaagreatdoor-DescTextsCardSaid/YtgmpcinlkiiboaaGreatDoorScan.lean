/- desc: what its reader reads, pure: numbers, signs, parts; it reads just descriptors' texts. -/
import Derived.Test.YtgmpcinlkiiboaaGreatDoorText
namespace Go.Proofs.YtgmpcinlkiiboaaGreatDoor
open Go
def scan : Nat → Nat → List UInt8 → Option (Nat × List UInt8)
  | N, k, [] => if k = 0 then none else some (N, [])
  | N, k, c :: r => if isDig c then (if (0 < k ∧ N = 0) ∨ 1024 < N then none else scan (10 * N + (c.toNat - 48)) (k + 1) r) else (if k = 0 then none else some (N, c :: r))
abbrev St := List UInt8 × Bool
def numberQ (st : St) : Nat × St := match scan 0 0 st.1 with | some (n, r) => (n, (r, st.2)) | none => (0, ([], true))
def hasQ (g s : List UInt8) : Bool := g.isPrefixOf s
def mustQ (g : List UInt8) (st : St) : St := if hasQ g st.1 then (st.1.drop g.length, st.2) else ([], true)
def loopQ : Nat → List Nat → St → List Nat × St
  | 0, l, st => (l, st)
  | f + 1, l, st => if hasQ [32] st.1 then loopQ f (l ++ [(numberQ (st.1.drop 1, st.2)).1]) (numberQ (st.1.drop 1, st.2)).2 else (l, st)
def partQ (st : St) : Nat × List Nat × St := ((numberQ st).1, loopQ (numberQ st).1 [] (mustQ [58] (numberQ st).2))
def readQ1 (s : List UInt8) : Nat × List Nat × St := partQ (s, false)
def readQ2 (s : List UInt8) : Nat × List Nat × St := partQ (mustQ [59, 32] (readQ1 s).2.2)
def readD (s : List UInt8) : DescR := ⟨(readQ1 s).1, (readQ1 s).2.1.map Int.ofNat, (readQ2 s).1, (readQ2 s).2.1.map Int.ofNat⟩
def readF (s : List UInt8) : Bool := (readQ2 s).2.2.2 || !(readQ2 s).2.2.1.isEmpty

theorem dig_byte {c : UInt8} (h : isDig c = true) : ∃ k, k < 10 ∧ c = dg k ∧ c.toNat - 48 = k ∧ c.toNat = 48 + k := by
  simp only [isDig, Bool.and_eq_true, decide_eq_true_eq] at h
  refine ⟨c.toNat - 48, by omega, ?_, rfl, by omega⟩
  unfold dg
  rw [show 48 + (c.toNat - 48) = c.toNat by omega]
  exact (UInt8.ofNat_toNat).symm
theorem numS_lt {n : Nat} (h : n < 10) : numS n = [dg n] := by rw [numS, dif_pos h]
theorem numS_ge {n : Nat} (h : ¬ n < 10) : numS n = numS (n / 10) ++ [dg (n % 10)] := by rw [numS, dif_neg h]
theorem scan_sound : ∀ (s : List UInt8) (N k : Nat) (p : List UInt8) (n : Nat) (r : List UInt8), (k = 0 → p = [] ∧ N = 0) → (0 < k → p = numS N) → scan N k s = some (n, r) → p ++ s = numS n ++ r
  | [], N, k, p, n, r, h0, h1, h => by
    simp only [scan] at h
    split at h
    · cases h
    · rename_i hk
      cases h
      rw [h1 (by omega)]
  | c :: s, N, k, p, n, r, h0, h1, h => by
    simp only [scan] at h
    split at h
    · rename_i hd
      split at h
      · cases h
      · rename_i hc
        obtain ⟨q, hq, rfl, hq2, _⟩ := dig_byte hd
        rw [hq2] at h
        have := scan_sound s (10 * N + q) (k + 1) (p ++ [dg q]) n r (fun h => by omega) (fun _ => ?_) h
        · simpa using this
        · rcases Nat.eq_zero_or_pos k with hk | hk
          · obtain ⟨rfl, rfl⟩ := h0 hk
            rw [show 10 * 0 + q = q by omega, numS_lt hq]; rfl
          · have hN : N ≠ 0 := fun e => hc (.inl ⟨hk, e⟩)
            rw [numS_ge (by omega : ¬ 10 * N + q < 10), show (10 * N + q) / 10 = N by omega, show (10 * N + q) % 10 = q by omega, h1 hk]
    · split at h
      · cases h
      · rename_i hk
        cases h
        rw [h1 (by omega)]
theorem scan_num (t : List UInt8) : ∀ n, n ≤ 10249 → ∃ k, 0 < k ∧ scan 0 0 (numS n ++ t) = scan n k t := by
  intro n
  induction n using Nat.strongRecOn generalizing t with
  | _ n ih =>
    intro hn
    by_cases h : n < 10
    · obtain ⟨d1, d2⟩ := dig_of n h
      refine ⟨1, by decide, ?_⟩
      rw [numS_lt h]
      simp [scan, d1, d2]
    · obtain ⟨d1, d2⟩ := dig_of (n % 10) (by omega)
      obtain ⟨k, hk, e⟩ := ih (n / 10) (by omega) ([dg (n % 10)] ++ t) (by omega)
      refine ⟨k + 1, by omega, ?_⟩
      rw [numS_ge h, List.append_assoc, e]
      simp only [List.singleton_append, scan, d1, d2, if_true]
      rw [if_neg (by omega), show 10 * (n / 10) + n % 10 = n by omega]
/-- No digit is next. -/
def NoDig (r : List UInt8) : Prop := ∀ c t, r = c :: t → isDig c = false
theorem num_c {n : Nat} {r : List UInt8} (hn : n ≤ 1024) (hr : NoDig r) (f : Bool) : numberQ (numS n ++ r, f) = (n, (r, f)) := by
  obtain ⟨k, hk, e⟩ := scan_num r n (by omega)
  have : scan 0 0 (numS n ++ r) = some (n, r) := by
    rw [e]
    cases r with
    | nil => simp only [scan]; rw [if_neg (by omega)]
    | cons c t =>
      simp only [scan, hr c t rfl]
      rw [if_neg (by simp), if_neg (by omega)]
  unfold numberQ
  simp only [this]
theorem has_app (g r : List UInt8) : hasQ g (g ++ r) = true := by unfold hasQ; simp
theorem has_of {g s : List UInt8} (h : hasQ g s = true) : s = g ++ s.drop g.length := by
  unfold hasQ at h
  obtain ⟨t, rfl⟩ := List.isPrefixOf_iff_prefix.1 h
  simp
theorem must_c (g r : List UInt8) (f : Bool) : mustQ g (g ++ r, f) = (r, f) := by
  unfold mustQ
  simp only [has_app, if_true]
  simp
theorem has32_no {r : List UInt8} (h : ∀ t, r ≠ 32 :: t) : hasQ [32] r = false := by
  cases hh : hasQ [32] r
  · rfl
  · have := has_of hh
    exact absurd this (h _)
theorem loop_c {r : List UInt8} (hd : NoDig r) (hr : ∀ t, r ≠ 32 :: t) : ∀ (e : List Nat) (f : Nat) (l : List Nat), e.length ≤ f → (∀ x ∈ e, x ≤ 1024) → loopQ f l ((e.flatMap fun x => 32 :: numS x) ++ r, false) = (l ++ e, (r, false))
  | [], 0, l, _, _ => by simp [loopQ]
  | [], f + 1, l, _, _ => by simp [loopQ, has32_no hr]
  | x :: e, 0, l, h, _ => by simp at h
  | x :: e, f + 1, l, h, hx => by
    have hn : NoDig ((e.flatMap fun x => 32 :: numS x) ++ r) := by
      cases e with
      | nil => simpa using hd
      | cons y e => intro c t hc; simp at hc; rw [← hc.1]; decide
    have e1 : hasQ [32] (((x :: e).flatMap fun x => 32 :: numS x) ++ r) = true := by
      rw [List.flatMap_cons, List.cons_append, List.cons_append]; exact has_app [32] _
    have e2 : (((x :: e).flatMap fun x => 32 :: numS x) ++ r).drop 1 = numS x ++ ((e.flatMap fun x => 32 :: numS x) ++ r) := by simp
    simp only [loopQ, e1, if_true, e2]
    rw [num_c (hx x (by simp)) hn]
    rw [loop_c hd hr e f (l ++ [x]) (by simpa using h) (fun y hy => hx y (by simp [hy]))]
    simp
theorem part_c {r : List UInt8} (hd : NoDig r) (hr : ∀ t, r ≠ 32 :: t) (size : Nat) (l : List Nat) (hs : size ≤ 1024) (hl : l.length ≤ size) (hx : ∀ x ∈ l, x ≤ 1024) : partQ (partS size l ++ r, false) = (size, l, (r, false)) := by
  unfold partQ partS
  have e : numberQ ((numS size ++ 58 :: l.flatMap fun x => 32 :: numS x) ++ r, false) = (size, ([58] ++ ((l.flatMap fun x => 32 :: numS x) ++ r), false)) := by
    rw [List.append_assoc, num_c hs (fun c t h => by simp at h; rw [← h.1]; decide)]
    rfl
  rw [e]
  simp only
  rw [must_c, loop_c hd hr l size [] hl hx]
  rfl
theorem num_s {st : St} (h : (numberQ st).2.2 = false) : st.2 = false ∧ st.1 = numS (numberQ st).1 ++ (numberQ st).2.1 := by
  unfold numberQ at h ⊢
  split at h
  · rename_i n r hs
    have := scan_sound st.1 0 0 [] n r (fun _ => ⟨rfl, rfl⟩) (fun h => absurd h (by decide)) hs
    simp only [List.nil_append] at this
    exact ⟨h, this⟩
  · cases h
theorem must_s {g : List UInt8} {st : St} (h : (mustQ g st).2 = false) : st.2 = false ∧ st.1 = g ++ (mustQ g st).1 := by
  unfold mustQ at h ⊢
  split at h
  · rename_i hh
    rw [if_pos hh]
    exact ⟨h, has_of hh⟩
  · cases h
theorem loop_s : ∀ (f : Nat) (l : List Nat) (st : St), (loopQ f l st).2.2 = false → st.2 = false ∧ ∃ e, (loopQ f l st).1 = l ++ e ∧ st.1 = (e.flatMap fun x => 32 :: numS x) ++ (loopQ f l st).2.1
  | 0, l, st, h => ⟨h, [], by simp [loopQ]⟩
  | f + 1, l, st, h => by
    by_cases hh : hasQ [32] st.1 = true
    · simp only [loopQ, hh, if_true] at h ⊢
      obtain ⟨h1, e, h2, h3⟩ := loop_s f _ _ h
      obtain ⟨h4, h5⟩ := num_s h1
      have h6 := has_of hh
      refine ⟨h4, (numberQ (st.1.drop 1, st.2)).1 :: e, by rw [h2]; simp, ?_⟩
      have h7 : [32] ++ st.1.drop 1 = [32] ++ (numS (numberQ (st.1.drop 1, st.2)).1 ++ ((e.flatMap fun x => 32 :: numS x) ++ (loopQ f (l ++ [(numberQ (st.1.drop 1, st.2)).1]) (numberQ (st.1.drop 1, st.2)).2).2.1)) := congrArg ([32] ++ ·) (h5.trans (congrArg (numS (numberQ (st.1.drop 1, st.2)).1 ++ ·) h3))
      exact h6.trans (h7.trans (by rw [List.flatMap_cons]; simp))
    · simp only [loopQ, hh] at h ⊢
      exact ⟨h, [], by simp⟩
theorem part_s {st : St} (h : (partQ st).2.2.2 = false) : st.2 = false ∧ st.1 = partS (partQ st).1 (partQ st).2.1 ++ (partQ st).2.2.1 := by
  unfold partQ at h ⊢
  simp only at h ⊢
  obtain ⟨h1, e, h2, h3⟩ := loop_s _ _ _ h
  obtain ⟨h4, h5⟩ := must_s h1
  obtain ⟨h6, h7⟩ := num_s h4
  refine ⟨h6, ?_⟩
  rw [h2, List.nil_append]
  unfold partS
  rw [h7, h5, h3]
  simp
theorem text_of {s : List UInt8} (h : readF s = false) : textS (readD s) = s := by
  unfold readF at h
  rw [Bool.or_eq_false_iff] at h
  obtain ⟨h1, h2⟩ := part_s h.1
  obtain ⟨h3, h4⟩ := must_s h1
  obtain ⟨h5, h6⟩ := part_s h3
  have he : (readQ2 s).2.2.1 = [] := by simpa using h.2
  have e1 : ∀ l : List Nat, (l.map Int.ofNat).map Int.toNat = l := fun l => by
    rw [List.map_map]
    conv => rhs; rw [← List.map_id l]
    exact List.map_congr_left fun x _ => rfl
  have e2 : s = partS (readQ1 s).1 (readQ1 s).2.1 ++ (readQ1 s).2.2.1 := h6
  have e3 : (readQ1 s).2.2.1 = [59, 32] ++ (mustQ [59, 32] (readQ1 s).2.2).1 := h4
  have e4 : (mustQ [59, 32] (readQ1 s).2.2).1 = partS (readQ2 s).1 (readQ2 s).2.1 ++ (readQ2 s).2.2.1 := h2
  conv => rhs; rw [e2, e3, e4, he]
  unfold textS readD
  simp only [e1, Int.toNat_natCast]
  simp
theorem read_of {d : DescR} (h : rightB d = true) (hl : d.ptrs.length ≤ d.size.toNat) (hl2 : d.eptrs.length ≤ d.elem.toNat) : readF (textS d) = false ∧ readD (textS d) = d := by
  have hr := h
  simp only [rightB, Bool.and_eq_true, decide_eq_true_eq] at hr
  obtain ⟨⟨⟨⟨⟨⟨⟨h1, h2⟩, h3⟩, h4⟩, h5⟩, h6⟩, h7⟩, h8⟩ := hr
  have g1 := risF_le h7
  have g2 := risF_le h8
  have q1 : readQ1 (textS d) = (d.size.toNat, d.ptrs.map Int.toNat, (59 :: 32 :: partS d.elem.toNat (d.eptrs.map Int.toNat), false)) := by
    unfold readQ1 textS
    exact part_c (fun c t hc => by simp at hc; rw [← hc.1]; decide) (fun t hc => by injection hc with h0; exact absurd h0 (by decide)) _ _ (by omega) (by simpa using hl) (fun x hx => by obtain ⟨y, hy, rfl⟩ := List.mem_map.1 hx; have := g1 y hy; omega)
  have q2 : readQ2 (textS d) = (d.elem.toNat, d.eptrs.map Int.toNat, ([], false)) := by
    unfold readQ2
    rw [q1]
    simp only
    rw [show (59 :: 32 :: partS d.elem.toNat (d.eptrs.map Int.toNat)) = [59, 32] ++ partS d.elem.toNat (d.eptrs.map Int.toNat) from rfl, must_c]
    have := part_c (r := []) (fun c t hc => by cases hc) (fun t hc => by cases hc) d.elem.toNat (d.eptrs.map Int.toNat) (by omega) (by simpa using hl2) (fun x hx => by obtain ⟨y, hy, rfl⟩ := List.mem_map.1 hx; have := g2 y hy; omega)
    rwa [List.append_nil] at this
  constructor
  · unfold readF; rw [q2]; rfl
  · unfold readD
    rw [q1, q2]
    simp only
    rw [map_back (fun x hx => (g1 x hx).1), map_back (fun x hx => (g2 x hx).1), Int.toNat_of_nonneg h1, Int.toNat_of_nonneg h4]
end Go.Proofs.YtgmpcinlkiiboaaGreatDoor
