/- Descriptors' texts: numbers in decimal digits, the text of a descriptor, and what is read off it: pure. -/
import Derived.Test.YtgmpcinlkiiboaaGreatDoorBt
namespace Go.Proofs.YtgmpcinlkiiboaaGreatDoor
open Go

/-- A descriptor. -/
structure DescR where
  size : Int
  ptrs : List Int
  elem : Int
  eptrs : List Int
deriving DecidableEq
/-- Are places multiples of 4, rising, less than a size? -/
def risF (size : Int) : Int → List Int → Bool
  | _, [] => true
  | last, x :: r => decide (0 ≤ x) && decide (x % 4 = 0) && decide (x < size) && decide (last < x) && risF size x r
def risB (l : List Int) (size : Int) : Bool := risF size (-1) l
def rightB (d : DescR) : Bool :=
  decide (0 ≤ d.size) && decide (d.size ≤ 1024) && decide (d.size % 4 = 0) && decide (0 ≤ d.elem) && decide (d.elem ≤ 256) && decide (d.elem % 4 = 0) && risB d.ptrs d.size && risB d.eptrs d.elem
theorem risF_le {size : Int} : ∀ {l : List Int} {last : Int}, risF size last l = true → ∀ x ∈ l, 0 ≤ x ∧ x < size
  | [], _, _, x, hx => by simp at hx
  | y :: r, last, h, x, hx => by
    simp only [risF, Bool.and_eq_true, decide_eq_true_eq] at h
    rcases List.mem_cons.1 hx with rfl | hx
    · exact ⟨h.1.1.1.1, h.1.1.2⟩
    · exact risF_le h.2 x hx

/-- A digit. -/
def dg (k : Nat) : UInt8 := UInt8.ofNat (48 + k)
/-- The digits of a number. -/
def numS (n : Nat) : List UInt8 := if _h : n < 10 then [dg n] else numS (n / 10) ++ [dg (n % 10)]
termination_by n
decreasing_by omega
def isDig (c : UInt8) : Bool := decide (48 ≤ c.toNat) && decide (c.toNat ≤ 57)
def partS (size : Nat) (l : List Nat) : List UInt8 := numS size ++ 58 :: l.flatMap fun x => 32 :: numS x
def textS (d : DescR) : List UInt8 := partS d.size.toNat (d.ptrs.map Int.toNat) ++ 59 :: 32 :: partS d.elem.toNat (d.eptrs.map Int.toNat)
/-- One byte more of a text whose numbers are read off. -/
def numStep (st : List Nat × Bool) (c : UInt8) : List Nat × Bool :=
  if isDig c then (if st.2 then (st.1.dropLast ++ [min (10 * st.1.getLastD 0 + (c.toNat - 48)) 10000], true) else (st.1 ++ [c.toNat - 48], true)) else (st.1, false)
def nums (s : List UInt8) : List Nat := (s.foldl numStep ([], false)).1

theorem dig_of (k : Nat) (h : k < 10) : isDig (dg k) = true ∧ (dg k).toNat - 48 = k := by
  have : (dg k).toNat = 48 + k := by unfold dg; rw [UInt8.toNat_ofNat']; omega
  unfold isDig
  rw [this]
  simp
  omega
theorem numS_fold (out : List Nat) : ∀ n, n ≤ 10000 → (numS n).foldl numStep (out, false) = (out ++ [n], true) := by
  intro n
  induction n using Nat.strongRecOn with
  | _ n ih =>
    intro hn
    unfold numS
    split
    · rename_i h
      obtain ⟨h1, h2⟩ := dig_of n h
      simp [numStep, h1, h2]
    · rename_i h
      obtain ⟨h1, h2⟩ := dig_of (n % 10) (by omega)
      rw [List.foldl_append, ih (n / 10) (by omega) (by omega)]
      simp only [List.foldl_cons, List.foldl_nil, numStep, h1, h2, if_true]
      rw [List.dropLast_concat, List.getLastD_concat]
      congr 3
      omega
theorem flat_fold : ∀ (l : List Nat) (out : List Nat) (b : Bool), (∀ x ∈ l, x ≤ 10000) → ∃ b', (l.flatMap fun x => 32 :: numS x).foldl numStep (out, b) = (out ++ l, b')
  | [], out, b, _ => ⟨b, by simp⟩
  | x :: r, out, b, h => by
    have h32 : numStep (out, b) 32 = (out, false) := by simp [numStep, isDig]
    simp only [List.flatMap_cons, List.foldl_append, List.foldl_cons, h32]
    rw [numS_fold out x (h x (by simp))]
    obtain ⟨b', e⟩ := flat_fold r (out ++ [x]) true (fun y hy => h y (by simp [hy]))
    exact ⟨b', by rw [e]; simp⟩
theorem part_fold (size : Nat) (l out : List Nat) (hs : size ≤ 10000) (h : ∀ x ∈ l, x ≤ 10000) : ∃ b', (partS size l).foldl numStep (out, false) = (out ++ size :: l, b') := by
  have h58 : numStep (out ++ [size], true) 58 = (out ++ [size], false) := by simp [numStep, isDig]
  unfold partS
  rw [List.foldl_append, numS_fold out size hs, List.foldl_cons, h58]
  obtain ⟨b', e⟩ := flat_fold l (out ++ [size]) false h
  exact ⟨b', by rw [e]; simp⟩
theorem numS_dig : ∀ n, ∀ c ∈ numS n, isDig c = true := by
  intro n
  induction n using Nat.strongRecOn with
  | _ n ih =>
    unfold numS
    split
    · rename_i h
      intro c hc
      simp at hc
      rw [hc]; exact (dig_of n h).1
    · rename_i h
      intro c hc
      rcases List.mem_append.1 hc with hc | hc
      · exact ih (n / 10) (by omega) c hc
      · simp at hc
        rw [hc]; exact (dig_of (n % 10) (by omega)).1
theorem part_no59 (size : Nat) (l : List Nat) : ∀ c ∈ partS size l, c ≠ 59 := by
  have hd : ∀ n, ∀ c ∈ numS n, c ≠ 59 := fun n c hc e => by have := numS_dig n c hc; rw [e] at this; simp [isDig] at this
  intro c hc
  unfold partS at hc
  rcases List.mem_append.1 hc with hc | hc
  · exact hd _ c hc
  · rcases List.mem_cons.1 hc with rfl | hc
    · decide
    · obtain ⟨x, _, hx⟩ := List.mem_flatMap.1 hc
      rcases List.mem_cons.1 hx with rfl | hx
      · decide
      · exact hd _ c hx
/-- The text ahead of the first ';', and the one from it on. -/
def cutAt : List UInt8 → Option (List UInt8 × List UInt8)
  | [] => none
  | c :: r => if c = 59 then some ([], c :: r) else (cutAt r).map fun p => (c :: p.1, p.2)
theorem cutAt_of : ∀ (s r : List UInt8), (∀ c ∈ s, c ≠ 59) → cutAt (s ++ 59 :: r) = some (s, 59 :: r)
  | [], r, _ => by simp [cutAt]
  | c :: s, r, h => by
    have h1 : ¬ c = 59 := h c (by simp)
    simp [cutAt, h1, cutAt_of s r (fun c' hc => h c' (by simp [hc]))]
/-- What a text is read as: roughly, and held against its own text. -/
def parseP (s : List UInt8) : Option DescR :=
  match cutAt s with
  | none => none
  | some (u, v) =>
    match nums u, nums v with
    | x :: xs, y :: ys =>
      let d : DescR := ⟨x, xs.map Int.ofNat, y, ys.map Int.ofNat⟩
      if rightB d && textS d == s then some d else none
    | _, _ => none
theorem map_back {l : List Int} (h : ∀ x ∈ l, 0 ≤ x) : (l.map Int.toNat).map Int.ofNat = l := by
  rw [List.map_map]
  conv => rhs; rw [← List.map_id l]
  exact List.map_congr_left fun x hx => by have := h x hx; show ((x.toNat : Nat) : Int) = x; omega
theorem parse_text (d : DescR) (h : rightB d = true) : parseP (textS d) = some d := by
  have hr := h
  simp only [rightB, Bool.and_eq_true, decide_eq_true_eq] at hr
  obtain ⟨⟨⟨⟨⟨⟨⟨h1, h2⟩, h3⟩, h4⟩, h5⟩, h6⟩, h7⟩, h8⟩ := hr
  have g1 := risF_le h7
  have g2 := risF_le h8
  have c := cutAt_of (partS d.size.toNat (d.ptrs.map Int.toNat)) (32 :: partS d.elem.toNat (d.eptrs.map Int.toNat)) (part_no59 _ _)
  have e1 : nums (partS d.size.toNat (d.ptrs.map Int.toNat)) = d.size.toNat :: d.ptrs.map Int.toNat := by
    obtain ⟨b, e⟩ := part_fold d.size.toNat (d.ptrs.map Int.toNat) [] (by omega) (fun x hx => by obtain ⟨y, hy, rfl⟩ := List.mem_map.1 hx; have := g1 y hy; omega)
    unfold nums; rw [e]; rfl
  have e2 : nums (59 :: 32 :: partS d.elem.toNat (d.eptrs.map Int.toNat)) = d.elem.toNat :: d.eptrs.map Int.toNat := by
    obtain ⟨b, e⟩ := part_fold d.elem.toNat (d.eptrs.map Int.toNat) [] (by omega) (fun x hx => by obtain ⟨y, hy, rfl⟩ := List.mem_map.1 hx; have := g2 y hy; omega)
    have s1 : numStep ([], false) 59 = ([], false) := by simp [numStep, isDig]
    have s2 : numStep ([], false) 32 = ([], false) := by simp [numStep, isDig]
    unfold nums
    rw [List.foldl_cons, s1, List.foldl_cons, s2, e]; rfl
  have hd : (⟨((d.size.toNat : Nat) : Int), (d.ptrs.map Int.toNat).map Int.ofNat, ((d.elem.toNat : Nat) : Int), (d.eptrs.map Int.toNat).map Int.ofNat⟩ : DescR) = d := by
    rw [map_back (fun x hx => (g1 x hx).1), map_back (fun x hx => (g2 x hx).1), Int.toNat_of_nonneg h1, Int.toNat_of_nonneg h4]
  unfold parseP
  rw [show textS d = partS d.size.toNat (d.ptrs.map Int.toNat) ++ 59 :: 32 :: partS d.elem.toNat (d.eptrs.map Int.toNat) from rfl, c]
  simp only [e1, e2]
  rw [hd, h]
  simp [textS]
theorem parse_some {s : List UInt8} {d : DescR} (h : parseP s = some d) : rightB d = true ∧ textS d = s := by
  unfold parseP at h
  split at h
  · cases h
  · split at h
    · simp only at h
      split at h
      · rename_i hh
        cases h
        simpa using hh
      · cases h
    · cases h
/-- A text is read as a descriptor just if it is that one's, and that one is right. -/
theorem parse_iff (s : List UInt8) (d : DescR) : parseP s = some d ↔ rightB d = true ∧ textS d = s :=
  ⟨parse_some, fun ⟨h1, h2⟩ => h2 ▸ parse_text d h1⟩
theorem parse_none (s : List UInt8) : parseP s = none ↔ ∀ d, rightB d = true → textS d ≠ s := by
  constructor
  · intro h d h1 h2
    rw [← h2, parse_text d h1] at h
    cases h
  · intro h
    cases hp : parseP s with
    | none => rfl
    | some d => exact absurd (parse_some hp).2 (h d (parse_some hp).1)
/-- The text of a descriptor, if it is right. -/
def textV (d : DescR) : List UInt8 := if rightB d then textS d else []
def textE (d : DescR) : Int := if rightB d then 0 else 40
end Go.Proofs.YtgmpcinlkiiboaaGreatDoor
