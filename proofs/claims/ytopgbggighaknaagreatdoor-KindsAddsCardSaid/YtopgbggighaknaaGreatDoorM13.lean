/- Joined texts, in their order: Kinds, Lines, DRow, RFind, RRight. -/
import Derived.Test.YtopgbggighaknaaGreatDoorM05
import Derived.Lib.Strings
import Derived.Lib.Bytealg
import Derived.Test.YtopgbggighaknaaGreatDoorM03
import Derived.Test.YtopgbggighaknaaGreatDoorM06
/- Kinds: lists of descriptors, their numbers, their text, and what is read off it, line by line: pure. -/
namespace Go.Proofs.YtopgbggighaknaaGreatDoor
open Go
/-- The number of the first that is the same; 0: none is. -/
def findK : List DescR → DescR → Nat
  | [], _ => 0
  | x :: l, d => if x = d then 1 else if findK l d = 0 then 0 else findK l d + 1
/-- Are they kinds? ahead: those that stand ahead of them. -/
def freshK : List DescR → List DescR → Bool
  | _, [] => true
  | ahead, d :: l => !decide (d ∈ ahead) && rightB d && freshK (ahead ++ [d]) l
def rightK (l : List DescR) : Bool := freshK [] l && decide (l.length ≤ 60)
/-- Their text. -/
def textK (l : List DescR) : List UInt8 := l.flatMap fun d => textS d ++ [10]
theorem findK_zero (d : DescR) : ∀ l, findK l d = 0 ↔ d ∉ l
  | [] => by simp [findK]
  | x :: l => by
    have ih := findK_zero d l
    unfold findK
    by_cases h : x = d
    · simp [h]
    · rw [if_neg h]
      by_cases h0 : findK l d = 0
      · rw [if_pos h0]; simp [Ne.symm h, ih.1 h0]
      · rw [if_neg h0]
        have : d ∈ l := by
          cases Classical.em (d ∈ l) with
          | inl h => exact h
          | inr h => exact absurd (ih.2 h) h0
        simp [this]
theorem findK_le (d : DescR) : ∀ l, findK l d ≤ l.length
  | [] => by simp [findK]
  | x :: l => by
    have ih := findK_le d l
    unfold findK
    split
    · simp
    · split
      · omega
      · simp; omega
theorem findK_at (d : DescR) : ∀ (l : List DescR) (k : Nat), findK l d = k + 1 → l[k]? = some d
  | [], k, h => by simp [findK] at h
  | x :: l, k, h => by
    unfold findK at h
    split at h
    · rename_i e; obtain rfl : k = 0 := by omega
      simp [e]
    · split at h
      · omega
      · obtain ⟨j, rfl⟩ : ∃ j, k = j + 1 := ⟨k - 1, by omega⟩
        rw [List.getElem?_cons_succ]; exact findK_at d l j (by omega)
theorem freshK_iff : ∀ (l ahead : List DescR), freshK ahead l = true ↔ (∀ d ∈ l, rightB d = true ∧ d ∉ ahead) ∧ l.Nodup
  | [], _ => by simp [freshK]
  | d :: l, ahead => by
    simp only [freshK, Bool.and_eq_true, freshK_iff l (ahead ++ [d])]
    simp
    constructor
    · rintro ⟨⟨h1, h2⟩, h3, h4⟩
      exact ⟨⟨⟨h2, h1⟩, fun x hx => ⟨(h3 x hx).1, (h3 x hx).2.1⟩⟩, fun hd => (h3 d hd).2.2 rfl, h4⟩
    · rintro ⟨⟨⟨h1, h2⟩, h3⟩, h4, h5⟩
      exact ⟨⟨h2, h1⟩, fun x hx => ⟨(h3 x hx).1, (h3 x hx).2, fun e => h4 (e ▸ hx)⟩, h5⟩
theorem rightK_iff (l : List DescR) : rightK l = true ↔ (∀ d ∈ l, rightB d = true) ∧ l.Nodup ∧ l.length ≤ 60 := by
  simp [rightK, freshK_iff, and_assoc]
/-- .. by what stands ahead of each. -/
theorem freshK_app : ∀ (l ahead : List DescR) (d : DescR), freshK ahead (l ++ [d]) = (freshK ahead l && (!decide (d ∈ ahead ++ l) && rightB d))
  | [], ahead, d => by simp [freshK]
  | x :: l, ahead, d => by
    simp only [List.cons_append, freshK, freshK_app l (ahead ++ [x]) d, List.append_assoc, Bool.and_assoc, List.nil_append]
/-- One round of reading a text: what has been read, the line's number, what is left; or the end. -/
inductive RdK where
  | done (l : List DescR)
  | bad (line : Nat) (e : Int)
deriving DecidableEq
/-- The first line, without its end, and what stands behind that. -/
def lineK (s : List UInt8) : List UInt8 × Option (List UInt8) :=
  match s with
  | [] => ([], none)
  | c :: r => if c = 10 then ([], some r) else (c :: (lineK r).1, (lineK r).2)
theorem lineK_less : ∀ (s r : List UInt8), (lineK s).2 = some r → r.length < s.length
  | [], r, h => by simp [lineK] at h
  | c :: s, r, h => by
    unfold lineK at h
    split at h
    · simp at h; subst h; simp
    · have := lineK_less s r h; simp; omega
theorem lineK_of : ∀ (s r : List UInt8), (∀ c ∈ s, c ≠ 10) → lineK (s ++ 10 :: r) = (s, some r)
  | [], r, _ => by simp [lineK]
  | c :: s, r, h => by
    have h1 : ¬ c = 10 := h c (by simp)
    rw [List.cons_append, lineK, if_neg h1, lineK_of s r (fun x hx => h x (by simp [hx]))]
theorem lineK_back : ∀ (s r : List UInt8), (lineK s).2 = some r → s = (lineK s).1 ++ 10 :: r ∧ ∀ c ∈ (lineK s).1, c ≠ 10
  | [], r, h => by simp [lineK] at h
  | c :: s, r, h => by
    unfold lineK at h ⊢
    split at h
    · rename_i e; simp at h; subst h; simp [e]
    · rename_i e
      obtain ⟨h1, h2⟩ := lineK_back s r h
      rw [if_neg e]
      refine ⟨by show c :: s = c :: ((lineK s).1 ++ 10 :: r); rw [← h1], fun x hx => ?_⟩
      rcases List.mem_cons.1 hx with rfl | hx
      · exact e
      · exact h2 x hx
/-- What is read off a text behind those that are read, line lines on. -/
def readK (out : List DescR) (line : Nat) (s : List UInt8) : RdK :=
  if s = [] then .done out else
  match _h : (lineK s).2, parseP (lineK s).1 with
  | some r, some d => if d ∈ out then .bad (line + 1) 52 else if out.length = 60 then .bad (line + 1) 53 else readK (out ++ [d]) (line + 1) r
  | _, _ => .bad (line + 1) 40
termination_by s.length
decreasing_by exact lineK_less s r (by assumption)
theorem text_no10 (d : DescR) : ∀ c ∈ textS d, c ≠ 10 := by
  intro c hc e
  subst e
  have hd : ∀ n, (10 : UInt8) ∉ numS n := fun n h => by have := numS_dig n 10 h; revert this; decide
  have hp : ∀ n (l : List Nat), (10 : UInt8) ∉ partS n l := fun n l h => by
    unfold partS at h
    rcases List.mem_append.1 h with h | h
    · exact hd _ h
    · rcases List.mem_cons.1 h with h | h
      · revert h; decide
      · obtain ⟨x, _, hx⟩ := List.mem_flatMap.1 h
        rcases List.mem_cons.1 hx with h | h
        · revert h; decide
        · exact hd _ h
  unfold textS at hc
  rcases List.mem_append.1 hc with h | h
  · exact hp _ _ h
  · rcases List.mem_cons.1 h with h | h
    · revert h; decide
    · rcases List.mem_cons.1 h with h | h
      · revert h; decide
      · exact hp _ _ h
theorem readK_step (out : List DescR) (line : Nat) (d : DescR) (r : List UInt8) (hd : rightB d = true) (h1 : d ∉ out) (h2 : out.length < 60) : readK out line (textS d ++ 10 :: r) = readK (out ++ [d]) (line + 1) r := by
  have hl := lineK_of (textS d) r (text_no10 d)
  rw [readK, if_neg (by simp)]
  split
  · rename_i r' d' e1 e2
    rw [hl] at e1 e2
    rw [parse_text d hd] at e2
    obtain rfl : r = r' := by simpa using e1
    obtain rfl : d = d' := by simpa using e2
    rw [if_neg h1, if_neg (by omega)]
  · rename_i h
    exact absurd (by rw [hl]; exact parse_text d hd) (h r d (by rw [hl]))
theorem readK_text : ∀ (l out : List DescR) (line : Nat), freshK out l = true → out.length + l.length ≤ 60 → readK out line (textK l) = .done (out ++ l)
  | [], out, line, _, _ => by rw [readK, if_pos (by simp [textK])]; simp
  | d :: l, out, line, h, hn => by
    simp only [freshK, Bool.and_eq_true] at h
    have e : textK (d :: l) = textS d ++ 10 :: textK l := by simp [textK]
    rw [e, readK_step out line d _ h.1.2 (by simpa using h.1.1) (by simp at hn; omega), readK_text l (out ++ [d]) (line + 1) h.2 (by simp at hn ⊢; omega)]
    simp
theorem readK_done : ∀ (n : Nat) (s : List UInt8), s.length ≤ n → ∀ (out : List DescR) (line : Nat) (l : List DescR), readK out line s = .done l → out.length ≤ 60 → ∃ m, l = out ++ m ∧ textK m = s ∧ freshK out m = true ∧ l.length ≤ 60 := by
  intro n
  induction n with
  | zero =>
    intro s hs out line l h ho
    obtain rfl : s = [] := List.length_eq_zero_iff.1 (by omega)
    rw [readK, if_pos rfl] at h
    cases h
    exact ⟨[], by simp, rfl, rfl, ho⟩
  | succ n ih =>
    intro s hs out line l h ho
    rw [readK] at h
    split at h
    · rename_i e; subst e; cases h; exact ⟨[], by simp, rfl, rfl, ho⟩
    · split at h
      · rename_i r d e1 e2
        split at h
        · cases h
        · rename_i h1
          split at h
          · cases h
          · rename_i h2
            have hb := lineK_back s r e1
            have hlt := lineK_less s r e1
            obtain ⟨m, rfl, e3, e4, e5⟩ := ih r (by omega) _ _ _ h (by simp; omega)
            obtain ⟨p1, p2⟩ := parse_some e2
            refine ⟨d :: m, by simp, ?_, ?_, e5⟩
            · rw [show textK (d :: m) = textS d ++ 10 :: textK m by simp [textK], e3, p2]; exact hb.1.symm
            · simp only [freshK, Bool.and_eq_true]; exact ⟨⟨by simpa using h1, p1⟩, e4⟩
      · cases h
theorem readK_bad : ∀ (n : Nat) (s : List UInt8), s.length ≤ n → ∀ (out : List DescR) (line k : Nat) (e : Int), readK out line s = .bad k e → 0 < k ∧ (e = 40 ∨ e = 52 ∨ e = 53) := by
  intro n
  induction n with
  | zero =>
    intro s hs out line k e h
    obtain rfl : s = [] := List.length_eq_zero_iff.1 (by omega)
    rw [readK, if_pos rfl] at h
    cases h
  | succ n ih =>
    intro s hs out line k e h
    rw [readK] at h
    split at h
    · cases h
    · split at h
      · rename_i r d e1 e2
        split at h
        · cases h; exact ⟨by omega, by omega⟩
        · split at h
          · cases h; exact ⟨by omega, by omega⟩
          · have hlt := lineK_less s r e1
            exact ih r (by omega) _ _ _ _ h
      · cases h; exact ⟨by omega, by omega⟩
end Go.Proofs.YtopgbggighaknaaGreatDoor
/- A text's lines, as the program goes through them; what is read off a line: pure. -/
namespace Go.Proofs.YtopgbggighaknaaGreatDoor
open Go
theorem lineK_none : ∀ (s : List UInt8), (lineK s).2 = none → (lineK s).1 = s ∧ ∀ c ∈ s, c ≠ 10
  | [], _ => ⟨rfl, fun c h => by cases h⟩
  | c :: s, h => by
    unfold lineK at h ⊢
    split at h
    · cases h
    · rename_i e
      obtain ⟨h1, h2⟩ := lineK_none s h
      rw [if_neg e]
      refine ⟨by show c :: (lineK s).1 = c :: s; rw [h1], fun x hx => ?_⟩
      rcases List.mem_cons.1 hx with rfl | hx
      · exact e
      · exact h2 x hx
/-- The first line, with its end, and what stands behind it. -/
def nextL (s : List UInt8) : List UInt8 × List UInt8 :=
  match (lineK s).2 with
  | some r => ((lineK s).1 ++ [10], r)
  | none => (s, [])
theorem nextL_some {s r : List UInt8} (h : (lineK s).2 = some r) : nextL s = ((lineK s).1 ++ [10], r) := by unfold nextL; rw [h]
theorem nextL_none {s : List UInt8} (h : (lineK s).2 = none) : nextL s = (s, []) := by unfold nextL; rw [h]
theorem nextL_nil : nextL [] = ([], []) := rfl
theorem nextL_app (s : List UInt8) : (nextL s).1 ++ (nextL s).2 = s := by
  cases h : (lineK s).2 with
  | some r =>
    rw [nextL_some h]
    show (lineK s).1 ++ [10] ++ r = s
    rw [List.append_assoc]
    exact (lineK_back s r h).1.symm
  | none => rw [nextL_none h]; simp
theorem nextL_less (s : List UInt8) (h : s ≠ []) : (nextL s).2.length < s.length := by
  cases h2 : (lineK s).2 with
  | some r => rw [nextL_some h2]; exact lineK_less s r h2
  | none => rw [nextL_none h2]; exact List.length_pos_iff.2 h
def linesS (s : List UInt8) : List (List UInt8) := if _h : s = [] then [] else (nextL s).1 :: linesS (nextL s).2
termination_by s.length
decreasing_by exact nextL_less s _h
theorem linesS_nil : linesS [] = [] := by rw [linesS, dif_pos rfl]
theorem linesS_cons {s : List UInt8} (h : s ≠ []) : linesS s = (nextL s).1 :: linesS (nextL s).2 := by rw [linesS, dif_neg h]
/-- What is left behind k lines. -/
def restS (s : List UInt8) : Nat → List UInt8
  | 0 => s
  | k + 1 => (nextL (restS s k)).2
theorem lines_rest (s : List UInt8) : ∀ k, linesS (restS s k) = (linesS s).drop k
  | 0 => rfl
  | k + 1 => by
    have ih := lines_rest s k
    rw [← List.drop_drop (i := 1) (j := k), ← ih]
    show linesS (nextL (restS s k)).2 = _
    by_cases h : restS s k = []
    · rw [h, nextL_nil, linesS_nil]; rfl
    · rw [linesS_cons h]; rfl
theorem lines_get (s : List UInt8) (k : Nat) (h : restS s k ≠ []) : (linesS s)[k]? = some (nextL (restS s k)).1 := by
  have := lines_rest s k
  rw [linesS_cons h] at this
  have h2 := congrArg (fun l : List (List UInt8) => l[0]?) this
  simpa using h2.symm
theorem lines_end (s : List UInt8) (k : Nat) (h : restS s k = []) (hk : k ≤ (linesS s).length) : k = (linesS s).length := by
  have := lines_rest s k
  rw [h, linesS_nil] at this
  have := List.drop_eq_nil_iff.1 this.symm
  omega
theorem lines_lt (s : List UInt8) (k : Nat) (h : restS s k ≠ []) : k < (linesS s).length := (List.getElem?_eq_some_iff.1 (lines_get s k h)).1
theorem rest_len (s : List UInt8) : ∀ k, (restS s k).length ≤ s.length
  | 0 => Nat.le_refl _
  | k + 1 => by
    have ih := rest_len s k
    show (nextL (restS s k)).2.length ≤ _
    by_cases h : restS s k = []
    · rw [h, nextL_nil]; simp
    · have := nextL_less _ h; omega
theorem rest_less (s : List UInt8) (k : Nat) (h : restS s k ≠ []) : (restS s (k + 1)).length < (restS s k).length := nextL_less _ h
theorem line_len (s : List UInt8) : (nextL s).1.length ≤ s.length := by
  have := congrArg List.length (nextL_app s)
  rw [List.length_append] at this
  omega
theorem lines_mem {s t : List UInt8} (h : t ∈ linesS s) : t.length ≤ s.length := by
  obtain ⟨k, hk, e⟩ := List.mem_iff_getElem.1 h
  have hr : restS s k ≠ [] := fun e0 => by
    have h1 := lines_rest s k
    rw [e0, linesS_nil] at h1
    have := List.drop_eq_nil_iff.1 h1.symm
    omega
  have h2 := lines_get s k hr
  rw [List.getElem?_eq_getElem hk, e] at h2
  obtain rfl := Option.some.inj h2
  have := line_len (restS s k)
  have := rest_len s k
  omega
theorem lines_count (s : List UInt8) : (linesS s).length ≤ s.length := by
  have key : ∀ n (s : List UInt8), s.length ≤ n → (linesS s).length ≤ s.length := by
    intro n
    induction n with
    | zero => intro s hs; obtain rfl : s = [] := List.length_eq_zero_iff.1 (by omega); rw [linesS_nil]; simp
    | succ n ih =>
      intro s hs
      by_cases h : s = []
      · subst h; rw [linesS_nil]; simp
      · have h1 := nextL_less s h
        have h2 := ih (nextL s).2 (by omega)
        rw [linesS_cons h, List.length_cons]; omega
  exact key _ s (Nat.le_refl _)
theorem idx_some : ∀ (s r : List UInt8), (lineK s).2 = some r → Lib.indexByte s 10 = ((lineK s).1.length : Nat)
  | [], r, h => by simp [lineK] at h
  | c :: s, r, h => by
    unfold lineK at h ⊢
    unfold Lib.indexByte
    split at h
    · rename_i e; rw [if_pos e, if_pos (by simpa using e)]; rfl
    · rename_i e
      have ih := idx_some s r h
      rw [if_neg e, if_neg (by simpa using e), ih]
      rw [if_neg (by simp)]
      show _ = (((c :: (lineK s).1).length : Nat) : Int)
      rw [List.length_cons]; omega
theorem idx_none : ∀ (s : List UInt8), (lineK s).2 = none → Lib.indexByte s 10 = -1
  | [], _ => rfl
  | c :: s, h => by
    unfold lineK at h
    unfold Lib.indexByte
    split at h
    · cases h
    · rename_i e
      rw [if_neg (by simpa using e), idx_none s h]; rfl
theorem take_line (s r : List UInt8) (h : (lineK s).2 = some r) : s.take ((lineK s).1.length + 1) = (nextL s).1 ∧ s.drop ((lineK s).1.length + 1) = (nextL s).2 ∧ (lineK s).1.length + 1 ≤ s.length := by
  have e := (lineK_back s r h).1
  have e2 : s = ((lineK s).1 ++ [10]) ++ r := by rw [List.append_assoc]; exact e
  have hl : (lineK s).1.length + 1 = ((lineK s).1 ++ [10]).length := by simp
  rw [nextL_some h, hl]
  generalize (lineK s).1 ++ [10] = a at *
  subst e2
  simp
theorem suf_eq (s : List UInt8) : Lib.hasSuffix s [10] = decide (s.getLast? = some 10) := by
  unfold Lib.hasSuffix
  rw [Bool.eq_iff_iff, List.isSuffixOf_iff_suffix, decide_eq_true_iff]
  constructor
  · rintro ⟨t, rfl⟩; simp
  · intro h
    obtain ⟨t, rfl⟩ := List.getLast?_eq_some_iff.1 h
    exact ⟨t, rfl⟩
theorem trim_eq (s : List UInt8) (h : s.getLast? = some 10) : Lib.trimSuffix s [10] = s.dropLast := by
  unfold Lib.trimSuffix
  rw [suf_eq, decide_eq_true h, if_pos rfl, List.dropLast_eq_take]
  rfl
theorem trim_no (s : List UInt8) (h : s.getLast? ≠ some 10) : Lib.trimSuffix s [10] = s := by
  unfold Lib.trimSuffix
  rw [suf_eq, decide_eq_false h, if_neg (by decide)]
/-- What is wrong with a line behind those that are read, 0: nothing; what has been read with it. -/
def takeE (out : List DescR) (t : List UInt8) : Int :=
  if t.getLast? = some 10 then match parseP t.dropLast with
    | none => 40
    | some d => if d ∈ out then 52 else if out.length = 60 then 53 else 0
  else 40
def takeL (out : List DescR) (t : List UInt8) : List DescR :=
  match parseP t.dropLast with
  | none => out
  | some d => out ++ [d]
def readL (out : List DescR) (k : Nat) : List (List UInt8) → RdK
  | [] => .done out
  | t :: r => if takeE out t = 0 then readL (takeL out t) (k + 1) r else .bad (k + 1) (takeE out t)
theorem readL_eq : ∀ (n : Nat) (s : List UInt8), s.length ≤ n → ∀ (out : List DescR) (k : Nat), readL out k (linesS s) = readK out k s := by
  intro n
  induction n with
  | zero =>
    intro s hs out k
    obtain rfl : s = [] := List.length_eq_zero_iff.1 (by omega)
    rw [linesS_nil, readK, if_pos rfl]; rfl
  | succ n ih =>
    intro s hs out k
    by_cases h : s = []
    · subst h; rw [linesS_nil, readK, if_pos rfl]; rfl
    · rw [linesS_cons h, readK, if_neg h, readL]
      have hlt := nextL_less s h
      cases h2 : (lineK s).2 with
      | none =>
        have hn := lineK_none s h2
        have hE : takeE out (nextL s).1 = 40 := by
          rw [nextL_none h2, takeE, if_neg]
          intro h10
          obtain ⟨t, ht⟩ := List.getLast?_eq_some_iff.1 h10
          exact hn.2 10 (by rw [show s = t ++ [10] from ht]; simp) rfl
        rw [hE, if_neg (by decide)]
      | some r =>
        have h10 : ((nextL s).1).getLast? = some 10 := by rw [nextL_some h2]; simp
        have hd : ((nextL s).1).dropLast = (lineK s).1 := by rw [nextL_some h2]; simp
        have hr : (nextL s).2 = r := by rw [nextL_some h2]
        have hE : takeE out (nextL s).1 = match parseP (lineK s).1 with
          | none => 40
          | some d => if d ∈ out then 52 else if out.length = 60 then 53 else 0 := by rw [takeE, if_pos h10, hd]
        have hL : takeL out (nextL s).1 = match parseP (lineK s).1 with
          | none => out
          | some d => out ++ [d] := by rw [takeL, hd]
        rw [hE, hL, hr]
        cases hp : parseP (lineK s).1 with
        | none => simp
        | some d =>
          simp only
          by_cases h1 : d ∈ out
          · rw [if_pos h1, if_pos h1, if_neg (by decide)]
          · rw [if_neg h1, if_neg h1]
            by_cases h6 : out.length = 60
            · rw [if_pos h6, if_pos h6, if_neg (by decide)]
            · rw [if_neg h6, if_neg h6, if_pos rfl]
              exact ih r (by rw [hr] at hlt; omega) _ _
/-- One line on. -/
theorem takeL_len (out : List DescR) (t : List UInt8) : (takeL out t).length ≤ out.length + 1 := by
  unfold takeL
  split <;> simp
/-- What has been read behind k lines, if all of them were right. -/
def outS (s : List UInt8) : Nat → List DescR
  | 0 => []
  | k + 1 => match (linesS s)[k]? with
    | some t => takeL (outS s k) t
    | none => outS s k
/-- Its first k lines are right. -/
def okS (s : List UInt8) (k : Nat) : Prop := ∀ j t, j < k → (linesS s)[j]? = some t → takeE (outS s j) t = 0
theorem read_at (s : List UInt8) : ∀ k, okS s k → readL [] 0 (linesS s) = readL (outS s k) k ((linesS s).drop k)
  | 0, _ => rfl
  | k + 1, h => by
    rw [read_at s k (fun j t hj => h j t (by omega))]
    cases hg : (linesS s)[k]? with
    | none =>
      have h1 := List.getElem?_eq_none_iff.1 hg
      have e1 : (linesS s).drop k = [] := List.drop_eq_nil_iff.2 h1
      have e2 : (linesS s).drop (k + 1) = [] := List.drop_eq_nil_iff.2 (by omega)
      rw [e1, e2]
      simp only [readL, outS, hg]
    | some t =>
      have hk := (List.getElem?_eq_some_iff.1 hg).1
      have e1 : (linesS s).drop k = t :: (linesS s).drop (k + 1) := by
        rw [List.drop_eq_getElem_cons hk]
        rw [List.getElem?_eq_getElem hk] at hg
        rw [Option.some.inj hg]
      rw [e1, readL, if_pos (h k t (by omega) hg)]
      simp only [outS, hg]
/-- All lines are right: what is read. -/
theorem read_all (s : List UInt8) (h : okS s (linesS s).length) : readK [] 0 s = .done (outS s (linesS s).length) := by
  rw [← readL_eq _ s (Nat.le_refl _), read_at s _ h, List.drop_length]; rfl
/-- A line is wrong: the first one. -/
theorem read_stop (s : List UInt8) (k : Nat) (t : List UInt8) (h : okS s k) (ht : (linesS s)[k]? = some t) (hE : takeE (outS s k) t ≠ 0) : readK [] 0 s = .bad (k + 1) (takeE (outS s k) t) := by
  rw [← readL_eq _ s (Nat.le_refl _), read_at s k h]
  have hk := (List.getElem?_eq_some_iff.1 ht).1
  have e1 : (linesS s).drop k = t :: (linesS s).drop (k + 1) := by
    rw [List.drop_eq_getElem_cons hk]
    rw [List.getElem?_eq_getElem hk] at ht
    rw [Option.some.inj ht]
  rw [e1, readL, if_neg hE]
theorem okS_succ (s : List UInt8) (k : Nat) (t : List UInt8) (h : okS s k) (ht : (linesS s)[k]? = some t) (hE : takeE (outS s k) t = 0) : okS s (k + 1) := fun j t' hj hg => by
  rcases Nat.lt_or_ge j k with h1 | h1
  · exact h j t' h1 hg
  · obtain rfl : j = k := by omega
    rw [ht] at hg
    obtain rfl := Option.some.inj hg
    exact hE
/-- What is read is right, each, and no two are the same, and no more than sixty. -/
theorem takeE_ok {out : List DescR} {t : List UInt8} (h : takeE out t = 0) : ∃ d, t.getLast? = some 10 ∧ parseP t.dropLast = some d ∧ d ∉ out ∧ out.length ≠ 60 ∧ takeL out t = out ++ [d] := by
  unfold takeE at h
  split at h
  · rename_i h10
    split at h
    · cases h
    · rename_i d hp
      split at h
      · cases h
      · rename_i h1
        split at h
        · cases h
        · rename_i h6
          exact ⟨d, h10, hp, h1, h6, by unfold takeL; rw [hp]⟩
  · cases h
theorem outS_right (s : List UInt8) : ∀ k, okS s k → (∀ d ∈ outS s k, rightB d = true) ∧ (outS s k).length ≤ 60
  | 0, _ => ⟨fun d h => (by cases h), by simp [outS]⟩
  | k + 1, h => by
    obtain ⟨h1, h2⟩ := outS_right s k (fun j t hj => h j t (by omega))
    cases hg : (linesS s)[k]? with
    | none => simp only [outS, hg]; exact ⟨h1, h2⟩
    | some t =>
      obtain ⟨d, _, hp, _, h6, e⟩ := takeE_ok (h k t (by omega) hg)
      simp only [outS, hg, e]
      refine ⟨fun x hx => ?_, by simp; omega⟩
      rcases List.mem_append.1 hx with hx | hx
      · exact h1 x hx
      · obtain rfl : x = d := by simpa using hx
        exact (parse_some hp).1
end Go.Proofs.YtopgbggighaknaaGreatDoor
/- Rows of descriptors in memory: a row's raw cells, what its slices of ints read as. -/
namespace Go.Proofs.YtopgbggighaknaaGreatDoor
open Go.RowKit Go
/-- A descriptor's cells. -/
structure DRow where
  s : Int
  A : Option Addr
  n : Nat
  c : Nat
  t : Int
  B : Option Addr
  m : Nat
  e : Nat
instance : Inhabited DRow := ⟨⟨0, none, 0, 0, 0, none, 0, 0⟩⟩
def DRow.cells (x : DRow) : Array Value := #[.int .i64 x.s, .slice x.A x.n x.c, .int .i64 x.t, .slice x.B x.m x.e]
/-- They read as this descriptor. -/
structure Dn (W : World) (x : DRow) (d : DescR) : Prop where
  s : x.s = d.size
  t : x.t = d.elem
  p : Il W x.A x.n d.ptrs
  q : Il W x.B x.m d.eptrs
  pc : x.n ≤ x.c
  qc : x.m ≤ x.e
  pm : x.c ≤ 9223372036854775807
  qm : x.e ≤ 9223372036854775807
theorem Dn.ext {W W' : World} {x : DRow} {d : DescR} (h : Dn W x d) (k : Ext W W') : Dn W' x d := ⟨h.s, h.t, h.p.ext k, h.q.ext k, h.pc, h.qc, h.pm, h.qm⟩
/-- A nil slice of it has no cells to spare. -/
def Dz (x : DRow) : Prop := (x.A = none → x.n = 0 ∧ x.c = 0) ∧ (x.B = none → x.m = 0 ∧ x.e = 0)
def Zs (xs : List DRow) : Prop := ∀ (i : Nat) (x : DRow), xs[i]? = some x → Dz x
theorem Zs.snoc {ys : List DRow} (h : Zs ys) (y : DRow) (h1 : Dz y) : Zs (ys ++ [y]) := fun i x hx => by
  rcases Nat.lt_or_ge i ys.length with hi | hi
  · rw [List.getElem?_append_left hi] at hx; exact h i x hx
  · rw [List.getElem?_append_right hi] at hx
    have hm := List.mem_of_getElem? hx
    obtain rfl : x = y := by simpa using hm
    exact h1
theorem Dn.eq {W : World} {x : DRow} {d : DescR} (h : Dn W x d) : (⟨x.s, d.ptrs, x.t, d.eptrs⟩ : DescR) = d := by rw [h.s, h.t]
/-- The slice (A, n) holds the rows xs. -/
def RowsAt (W : World) (A : Option Addr) (n : Nat) (xs : List DRow) : Prop :=
  xs.length = n ∧ (0 < n → ∃ ad, A = some ad ∧ ad.block < W.heap.size ∧ ∀ i j, i < n → j < 4 → W.cell? (ad.add (i * 4 + j)) = (xs.getD i default).cells[j]?)
theorem RowsAt.ext {W W' : World} {A : Option Addr} {n : Nat} {xs : List DRow} (h : RowsAt W A n xs) (k : Ext W W') : RowsAt W' A n xs :=
  ⟨h.1, fun hn => by
    obtain ⟨ad, e, hb, hc⟩ := h.2 hn
    exact ⟨ad, e, Nat.lt_of_lt_of_le hb k.size, fun i j hi hj => (k.cell (p := ad.add _) (by rw [block_of_add]; exact hb)).trans (hc i j hi hj)⟩⟩
theorem add_pos (P : Addr) (j : Nat) (h : j ≠ 0) : P.add j = ⟨P.block, P.off + j, none⟩ := by unfold Addr.add; rw [if_neg h]
theorem add_of_add' (a : Addr) (i j : Nat) : (a.add i).add j = a.add (i + j) := by
  unfold Addr.add
  by_cases h1 : i = 0 <;> by_cases h2 : j = 0
  · simp [h1, h2]
  · simp [h1, h2]
  · simp [h1, h2]
  · have h3 : ¬ i + j = 0 := by omega
    simp [h1, h2, Nat.add_assoc]
/-- One row's cells, as a walk spells them. -/
theorem RowsAt.at_ {W : World} {A : Option Addr} {n : Nat} {xs : List DRow} (h : RowsAt W A n xs) {k : Nat} (hk : k < n) : ∃ ad x, A = some ad ∧ ad.block < W.heap.size ∧ xs[k]? = some x ∧
    W.cell? (ad.add (k * 4)) = some (.int .i64 x.s) ∧ W.cell? ⟨(ad.add (k * 4)).block, (ad.add (k * 4)).off + 1, none⟩ = some (.slice x.A x.n x.c) ∧ W.cell? ⟨(ad.add (k * 4)).block, (ad.add (k * 4)).off + 2, none⟩ = some (.int .i64 x.t) ∧ W.cell? ⟨(ad.add (k * 4)).block, (ad.add (k * 4)).off + 3, none⟩ = some (.slice x.B x.m x.e) := by
  obtain ⟨ad, e, hb, hc⟩ := h.2 (by omega)
  have hl : k < xs.length := by rw [h.1]; exact hk
  have hx : xs[k]? = some xs[k] := List.getElem?_eq_getElem hl
  have hd : xs.getD k default = xs[k] := by rw [List.getD, hx]; rfl
  have e0 := hc k 0 hk (by omega)
  have e1 := hc k 1 hk (by omega)
  have e2 := hc k 2 hk (by omega)
  have e3 := hc k 3 hk (by omega)
  rw [hd] at e0 e1 e2 e3
  rw [← add_of_add' ad (k * 4), add_pos _ _ (by decide)] at e1 e2 e3
  exact ⟨ad, xs[k], e, hb, hx, e0, e1, e2, e3⟩
/-- The slice holds rows that read as these descriptors. -/
def Dl (W : World) (A : Option Addr) (n : Nat) (xs : List DRow) (L : List DescR) : Prop := RowsAt W A n xs ∧ L.length = n ∧ ∀ (i : Nat) (x : DRow) (d : DescR), xs[i]? = some x → L[i]? = some d → Dn W x d
theorem Dl.ext {W W' : World} {A : Option Addr} {n : Nat} {xs : List DRow} {L : List DescR} (h : Dl W A n xs L) (k : Ext W W') : Dl W' A n xs L := ⟨h.1.ext k, h.2.1, fun i x d h1 h2 => (h.2.2 i x d h1 h2).ext k⟩
theorem Dl.at_ {W : World} {A : Option Addr} {n : Nat} {xs : List DRow} {L : List DescR} (h : Dl W A n xs L) {k : Nat} (hk : k < n) : ∃ ad x d, A = some ad ∧ ad.block < W.heap.size ∧ xs[k]? = some x ∧ L[k]? = some d ∧ Dn W x d ∧
    W.cell? (ad.add (k * 4)) = some (.int .i64 x.s) ∧ W.cell? ⟨(ad.add (k * 4)).block, (ad.add (k * 4)).off + 1, none⟩ = some (.slice x.A x.n x.c) ∧ W.cell? ⟨(ad.add (k * 4)).block, (ad.add (k * 4)).off + 2, none⟩ = some (.int .i64 x.t) ∧ W.cell? ⟨(ad.add (k * 4)).block, (ad.add (k * 4)).off + 3, none⟩ = some (.slice x.B x.m x.e) := by
  obtain ⟨ad, x, e, hb, hx, e0, e1, e2, e3⟩ := h.1.at_ hk
  have hd : L[k]? = some (L[k]'(by rw [h.2.1]; exact hk)) := List.getElem?_eq_getElem _
  exact ⟨ad, x, _, e, hb, hx, hd, h.2.2 k x _ hx hd, e0, e1, e2, e3⟩
/-- The first k of them. -/
theorem Dl.take {W : World} {A : Option Addr} {n : Nat} {xs : List DRow} {L : List DescR} (h : Dl W A n xs L) (k : Nat) (hk : k ≤ n) : Dl W A k (xs.take k) (L.take k) := by
  refine ⟨⟨by rw [List.length_take, h.1.1]; omega, fun hn => ?_⟩, by rw [List.length_take, h.2.1]; omega, fun i x d h1 h2 => ?_⟩
  · obtain ⟨ad, e, hb, hc⟩ := h.1.2 (by omega)
    refine ⟨ad, e, hb, fun i j hi hj => ?_⟩
    rw [hc i j (by omega) hj, List.getD, List.getD, List.getElem?_take, if_pos hi]
  · rw [List.getElem?_take] at h1 h2
    split at h1
    · rename_i hi
      rw [if_pos hi] at h2
      exact h.2.2 i x d h1 h2
    · cases h1
theorem findK_take (d : DescR) : ∀ (L : List DescR) (k : Nat), k < L.length → findK (L.take k) d = 0 → L[k]? = some d → findK L d = k + 1
  | [], k, hk, _, _ => by simp at hk
  | x :: L, 0, _, _, h => by simp at h; simp [findK, h]
  | x :: L, k + 1, hk, h0, h => by
    rw [List.take_succ_cons, findK] at h0
    split at h0
    · cases h0
    · rename_i hx
      split at h0
      · rename_i h1
        have := findK_take d L k (by simpa using hk) h1 (by simpa using h)
        unfold findK
        rw [if_neg hx, if_neg (by omega), this]
      · omega
theorem findK_next (d : DescR) (L : List DescR) (k : Nat) (hk : k < L.length) (h0 : findK (L.take k) d = 0) (hd : L[k]? ≠ some d) : findK (L.take (k + 1)) d = 0 := by
  rw [findK_zero] at h0 ⊢
  rw [List.take_add_one]
  intro h
  rcases List.mem_append.1 h with h | h
  · exact h0 h
  · have he : L[k]? = some L[k] := List.getElem?_eq_getElem hk
    rw [he] at h hd
    simp at h
    exact hd (by rw [h])
/-- A row that is appended to, of descriptors. -/
def flatD (xs : List DRow) : List Value := xs.flatMap fun x => x.cells.toList
theorem flatD_len (xs : List DRow) : (flatD xs).length = xs.length * 4 := by
  induction xs with
  | nil => rfl
  | cons x r ih => simp only [flatD, List.flatMap_cons, List.length_append, List.length_cons] at *; rw [ih]; simp [DRow.cells]; omega
theorem flatD_snoc (xs : List DRow) (x : DRow) : flatD (xs ++ [x]) = flatD xs ++ x.cells.toList := by simp [flatD]
theorem flatD_get (xs : List DRow) : ∀ i j, i < xs.length → j < 4 → (flatD xs)[i * 4 + j]? = (xs.getD i default).cells[j]? := by
  induction xs with
  | nil => intro i j hi; simp at hi
  | cons x r ih =>
    intro i j hi hj
    have hx : x.cells.toList.length = 4 := rfl
    simp only [flatD, List.flatMap_cons]
    rcases i with _ | i
    · rw [List.getElem?_append_left (by rw [hx]; omega)]
      simp
    · rw [List.getElem?_append_right (by rw [hx]; omega), hx, show (i + 1) * 4 + j - 4 = i * 4 + j by omega]
      exact ih i j (by simpa using hi) hj
theorem rows_of_own {W : World} {S : Nat} {v : Value} {n : Nat} {t : TypeId} {xs : List DRow} (h : W.ownsRow S t 4 v n (flatD xs)) (hl : xs.length = n) : ∃ A c, v = .slice A n c ∧ n ≤ c ∧ RowsAt W A n xs ∧ ∀ ad, A = some ad → S ≤ ad.block := by
  rcases h.2 with ⟨rfl, rfl⟩ | ⟨g, cap, cur, rfl, hb, hg, hn, hm, hs, ht⟩
  · exact ⟨none, 0, rfl, Nat.le_refl _, ⟨hl, fun h => absurd h (by omega)⟩, fun _ h => by cases h⟩
  · refine ⟨_, cap, rfl, by omega, ⟨hl, fun h0 => ⟨_, rfl, (show Blk W g cur _ from hg).lt, fun i j hi hj => ?_⟩⟩, fun ad h => by cases h; exact hb⟩
    have e : (⟨g, 0, none⟩ : Addr).add (i * 4 + j) = ⟨g, i * 4 + j, none⟩ := by
      unfold Addr.add
      split
      · rename_i h0; rw [h0]
      · simp
    rw [e, (show Blk W g cur _ from hg).cell, ← flatD_get xs i j (by omega) hj, ← ht, List.getElem?_take, if_pos (by omega)]
    simp
end Go.Proofs.YtopgbggighaknaaGreatDoor
/- selionref05: Find. -/
namespace Go.Proofs.YtopgbggighaknaaGreatDoor
open Go.RowKit Go
def Small (xs : List DRow) : Prop := ∀ (i : Nat) (x : DRow), xs[i]? = some x → x.n ≤ 1000 ∧ x.m ≤ 1000
section
set_option maxHeartbeats 4000000 in
set_option maxRecDepth 100000 in
theorem rfind_is (A : Option Addr) (n c : Nat) (xs : List DRow) (L : List DescR) (hn : n ≤ 1000000) (hs : Small xs) (A1 B1 : Option Addr) (n1 m1 c1 z1 : Nat) (s1 t1 : Int) (l1 r1 : List Int) (w : World) (h : Dl w A n xs L) (h1 : Il w A1 n1 l1) (h1' : Il w B1 m1 r1) :
    Calls Tryz.prog 16 #[.slice A n c, .agg #[.int .i64 s1, .slice A1 n1 c1, .int .i64 t1, .slice B1 m1 z1]] w fun e w' => e = .returned (.tuple #[.int .i64 ((findK L ⟨s1, l1, t1, r1⟩ : Nat) : Int), .bool (decide ((⟨s1, l1, t1, r1⟩ : DescR) ∈ L))]) ∧ Ext w w' := by
  have HE := Lib.hid (ext1 w (.cells #[.int .i64 s1, .slice A1 n1 c1, .int .i64 t1, .slice B1 m1 z1] 25))
  have HB := Lib.hid (Blk.new w #[.int .i64 s1, .slice A1 n1 c1, .int .i64 t1, .slice B1 m1 z1] 25)
  have H := Lib.hid (And.intro h (And.intro hs (And.intro h1 h1')))
  clear h hs h1 h1'
  go_enter Tryz.func16, Tryz.ntmps16
  go_wp2
  go_loopg [6] n (fun m i wr => ∃ k : Nat, k + m = n ∧ i = .int .i64 k ∧ findK (L.take k) ⟨s1, l1, t1, r1⟩ = 0 ∧ Ext (w.alloc (.cells #[.int .i64 s1, .slice A1 n1 c1, .int .i64 t1, .slice B1 m1 z1] 25)) wr)
  case atStart => exact ⟨0, by omega, rfl, rfl, Ext.refl _⟩
  case round =>
    obtain ⟨k, hk, rfl, hf, hE⟩ := hrel
    by_cases hlt : k < n
    · obtain ⟨ad, x, d, rfl, hb, hx, hd, hdn, e0, e1, e2, e3⟩ := (H.out.1.ext (Ext.trans HE.out hE)).at_ hlt
      have hsm := H.out.2.1 k x hx
      have RS := Lib.hid (fun W (hW : Ext wr W) => same_is x.A x.B x.n x.m x.c x.e x.s x.t d.ptrs d.eptrs (by omega) (by omega) A1 B1 n1 m1 c1 z1 s1 t1 l1 r1 W (hdn.p.ext hW) (hdn.q.ext hW) (H.out.2.2.1.ext (Ext.trans HE.out (Ext.trans hE hW))) (H.out.2.2.2.ext (Ext.trans HE.out (Ext.trans hE hW))))
      rw [hdn.eq] at RS
      have h5 : (k : Int) < n := by omega
      have h6 : (k : Int) + 1 ≤ 1000000 := by omega
      have a0 := on_cell e0
      have a1 := on_cell e1
      have a2 := on_cell e2
      have a3 := on_cell e3
      have b0 := on_cell ((HB.out.ext hE).cell 0)
      have b1 := on_cell ((HB.out.ext hE).cell 1)
      have b2 := on_cell ((HB.out.ext hE).cell 2)
      have b3 := on_cell ((HB.out.ext hE).cell 3)
      have hll : k < L.length := by rw [H.out.1.2.1]; exact hlt
      have HK := Lib.hid (And.intro hk (And.intro hE (And.intro hf (And.intro hd hll))))
      clear hk hE hf hd hll hsm hdn hx hb
      by_cases hdD : d = ⟨s1, l1, t1, r1⟩
      · have HN := Lib.hid (show Value.tuple #[.int .i64 ((k : Int) + 1), .bool true] = .tuple #[.int .i64 ((findK L ⟨s1, l1, t1, r1⟩ : Nat) : Int), .bool (decide ((⟨s1, l1, t1, r1⟩ : DescR) ∈ L))] by
          have hd := HK.out.2.2.2.1
          rw [hdD] at hd
          rw [findK_take _ L k HK.out.2.2.2.2 HK.out.2.2.1 hd, decide_eq_true (List.mem_of_getElem? hd)]; rfl)
        rw [decide_eq_true hdD] at RS
        clear hdD
        go_wp2
        refine wp_region_on (by kernel_rfl) (by kernel_rfl) ?_
        repeat (go_big_quiet_step (first | (go_at_call 20; with_reducible exact on_call (fun W hW => RS.out W hW) _)))
        refine wpQuiet_nil ?_
        intro W hW
        go_wp2
        go_ret2
        exact ⟨ret_val HN.out, Ext.trans HE.out (Ext.trans HK.out.2.1 hW)⟩
      · have HN := Lib.hid (findK_next ⟨s1, l1, t1, r1⟩ L k HK.out.2.2.2.2 HK.out.2.2.1 (by rw [HK.out.2.2.2.1]; intro e; exact hdD (Option.some.inj e)))
        rw [decide_eq_false hdD] at RS
        clear hdD
        go_wp2
        refine wp_region_on (by kernel_rfl) (by kernel_rfl) ?_
        repeat (go_big_quiet_step (first | (go_at_call 20; with_reducible exact on_call (fun W hW => RS.out W hW) _)))
        refine wpQuiet_nil ?_
        intro W hW
        go_wp2
        go_roundg (gk - 1)
        case measure => have := HK.out.1; omega
        case rel => exact ⟨k + 1, by have := HK.out.1; omega, by go_num, HN.out, Ext.trans HK.out.2.1 hW⟩
    · obtain rfl : k = n := by omega
      have h5 : ¬ (k : Int) < k := by omega
      have HN := Lib.hid (show Value.tuple #[.int .i64 0, .bool false] = .tuple #[.int .i64 ((findK L ⟨s1, l1, t1, r1⟩ : Nat) : Int), .bool (decide ((⟨s1, l1, t1, r1⟩ : DescR) ∈ L))] by
        rw [List.take_of_length_le (by rw [H.out.1.2.1]; exact Nat.le_refl _)] at hf
        rw [hf, decide_eq_false ((findK_zero _ _).1 hf)]; rfl)
      have HX := Lib.hid hE
      clear hE hf hk
      go_wp2
      go_ret2
      exact ⟨ret_val HN.out, Ext.trans HE.out HX.out⟩
end
end Go.Proofs.YtopgbggighaknaaGreatDoor
/- selionref05: Right, Same. -/
namespace Go.Proofs.YtopgbggighaknaaGreatDoor
open Go.RowKit Go
theorem fresh_take (L : List DescR) (j : Nat) (h : freshK [] L = true) : freshK [] (L.take j) = true := by
  rw [freshK_iff] at *
  exact ⟨fun d hd => h.1 d (List.mem_of_mem_take hd), h.2.sublist (List.take_sublist _ _)⟩
theorem fresh_step (L : List DescR) (k : Nat) (d : DescR) (hd : L[k]? = some d) : freshK [] (L.take (k + 1)) = (freshK [] (L.take k) && (!decide (d ∈ L.take k) && rightB d)) := by
  rw [List.take_add_one, hd]
  simp [freshK_app]
theorem fresh_bad (L : List DescR) (k : Nat) (d : DescR) (hd : L[k]? = some d) (h : (!decide (d ∈ L.take k) && rightB d) = false) : rightK L = false := by
  cases hf : freshK [] L with
  | false => simp [rightK, hf]
  | true =>
    have := fresh_take L (k + 1) hf
    rw [fresh_step L k d hd, h] at this
    simp at this
theorem Small.take {xs : List DRow} (h : Small xs) (k : Nat) : Small (xs.take k) := fun i x hx => by
  rw [List.getElem?_take] at hx
  split at hx
  · exact h i x hx
  · cases hx
section
set_option maxHeartbeats 4000000 in
set_option maxRecDepth 100000 in
theorem rright5_is (A : Option Addr) (n c : Nat) (xs : List DRow) (L : List DescR) (hn : n ≤ 1000000) (hc : n ≤ c) (hs : Small xs) (w : World) (h : Dl w A n xs L) :
    Calls Tryz.prog 18 #[.slice A n c] w fun e w' => e = .returned (.bool (rightK L)) ∧ Ext w w' := by
  have H := Lib.hid (And.intro h hs)
  clear h hs
  go_enter Tryz.func18, Tryz.ntmps18
  go_wp2
  go_loopg [3, 4, 5] n (fun m i u v wr => ∃ k : Nat, k + m = n ∧ i = .int .i64 k ∧ freshK [] (L.take k) = true ∧ Ext w wr)
  case atStart => exact ⟨0, by omega, rfl, rfl, Ext.refl _⟩
  case round =>
    obtain ⟨k, hk, rfl, hf, hE⟩ := hrel
    by_cases hlt : k < n
    · obtain ⟨ad, x, d, rfl, hb, hx, hd, hdn, e0, e1, e2, e3⟩ := (H.out.1.ext hE).at_ hlt
      have hsm := H.out.2 k x hx
      have RF := Lib.hid (fun W (hW : Ext wr W) => rfind_is (some ad) k c (xs.take k) (L.take k) (by omega) (H.out.2.take k) x.A x.B x.n x.m x.c x.e x.s x.t d.ptrs d.eptrs W ((H.out.1.take k (by omega)).ext (Ext.trans hE hW)) (hdn.p.ext hW) (hdn.q.ext hW))
      have RR := Lib.hid (fun W (hW : Ext wr W) => right_is x.A x.B x.n x.m x.c x.e x.s x.t d.ptrs d.eptrs (by omega) (by omega) W (hdn.p.ext hW) (hdn.q.ext hW))
      rw [hdn.eq] at RF RR
      have h5 : (k : Int) < n := by omega
      have h6 : (k : Int) + 1 ≤ 1000000 := by omega
      have h7 : (k : Int) ≤ c := by omega
      have h8 : k ≤ c := by omega
      have hst := fresh_step L k d hd
      have hbad := fresh_bad L k d hd
      rw [hf, Bool.true_and] at hst
      have a0 := on_cell e0
      have a1 := on_cell e1
      have a2 := on_cell e2
      have a3 := on_cell e3
      have HK := Lib.hid (And.intro hk hE)
      clear hk hE hf hd hsm hdn hx hb
      generalize findK (L.take k) d = f at *
      generalize decide (d ∈ L.take k) = tw at *
      generalize rightB d = rt at *
      by_cases htw : tw = true
      · subst htw
        have HN := Lib.hid (hbad rfl)
        clear hst hbad
        go_wp2
        refine wp_region_on (by kernel_rfl) (by kernel_rfl) ?_
        repeat (go_big_quiet_step (first | (go_at_call 16; with_reducible exact on_call (fun W hW => RF.out W hW) _)))
        refine wpQuiet_nil ?_
        intro W hW
        go_wp2
        go_ret
        exact ⟨rb HN.out.symm, Ext.trans HK.out.2 hW⟩
      · obtain rfl : tw = false := by simpa using htw
        clear htw
        by_cases hrt : rt = true
        · subst hrt
          have HN := Lib.hid (show freshK [] (L.take (k + 1)) = true from hst)
          clear hst hbad
          go_wp2
          refine wp_region_on (by kernel_rfl) (by kernel_rfl) ?_
          repeat (go_big_quiet_step (first | (go_at_call 16; with_reducible exact on_call (fun W hW => RF.out W hW) _)))
          refine wpQuiet_nil ?_
          intro W hW
          have p0 := a0 ⟨W, hW⟩
          have p1 := a1 ⟨W, hW⟩
          have p2 := a2 ⟨W, hW⟩
          have p3 := a3 ⟨W, hW⟩
          simp only at p0 p1 p2 p3
          go_wp2_with (go_at_call 34; refine (RR.out _ hW).mono ?_; rintro e w2 ⟨rfl, k2⟩)
          go_roundg (gk - 1)
          case measure => have := HK.out.1; omega
          case rel => exact ⟨k + 1, by have := HK.out.1; omega, by go_num, HN.out, Ext.trans HK.out.2 (Ext.trans hW k2)⟩
        · obtain rfl : rt = false := by simpa using hrt
          clear hrt
          have HN := Lib.hid (hbad rfl)
          clear hst hbad
          go_wp2
          refine wp_region_on (by kernel_rfl) (by kernel_rfl) ?_
          repeat (go_big_quiet_step (first | (go_at_call 16; with_reducible exact on_call (fun W hW => RF.out W hW) _)))
          refine wpQuiet_nil ?_
          intro W hW
          have p0 := a0 ⟨W, hW⟩
          have p1 := a1 ⟨W, hW⟩
          have p2 := a2 ⟨W, hW⟩
          have p3 := a3 ⟨W, hW⟩
          simp only at p0 p1 p2 p3
          go_wp2_with (go_at_call 34; refine (RR.out _ hW).mono ?_; rintro e w2 ⟨rfl, k2⟩)
          go_ret
          exact ⟨rb HN.out.symm, Ext.trans HK.out.2 (Ext.trans hW k2)⟩
    · obtain rfl : k = n := by omega
      have h5 : ¬ (k : Int) < k := by omega
      rw [List.take_of_length_le (by rw [H.out.1.2.1]; exact Nat.le_refl _)] at hf
      have HN := Lib.hid (show decide ((k : Int) ≤ 60) = rightK L by
        rw [rightK, hf, H.out.1.2.1, Bool.true_and, decide_eq_decide]; omega)
      have HX := Lib.hid hE
      clear hE hf hk
      by_cases h60 : (k : Int) ≤ 60
      · have hd := decide_eq_true h60
        rw [hd] at HN
        go_wp2
        go_ret
        exact ⟨rb HN.out, HX.out⟩
      · have hd := decide_eq_false h60
        rw [hd] at HN
        go_wp2
        go_ret
        exact ⟨rb HN.out, HX.out⟩
end
end Go.Proofs.YtopgbggighaknaaGreatDoor
