/- Joined texts, in their order: Lines, DRow, RFind, RRight, RSame, Few, RPrint, Clone, ROf, AppRow. -/
import Derived.Test.YtopgbggighaknaaDoorM09
import Derived.Lib.Strings
import Derived.Lib.Bytealg
import Derived.Test.YtopgbggighaknaaDoorM05
import Derived.Test.YtopgbggighaknaaDoorM03
import Derived.Test.YtopgbggighaknaaDoorM06
import Derived.Deep.LoopGhost
import Derived.Laws.OwnMore
/- A text's lines, as the program goes through them; what is read off a line: pure. -/
namespace Go.Proofs.YtopgbggighaknaaDoor
open Go
theorem lineK_none : ∀ (s : List UInt8), (lineK s).2 = none → (lineK s).1 = s ∧ ∀ c ∈ s, c ≠ 10
  | [], _ => ⟨rfl, fun c h => by cases h⟩
  | c :: s, h => by
    unfold lineK at h ⊢
    split at h
    · cases h
    · rename_i e
      obtain ⟨h1, h2⟩ := lineK_none s h
      rw [if_neg e]
      refine ⟨by show c :: (lineK s).1 = c :: s; rw [h1], fun x hx => ?_⟩
      rcases List.mem_cons.1 hx with rfl | hx
      · exact e
      · exact h2 x hx
/-- The first line, with its end, and what stands behind it. -/
def nextL (s : List UInt8) : List UInt8 × List UInt8 :=
  match (lineK s).2 with
  | some r => ((lineK s).1 ++ [10], r)
  | none => (s, [])
theorem nextL_some {s r : List UInt8} (h : (lineK s).2 = some r) : nextL s = ((lineK s).1 ++ [10], r) := by unfold nextL; rw [h]
theorem nextL_none {s : List UInt8} (h : (lineK s).2 = none) : nextL s = (s, []) := by unfold nextL; rw [h]
theorem nextL_nil : nextL [] = ([], []) := rfl
theorem nextL_app (s : List UInt8) : (nextL s).1 ++ (nextL s).2 = s := by
  cases h : (lineK s).2 with
  | some r =>
    rw [nextL_some h]
    show (lineK s).1 ++ [10] ++ r = s
    rw [List.append_assoc]
    exact (lineK_back s r h).1.symm
  | none => rw [nextL_none h]; simp
theorem nextL_less (s : List UInt8) (h : s ≠ []) : (nextL s).2.length < s.length := by
  cases h2 : (lineK s).2 with
  | some r => rw [nextL_some h2]; exact lineK_less s r h2
  | none => rw [nextL_none h2]; exact List.length_pos_iff.2 h
def linesS (s : List UInt8) : List (List UInt8) := if _h : s = [] then [] else (nextL s).1 :: linesS (nextL s).2
termination_by s.length
decreasing_by exact nextL_less s _h
theorem linesS_nil : linesS [] = [] := by rw [linesS, dif_pos rfl]
theorem linesS_cons {s : List UInt8} (h : s ≠ []) : linesS s = (nextL s).1 :: linesS (nextL s).2 := by rw [linesS, dif_neg h]
/-- What is left behind k lines. -/
def restS (s : List UInt8) : Nat → List UInt8
  | 0 => s
  | k + 1 => (nextL (restS s k)).2
theorem lines_rest (s : List UInt8) : ∀ k, linesS (restS s k) = (linesS s).drop k
  | 0 => rfl
  | k + 1 => by
    have ih := lines_rest s k
    rw [← List.drop_drop (i := 1) (j := k), ← ih]
    show linesS (nextL (restS s k)).2 = _
    by_cases h : restS s k = []
    · rw [h, nextL_nil, linesS_nil]; rfl
    · rw [linesS_cons h]; rfl
theorem lines_get (s : List UInt8) (k : Nat) (h : restS s k ≠ []) : (linesS s)[k]? = some (nextL (restS s k)).1 := by
  have := lines_rest s k
  rw [linesS_cons h] at this
  have h2 := congrArg (fun l : List (List UInt8) => l[0]?) this
  simpa using h2.symm
theorem lines_end (s : List UInt8) (k : Nat) (h : restS s k = []) (hk : k ≤ (linesS s).length) : k = (linesS s).length := by
  have := lines_rest s k
  rw [h, linesS_nil] at this
  have := List.drop_eq_nil_iff.1 this.symm
  omega
theorem lines_lt (s : List UInt8) (k : Nat) (h : restS s k ≠ []) : k < (linesS s).length := (List.getElem?_eq_some_iff.1 (lines_get s k h)).1
theorem rest_len (s : List UInt8) : ∀ k, (restS s k).length ≤ s.length
  | 0 => Nat.le_refl _
  | k + 1 => by
    have ih := rest_len s k
    show (nextL (restS s k)).2.length ≤ _
    by_cases h : restS s k = []
    · rw [h, nextL_nil]; simp
    · have := nextL_less _ h; omega
theorem rest_less (s : List UInt8) (k : Nat) (h : restS s k ≠ []) : (restS s (k + 1)).length < (restS s k).length := nextL_less _ h
theorem line_len (s : List UInt8) : (nextL s).1.length ≤ s.length := by
  have := congrArg List.length (nextL_app s)
  rw [List.length_append] at this
  omega
theorem lines_mem {s t : List UInt8} (h : t ∈ linesS s) : t.length ≤ s.length := by
  obtain ⟨k, hk, e⟩ := List.mem_iff_getElem.1 h
  have hr : restS s k ≠ [] := fun e0 => by
    have h1 := lines_rest s k
    rw [e0, linesS_nil] at h1
    have := List.drop_eq_nil_iff.1 h1.symm
    omega
  have h2 := lines_get s k hr
  rw [List.getElem?_eq_getElem hk, e] at h2
  obtain rfl := Option.some.inj h2
  have := line_len (restS s k)
  have := rest_len s k
  omega
theorem lines_count (s : List UInt8) : (linesS s).length ≤ s.length := by
  have key : ∀ n (s : List UInt8), s.length ≤ n → (linesS s).length ≤ s.length := by
    intro n
    induction n with
    | zero => intro s hs; obtain rfl : s = [] := List.length_eq_zero_iff.1 (by omega); rw [linesS_nil]; simp
    | succ n ih =>
      intro s hs
      by_cases h : s = []
      · subst h; rw [linesS_nil]; simp
      · have h1 := nextL_less s h
        have h2 := ih (nextL s).2 (by omega)
        rw [linesS_cons h, List.length_cons]; omega
  exact key _ s (Nat.le_refl _)
theorem idx_some : ∀ (s r : List UInt8), (lineK s).2 = some r → Lib.indexByte s 10 = ((lineK s).1.length : Nat)
  | [], r, h => by simp [lineK] at h
  | c :: s, r, h => by
    unfold lineK at h ⊢
    unfold Lib.indexByte
    split at h
    · rename_i e; rw [if_pos e, if_pos (by simpa using e)]; rfl
    · rename_i e
      have ih := idx_some s r h
      rw [if_neg e, if_neg (by simpa using e), ih]
      rw [if_neg (by simp)]
      show _ = (((c :: (lineK s).1).length : Nat) : Int)
      rw [List.length_cons]; omega
theorem idx_none : ∀ (s : List UInt8), (lineK s).2 = none → Lib.indexByte s 10 = -1
  | [], _ => rfl
  | c :: s, h => by
    unfold lineK at h
    unfold Lib.indexByte
    split at h
    · cases h
    · rename_i e
      rw [if_neg (by simpa using e), idx_none s h]; rfl
theorem take_line (s r : List UInt8) (h : (lineK s).2 = some r) : s.take ((lineK s).1.length + 1) = (nextL s).1 ∧ s.drop ((lineK s).1.length + 1) = (nextL s).2 ∧ (lineK s).1.length + 1 ≤ s.length := by
  have e := (lineK_back s r h).1
  have e2 : s = ((lineK s).1 ++ [10]) ++ r := by rw [List.append_assoc]; exact e
  have hl : (lineK s).1.length + 1 = ((lineK s).1 ++ [10]).length := by simp
  rw [nextL_some h, hl]
  generalize (lineK s).1 ++ [10] = a at *
  subst e2
  simp
theorem suf_eq (s : List UInt8) : Lib.hasSuffix s [10] = decide (s.getLast? = some 10) := by
  unfold Lib.hasSuffix
  rw [Bool.eq_iff_iff, List.isSuffixOf_iff_suffix, decide_eq_true_iff]
  constructor
  · rintro ⟨t, rfl⟩; simp
  · intro h
    obtain ⟨t, rfl⟩ := List.getLast?_eq_some_iff.1 h
    exact ⟨t, rfl⟩
theorem trim_eq (s : List UInt8) (h : s.getLast? = some 10) : Lib.trimSuffix s [10] = s.dropLast := by
  unfold Lib.trimSuffix
  rw [suf_eq, decide_eq_true h, if_pos rfl, List.dropLast_eq_take]
  rfl
theorem trim_no (s : List UInt8) (h : s.getLast? ≠ some 10) : Lib.trimSuffix s [10] = s := by
  unfold Lib.trimSuffix
  rw [suf_eq, decide_eq_false h, if_neg (by decide)]
/-- What is wrong with a line behind those that are read, 0: nothing; what has been read with it. -/
def takeE (out : List DescR) (t : List UInt8) : Int :=
  if t.getLast? = some 10 then match parseP t.dropLast with
    | none => 40
    | some d => if d ∈ out then 52 else if out.length = 60 then 53 else 0
  else 40
def takeL (out : List DescR) (t : List UInt8) : List DescR :=
  match parseP t.dropLast with
  | none => out
  | some d => out ++ [d]
def readL (out : List DescR) (k : Nat) : List (List UInt8) → RdK
  | [] => .done out
  | t :: r => if takeE out t = 0 then readL (takeL out t) (k + 1) r else .bad (k + 1) (takeE out t)
theorem readL_eq : ∀ (n : Nat) (s : List UInt8), s.length ≤ n → ∀ (out : List DescR) (k : Nat), readL out k (linesS s) = readK out k s := by
  intro n
  induction n with
  | zero =>
    intro s hs out k
    obtain rfl : s = [] := List.length_eq_zero_iff.1 (by omega)
    rw [linesS_nil, readK, if_pos rfl]; rfl
  | succ n ih =>
    intro s hs out k
    by_cases h : s = []
    · subst h; rw [linesS_nil, readK, if_pos rfl]; rfl
    · rw [linesS_cons h, readK, if_neg h, readL]
      have hlt := nextL_less s h
      cases h2 : (lineK s).2 with
      | none =>
        have hn := lineK_none s h2
        have hE : takeE out (nextL s).1 = 40 := by
          rw [nextL_none h2, takeE, if_neg]
          intro h10
          obtain ⟨t, ht⟩ := List.getLast?_eq_some_iff.1 h10
          exact hn.2 10 (by rw [show s = t ++ [10] from ht]; simp) rfl
        rw [hE, if_neg (by decide)]
      | some r =>
        have h10 : ((nextL s).1).getLast? = some 10 := by rw [nextL_some h2]; simp
        have hd : ((nextL s).1).dropLast = (lineK s).1 := by rw [nextL_some h2]; simp
        have hr : (nextL s).2 = r := by rw [nextL_some h2]
        have hE : takeE out (nextL s).1 = match parseP (lineK s).1 with
          | none => 40
          | some d => if d ∈ out then 52 else if out.length = 60 then 53 else 0 := by rw [takeE, if_pos h10, hd]
        have hL : takeL out (nextL s).1 = match parseP (lineK s).1 with
          | none => out
          | some d => out ++ [d] := by rw [takeL, hd]
        rw [hE, hL, hr]
        cases hp : parseP (lineK s).1 with
        | none => simp
        | some d =>
          simp only
          by_cases h1 : d ∈ out
          · rw [if_pos h1, if_pos h1, if_neg (by decide)]
          · rw [if_neg h1, if_neg h1]
            by_cases h6 : out.length = 60
            · rw [if_pos h6, if_pos h6, if_neg (by decide)]
            · rw [if_neg h6, if_neg h6, if_pos rfl]
              exact ih r (by rw [hr] at hlt; omega) _ _
/-- One line on. -/
theorem takeL_len (out : List DescR) (t : List UInt8) : (takeL out t).length ≤ out.length + 1 := by
  unfold takeL
  split <;> simp
/-- What has been read behind k lines, if all of them were right. -/
def outS (s : List UInt8) : Nat → List DescR
  | 0 => []
  | k + 1 => match (linesS s)[k]? with
    | some t => takeL (outS s k) t
    | none => outS s k
/-- Its first k lines are right. -/
def okS (s : List UInt8) (k : Nat) : Prop := ∀ j t, j < k → (linesS s)[j]? = some t → takeE (outS s j) t = 0
theorem read_at (s : List UInt8) : ∀ k, okS s k → readL [] 0 (linesS s) = readL (outS s k) k ((linesS s).drop k)
  | 0, _ => rfl
  | k + 1, h => by
    rw [read_at s k (fun j t hj => h j t (by omega))]
    cases hg : (linesS s)[k]? with
    | none =>
      have h1 := List.getElem?_eq_none_iff.1 hg
      have e1 : (linesS s).drop k = [] := List.drop_eq_nil_iff.2 h1
      have e2 : (linesS s).drop (k + 1) = [] := List.drop_eq_nil_iff.2 (by omega)
      rw [e1, e2]
      simp only [readL, outS, hg]
    | some t =>
      have hk := (List.getElem?_eq_some_iff.1 hg).1
      have e1 : (linesS s).drop k = t :: (linesS s).drop (k + 1) := by
        rw [List.drop_eq_getElem_cons hk]
        rw [List.getElem?_eq_getElem hk] at hg
        rw [Option.some.inj hg]
      rw [e1, readL, if_pos (h k t (by omega) hg)]
      simp only [outS, hg]
/-- All lines are right: what is read. -/
theorem read_all (s : List UInt8) (h : okS s (linesS s).length) : readK [] 0 s = .done (outS s (linesS s).length) := by
  rw [← readL_eq _ s (Nat.le_refl _), read_at s _ h, List.drop_length]; rfl
/-- A line is wrong: the first one. -/
theorem read_stop (s : List UInt8) (k : Nat) (t : List UInt8) (h : okS s k) (ht : (linesS s)[k]? = some t) (hE : takeE (outS s k) t ≠ 0) : readK [] 0 s = .bad (k + 1) (takeE (outS s k) t) := by
  rw [← readL_eq _ s (Nat.le_refl _), read_at s k h]
  have hk := (List.getElem?_eq_some_iff.1 ht).1
  have e1 : (linesS s).drop k = t :: (linesS s).drop (k + 1) := by
    rw [List.drop_eq_getElem_cons hk]
    rw [List.getElem?_eq_getElem hk] at ht
    rw [Option.some.inj ht]
  rw [e1, readL, if_neg hE]
theorem okS_succ (s : List UInt8) (k : Nat) (t : List UInt8) (h : okS s k) (ht : (linesS s)[k]? = some t) (hE : takeE (outS s k) t = 0) : okS s (k + 1) := fun j t' hj hg => by
  rcases Nat.lt_or_ge j k with h1 | h1
  · exact h j t' h1 hg
  · obtain rfl : j = k := by omega
    rw [ht] at hg
    obtain rfl := Option.some.inj hg
    exact hE
/-- What is read is right, each, and no two are the same, and no more than sixty. -/
theorem takeE_ok {out : List DescR} {t : List UInt8} (h : takeE out t = 0) : ∃ d, t.getLast? = some 10 ∧ parseP t.dropLast = some d ∧ d ∉ out ∧ out.length ≠ 60 ∧ takeL out t = out ++ [d] := by
  unfold takeE at h
  split at h
  · rename_i h10
    split at h
    · cases h
    · rename_i d hp
      split at h
      · cases h
      · rename_i h1
        split at h
        · cases h
        · rename_i h6
          exact ⟨d, h10, hp, h1, h6, by unfold takeL; rw [hp]⟩
  · cases h
theorem outS_right (s : List UInt8) : ∀ k, okS s k → (∀ d ∈ outS s k, rightB d = true) ∧ (outS s k).length ≤ 60
  | 0, _ => ⟨fun d h => (by cases h), by simp [outS]⟩
  | k + 1, h => by
    obtain ⟨h1, h2⟩ := outS_right s k (fun j t hj => h j t (by omega))
    cases hg : (linesS s)[k]? with
    | none => simp only [outS, hg]; exact ⟨h1, h2⟩
    | some t =>
      obtain ⟨d, _, hp, _, h6, e⟩ := takeE_ok (h k t (by omega) hg)
      simp only [outS, hg, e]
      refine ⟨fun x hx => ?_, by simp; omega⟩
      rcases List.mem_append.1 hx with hx | hx
      · exact h1 x hx
      · obtain rfl : x = d := by simpa using hx
        exact (parse_some hp).1
end Go.Proofs.YtopgbggighaknaaDoor
/- Rows of descriptors in memory: a row's raw cells, what its slices of ints read as. -/
namespace Go.Proofs.YtopgbggighaknaaDoor
open Go.RowKit Go
/-- A descriptor's cells. -/
structure DRow where
  s : Int
  A : Option Addr
  n : Nat
  c : Nat
  t : Int
  B : Option Addr
  m : Nat
  e : Nat
instance : Inhabited DRow := ⟨⟨0, none, 0, 0, 0, none, 0, 0⟩⟩
def DRow.cells (x : DRow) : Array Value := #[.int .i64 x.s, .slice x.A x.n x.c, .int .i64 x.t, .slice x.B x.m x.e]
/-- They read as this descriptor. -/
structure Dn (W : World) (x : DRow) (d : DescR) : Prop where
  s : x.s = d.size
  t : x.t = d.elem
  p : Il W x.A x.n d.ptrs
  q : Il W x.B x.m d.eptrs
  pc : x.n ≤ x.c
  qc : x.m ≤ x.e
  pm : x.c ≤ 9223372036854775807
  qm : x.e ≤ 9223372036854775807
theorem Dn.ext {W W' : World} {x : DRow} {d : DescR} (h : Dn W x d) (k : Ext W W') : Dn W' x d := ⟨h.s, h.t, h.p.ext k, h.q.ext k, h.pc, h.qc, h.pm, h.qm⟩
/-- A nil slice of it has no cells to spare. -/
def Dz (x : DRow) : Prop := (x.A = none → x.n = 0 ∧ x.c = 0) ∧ (x.B = none → x.m = 0 ∧ x.e = 0)
def Zs (xs : List DRow) : Prop := ∀ (i : Nat) (x : DRow), xs[i]? = some x → Dz x
theorem Zs.snoc {ys : List DRow} (h : Zs ys) (y : DRow) (h1 : Dz y) : Zs (ys ++ [y]) := fun i x hx => by
  rcases Nat.lt_or_ge i ys.length with hi | hi
  · rw [List.getElem?_append_left hi] at hx; exact h i x hx
  · rw [List.getElem?_append_right hi] at hx
    have hm := List.mem_of_getElem? hx
    obtain rfl : x = y := by simpa using hm
    exact h1
theorem Dn.eq {W : World} {x : DRow} {d : DescR} (h : Dn W x d) : (⟨x.s, d.ptrs, x.t, d.eptrs⟩ : DescR) = d := by rw [h.s, h.t]
/-- The slice (A, n) holds the rows xs. -/
def RowsAt (W : World) (A : Option Addr) (n : Nat) (xs : List DRow) : Prop :=
  xs.length = n ∧ (0 < n → ∃ ad, A = some ad ∧ ad.block < W.heap.size ∧ ∀ i j, i < n → j < 4 → W.cell? (ad.add (i * 4 + j)) = (xs.getD i default).cells[j]?)
theorem RowsAt.ext {W W' : World} {A : Option Addr} {n : Nat} {xs : List DRow} (h : RowsAt W A n xs) (k : Ext W W') : RowsAt W' A n xs :=
  ⟨h.1, fun hn => by
    obtain ⟨ad, e, hb, hc⟩ := h.2 hn
    exact ⟨ad, e, Nat.lt_of_lt_of_le hb k.size, fun i j hi hj => (k.cell (p := ad.add _) (by rw [block_of_add]; exact hb)).trans (hc i j hi hj)⟩⟩
theorem add_pos (P : Addr) (j : Nat) (h : j ≠ 0) : P.add j = ⟨P.block, P.off + j, none⟩ := by unfold Addr.add; rw [if_neg h]
theorem add_of_add' (a : Addr) (i j : Nat) : (a.add i).add j = a.add (i + j) := by
  unfold Addr.add
  by_cases h1 : i = 0 <;> by_cases h2 : j = 0
  · simp [h1, h2]
  · simp [h1, h2]
  · simp [h1, h2]
  · have h3 : ¬ i + j = 0 := by omega
    simp [h1, h2, Nat.add_assoc]
/-- One row's cells, as a walk spells them. -/
theorem RowsAt.at_ {W : World} {A : Option Addr} {n : Nat} {xs : List DRow} (h : RowsAt W A n xs) {k : Nat} (hk : k < n) : ∃ ad x, A = some ad ∧ ad.block < W.heap.size ∧ xs[k]? = some x ∧
    W.cell? (ad.add (k * 4)) = some (.int .i64 x.s) ∧ W.cell? ⟨(ad.add (k * 4)).block, (ad.add (k * 4)).off + 1, none⟩ = some (.slice x.A x.n x.c) ∧ W.cell? ⟨(ad.add (k * 4)).block, (ad.add (k * 4)).off + 2, none⟩ = some (.int .i64 x.t) ∧ W.cell? ⟨(ad.add (k * 4)).block, (ad.add (k * 4)).off + 3, none⟩ = some (.slice x.B x.m x.e) := by
  obtain ⟨ad, e, hb, hc⟩ := h.2 (by omega)
  have hl : k < xs.length := by rw [h.1]; exact hk
  have hx : xs[k]? = some xs[k] := List.getElem?_eq_getElem hl
  have hd : xs.getD k default = xs[k] := by rw [List.getD, hx]; rfl
  have e0 := hc k 0 hk (by omega)
  have e1 := hc k 1 hk (by omega)
  have e2 := hc k 2 hk (by omega)
  have e3 := hc k 3 hk (by omega)
  rw [hd] at e0 e1 e2 e3
  rw [← add_of_add' ad (k * 4), add_pos _ _ (by decide)] at e1 e2 e3
  exact ⟨ad, xs[k], e, hb, hx, e0, e1, e2, e3⟩
/-- The slice holds rows that read as these descriptors. -/
def Dl (W : World) (A : Option Addr) (n : Nat) (xs : List DRow) (L : List DescR) : Prop := RowsAt W A n xs ∧ L.length = n ∧ ∀ (i : Nat) (x : DRow) (d : DescR), xs[i]? = some x → L[i]? = some d → Dn W x d
theorem Dl.ext {W W' : World} {A : Option Addr} {n : Nat} {xs : List DRow} {L : List DescR} (h : Dl W A n xs L) (k : Ext W W') : Dl W' A n xs L := ⟨h.1.ext k, h.2.1, fun i x d h1 h2 => (h.2.2 i x d h1 h2).ext k⟩
theorem Dl.at_ {W : World} {A : Option Addr} {n : Nat} {xs : List DRow} {L : List DescR} (h : Dl W A n xs L) {k : Nat} (hk : k < n) : ∃ ad x d, A = some ad ∧ ad.block < W.heap.size ∧ xs[k]? = some x ∧ L[k]? = some d ∧ Dn W x d ∧
    W.cell? (ad.add (k * 4)) = some (.int .i64 x.s) ∧ W.cell? ⟨(ad.add (k * 4)).block, (ad.add (k * 4)).off + 1, none⟩ = some (.slice x.A x.n x.c) ∧ W.cell? ⟨(ad.add (k * 4)).block, (ad.add (k * 4)).off + 2, none⟩ = some (.int .i64 x.t) ∧ W.cell? ⟨(ad.add (k * 4)).block, (ad.add (k * 4)).off + 3, none⟩ = some (.slice x.B x.m x.e) := by
  obtain ⟨ad, x, e, hb, hx, e0, e1, e2, e3⟩ := h.1.at_ hk
  have hd : L[k]? = some (L[k]'(by rw [h.2.1]; exact hk)) := List.getElem?_eq_getElem _
  exact ⟨ad, x, _, e, hb, hx, hd, h.2.2 k x _ hx hd, e0, e1, e2, e3⟩
/-- The first k of them. -/
theorem Dl.take {W : World} {A : Option Addr} {n : Nat} {xs : List DRow} {L : List DescR} (h : Dl W A n xs L) (k : Nat) (hk : k ≤ n) : Dl W A k (xs.take k) (L.take k) := by
  refine ⟨⟨by rw [List.length_take, h.1.1]; omega, fun hn => ?_⟩, by rw [List.length_take, h.2.1]; omega, fun i x d h1 h2 => ?_⟩
  · obtain ⟨ad, e, hb, hc⟩ := h.1.2 (by omega)
    refine ⟨ad, e, hb, fun i j hi hj => ?_⟩
    rw [hc i j (by omega) hj, List.getD, List.getD, List.getElem?_take, if_pos hi]
  · rw [List.getElem?_take] at h1 h2
    split at h1
    · rename_i hi
      rw [if_pos hi] at h2
      exact h.2.2 i x d h1 h2
    · cases h1
theorem findK_take (d : DescR) : ∀ (L : List DescR) (k : Nat), k < L.length → findK (L.take k) d = 0 → L[k]? = some d → findK L d = k + 1
  | [], k, hk, _, _ => by simp at hk
  | x :: L, 0, _, _, h => by simp at h; simp [findK, h]
  | x :: L, k + 1, hk, h0, h => by
    rw [List.take_succ_cons, findK] at h0
    split at h0
    · cases h0
    · rename_i hx
      split at h0
      · rename_i h1
        have := findK_take d L k (by simpa using hk) h1 (by simpa using h)
        unfold findK
        rw [if_neg hx, if_neg (by omega), this]
      · omega
theorem findK_next (d : DescR) (L : List DescR) (k : Nat) (hk : k < L.length) (h0 : findK (L.take k) d = 0) (hd : L[k]? ≠ some d) : findK (L.take (k + 1)) d = 0 := by
  rw [findK_zero] at h0 ⊢
  rw [List.take_add_one]
  intro h
  rcases List.mem_append.1 h with h | h
  · exact h0 h
  · have he : L[k]? = some L[k] := List.getElem?_eq_getElem hk
    rw [he] at h hd
    simp at h
    exact hd (by rw [h])
/-- A row that is appended to, of descriptors. -/
def flatD (xs : List DRow) : List Value := xs.flatMap fun x => x.cells.toList
theorem flatD_len (xs : List DRow) : (flatD xs).length = xs.length * 4 := by
  induction xs with
  | nil => rfl
  | cons x r ih => simp only [flatD, List.flatMap_cons, List.length_append, List.length_cons] at *; rw [ih]; simp [DRow.cells]; omega
theorem flatD_snoc (xs : List DRow) (x : DRow) : flatD (xs ++ [x]) = flatD xs ++ x.cells.toList := by simp [flatD]
theorem flatD_get (xs : List DRow) : ∀ i j, i < xs.length → j < 4 → (flatD xs)[i * 4 + j]? = (xs.getD i default).cells[j]? := by
  induction xs with
  | nil => intro i j hi; simp at hi
  | cons x r ih =>
    intro i j hi hj
    have hx : x.cells.toList.length = 4 := rfl
    simp only [flatD, List.flatMap_cons]
    rcases i with _ | i
    · rw [List.getElem?_append_left (by rw [hx]; omega)]
      simp
    · rw [List.getElem?_append_right (by rw [hx]; omega), hx, show (i + 1) * 4 + j - 4 = i * 4 + j by omega]
      exact ih i j (by simpa using hi) hj
theorem rows_of_own {W : World} {S : Nat} {v : Value} {n : Nat} {t : TypeId} {xs : List DRow} (h : W.ownsRow S t 4 v n (flatD xs)) (hl : xs.length = n) : ∃ A c, v = .slice A n c ∧ n ≤ c ∧ RowsAt W A n xs ∧ ∀ ad, A = some ad → S ≤ ad.block := by
  rcases h.2 with ⟨rfl, rfl⟩ | ⟨g, cap, cur, rfl, hb, hg, hn, hm, hs, ht⟩
  · exact ⟨none, 0, rfl, Nat.le_refl _, ⟨hl, fun h => absurd h (by omega)⟩, fun _ h => by cases h⟩
  · refine ⟨_, cap, rfl, by omega, ⟨hl, fun h0 => ⟨_, rfl, (show Blk W g cur _ from hg).lt, fun i j hi hj => ?_⟩⟩, fun ad h => by cases h; exact hb⟩
    have e : (⟨g, 0, none⟩ : Addr).add (i * 4 + j) = ⟨g, i * 4 + j, none⟩ := by
      unfold Addr.add
      split
      · rename_i h0; rw [h0]
      · simp
    rw [e, (show Blk W g cur _ from hg).cell, ← flatD_get xs i j (by omega) hj, ← ht, List.getElem?_take, if_pos (by omega)]
    simp
end Go.Proofs.YtopgbggighaknaaDoor
/- selionref05: Find. -/
namespace Go.Proofs.YtopgbggighaknaaDoor
open Go.RowKit Go
def Small (xs : List DRow) : Prop := ∀ (i : Nat) (x : DRow), xs[i]? = some x → x.n ≤ 1000 ∧ x.m ≤ 1000
section
end
end Go.Proofs.YtopgbggighaknaaDoor
/- selionref05: Right, Same. -/
namespace Go.Proofs.YtopgbggighaknaaDoor
open Go.RowKit Go
theorem fresh_take (L : List DescR) (j : Nat) (h : freshK [] L = true) : freshK [] (L.take j) = true := by
  rw [freshK_iff] at *
  exact ⟨fun d hd => h.1 d (List.mem_of_mem_take hd), h.2.sublist (List.take_sublist _ _)⟩
theorem fresh_step (L : List DescR) (k : Nat) (d : DescR) (hd : L[k]? = some d) : freshK [] (L.take (k + 1)) = (freshK [] (L.take k) && (!decide (d ∈ L.take k) && rightB d)) := by
  rw [List.take_add_one, hd]
  simp [freshK_app]
theorem fresh_bad (L : List DescR) (k : Nat) (d : DescR) (hd : L[k]? = some d) (h : (!decide (d ∈ L.take k) && rightB d) = false) : rightK L = false := by
  cases hf : freshK [] L with
  | false => simp [rightK, hf]
  | true =>
    have := fresh_take L (k + 1) hf
    rw [fresh_step L k d hd, h] at this
    simp at this
theorem Small.take {xs : List DRow} (h : Small xs) (k : Nat) : Small (xs.take k) := fun i x hx => by
  rw [List.getElem?_take] at hx
  split at hx
  · exact h i x hx
  · cases hx
section
end
end Go.Proofs.YtopgbggighaknaaDoor
/- selionref05: Same. -/
namespace Go.Proofs.YtopgbggighaknaaDoor
open Go.RowKit Go
theorem take_eq_step {L L' : List DescR} {k : Nat} {d : DescR} (h : L.take k = L'.take k) (h1 : L[k]? = some d) (h2 : L'[k]? = some d) : L.take (k + 1) = L'.take (k + 1) := by
  rw [List.take_add_one, List.take_add_one, h, h1, h2]
section
end
end Go.Proofs.YtopgbggighaknaaDoor
/- selionlaw05: Few: the first sixty-two descriptors, cut. -/
namespace Go.Proofs.YtopgbggighaknaaDoor
open Go.RowKit Go
def cutX (x : DRow) : DRow := { x with n := min x.n 20, m := min x.m 20 }
def cutD (d : DescR) : DescR := { d with ptrs := d.ptrs.take 20, eptrs := d.eptrs.take 20 }
def fewD (L : List DescR) : List DescR := (L.take 62).map cutD
theorem Il.take {w : World} {A : Option Addr} {n : Nat} {l : List Int} (h : Il w A n l) (k : Nat) : Il w A (min n k) (l.take k) := by
  refine ⟨by rw [List.length_take, h.1]; omega, fun hn => ?_⟩
  obtain ⟨ad, e, hb, hc⟩ := h.2 (by omega)
  refine ⟨ad, e, hb, fun j hj => ?_⟩
  rw [hc j (by omega)]
  have h2 : j < k := by omega
  simp [List.getD_eq_getElem?_getD, h2]
theorem Dn.cut {W : World} {x : DRow} {d : DescR} (h : Dn W x d) : Dn W (cutX x) (cutD d) :=
  ⟨h.s, h.t, h.p.take 20, h.q.take 20, Nat.le_trans (Nat.min_le_left _ _) h.pc, Nat.le_trans (Nat.min_le_left _ _) h.qc, h.pm, h.qm⟩
theorem Dz.cut {x : DRow} (h : Dz x) : Dz (cutX x) :=
  ⟨fun e => ⟨by have := (h.1 e).1; show min x.n 20 = 0; omega, (h.1 e).2⟩, fun e => ⟨by have := (h.2 e).1; show min x.m 20 = 0; omega, (h.2 e).2⟩⟩
theorem ownN_ext {w w' : World} {base : Nat} {e : TypeId} {size : Nat} {v : Value} {n : Nat} {xs : List Value} (h : w.ownsRow base e size v n xs) (k : Ext w w') : w'.ownsRow base e size v n xs := by
  obtain ⟨hl, h⟩ := h
  refine ⟨hl, ?_⟩
  rcases h with ⟨rfl, rfl⟩ | ⟨g, cap, cur, rfl, hb, hg, hn, hm, hs, ht⟩
  · exact .inl ⟨rfl, rfl⟩
  · exact .inr ⟨g, cap, cur, rfl, hb, (k.block g (Array.getElem?_eq_some_iff.1 hg).1).trans hg, hn, hm, hs, ht⟩
theorem ownN_block {w : World} {base : Nat} {e : TypeId} {size : Nat} {v : Value} {n : Nat} {xs : List Value} (h : w.ownsRow base e size v n xs) : ∀ g, v.ownBlock = some g → base ≤ g := by
  intro g hg
  rcases h.2 with ⟨rfl, rfl⟩ | ⟨g', cap, cur, rfl, hb, _⟩
  · cases hg
  · simp [Value.ownBlock] at hg; omega
theorem new_cells1 (w : World) (cs : Array Value) (t : TypeId) (j : Nat) (u : Value) (h : cs[j]? = some u) : (w.alloc (.cells cs t)).cell? ((⟨w.heap.size, 0, none⟩ : Addr).add j) = some u := by
  have e : (⟨w.heap.size, 0, none⟩ : Addr).add j = ⟨w.heap.size, j, none⟩ := by unfold Addr.add; by_cases h0 : j = 0 <;> simp [h0]
  rw [e, (Blk.new w cs t).cell, h]
theorem row_one (x : DRow) : ∀ u ∈ x.cells.toList, u.oneCell' = true := by
  intro u hu
  simp [DRow.cells] at hu
  rcases hu with rfl | rfl | rfl | rfl <;> rfl
theorem info_desc : ∃ i, Tryd.prog.info? 27 = some i ∧ i.zero = some (.agg #[.int .i64 0, .slice none 0 0, .int .i64 0, .slice none 0 0]) ∧ i.size = 4 ∧ i.bytes = 64 := by
  have h : (Tryd.prog.info? 27).map (fun i => (i.zero, i.size, i.bytes)) = some (some (.agg #[.int .i64 0, .slice none 0 0, .int .i64 0, .slice none 0 0]), 4, 64) := by kernel_rfl
  obtain ⟨i, hi, hh⟩ := Option.map_eq_some_iff.1 h
  simp only [Prod.mk.injEq] at hh
  exact ⟨i, hi, hh.1, hh.2.1, hh.2.2⟩
/-- An own row of m descriptors. -/
def RowP (w : World) (m : Nat) (L : List DescR) (e : Ending) (w' : World) : Prop := ∃ A' c' xs', e = .returned (.slice A' m c') ∧ m ≤ c' ∧ Dl w' A' m xs' L ∧ Small xs' ∧ Zs xs' ∧ Ext w w'
theorem small_cut (xs : List DRow) : Small (xs.map cutX) := fun i x hx => by
  rw [List.getElem?_map] at hx
  obtain ⟨y, _, rfl⟩ := Option.map_eq_some_iff.1 hx
  show min y.n 20 ≤ 1000 ∧ min y.m 20 ≤ 1000
  omega
section
set_option maxHeartbeats 4000000 in
set_option maxRecDepth 100000 in
theorem few_is (A : Option Addr) (n c : Nat) (xs : List DRow) (L : List DescR) (w : World) (h : Dl w A n xs L) (hz : Zs xs) :
    Calls Tryd.prog 5 #[.slice A n c] w (RowP w (min n 62) (fewD L)) := by
  obtain ⟨i0, hi0⟩ := info_desc
  have HI := Lib.hid hi0
  clear hi0
  have HO := Lib.hid h
  have HZ := Lib.hid hz
  clear h hz
  go_enter Tryd.func5, Tryd.ntmps5
  go_wp2
  go_loopg [3, 4] (min n 62) (fun m v i wr => ∃ k : Nat, k + m = min n 62 ∧ i = .int .i64 k ∧ Ext w wr ∧ wr.ownsRow w.heap.size 27 4 v k (flatD ((xs.take k).map cutX)))
  case atStart => exact ⟨0, by omega, rfl, Ext.refl _, rfl, .inl ⟨rfl, rfl⟩⟩
  case round =>
    obtain ⟨k, hk, rfl, hE, hown⟩ := hrel
    by_cases hlt : k < min n 62
    · obtain ⟨ad, x, d, rfl, hb, hx, hd, hdn, e0, e1, e2, e3⟩ := (HO.out.ext hE).at_ (show k < n by omega)
      have RC := Lib.hid (fun W => cutd_is x.A x.B x.n x.m x.c x.e x.s x.t (HZ.out k x hx).1 (HZ.out k x hx).2 hdn.pc hdn.qc hdn.pm hdn.qm W)
      have h1 : (k : Int) < n := by omega
      have h2 : (k : Int) < 62 := by omega
      have HH := Lib.hid (And.intro hE (And.intro hown (And.intro hx hk)))
      clear hE hown hx hk hd hdn hb hlt
      go_wp2_with (first | (go_at_call 14; refine (RC.out _).mono ?_; rintro e w2 ⟨rfl, k2⟩) | (at_builtin; go_loud (refine wpList_append_own _ rfl _ _ 22 rfl w.heap.size 27 i0 (.agg #[.int .i64 0, .slice none 0 0, .int .i64 0, .slice none 0 0]) 4 64 Tryd.underlying22 HI.out.1 HI.out.2.1 HI.out.2.2.1 HI.out.2.2.2 rfl (by decide) _ _ _ rfl (ownN_ext HH.out.2.1 (Ext.trans k2 (ext1 _ _))) ⟨w2.heap.size, 0, none⟩ 1 1 (cutX x).cells.toList rfl rfl (fun j u hj => new_cells1 _ _ _ j u (by simpa [cutX, DRow.cells] using hj)) (row_one _) (by have := HH.out.2.2.2; unfold maxLen; omega) (by have := HH.out.2.2.2; omega) (by have := HH.out.1.size; have := k2.size; simp; omega) ?_; intro v' w3 hown3 hgrow _)))
      go_roundg (gk - 1)
      case measure => have := HH.out.2.2.2; omega
      case rel =>
        refine ⟨k + 1, by have := HH.out.2.2.2; omega, by go_num, ?_, ?_⟩
        · exact Below.grown (Ext.trans HH.out.1 (Ext.trans k2 (ext1 _ _))) hgrow (by have := HH.out.1.size; have := k2.size; simp; omega) (fun g hg => ownN_block HH.out.2.1 g hg)
        · rw [List.take_add_one, HH.out.2.2.1]
          simp only [Option.toList_some, List.map_append, List.map_cons, List.map_nil, flatD_snoc]
          exact hown3
    · obtain rfl : k = min n 62 := by omega
      have hX : List.take (min n 62) xs = List.take 62 xs := by
        rcases Nat.le_total n 62 with h | h
        · rw [Nat.min_eq_left h, List.take_of_length_le (by rw [HO.out.1.1]; exact Nat.le_refl _), List.take_of_length_le (by rw [HO.out.1.1]; exact h)]
        · rw [Nat.min_eq_right h]
      rw [hX] at hown
      obtain ⟨A', c', rfl, hmc, hrow, hbk⟩ := rows_of_own hown (by rw [List.length_map, List.length_take, HO.out.1.1]; omega)
      have hdl : Dl wr A' (min n 62) ((xs.take 62).map cutX) (fewD L) := ⟨hrow, by rw [fewD, List.length_map, List.length_take, HO.out.2.1]; omega, fun i x d h1 h2 => by
        rw [fewD] at h2
        rw [List.getElem?_map] at h1 h2
        obtain ⟨x0, g1, rfl⟩ := Option.map_eq_some_iff.1 h1
        obtain ⟨d0, g2, rfl⟩ := Option.map_eq_some_iff.1 h2
        rw [List.getElem?_take] at g1 g2
        split at g1
        · rename_i hi
          rw [if_pos hi] at g2
          exact ((HO.out.2.2 i x0 d0 g1 g2).ext hE).cut
        · cases g1⟩
      have hzs : Zs ((xs.take 62).map cutX) := fun i x hx => by
        rw [List.getElem?_map] at hx
        obtain ⟨y, g1, rfl⟩ := Option.map_eq_some_iff.1 hx
        rw [List.getElem?_take] at g1
        split at g1
        · exact (HZ.out i y g1).cut
        · cases g1
      have HH := Lib.hid (And.intro hmc (And.intro hdl (And.intro (small_cut (xs.take 62)) (And.intro hzs hE))))
      clear hE hrow hbk hown hX hk hdl hmc hzs
      generalize hK : min n 62 = K at *
      by_cases h1 : n ≤ 62
      · have h3 : K = n := by omega
        have h2 : ¬ (K : Int) < n := by omega
        have h4 := Lib.hid hK
        clear hK h1 h3
        go_wp2
        go_ret
        exact ⟨A', c', _, rfl, HH.out.1, HH.out.2.1, HH.out.2.2.1, HH.out.2.2.2.1, HH.out.2.2.2.2⟩
      · have h3 : K = 62 := by omega
        have h2 : (K : Int) < n := by omega
        have h5 : ¬ (K : Int) < 62 := by omega
        have h4 := Lib.hid hK
        clear hK h1 h3
        go_wp2
        go_ret
        exact ⟨A', c', _, rfl, HH.out.1, HH.out.2.1, HH.out.2.2.1, HH.out.2.2.2.1, HH.out.2.2.2.2⟩
end
end Go.Proofs.YtopgbggighaknaaDoor
/- selionref05: Print. -/
namespace Go.Proofs.YtopgbggighaknaaDoor
open Go.RowKit Go
def textKV (L : List DescR) : List UInt8 := if rightK L then textK L else []
def textKE (L : List DescR) : Int := if rightK L then 0 else 50
theorem textS_len (d : DescR) (hr : rightB d = true) (hp : d.ptrs.length ≤ 1000) (hq : d.eptrs.length ≤ 1000) : (textS d).length ≤ 20000 := by
  have hR := right_of hr
  have h1 := preT_len d.size.toNat d.ptrs (by have := hR.s0; have := hR.s1; omega) (fun x hx => by have := hR.pp x hx; have h2 : x < d.size := this.2.1; have := hR.s1; omega) d.ptrs.length
  have h2 := preT_len d.elem.toNat d.eptrs (by have := hR.e0; have := hR.e1; omega) (fun x hx => by have := hR.qq x hx; have h2 : x < d.elem := this.2.1; have := hR.e1; omega) d.eptrs.length
  rw [preT_end _ _ _ (Nat.le_refl _)] at h1 h2
  rw [textS, List.length_append, List.length_cons, List.length_cons]
  omega
theorem textK_len : ∀ (L : List DescR), (∀ d ∈ L, (textS d).length ≤ 20000) → (textK L).length ≤ 20001 * L.length
  | [], _ => by simp [textK]
  | d :: L, h => by
    have h1 := h d (by simp)
    have h2 := textK_len L (fun x hx => h x (by simp [hx]))
    have e : textK (d :: L) = textS d ++ [10] ++ textK L := by simp [textK]
    rw [e]
    simp only [List.length_append, List.length_cons, List.length_nil]
    omega
theorem textK_step (L : List DescR) (k : Nat) (d : DescR) (hd : L[k]? = some d) : textK (L.take (k + 1)) = textK (L.take k) ++ textS d ++ [10] := by
  rw [List.take_add_one, hd]
  simp [textK]
section
end
end Go.Proofs.YtopgbggighaknaaDoor
/- selionref05: clone: a descriptor of its own. -/
namespace Go.Proofs.YtopgbggighaknaaDoor
open Go.RowKit Go
theorem own_parts {w : World} {base : Nat} {l : List Int} {n : Nat} {v : Value} (h : w.ownsRow base 3 1 v n (encZ l)) (hl : l.length = n) : ∃ A c, v = .slice A n c ∧ Il w A n l ∧ n ≤ c ∧ c ≤ 9223372036854775807 ∧ (A = none → n = 0 ∧ c = 0) ∧ ∀ ad, A = some ad → base ≤ ad.block := by
  subst hl
  obtain ⟨A, c, rfl, hi⟩ := il_of_own h (Ext.refl w)
  refine ⟨A, c, rfl, hi, ?_⟩
  rcases h.2 with ⟨e, e2⟩ | ⟨g, cap, cur, e, hb, hg, hn, hm, hs, ht⟩
  · simp only [Value.slice.injEq] at e
    obtain ⟨rfl, hl0, rfl⟩ := e
    exact ⟨by omega, by decide, fun _ => ⟨hl0, rfl⟩, fun _ h => (by cases h)⟩
  · simp only [Value.slice.injEq] at e
    obtain ⟨rfl, _, rfl⟩ := e
    exact ⟨hn, by simpa [maxLen] using hm, fun h => (by cases h), fun ad h => by cases h; exact hb⟩
theorem one_int (l : List Int) : ∀ u ∈ encZ l, u.oneCell' = true := by
  intro u hu
  obtain ⟨z, _, rfl⟩ := List.mem_map.1 hu
  rfl
/-- append([]int(nil), x...). -/
theorem app_ints {o : Oper} {a : Act} {V : World} {K : Act → World → Prop} {Q : Exit → Act → World → Prop} (x : Operand) (ho : o.op = .call { callee := .builtin .append, args := #[.const (.slice none 0 0), x], argTypes := #[25, 25] })
    (A : Option Addr) (n c : Nat) (l : List Int) (hx : a.eval x = .slice A n c) (hn : n ≤ 1000000) (hz : A = none → n = 0 ∧ c = 0) (hI : Il V A n l)
    (h : ∀ A' c' V', Il V' A' n l → n ≤ c' → c' ≤ 9223372036854775807 → (A' = none → n = 0 ∧ c' = 0) → (∀ ad, A' = some ad → V.heap.size ≤ ad.block) → Ext V V' → K (a.put o.dst (.slice A' n c')) V') : o.wp Tryd.prog a V K Q := by
  obtain ⟨i0, hi, hz0⟩ := Option.map_eq_some_iff.1 infoZ
  simp only [Prod.mk.injEq] at hz0
  obtain ⟨z1, z2, z3⟩ := hz0
  rcases A with _ | ad
  · obtain ⟨rfl, rfl⟩ := hz rfl
    have hrun := run_append_owned_none (P := Tryd.prog) (w := V) V.heap.size 25 o.type 3 i0 1 Tryd.underlying25 hi (.slice none 0 0) 0 [] ⟨rfl, .inl ⟨rfl, rfl⟩⟩
    have hs : a.eval (.const (.slice none 0 0)) = .slice none 0 0 := rfl
    unfold Oper.wp
    simp [execOp, ho, resolve, invoke, builtin, hs, hx, hrun, Result.andThen]
    exact h none 0 V hI (Nat.le_refl _) (by decide) (fun _ => ⟨rfl, rfl⟩) (fun _ h => (by cases h)) (Ext.refl _)
  · refine wp_append_own V (.const (.slice none 0 0)) x 25 ho V.heap.size 3 i0 (.int .i64 0) 1 8 Tryd.underlying25 hi z1 z2 z3 rfl (by decide) (.slice none 0 0) 0 [] rfl ⟨rfl, .inl ⟨rfl, rfl⟩⟩ ad n c (encZ l) hx (by simp [encZ, hI.1]) (fun j u hj => ?_) (one_int l) (by unfold maxLen; omega) (by omega) (Nat.le_refl _) ?_
    · have hjn : j < l.length := by
        have := (List.getElem?_eq_some_iff.1 hj).1
        simpa [encZ] using this
      obtain ⟨ad', e, _, hc⟩ := hI.2 (by have := hI.1; omega)
      cases e
      rw [hc j (by rw [← hI.1]; exact hjn)]
      simp [encZ, hjn] at hj
      rw [← hj]
      show some (Value.int .i64 (l.getD j 0)) = _
      rw [List.getD_eq_getElem?_getD, List.getElem?_eq_getElem hjn]; rfl
    · intro v' w' hown hgrow _
      rw [Nat.zero_add, List.nil_append] at hown
      obtain ⟨A', c', rfl, hi', p1, p2, p3, p4⟩ := own_parts hown hI.1
      exact h A' c' w' hi' p1 p2 p3 p4 (Below.grown (Ext.refl V) hgrow (Nat.le_refl _) (fun g hg => by cases hg))
theorem Il.other' {w : World} {A : Option Addr} {n : Nat} {l : List Int} (h : Il w A n l) (p : Addr) (v : Value) (hne : ∀ ad, A = some ad → ad.block ≠ p.block) : Il (w.setCell p v) A n l :=
  ⟨h.1, h.2.keep (by simp) (fun ad e hb => Below.heap_setCell _ _ _ _ (hne ad e))⟩
theorem clone_store {w w2 : World} {R : Nat} {x0 x1 x2 x3 u0 u1 u2 u3 : Value} {t : TypeId} (hB : Blk w2 R #[x0, x1, x2, x3] t) (hE : Ext w w2) (hR : w.heap.size ≤ R) :
    let W := (((w2.setCell ⟨R, 0, none⟩ u0).setCell ⟨R, 1, none⟩ u1).setCell ⟨R, 2, none⟩ u2).setCell ⟨R, 3, none⟩ u3
    W.cell? ⟨R, 0, none⟩ = some u0 ∧ W.cell? ⟨R, 1, none⟩ = some u1 ∧ W.cell? ⟨R, 2, none⟩ = some u2 ∧ W.cell? ⟨R, 3, none⟩ = some u3 ∧ Ext w W := by
  have h3 := (((hB.set 0 u0).set 1 u1).set 2 u2).set 3 u3
  simp only [List.setIfInBounds_toArray, List.set_cons_zero, List.set_cons_succ] at h3
  exact ⟨by rw [h3.cell]; rfl, by rw [h3.cell]; rfl, by rw [h3.cell]; rfl, by rw [h3.cell]; rfl, (((hE.setCell (p := ⟨R, 0, none⟩) hR _).setCell (p := ⟨R, 1, none⟩) hR _).setCell (p := ⟨R, 2, none⟩) hR _).setCell (p := ⟨R, 3, none⟩) hR _⟩
/-- What clone answers. -/
def CloneR (w : World) (x : DRow) (d : DescR) (e : Ending) (w' : World) : Prop := ∃ y : DRow, e = .returned (.agg y.cells) ∧ (Dn w' y d ∧ Dz y) ∧ y.n = x.n ∧ y.m = x.m ∧ (∀ ad, y.A = some ad → w.heap.size ≤ ad.block) ∧ (∀ ad, y.B = some ad → w.heap.size ≤ ad.block) ∧ Ext w w'
section
end
end Go.Proofs.YtopgbggighaknaaDoor
/- selionref05: Of. -/
namespace Go.Proofs.YtopgbggighaknaaDoor
open Go.RowKit Go
section
end
end Go.Proofs.YtopgbggighaknaaDoor
/- append of one element (of whatever size) to a row of one's own: the new row is the old one's block, or a new block. -/
namespace Go.Proofs.YtopgbggighaknaaDoor
open Go Go.RowKit
section
variable {P : Program}
theorem own_resultN {w : World} (base : Nat) (t ty e : TypeId) (i : TypeInfo) (z : Value) (size bytes : Nat) (ht : P.underlying t = some (.slice e)) (hi : P.info? e = some i) (hz : i.zero = some z)
    (hsize : i.size = size) (hby : i.bytes = bytes) (hsz : 0 < size) (v : Value) (n : Nat) (xs : List Value) (hown : w.ownsRow base e size v n xs)
    (a : Addr) (c : Nat) (news : List Value) (hl : news.length = 1 * size) (hnews : ∀ j u, news[j]? = some u → w.cell? (a.add j) = some u) (h1 : ∀ u ∈ news, u.oneCell' = true) (h63 : n + 1 ≤ maxLen) (hbytes : (n + 1) * bytes ≤ 140737488355328)
    {v' : Value} {w' : World} (hr : (Builtin.append_ #[t, t] ty #[v, .slice (some a) 1 c]).run P w = .ok v' w') : ∀ b, v'.ownBlock = some b → v.ownBlock = some b ∨ w.heap.size ≤ b := by
  subst hsize
  have hsmall : n + 1 ≤ 9223372036854775807 := by simp only [maxLen] at h63; omega
  intro b hb
  rcases hown.2 with ⟨rfl, rfl⟩ | ⟨g, cap, cur, rfl, hbg, hg, hnc, hcm, hcs, htake⟩
  · have h2 := run_append_nil (P := P) w t ty e i z ht hi hz a 1 c news hl hnews (by omega) (by omega) (by rw [hby]; have hb := hbytes; simp only [Nat.zero_add] at hb; omega)
    rw [h2] at hr
    cases hr
    simp [Value.ownBlock] at hb
    exact .inr (by omega)
  · by_cases hroom : n + 1 ≤ cap
    · have hfit : n * i.size + news.length ≤ cur.size := by
        rw [hcs, hl, ← Nat.add_mul]
        exact Nat.mul_le_mul_right _ hroom
      have h2 := run_append_room (P := P) w t ty e i ht hi g n cap cur hg a 1 c news hl hnews h1 hroom hfit
      rw [h2] at hr
      cases hr
      exact .inl hb
    · have h2 := run_append_grow (P := P) w t ty e i z ht hi hz ⟨g, 0, none⟩ n cap xs hown.1 (hown.cells (g := g) rfl) a 1 c news hl hnews (by omega) (by omega) (growslice_fits (by omega) (by rw [hby]; exact hbytes))
      rw [h2] at hr
      cases hr
      simp [Value.ownBlock] at hb
      exact .inr (by omega)
theorem wp_append_row {w : World} {o : Oper} {a : Act} {K : Act → World → Prop} {Q : Exit → Act → World → Prop} (s x : Operand) (t : TypeId)
    (ho : o.op = .call { callee := .builtin .append, args := #[s, x], argTypes := #[t, t] })
    (base : Nat) (e : TypeId) (i : TypeInfo) (z : Value) (size bytes : Nat) (ht : P.underlying t = some (.slice e)) (hi : P.info? e = some i) (hz : i.zero = some z)
    (hsize : i.size = size) (hby : i.bytes = bytes) (hzs : z.cells.size = size) (hsz : 0 < size)
    (v : Value) (n : Nat) (xs : List Value) (hs : a.eval s = v) (hown : w.ownsRow base e size v n xs)
    (ad : Addr) (c : Nat) (news : List Value) (hx : a.eval x = .slice (some ad) 1 c) (hl : news.length = 1 * size) (hnews : ∀ j u, news[j]? = some u → w.cell? (ad.add j) = some u) (h1 : ∀ u ∈ news, u.oneCell' = true)
    (h63 : n + 1 ≤ maxLen) (hbytes : (n + 1) * bytes ≤ 140737488355328) (hbase : base ≤ w.heap.size)
    (h : ∀ v' w', w'.ownsRow base e size v' (n + 1) (xs ++ news) → w.grownBy w' v.ownBlock → (∀ b, v'.ownBlock = some b → v.ownBlock = some b ∨ w.heap.size ≤ b) → K (a.put o.dst v') w') : o.wp P a w K Q := by
  obtain ⟨v', w', hrun, r1, r2, _⟩ := run_append_own (P := P) w base t o.type e i z size bytes ht hi hz hsize hby hzs hsz v n xs hown ad 1 c news hl hnews h1 h63 hbytes hbase
  have r3 := own_resultN (P := P) base t o.type e i z size bytes ht hi hz hsize hby hsz v n xs hown ad c news hl hnews h1 h63 hbytes hrun
  unfold Oper.wp
  simp [execOp, ho, resolve, invoke, builtin, hs, hx, hrun, Result.andThen]
  exact h v' w' r1 r2 r3
theorem wpList_append_row {w : World} {ops : Array Oper} {rest : List Oper} {o : Oper} {a : Act} {Q : Exit → Act → World → Prop} (hgd : o.guard = none) (s x : Operand) (t : TypeId)
    (ho : o.op = .call { callee := .builtin .append, args := #[s, x], argTypes := #[t, t] })
    (base : Nat) (e : TypeId) (i : TypeInfo) (z : Value) (size bytes : Nat) (ht : P.underlying t = some (.slice e)) (hi : P.info? e = some i) (hz : i.zero = some z)
    (hsize : i.size = size) (hby : i.bytes = bytes) (hzs : z.cells.size = size) (hsz : 0 < size)
    (v : Value) (n : Nat) (xs : List Value) (hs : a.eval s = v) (hown : w.ownsRow base e size v n xs)
    (ad : Addr) (c : Nat) (news : List Value) (hx : a.eval x = .slice (some ad) 1 c) (hl : news.length = 1 * size) (hnews : ∀ j u, news[j]? = some u → w.cell? (ad.add j) = some u) (h1 : ∀ u ∈ news, u.oneCell' = true)
    (h63 : n + 1 ≤ maxLen) (hbytes : (n + 1) * bytes ≤ 140737488355328) (hbase : base ≤ w.heap.size)
    (h : ∀ v' w', w'.ownsRow base e size v' (n + 1) (xs ++ news) → w.grownBy w' v.ownBlock → (∀ b, v'.ownBlock = some b → v.ownBlock = some b ∨ w.heap.size ≤ b) → wpList P ops Q rest (a.put o.dst v') w') : wpList P ops Q (o :: rest) a w := by
  refine wpList_plain hgd fun K hK => ?_
  obtain ⟨v', w', hrun, r1, r2, _⟩ := run_append_own (P := P) w base t o.type e i z size bytes ht hi hz hsize hby hzs hsz v n xs hown ad 1 c news hl hnews h1 h63 hbytes hbase
  have r3 := own_resultN (P := P) base t o.type e i z size bytes ht hi hz hsize hby hsz v n xs hown ad c news hl hnews h1 h63 hbytes hrun
  unfold Oper.wp
  simp [execOp, ho, resolve, invoke, builtin, hs, hx, hrun, Result.andThen]
  exact hK _ _ (h v' w' r1 r2 r3)
end
end Go.Proofs.YtopgbggighaknaaDoor
