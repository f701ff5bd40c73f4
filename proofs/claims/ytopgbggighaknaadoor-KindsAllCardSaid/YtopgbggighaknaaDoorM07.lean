/- Joined texts, in their order: BytesD, SlotsD, Scan, Read1, NumD. -/
import Derived.Test.YtopgbggighaknaaDoorM06
import Derived.Test.YtopgbggighaknaaDoorM05
import Derived.Test.YtopgbggighaknaaDoorM04
import Derived.ScopeJumps
import Derived.Lib.OthersKept
import Derived.Deep.LoopGhost
/- desc: told at one and at two (cut by gen_desc.py). -/
namespace Go.Proofs.YtopgbggighaknaaDoor
open Go.RowKit Go
theorem told1_is (k : Int) (v : Value) (b : Nat) (t : TypeId) (w : World) (hG : G w) (hB : Blk w b #[v] t) (hv : Code v k) :
    Calls Tryd.prog 31 #[.slice (some ⟨b, 0, none⟩) 1 1] w fun e w' => e = .returned (.int .i64 k) ∧ Ext w w' := by
  have h := told_any [k] b 1 w hG (by simp) hB.lt (fun i hi => by
    obtain rfl : i = 0 := by simp at hi; exact hi
    exact ⟨v, by rw [hB.cell]; rfl, hv⟩)
  have e : firstI [k] = k := by simp [firstI]; intro h; exact h.symm
  rwa [e] at h
theorem told_new (k : Int) (v : Value) (o : Obj) (w : World) (hG : G w) (hv : Code v k) :
    Calls Tryd.prog 31 #[.slice (some ⟨w.heap.size + 1, 0, none⟩) 1 1] ((w.alloc o).alloc (.cells #[v] 45)) fun e w' => e = .returned (.int .i64 k) ∧ Ext ((w.alloc o).alloc (.cells #[v] 45)) w' :=
  told1_is k v _ 45 _ (hG.ext (ext2 _ _ _)) (at_new2 (Ext.refl _)) hv
def first2 (j k : Int) : Int := if j = 0 then k else j
theorem told2_is (j k : Int) (u v : Value) (b : Nat) (t : TypeId) (w : World) (hG : G w) (hB : Blk w b #[u, v] t) (hu : Code u j) (hv : Code v k) :
    Calls Tryd.prog 31 #[.slice (some ⟨b, 0, none⟩) 2 2] w fun e w' => e = .returned (.int .i64 (first2 j k)) ∧ Ext w w' := by
  have h := told_any [j, k] b 2 w hG (by simp) hB.lt (fun i hi => by
    have hi' : i = 0 ∨ i = 1 := by simp at hi; omega
    rcases hi' with rfl | rfl
    · exact ⟨u, by rw [hB.cell]; rfl, hu⟩
    · exact ⟨v, by rw [hB.cell]; rfl, hv⟩)
  have e : firstI [j, k] = first2 j k := by
    simp only [firstI, first2]
    split
    · split
      · rename_i h; exact h.symm
      · rfl
    · rfl
  rwa [e] at h
theorem code_0 : Code .nilIface 0 := .inl ⟨rfl, rfl⟩
end Go.Proofs.YtopgbggighaknaaDoor
/- desc: how many places a right descriptor has (cut by gen_desc.py). -/
namespace Go.Proofs.YtopgbggighaknaaDoor
open Go.RowKit Go
theorem ris_len {S : Int} (hS : S % 4 = 0) : ∀ (l : List Int) (a : Int), l.Pairwise (· < ·) → (∀ x ∈ l, a ≤ x ∧ x < S ∧ x % 4 = 0) → a % 4 = 0 → a ≤ S → 4 * (l.length : Int) ≤ S - a
  | [], a, _, _, _, h => by simp; omega
  | y :: r, a, hp, h, ha, hle => by
    obtain ⟨h1, h2⟩ := List.pairwise_cons.1 hp
    have hy := h y (by simp)
    have := ris_len hS r (y + 4) h2 (fun x hx => by have := h x (by simp [hx]); have := h1 x hx; omega) (by omega) (by omega)
    simp only [List.length_cons, Int.natCast_add]
    omega
theorem lens_of {d : DescR} (h : RightP d) : 4 * (d.ptrs.length : Int) ≤ d.size ∧ 4 * (d.eptrs.length : Int) ≤ d.elem := by
  have h1 := ris_len h.s4 d.ptrs 0 h.p (fun x hx => h.pp x hx) (by decide) h.s0
  have h2 := ris_len h.e4 d.eptrs 0 h.q (fun x hx => h.qq x hx) (by decide) h.e0
  omega
end Go.Proofs.YtopgbggighaknaaDoor
/- desc: what its reader reads, pure: numbers, signs, parts; it reads just descriptors' texts. -/
namespace Go.Proofs.YtopgbggighaknaaDoor
open Go
def scan : Nat → Nat → List UInt8 → Option (Nat × List UInt8)
  | N, k, [] => if k = 0 then none else some (N, [])
  | N, k, c :: r => if isDig c then (if (0 < k ∧ N = 0) ∨ 1024 < N then none else scan (10 * N + (c.toNat - 48)) (k + 1) r) else (if k = 0 then none else some (N, c :: r))
abbrev St := List UInt8 × Bool
def numberQ (st : St) : Nat × St := match scan 0 0 st.1 with | some (n, r) => (n, (r, st.2)) | none => (0, ([], true))
def hasQ (g s : List UInt8) : Bool := g.isPrefixOf s
def mustQ (g : List UInt8) (st : St) : St := if hasQ g st.1 then (st.1.drop g.length, st.2) else ([], true)
def loopQ : Nat → List Nat → St → List Nat × St
  | 0, l, st => (l, st)
  | f + 1, l, st => if hasQ [32] st.1 then loopQ f (l ++ [(numberQ (st.1.drop 1, st.2)).1]) (numberQ (st.1.drop 1, st.2)).2 else (l, st)
def partQ (st : St) : Nat × List Nat × St := ((numberQ st).1, loopQ (numberQ st).1 [] (mustQ [58] (numberQ st).2))
def readQ1 (s : List UInt8) : Nat × List Nat × St := partQ (s, false)
def readQ2 (s : List UInt8) : Nat × List Nat × St := partQ (mustQ [59, 32] (readQ1 s).2.2)
def readD (s : List UInt8) : DescR := ⟨(readQ1 s).1, (readQ1 s).2.1.map Int.ofNat, (readQ2 s).1, (readQ2 s).2.1.map Int.ofNat⟩
def readF (s : List UInt8) : Bool := (readQ2 s).2.2.2 || !(readQ2 s).2.2.1.isEmpty

theorem dig_byte {c : UInt8} (h : isDig c = true) : ∃ k, k < 10 ∧ c = dg k ∧ c.toNat - 48 = k ∧ c.toNat = 48 + k := by
  simp only [isDig, Bool.and_eq_true, decide_eq_true_eq] at h
  refine ⟨c.toNat - 48, by omega, ?_, rfl, by omega⟩
  unfold dg
  rw [show 48 + (c.toNat - 48) = c.toNat by omega]
  exact (UInt8.ofNat_toNat).symm
theorem numS_lt {n : Nat} (h : n < 10) : numS n = [dg n] := by rw [numS, dif_pos h]
theorem numS_ge {n : Nat} (h : ¬ n < 10) : numS n = numS (n / 10) ++ [dg (n % 10)] := by rw [numS, dif_neg h]
theorem scan_sound : ∀ (s : List UInt8) (N k : Nat) (p : List UInt8) (n : Nat) (r : List UInt8), (k = 0 → p = [] ∧ N = 0) → (0 < k → p = numS N) → scan N k s = some (n, r) → p ++ s = numS n ++ r
  | [], N, k, p, n, r, h0, h1, h => by
    simp only [scan] at h
    split at h
    · cases h
    · rename_i hk
      cases h
      rw [h1 (by omega)]
  | c :: s, N, k, p, n, r, h0, h1, h => by
    simp only [scan] at h
    split at h
    · rename_i hd
      split at h
      · cases h
      · rename_i hc
        obtain ⟨q, hq, rfl, hq2, _⟩ := dig_byte hd
        rw [hq2] at h
        have := scan_sound s (10 * N + q) (k + 1) (p ++ [dg q]) n r (fun h => by omega) (fun _ => ?_) h
        · simpa using this
        · rcases Nat.eq_zero_or_pos k with hk | hk
          · obtain ⟨rfl, rfl⟩ := h0 hk
            rw [show 10 * 0 + q = q by omega, numS_lt hq]; rfl
          · have hN : N ≠ 0 := fun e => hc (.inl ⟨hk, e⟩)
            rw [numS_ge (by omega : ¬ 10 * N + q < 10), show (10 * N + q) / 10 = N by omega, show (10 * N + q) % 10 = q by omega, h1 hk]
    · split at h
      · cases h
      · rename_i hk
        cases h
        rw [h1 (by omega)]
theorem scan_num (t : List UInt8) : ∀ n, n ≤ 10249 → ∃ k, 0 < k ∧ scan 0 0 (numS n ++ t) = scan n k t := by
  intro n
  induction n using Nat.strongRecOn generalizing t with
  | _ n ih =>
    intro hn
    by_cases h : n < 10
    · obtain ⟨d1, d2⟩ := dig_of n h
      refine ⟨1, by decide, ?_⟩
      rw [numS_lt h]
      simp [scan, d1, d2]
    · obtain ⟨d1, d2⟩ := dig_of (n % 10) (by omega)
      obtain ⟨k, hk, e⟩ := ih (n / 10) (by omega) ([dg (n % 10)] ++ t) (by omega)
      refine ⟨k + 1, by omega, ?_⟩
      rw [numS_ge h, List.append_assoc, e]
      simp only [List.singleton_append, scan, d1, d2, if_true]
      rw [if_neg (by omega), show 10 * (n / 10) + n % 10 = n by omega]
/-- No digit is next. -/
def NoDig (r : List UInt8) : Prop := ∀ c t, r = c :: t → isDig c = false
theorem num_c {n : Nat} {r : List UInt8} (hn : n ≤ 1024) (hr : NoDig r) (f : Bool) : numberQ (numS n ++ r, f) = (n, (r, f)) := by
  obtain ⟨k, hk, e⟩ := scan_num r n (by omega)
  have : scan 0 0 (numS n ++ r) = some (n, r) := by
    rw [e]
    cases r with
    | nil => simp only [scan]; rw [if_neg (by omega)]
    | cons c t =>
      simp only [scan, hr c t rfl]
      rw [if_neg (by simp), if_neg (by omega)]
  unfold numberQ
  simp only [this]
theorem has_app (g r : List UInt8) : hasQ g (g ++ r) = true := by unfold hasQ; simp
theorem has_of {g s : List UInt8} (h : hasQ g s = true) : s = g ++ s.drop g.length := by
  unfold hasQ at h
  obtain ⟨t, rfl⟩ := List.isPrefixOf_iff_prefix.1 h
  simp
theorem must_c (g r : List UInt8) (f : Bool) : mustQ g (g ++ r, f) = (r, f) := by
  unfold mustQ
  simp only [has_app, if_true]
  simp
theorem has32_no {r : List UInt8} (h : ∀ t, r ≠ 32 :: t) : hasQ [32] r = false := by
  cases hh : hasQ [32] r
  · rfl
  · have := has_of hh
    exact absurd this (h _)
theorem loop_c {r : List UInt8} (hd : NoDig r) (hr : ∀ t, r ≠ 32 :: t) : ∀ (e : List Nat) (f : Nat) (l : List Nat), e.length ≤ f → (∀ x ∈ e, x ≤ 1024) → loopQ f l ((e.flatMap fun x => 32 :: numS x) ++ r, false) = (l ++ e, (r, false))
  | [], 0, l, _, _ => by simp [loopQ]
  | [], f + 1, l, _, _ => by simp [loopQ, has32_no hr]
  | x :: e, 0, l, h, _ => by simp at h
  | x :: e, f + 1, l, h, hx => by
    have hn : NoDig ((e.flatMap fun x => 32 :: numS x) ++ r) := by
      cases e with
      | nil => simpa using hd
      | cons y e => intro c t hc; simp at hc; rw [← hc.1]; decide
    have e1 : hasQ [32] (((x :: e).flatMap fun x => 32 :: numS x) ++ r) = true := by
      rw [List.flatMap_cons, List.cons_append, List.cons_append]; exact has_app [32] _
    have e2 : (((x :: e).flatMap fun x => 32 :: numS x) ++ r).drop 1 = numS x ++ ((e.flatMap fun x => 32 :: numS x) ++ r) := by simp
    simp only [loopQ, e1, if_true, e2]
    rw [num_c (hx x (by simp)) hn]
    rw [loop_c hd hr e f (l ++ [x]) (by simpa using h) (fun y hy => hx y (by simp [hy]))]
    simp
theorem part_c {r : List UInt8} (hd : NoDig r) (hr : ∀ t, r ≠ 32 :: t) (size : Nat) (l : List Nat) (hs : size ≤ 1024) (hl : l.length ≤ size) (hx : ∀ x ∈ l, x ≤ 1024) : partQ (partS size l ++ r, false) = (size, l, (r, false)) := by
  unfold partQ partS
  have e : numberQ ((numS size ++ 58 :: l.flatMap fun x => 32 :: numS x) ++ r, false) = (size, ([58] ++ ((l.flatMap fun x => 32 :: numS x) ++ r), false)) := by
    rw [List.append_assoc, num_c hs (fun c t h => by simp at h; rw [← h.1]; decide)]
    rfl
  rw [e]
  simp only
  rw [must_c, loop_c hd hr l size [] hl hx]
  rfl
theorem num_s {st : St} (h : (numberQ st).2.2 = false) : st.2 = false ∧ st.1 = numS (numberQ st).1 ++ (numberQ st).2.1 := by
  unfold numberQ at h ⊢
  split at h
  · rename_i n r hs
    have := scan_sound st.1 0 0 [] n r (fun _ => ⟨rfl, rfl⟩) (fun h => absurd h (by decide)) hs
    simp only [List.nil_append] at this
    exact ⟨h, this⟩
  · cases h
theorem must_s {g : List UInt8} {st : St} (h : (mustQ g st).2 = false) : st.2 = false ∧ st.1 = g ++ (mustQ g st).1 := by
  unfold mustQ at h ⊢
  split at h
  · rename_i hh
    rw [if_pos hh]
    exact ⟨h, has_of hh⟩
  · cases h
theorem loop_s : ∀ (f : Nat) (l : List Nat) (st : St), (loopQ f l st).2.2 = false → st.2 = false ∧ ∃ e, (loopQ f l st).1 = l ++ e ∧ st.1 = (e.flatMap fun x => 32 :: numS x) ++ (loopQ f l st).2.1
  | 0, l, st, h => ⟨h, [], by simp [loopQ]⟩
  | f + 1, l, st, h => by
    by_cases hh : hasQ [32] st.1 = true
    · simp only [loopQ, hh, if_true] at h ⊢
      obtain ⟨h1, e, h2, h3⟩ := loop_s f _ _ h
      obtain ⟨h4, h5⟩ := num_s h1
      have h6 := has_of hh
      refine ⟨h4, (numberQ (st.1.drop 1, st.2)).1 :: e, by rw [h2]; simp, ?_⟩
      have h7 : [32] ++ st.1.drop 1 = [32] ++ (numS (numberQ (st.1.drop 1, st.2)).1 ++ ((e.flatMap fun x => 32 :: numS x) ++ (loopQ f (l ++ [(numberQ (st.1.drop 1, st.2)).1]) (numberQ (st.1.drop 1, st.2)).2).2.1)) := congrArg ([32] ++ ·) (h5.trans (congrArg (numS (numberQ (st.1.drop 1, st.2)).1 ++ ·) h3))
      exact h6.trans (h7.trans (by rw [List.flatMap_cons]; simp))
    · simp only [loopQ, hh] at h ⊢
      exact ⟨h, [], by simp⟩
theorem part_s {st : St} (h : (partQ st).2.2.2 = false) : st.2 = false ∧ st.1 = partS (partQ st).1 (partQ st).2.1 ++ (partQ st).2.2.1 := by
  unfold partQ at h ⊢
  simp only at h ⊢
  obtain ⟨h1, e, h2, h3⟩ := loop_s _ _ _ h
  obtain ⟨h4, h5⟩ := must_s h1
  obtain ⟨h6, h7⟩ := num_s h4
  refine ⟨h6, ?_⟩
  rw [h2, List.nil_append]
  unfold partS
  rw [h7, h5, h3]
  simp
theorem text_of {s : List UInt8} (h : readF s = false) : textS (readD s) = s := by
  unfold readF at h
  rw [Bool.or_eq_false_iff] at h
  obtain ⟨h1, h2⟩ := part_s h.1
  obtain ⟨h3, h4⟩ := must_s h1
  obtain ⟨h5, h6⟩ := part_s h3
  have he : (readQ2 s).2.2.1 = [] := by simpa using h.2
  have e1 : ∀ l : List Nat, (l.map Int.ofNat).map Int.toNat = l := fun l => by
    rw [List.map_map]
    conv => rhs; rw [← List.map_id l]
    exact List.map_congr_left fun x _ => rfl
  have e2 : s = partS (readQ1 s).1 (readQ1 s).2.1 ++ (readQ1 s).2.2.1 := h6
  have e3 : (readQ1 s).2.2.1 = [59, 32] ++ (mustQ [59, 32] (readQ1 s).2.2).1 := h4
  have e4 : (mustQ [59, 32] (readQ1 s).2.2).1 = partS (readQ2 s).1 (readQ2 s).2.1 ++ (readQ2 s).2.2.1 := h2
  conv => rhs; rw [e2, e3, e4, he]
  unfold textS readD
  simp only [e1, Int.toNat_natCast]
  simp
theorem read_of {d : DescR} (h : rightB d = true) (hl : d.ptrs.length ≤ d.size.toNat) (hl2 : d.eptrs.length ≤ d.elem.toNat) : readF (textS d) = false ∧ readD (textS d) = d := by
  have hr := h
  simp only [rightB, Bool.and_eq_true, decide_eq_true_eq] at hr
  obtain ⟨⟨⟨⟨⟨⟨⟨h1, h2⟩, h3⟩, h4⟩, h5⟩, h6⟩, h7⟩, h8⟩ := hr
  have g1 := risF_le h7
  have g2 := risF_le h8
  have q1 : readQ1 (textS d) = (d.size.toNat, d.ptrs.map Int.toNat, (59 :: 32 :: partS d.elem.toNat (d.eptrs.map Int.toNat), false)) := by
    unfold readQ1 textS
    exact part_c (fun c t hc => by simp at hc; rw [← hc.1]; decide) (fun t hc => by injection hc with h0; exact absurd h0 (by decide)) _ _ (by omega) (by simpa using hl) (fun x hx => by obtain ⟨y, hy, rfl⟩ := List.mem_map.1 hx; have := g1 y hy; omega)
  have q2 : readQ2 (textS d) = (d.elem.toNat, d.eptrs.map Int.toNat, ([], false)) := by
    unfold readQ2
    rw [q1]
    simp only
    rw [show (59 :: 32 :: partS d.elem.toNat (d.eptrs.map Int.toNat)) = [59, 32] ++ partS d.elem.toNat (d.eptrs.map Int.toNat) from rfl, must_c]
    have := part_c (r := []) (fun c t hc => by cases hc) (fun t hc => by cases hc) d.elem.toNat (d.eptrs.map Int.toNat) (by omega) (by simpa using hl2) (fun x hx => by obtain ⟨y, hy, rfl⟩ := List.mem_map.1 hx; have := g2 y hy; omega)
    rwa [List.append_nil] at this
  constructor
  · unfold readF; rw [q2]; rfl
  · unfold readD
    rw [q1, q2]
    simp only
    rw [map_back (fun x hx => (g1 x hx).1), map_back (fun x hx => (g2 x hx).1), Int.toNat_of_nonneg h1, Int.toNat_of_nonneg h4]
end Go.Proofs.YtopgbggighaknaaDoor
/- desc: its reader's small calls: fail, has, must. desc: its reader's small calls, in memory: fail, has, must. -/
namespace Go.Proofs.YtopgbggighaknaaDoor
open Go.RowKit Go
abbrev tv (l : List UInt8) : Value := .string ⟨l.toArray⟩
/-- In block b lies a reader. -/
def Rdr (w : World) (b : Nat) (st : St) : Prop := ∃ ev, Blk w b #[tv st.1, ev] 129 ∧ Code ev (codeI (!st.2) 40)
theorem bx_size (s : List UInt8) : (ByteArray.mk s.toArray).size = s.length := by show s.toArray.size = _; simp
theorem bx_list (s : List UInt8) : (ByteArray.mk s.toArray).toList = s := by rw [ByteArray.toList_eq]
theorem bx_take (s : List UInt8) (k : Nat) : (ByteArray.mk s.toArray).extract 0 k = ⟨(s.take k).toArray⟩ := by apply ByteArray.ext; rw [ByteArray.data_extract]; simp
theorem bx_drop (s : List UInt8) (k : Nat) : (ByteArray.mk s.toArray).extract k (ByteArray.mk s.toArray).size = ⟨(s.drop k).toArray⟩ := by
  apply ByteArray.ext; rw [ByteArray.data_extract, bx_size]
  simp
  exact List.take_of_length_le (by simp)
theorem bx_drop' (s : List UInt8) (k : Nat) : (ByteArray.mk s.toArray).extract k s.length = ⟨(s.drop k).toArray⟩ := by rw [← bx_drop, bx_size]
theorem hasQ_eq (g s : List UInt8) : hasQ g s = (decide (g.length ≤ s.length) && (s.take g.length == g)) := by
  rw [Bool.eq_iff_iff]
  unfold hasQ
  rw [List.isPrefixOf_iff_prefix, Bool.and_eq_true, decide_eq_true_eq, beq_iff_eq, List.prefix_iff_eq_take]
  constructor
  · intro h; exact ⟨by have := congrArg List.length h; simp at this; omega, h.symm⟩
  · rintro ⟨_, h⟩; exact h.symm
section
set_option maxHeartbeats 1000000 in
theorem hasPrefix_is (g s : List UInt8) (hg : g.length ≤ 100000) (hs : s.length ≤ 100000) (w : World) :
    Calls Tryd.prog 79 #[tv s, tv g] w fun e w' => e = .returned (.bool (hasQ g s)) ∧ Ext w w' := by
  have HQ := Lib.hid (hasQ_eq g s)
  have x0 := bx_size s
  have x1 := bx_size g
  have HT := Lib.hid (show ((ByteArray.mk s.toArray).extract 0 (ByteArray.mk g.toArray).size).toList = s.take g.length by rw [bx_size, bx_take, bx_list])
  have HG := Lib.hid (bx_list g)
  unfold tv
  generalize ByteArray.mk s.toArray = X at *
  generalize ByteArray.mk g.toArray = Y at *
  have hX : X.size ≤ 100000 := by omega
  have hY : Y.size ≤ 100000 := by omega
  have X01 := Lib.hid (And.intro x0 x1)
  clear x0 x1
  by_cases h1 : (Y.size : Int) ≤ X.size
  · have h2 : Y.size ≤ X.size := by omega
    have HN := Lib.hid (show ((X.extract 0 Y.size).toList == Y.toList) = hasQ g s by rw [HQ.out, HT.out, HG.out, show decide (g.length ≤ s.length) = true from decide_eq_true (by have := X01.out; omega)]; rfl)
    go_enter Tryd.func79, Tryd.ntmps79
    go_wp2
    go_ret
    exact ⟨rb HN.out, Ext.refl _⟩
  · have HN := Lib.hid (show false = hasQ g s by rw [HQ.out, show decide (g.length ≤ s.length) = false from decide_eq_false (by have := X01.out; omega)]; rfl)
    go_enter Tryd.func79, Tryd.ntmps79
    go_wp2
    go_ret
    exact ⟨rb HN.out, Ext.refl _⟩
def cutQ (g s : List UInt8) : List UInt8 := if hasQ g s then s.drop g.length else s
set_option maxHeartbeats 1000000 in
theorem cutPrefix_is (g s : List UInt8) (hg : g.length ≤ 100000) (hs : s.length ≤ 100000) (w : World) :
    Calls Tryd.prog 75 #[tv s, tv g] w fun e w' => e = .returned (.tuple #[tv (cutQ g s), .bool (hasQ g s)]) ∧ Ext w w' := by
  have C : ∀ w, Calls Tryd.prog 78 #[tv s, tv g] w fun e w' => e = .returned (.tuple #[tv (cutQ g s), .bool (hasQ g s)]) ∧ Ext w w' := fun w => by
    have R := Lib.hid (hasPrefix_is g s hg hs w)
    have x0 := bx_size s
    have x1 := bx_size g
    cases hq : hasQ g s
    · rw [hq] at R
      have HC := Lib.hid (show tv s = tv (cutQ g s) by rw [cutQ, hq]; rfl)
      clear hq
      unfold tv at *
      generalize ByteArray.mk s.toArray = X at *
      generalize ByteArray.mk g.toArray = Y at *
      clear x0 x1
      go_enter Tryd.func78, Tryd.ntmps78
      go_wp2_with (go_at_call 79; (with_reducible refine R.out.mono ?_); rintro e w1 ⟨rfl, k1⟩)
      go_ret2
      exact ⟨by rw [← HC.out]; rfl, k1⟩
    · rw [hq] at R
      have hle : g.length ≤ s.length := by
        rw [hasQ_eq, Bool.and_eq_true] at hq
        exact of_decide_eq_true hq.1
      have HC := Lib.hid (show Value.string ((ByteArray.mk s.toArray).extract (ByteArray.mk g.toArray).size (ByteArray.mk s.toArray).size) = tv (cutQ g s) by rw [cutQ, hq, bx_size, bx_drop]; rfl)
      clear hq
      unfold tv at *
      generalize ByteArray.mk s.toArray = X at *
      generalize ByteArray.mk g.toArray = Y at *
      have h1 : (Y.size : Int) ≤ X.size := by omega
      have hX : X.size ≤ 100000 := by omega
      clear x0 x1
      go_enter Tryd.func78, Tryd.ntmps78
      go_wp2_with (go_at_call 79; (with_reducible refine R.out.mono ?_); rintro e w1 ⟨rfl, k1⟩)
      go_ret2
      exact ⟨by rw [← HC.out]; rfl, k1⟩
  have C' := Lib.hid (C w)
  clear C
  generalize hasQ g s = b at *
  go_enter Tryd.func75, Tryd.ntmps75
  go_wp2_with (go_at_call 78; (refine C'.out.mono ?_); rintro e w1 ⟨rfl, k1⟩)
  go_ret2
  exact ⟨rfl, k1⟩
end
theorem Rdr.ext {w w' : World} {b : Nat} {st : St} (h : Rdr w b st) (k : Ext w w') : Rdr w' b st := by
  obtain ⟨ev, h1, h2⟩ := h
  exact ⟨ev, h1.ext k, h2⟩
theorem Rdr.lt {w : World} {b : Nat} {st : St} (h : Rdr w b st) : b < w.heap.size := by obtain ⟨ev, h1, _⟩ := h; exact h1.lt
section
set_option maxHeartbeats 1000000 in
theorem fail_is (b : Nat) (st : St) (w : World) (hG : G w) (hb : 8 ≤ b) (h : Rdr w b st) :
    Calls Tryd.prog 62 #[.pointer (some ⟨b, 0, none⟩)] w fun e w' => (∃ v, e = .returned v) ∧ Rdr w' b ([], true) ∧ Chg b w w' := by
  obtain ⟨ev, hB, _⟩ := h
  obtain ⟨te, pe, hc⟩ := hG.d2
  have p0 := hB.cell 0
  have p1 := hB.cell 1
  have q0 := hB.frozen 0
  have q1 := hB.frozen 1
  simp only [List.getElem?_toArray, List.getElem?_cons_zero, List.getElem?_cons_succ] at p0 p1
  have hne : 7 ≠ b := by omega
  have H := Lib.hid hB
  clear hB hG
  unfold tv at *
  generalize ByteArray.mk st.1.toArray = X at *
  go_enter Tryd.func62, Tryd.ntmps62
  go_wp2
  go_end0
  refine ⟨⟨_, rfl⟩, ⟨_, ?_, code_unless false 40 (by decide) te pe⟩, ((Chg.refl b w).setCell 0 _).setCell 1 _⟩
  have h3 := (H.out.set 0 (.string ⟨#[]⟩)).set 1 (.iface 94 (.agg #[.int .i64 40, .iface te pe]))
  simp only [List.setIfInBounds_toArray, List.set_cons_zero, List.set_cons_succ] at h3
  exact h3
set_option maxHeartbeats 1000000 in
theorem has_is (b : Nat) (st : St) (g : List UInt8) (hl : st.1.length ≤ 100000) (hg : g.length ≤ 100) (w : World) (h : Rdr w b st) :
    Calls Tryd.prog 69 #[.pointer (some ⟨b, 0, none⟩), tv g] w fun e w' => e = .returned (.bool (hasQ g st.1)) ∧ Rdr w' b (cutQ g st.1, st.2) ∧ Chg b w w' := by
  obtain ⟨ev, hB, hv⟩ := h
  have p0 := hB.cell 0
  have p1 := hB.cell 1
  have q0 := hB.frozen 0
  have q1 := hB.frozen 1
  simp only [List.getElem?_toArray, List.getElem?_cons_zero, List.getElem?_cons_succ] at p0 p1
  have C := Lib.hid (fun w => cutPrefix_is g st.1 (by omega) hl w)
  have H := Lib.hid (And.intro hB hv)
  have HS := Lib.hid (rfl : tv (cutQ g st.1) = tv (cutQ g st.1))
  clear hB hv
  obtain ⟨Z, hZ⟩ : ∃ Z, hasQ g st.1 = Z := ⟨_, rfl⟩
  rw [hZ] at C
  rw [hZ]
  clear hZ
  unfold tv at *
  generalize ByteArray.mk st.1.toArray = X at *
  generalize ByteArray.mk g.toArray = Y at *
  generalize hU : ByteArray.mk (cutQ g st.1).toArray = U at *
  go_enter Tryd.func69, Tryd.ntmps69
  go_wp2_with (go_at_call 75; (refine (C.out _).mono ?_); rintro e w1 ⟨rfl, k1⟩; have b1 := H.out.1.ext k1; have p0' := b1.cell 0; have q0' := b1.frozen 0; simp only [List.getElem?_toArray, List.getElem?_cons_zero] at p0'; have K1 := Lib.hid (And.intro k1 b1); clear k1 b1)
  go_ret
  refine ⟨rfl, ⟨ev, ?_, H.out.2⟩, ((Chg.of_ext K1.out.1).setCell 0 _)⟩
  have h3 := K1.out.2.set 0 (.string U)
  simp only [List.setIfInBounds_toArray, List.set_cons_zero] at h3
  unfold tv
  rw [hU]
  exact h3
set_option maxHeartbeats 1000000 in
theorem must_is (b : Nat) (st : St) (g : List UInt8) (hl : st.1.length ≤ 100000) (hg : g.length ≤ 100) (w0 w : World) (hG : G w0) (hE : Ext w0 w) (hb : w0.heap.size ≤ b) (h : Rdr w b st) :
    Calls Tryd.prog 61 #[.pointer (some ⟨b, 0, none⟩), tv g] w fun e w' => (∃ v, e = .returned v) ∧ Rdr w' b (mustQ g st) ∧ Chg b w w' := by
  have C := Lib.hid (has_is b st g hl hg w h)
  have hz := hG.sz
  have F := Lib.hid (fun (w1 : World) (h1 : Rdr w1 b (cutQ g st.1, st.2)) (k1 : Chg b w w1) => fail_is b _ w1 (hG.ext (Chg.below hE k1 hE.size hb)) (by omega) h1)
  cases hq : hasQ g st.1
  · rw [hq] at C
    have HM := Lib.hid (show mustQ g st = ([], true) by unfold mustQ; rw [hq]; rfl)
    clear hq h hG hE
    unfold tv at *
    generalize ByteArray.mk g.toArray = Y at *
    go_enter Tryd.func61, Tryd.ntmps61
    go_wp2_with (first | (go_at_call 69; (with_reducible refine C.out.mono ?_); rintro e w1 ⟨rfl, h1, k1⟩) | (go_at_call 62; (with_reducible refine (F.out _ h1 k1).mono ?_); rintro e w2 ⟨⟨v, rfl⟩, h2, k2⟩))
    go_end0
    exact ⟨⟨_, rfl⟩, by rw [HM.out]; exact h2, k1.trans k2⟩
  · rw [hq] at C
    have HM := Lib.hid (show mustQ g st = (cutQ g st.1, st.2) by unfold mustQ cutQ; rw [hq]; rfl)
    clear hq h hG hE
    unfold tv at *
    generalize ByteArray.mk g.toArray = Y at *
    go_enter Tryd.func61, Tryd.ntmps61
    go_wp2_with (go_at_call 69; (with_reducible refine C.out.mono ?_); rintro e w1 ⟨rfl, h1, k1⟩)
    go_end0
    exact ⟨⟨_, rfl⟩, by rw [HM.out]; exact h1, k1⟩
end
end Go.Proofs.YtopgbggighaknaaDoor
/- desc: its reader's number (made by gen_numd.py). -/
namespace Go.Proofs.YtopgbggighaknaaDoor
open Go.RowKit Go
theorem get_bang (X : ByteArray) (k : Nat) (h : k < X.size) : X.get! k = X[k] := by
  cases X with
  | mk a => exact getElem!_pos a k h
theorem decode_big (s : ByteArray) (i : Nat) (h : 128 ≤ (s.get! i).toNat) : 128 ≤ (Utf8.decode s i).1 := by
  unfold Utf8.decode
  simp only [Nat.add_zero]
  split
  · omega
  · split
    · split
      · rename_i h2; exact h2
      · simp [Utf8.runeError]
    · split
      · split
        · rename_i h2; simp at h2; show 128 ≤ _; omega
        · simp [Utf8.runeError]
      · split
        · split
          · rename_i h2; simp at h2; show 128 ≤ _; omega
          · simp [Utf8.runeError]
        · simp [Utf8.runeError]
section
set_option maxHeartbeats 8000000 in
set_option maxRecDepth 100000 in
theorem number_is (b : Nat) (st : St) (hl : st.1.length ≤ 100000) (w0 w : World) (hG : G w0) (hE : Ext w0 w) (hb : w0.heap.size ≤ b) (h : Rdr w b st) :
    Calls Tryd.prog 68 #[.pointer (some ⟨b, 0, none⟩)] w fun e w' => e = .returned (.int .i64 (numberQ st).1) ∧ Rdr w' b (numberQ st).2 ∧ Chg b w w' := by
  have hz := hG.sz
  have F := Lib.hid (fun (w1 : World) (k1 : Ext w w1) => fail_is b st w1 (hG.ext (Ext.trans hE k1)) (by omega) (h.ext k1))
  have HR := Lib.hid h
  obtain ⟨ev, hB, hv⟩ := h
  have p0 := hB.cell 0
  have q0 := hB.frozen 0
  simp only [List.getElem?_toArray, List.getElem?_cons_zero] at p0
  have hlt := hB.lt
  clear hB hv hG hE
  unfold tv at p0
  have hX : (ByteArray.mk st.1.toArray).size = st.1.length := bx_size _
  have hget : ∀ k (hk : k < (ByteArray.mk st.1.toArray).size), (ByteArray.mk st.1.toArray)[k] = st.1.getD k 0 := by
    intro k hk
    rw [List.getD_eq_getElem?_getD, List.getElem?_eq_getElem (by rw [← hX]; exact hk)]; rfl
  have hdr : ∀ k, (ByteArray.mk st.1.toArray).extract k (ByteArray.mk st.1.toArray).size = ⟨(st.1.drop k).toArray⟩ := fun k => bx_drop _ _
  have HX := Lib.hid (And.intro hX (And.intro hget hdr))
  have hXl : (ByteArray.mk st.1.toArray).size ≤ 100000 := by omega
  clear hX hget hdr
  generalize ByteArray.mk st.1.toArray = X at *
  go_enter Tryd.func68, Tryd.ntmps68
  go_wp2
  refine wp_scope_jumps 0 (fun a' w1 => ∃ (u1 u2 u3 u4 u5 u6 u7 u8 u9 u10 u11 u12 u13 u14 u15 u16 u17 u18 u19 u20 u21 u22 u23 u24 u25 u26 u27 u28 u29 u30 u31 u32 u33 u34 u35 u36 u37 u38 u39 u40 u41 u42 u43 u44 u45 u46 u47 u48 u49 u50 u51 u52 u53 : Value), a' = { tmps := #[.pointer (some ⟨b, 0, none⟩), u1, u2, u3, u4, u5, u6, u7, u8, u9, u10, u11, u12, u13, u14, u15, u16, u17, u18, u19, u20, u21, u22, u23, u24, u25, u26, u27, u28, u29, u30, u31, u32, u33, u34, u35, u36, u37, u38, u39, u40, u41, u42, u43, u44, u45, u46, u47, u48, u49, u50, u51, u52, u53], defers := [] } ∧ Ext w w1 ∧ scan 0 0 st.1 = none) (fun _ _ => 0) rfl ?_ ?_
  rotate_left
  · rintro a' w1 ⟨u1, u2, u3, u4, u5, u6, u7, u8, u9, u10, u11, u12, u13, u14, u15, u16, u17, u18, u19, u20, u21, u22, u23, u24, u25, u26, u27, u28, u29, u30, u31, u32, u33, u34, u35, u36, u37, u38, u39, u40, u41, u42, u43, u44, u45, u46, u47, u48, u49, u50, u51, u52, u53, rfl, k1, hs⟩
    have HN := Lib.hid (show numberQ st = (0, ([], true)) by unfold numberQ; rw [hs])
    have K1 := Lib.hid k1
    clear hs k1
    go_wp2_with (go_at_call 62; (with_reducible refine (F.out _ K1.out).mono ?_); rintro e w2 ⟨⟨v, rfl⟩, h2, k2⟩)
    simp only [Exit.jump]
    go_ret
    rw [HN.out]
    exact ⟨rfl, h2, (Chg.of_ext K1.out).trans k2⟩
  · go_wp2
    have hit0 : (w.alloc (.stringIter X 0)).heap[w.heap.size]? = some (.stringIter X 0) := World.alloc_heap_new w _
    go_loopg [3, 4] X.size (fun m n e wr => ∃ k N : Nat, k + m = X.size ∧ n = .int .i64 N ∧ e = .int .i64 k ∧ wr.heap[w.heap.size]? = some (.stringIter X k) ∧ scan 0 0 st.1 = scan N k (st.1.drop k) ∧ N ≤ 10249 ∧ (k = 0 → N = 0) ∧ Ext w wr)
    case atStart => exact ⟨0, 0, by omega, rfl, rfl, hit0, rfl, by omega, fun _ => rfl, ext1 _ _⟩
    case round =>
      obtain ⟨k, N, hk, rfl, rfl, hit, hsc, hN, hkN, hE⟩ := hrel
      by_cases hlt2 : k < X.size
      · have hd : st.1.drop k = X[k] :: st.1.drop (k + 1) := by
          have hk2 : k < st.1.length := by rw [← HX.out.1]; exact hlt2
          rw [List.drop_eq_getElem_cons hk2, HX.out.2.1 k hlt2, List.getD_eq_getElem?_getD, List.getElem?_eq_getElem hk2]; rfl
        have hd2 : X[k] :: st.1.drop (k + 1) = st.1.drop k := hd.symm
        rw [hd] at hsc
        simp only [scan] at hsc
        by_cases ha : X[k].toNat < 128
        · have hnext := fun ty => Lib.run_next_ascii_at (P := Tryd.prog) wr w.heap.size X k ty hit hlt2 ha
          have hit2 := Lib.iterAt_heap wr w.heap.size X k (k + 1) hit
          have hE2 := Lib.below_iterAt hE (Nat.le_refl _) X (k + 1)
          have pr := (extAt hE2 b 0 hlt).trans p0
          have qr : (wr.iterAt w.heap.size X (k + 1)).frozen? ⟨b, 0, none⟩ = false := by obtain ⟨ev, hB, _⟩ := HR.out; exact (hB.ext hE2).frozen 0
          generalize wr.iterAt w.heap.size X (k + 1) = wr2 at *
          by_cases hdg : isDig X[k] = true
          · rw [if_pos hdg] at hsc
            obtain ⟨q, hq, _, hq2, hq3⟩ := dig_byte hdg
            rw [hq2] at hsc
            clear hd hd2 hq2 hdg ha
            rw [hq3] at hnext
            have e0 : decide ((48 : Int) + q < 48) = false := decide_eq_false (by omega)
            have e1 : decide ((57 : Int) < 48 + q) = false := decide_eq_false (by omega)
            have e2 : ¬ ((48 : Int) + q < 48) := by omega
            have e3 : (48 : Int) + q ≤ 57 := by omega
            have e4 : decide (48 + q < 48) = false := decide_eq_false (by omega)
            have e5 : decide (57 < 48 + q) = false := decide_eq_false (by omega)
            have hc : ((48 + q : Nat) : Int) = 48 + (q : Int) := by push_cast; rfl
            rw [hc] at hnext
            clear hc
            rcases Nat.eq_zero_or_pos k with hk0 | hk0
            · obtain rfl := hkN hk0
              have d1 : decide (0 < k) = false := decide_eq_false (by omega)
              have d1' : decide ((0 : Int) < k) = false := decide_eq_false (by omega)
              rw [if_neg (by omega)] at hsc
              have HE := Lib.hid (And.intro hE2 (And.intro hsc (And.intro hit2 (And.intro hk hN))))
              have b1 : ((0 : Nat) : Int) ≤ 1024 := by omega
              have b2 : (q : Int) ≤ 9 := by omega
              have b3 : (k : Int) + 1 ≤ 1000000 := by omega
              clear hE2 hsc hit2 hit hk hN hE hq3
              go_wp2
              go_roundg (gk - 1)
              case measure => have := HE.out.2.2.2.1; omega
              case rel => exact ⟨k + 1, 10 * 0 + q, by have := HE.out.2.2.2.1; omega, by go_num, by go_num, HE.out.2.2.1, HE.out.2.1, by omega, fun h => by omega, HE.out.1⟩
            · have d1 : decide (0 < k) = true := decide_eq_true hk0
              have d1' : decide ((0 : Int) < k) = true := decide_eq_true (by omega)
              rcases Nat.eq_zero_or_pos N with hn0 | hn0
              · have d2 : ((N : Int) == 0) = true := by rw [beq_iff_eq]; omega
                have d2' : (N == 0) = true := by rw [beq_iff_eq]; exact hn0
                rw [if_pos (by omega)] at hsc
                have HE := Lib.hid (And.intro hE2 (And.intro hsc hk))
                clear hE2 hsc hit2 hit hk hN hE hq3
                go_wp2
                go_step3
                exact ⟨rfl, _, _, _, _, _, _, _, _, _, _, _, _, _, _, _, _, _, _, _, _, _, _, _, _, _, _, _, _, _, _, _, _, _, _, _, _, _, _, _, _, _, _, _, _, _, _, _, _, _, _, _, _, _, rfl, HE.out.1, HE.out.2.1⟩
              · have d2 : ((N : Int) == 0) = false := by rw [beq_eq_false_iff_ne]; omega
                have d2' : (N == 0) = false := by rw [beq_eq_false_iff_ne]; omega
                by_cases hb4 : 1024 < N
                · have d3 : decide (1024 < N) = true := decide_eq_true hb4
                  have d3' : decide ((1024 : Int) < N) = true := decide_eq_true (by omega)
                  rw [if_pos (by omega)] at hsc
                  have HE := Lib.hid (And.intro hE2 (And.intro hsc hk))
                  clear hE2 hsc hit2 hit hk hN hE hq3
                  go_wp2
                  go_step3
                  exact ⟨rfl, _, _, _, _, _, _, _, _, _, _, _, _, _, _, _, _, _, _, _, _, _, _, _, _, _, _, _, _, _, _, _, _, _, _, _, _, _, _, _, _, _, _, _, _, _, _, _, _, _, _, _, _, _, rfl, HE.out.1, HE.out.2.1⟩
                · have d3 : decide (1024 < N) = false := decide_eq_false hb4
                  have d3' : decide ((1024 : Int) < N) = false := decide_eq_false (by omega)
                  rw [if_neg (by omega)] at hsc
                  have HE := Lib.hid (And.intro hE2 (And.intro hsc (And.intro hit2 (And.intro hk hN))))
                  have b1 : ((N : Nat) : Int) ≤ 1024 := by omega
                  have b2 : (q : Int) ≤ 9 := by omega
                  have b3 : (k : Int) + 1 ≤ 1000000 := by omega
                  clear hE2 hsc hit2 hit hk hN hE hq3
                  go_wp2
                  go_roundg (gk - 1)
                  case measure => have := HE.out.2.2.2.1; omega
                  case rel => exact ⟨k + 1, 10 * N + q, by have := HE.out.2.2.2.1; omega, by go_num, by go_num, HE.out.2.2.1, HE.out.2.1, by omega, fun h => by omega, HE.out.1⟩
          · rw [if_neg hdg, hd2] at hsc
            have hnd : X[k].toNat < 48 ∨ 57 < X[k].toNat := by
              rcases Nat.lt_or_ge X[k].toNat 48 with h | h
              · exact .inl h
              · refine .inr (Nat.lt_of_not_le fun h2 => hdg ?_)
                rw [isDig, Bool.and_eq_true]; simp only [decide_eq_true_eq]; exact ⟨h, h2⟩
            clear hd hd2 hdg ha
            generalize X[k].toNat = z at *
            by_cases hz1 : z < 48
            · have e0 : decide (z < 48) = true := decide_eq_true hz1
              have e1 : decide ((z : Int) < 48) = true := decide_eq_true (by omega)
              have e2 : (z : Int) < 48 := by omega
              clear hnd
              rcases Nat.eq_zero_or_pos k with hk0 | hk0
              · rw [if_pos hk0] at hsc
                have z1 : ((k : Int) == 0) = true := by rw [beq_iff_eq]; omega
                have z2 : (k == 0) = true := by rw [beq_iff_eq]; exact hk0
                have HE := Lib.hid (And.intro hE2 (And.intro hsc hk))
                clear hE2 hsc hk0 hk hE hit hit2
                go_wp2
                go_step3
                exact ⟨rfl, _, _, _, _, _, _, _, _, _, _, _, _, _, _, _, _, _, _, _, _, _, _, _, _, _, _, _, _, _, _, _, _, _, _, _, _, _, _, _, _, _, _, _, _, _, _, _, _, _, _, _, _, _, rfl, HE.out.1, HE.out.2.1⟩
              · rw [if_neg (by omega)] at hsc
                have z1 : ((k : Int) == 0) = false := by rw [beq_eq_false_iff_ne]; omega
                have z2 : (k == 0) = false := by rw [beq_eq_false_iff_ne]; omega
                have z3 : (k : Int) ≤ X.size := by omega
                have HE := Lib.hid (And.intro hE2 (And.intro (show numberQ st = (N, (st.1.drop k, st.2)) by unfold numberQ; rw [hsc]) hk))
                clear hE2 hsc hk0 hk hE hit hit2
                go_wp2
                simp only [Exit.jump]
                go_ret
                rw [HE.out.2.1]
                obtain ⟨ev, hB, hv⟩ := HR.out
                refine ⟨rfl, ⟨ev, ?_, hv⟩, (Chg.of_ext HE.out.1).setCell 0 _⟩
                have h3 := (hB.ext HE.out.1).set 0 (.string (X.extract k X.size))
                simp only [List.setIfInBounds_toArray, List.set_cons_zero] at h3
                rw [HX.out.2.2 k] at h3 ⊢
                exact h3
            · have e0 : decide (z < 48) = false := decide_eq_false hz1
              have e1 : decide ((z : Int) < 48) = false := decide_eq_false (by omega)
              have e2 : ¬ (z : Int) < 48 := by omega
              have e3 : decide (57 < z) = true := decide_eq_true (by omega)
              have e4 : decide ((57 : Int) < z) = true := decide_eq_true (by omega)
              have e5 : (57 : Int) < z := by omega
              clear hnd
              rcases Nat.eq_zero_or_pos k with hk0 | hk0
              · rw [if_pos hk0] at hsc
                have z1 : ((k : Int) == 0) = true := by rw [beq_iff_eq]; omega
                have z2 : (k == 0) = true := by rw [beq_iff_eq]; exact hk0
                have HE := Lib.hid (And.intro hE2 (And.intro hsc hk))
                clear hE2 hsc hk0 hk hE hit hit2
                go_wp2
                go_step3
                exact ⟨rfl, _, _, _, _, _, _, _, _, _, _, _, _, _, _, _, _, _, _, _, _, _, _, _, _, _, _, _, _, _, _, _, _, _, _, _, _, _, _, _, _, _, _, _, _, _, _, _, _, _, _, _, _, _, rfl, HE.out.1, HE.out.2.1⟩
              · rw [if_neg (by omega)] at hsc
                have z1 : ((k : Int) == 0) = false := by rw [beq_eq_false_iff_ne]; omega
                have z2 : (k == 0) = false := by rw [beq_eq_false_iff_ne]; omega
                have z3 : (k : Int) ≤ X.size := by omega
                have HE := Lib.hid (And.intro hE2 (And.intro (show numberQ st = (N, (st.1.drop k, st.2)) by unfold numberQ; rw [hsc]) hk))
                clear hE2 hsc hk0 hk hE hit hit2
                go_wp2
                simp only [Exit.jump]
                go_ret
                rw [HE.out.2.1]
                obtain ⟨ev, hB, hv⟩ := HR.out
                refine ⟨rfl, ⟨ev, ?_, hv⟩, (Chg.of_ext HE.out.1).setCell 0 _⟩
                have h3 := (hB.ext HE.out.1).set 0 (.string (X.extract k X.size))
                simp only [List.setIfInBounds_toArray, List.set_cons_zero] at h3
                rw [HX.out.2.2 k] at h3 ⊢
                exact h3
        · have hnext := fun ty => Lib.run_next_any_at (P := Tryd.prog) wr w.heap.size X k ty hit hlt2
          have hbig := decode_big X k (by show 128 ≤ (X.get! k).toNat; rw [get_bang X k hlt2]; omega)
          have hE2 := Lib.below_iterAt hE (Nat.le_refl _) X (k + (Utf8.decode X k).2)
          have hdg : ¬ isDig X[k] = true := fun h => by obtain ⟨q, hq, _, _, hq3⟩ := dig_byte h; omega
          rw [if_neg hdg, hd2] at hsc
          have pr := (extAt hE2 b 0 hlt).trans p0
          have qr : (wr.iterAt w.heap.size X (k + (Utf8.decode X k).2)).frozen? ⟨b, 0, none⟩ = false := by obtain ⟨ev, hB, _⟩ := HR.out; exact (hB.ext hE2).frozen 0
          generalize wr.iterAt w.heap.size X (k + (Utf8.decode X k).2) = wr2 at *
          generalize (Utf8.decode X k).1 = z at *
          have hnd : z < 48 ∨ 57 < z := by omega
          clear hd hd2 hdg ha hbig
          by_cases hz1 : z < 48
          · have e0 : decide (z < 48) = true := decide_eq_true hz1
            have e1 : decide ((z : Int) < 48) = true := decide_eq_true (by omega)
            have e2 : (z : Int) < 48 := by omega
            clear hnd
            rcases Nat.eq_zero_or_pos k with hk0 | hk0
            · rw [if_pos hk0] at hsc
              have z1 : ((k : Int) == 0) = true := by rw [beq_iff_eq]; omega
              have z2 : (k == 0) = true := by rw [beq_iff_eq]; exact hk0
              have HE := Lib.hid (And.intro hE2 (And.intro hsc hk))
              clear hE2 hsc hk0 hk hE hit
              go_wp2
              go_step3
              exact ⟨rfl, _, _, _, _, _, _, _, _, _, _, _, _, _, _, _, _, _, _, _, _, _, _, _, _, _, _, _, _, _, _, _, _, _, _, _, _, _, _, _, _, _, _, _, _, _, _, _, _, _, _, _, _, _, rfl, HE.out.1, HE.out.2.1⟩
            · rw [if_neg (by omega)] at hsc
              have z1 : ((k : Int) == 0) = false := by rw [beq_eq_false_iff_ne]; omega
              have z2 : (k == 0) = false := by rw [beq_eq_false_iff_ne]; omega
              have z3 : (k : Int) ≤ X.size := by omega
              have HE := Lib.hid (And.intro hE2 (And.intro (show numberQ st = (N, (st.1.drop k, st.2)) by unfold numberQ; rw [hsc]) hk))
              clear hE2 hsc hk0 hk hE hit
              go_wp2
              simp only [Exit.jump]
              go_ret
              rw [HE.out.2.1]
              obtain ⟨ev, hB, hv⟩ := HR.out
              refine ⟨rfl, ⟨ev, ?_, hv⟩, (Chg.of_ext HE.out.1).setCell 0 _⟩
              have h3 := (hB.ext HE.out.1).set 0 (.string (X.extract k X.size))
              simp only [List.setIfInBounds_toArray, List.set_cons_zero] at h3
              rw [HX.out.2.2 k] at h3 ⊢
              exact h3
          · have e0 : decide (z < 48) = false := decide_eq_false hz1
            have e1 : decide ((z : Int) < 48) = false := decide_eq_false (by omega)
            have e2 : ¬ (z : Int) < 48 := by omega
            have e3 : decide (57 < z) = true := decide_eq_true (by omega)
            have e4 : decide ((57 : Int) < z) = true := decide_eq_true (by omega)
            have e5 : (57 : Int) < z := by omega
            clear hnd
            rcases Nat.eq_zero_or_pos k with hk0 | hk0
            · rw [if_pos hk0] at hsc
              have z1 : ((k : Int) == 0) = true := by rw [beq_iff_eq]; omega
              have z2 : (k == 0) = true := by rw [beq_iff_eq]; exact hk0
              have HE := Lib.hid (And.intro hE2 (And.intro hsc hk))
              clear hE2 hsc hk0 hk hE hit
              go_wp2
              go_step3
              exact ⟨rfl, _, _, _, _, _, _, _, _, _, _, _, _, _, _, _, _, _, _, _, _, _, _, _, _, _, _, _, _, _, _, _, _, _, _, _, _, _, _, _, _, _, _, _, _, _, _, _, _, _, _, _, _, _, rfl, HE.out.1, HE.out.2.1⟩
            · rw [if_neg (by omega)] at hsc
              have z1 : ((k : Int) == 0) = false := by rw [beq_eq_false_iff_ne]; omega
              have z2 : (k == 0) = false := by rw [beq_eq_false_iff_ne]; omega
              have z3 : (k : Int) ≤ X.size := by omega
              have HE := Lib.hid (And.intro hE2 (And.intro (show numberQ st = (N, (st.1.drop k, st.2)) by unfold numberQ; rw [hsc]) hk))
              clear hE2 hsc hk0 hk hE hit
              go_wp2
              simp only [Exit.jump]
              go_ret
              rw [HE.out.2.1]
              obtain ⟨ev, hB, hv⟩ := HR.out
              refine ⟨rfl, ⟨ev, ?_, hv⟩, (Chg.of_ext HE.out.1).setCell 0 _⟩
              have h3 := (hB.ext HE.out.1).set 0 (.string (X.extract k X.size))
              simp only [List.setIfInBounds_toArray, List.set_cons_zero] at h3
              rw [HX.out.2.2 k] at h3 ⊢
              exact h3
      · have hnext := fun ty => Lib.run_next_end_at (P := Tryd.prog) wr w.heap.size X k ty hit hlt2
        have hdn : st.1.drop k = [] := List.drop_eq_nil_of_le (by rw [← HX.out.1]; omega)
        have hE2 := hE
        have pr := (extAt hE2 b 0 hlt).trans p0
        have qr : wr.frozen? ⟨b, 0, none⟩ = false := by obtain ⟨ev, hB, _⟩ := HR.out; exact (hB.ext hE2).frozen 0
        replace hsc : scan 0 0 st.1 = if k = 0 then none else some (N, st.1.drop k) := by rw [hsc, hdn]; rfl
        clear hdn
        rcases Nat.eq_zero_or_pos k with hk0 | hk0
        · rw [if_pos hk0] at hsc
          have z1 : ((k : Int) == 0) = true := by rw [beq_iff_eq]; omega
          have z2 : (k == 0) = true := by rw [beq_iff_eq]; exact hk0
          have HE := Lib.hid (And.intro hE2 (And.intro hsc hk))
          clear hE2 hsc hk0 hk hE hit
          go_wp2
          go_step3
          exact ⟨rfl, _, _, _, _, _, _, _, _, _, _, _, _, _, _, _, _, _, _, _, _, _, _, _, _, _, _, _, _, _, _, _, _, _, _, _, _, _, _, _, _, _, _, _, _, _, _, _, _, _, _, _, _, _, rfl, HE.out.1, HE.out.2.1⟩
        · rw [if_neg (by omega)] at hsc
          have z1 : ((k : Int) == 0) = false := by rw [beq_eq_false_iff_ne]; omega
          have z2 : (k == 0) = false := by rw [beq_eq_false_iff_ne]; omega
          have z3 : (k : Int) ≤ X.size := by omega
          have HE := Lib.hid (And.intro hE2 (And.intro (show numberQ st = (N, (st.1.drop k, st.2)) by unfold numberQ; rw [hsc]) hk))
          clear hE2 hsc hk0 hk hE hit
          go_wp2
          simp only [Exit.jump]
          go_ret
          rw [HE.out.2.1]
          obtain ⟨ev, hB, hv⟩ := HR.out
          refine ⟨rfl, ⟨ev, ?_, hv⟩, (Chg.of_ext HE.out.1).setCell 0 _⟩
          have h3 := (hB.ext HE.out.1).set 0 (.string (X.extract k X.size))
          simp only [List.setIfInBounds_toArray, List.set_cons_zero] at h3
          rw [HX.out.2.2 k] at h3 ⊢
          exact h3
end
end Go.Proofs.YtopgbggighaknaaDoor
