/- Joined texts, in their order: KTake, RO, PtrsK, LinesI. -/
import Derived.Test.YtopgbggighaknaaDoorM14
import Derived.Test.YtopgbggighaknaaDoorM08
import Derived.Test.YtopgbggighaknaaDoorShelf
import Derived.Test.YtopgbggighaknaaDoorM03
import Derived.Test.YtopgbggighaknaaDoorM10
import Derived.Test.YtopgbggighaknaaDoorM02
import Derived.Test.YtopgbggighaknaaDoorM05
/- kinds: take: a line. -/
namespace Go.Proofs.YtopgbggighaknaaDoor
open Go.RowKit Go
def lnE (out : List DescR) (d : DescR) : Int := if d ∈ out then 52 else if out.length = 60 then 53 else 0
def lnL (out : List DescR) (d : DescR) : List DescR := if lnE out d = 0 then out ++ [d] else out
/-- Rows that were there, and new ones whose lists lie from B0 on. -/
def NewR (B0 : Nat) (ys ys' : List DRow) : Prop := ∀ (i : Nat) (y : DRow), ys'[i]? = some y → ys[i]? = some y ∨ ((∀ ad, y.A = some ad → B0 ≤ ad.block) ∧ (∀ ad, y.B = some ad → B0 ≤ ad.block))
theorem NewR.refl (B0 : Nat) (ys : List DRow) : NewR B0 ys ys := fun _ _ h => .inl h
/-- What learn, take leave. -/
def LrnR (b M : Nat) (A : Option Addr) (n c : Nat) (ys : List DRow) (B0 : Nat) (out' : List DescR) (k : Int) (x2 x3 : Value) (w : World) (e : Ending) (w' : World) : Prop :=
  (∃ v, e = .returned v ∧ K.Code v k) ∧ (∃ A' n' c' ys', Kn w' b M A' n' c' ys' out' x2 x3 ∧ (∀ g, (Value.slice A' n' c').ownBlock = some g → (Value.slice A n c).ownBlock = some g ∨ w.heap.size ≤ g) ∧ NewR B0 ys ys') ∧ ChgU (Ub b M (.slice A n c)) w w'
section
variable (b M : Nat) (A : Option Addr) (n c : Nat) (ys : List DRow) (out : List DescR) (x2 x3 : Value)
theorem learn_any (x : DRow) (d : DescR) (w : World) (hG : K.G w) (h : Kn w b M A n c ys out x2 x3) (hn : n ≤ 60) (hall : ∀ e ∈ out, rightB e = true) (hd : rightB d = true) (hx : Dn w x d) (hx1 : x.n ≤ 1000) (hx2 : x.m ≤ 1000)
    (hA : ∀ ad, x.A = some ad → b < ad.block ∧ (Value.slice A n c).ownBlock ≠ some ad.block) (hB : ∀ ad, x.B = some ad → b < ad.block ∧ (Value.slice A n c).ownBlock ≠ some ad.block) (ht : (textS d).length ≤ 1000000) (B0 : Nat) (hb0 : (∀ ad, x.A = some ad → B0 ≤ ad.block) ∧ (∀ ad, x.B = some ad → B0 ≤ ad.block)) :
    Calls Tryd.prog 48 #[.pointer (some ⟨b, 0, none⟩), .string ⟨(textS d).toArray⟩, .agg x.cells] w (LrnR b M A n c ys B0 (lnL out d) (lnE out d) x2 x3 w) := by
  have hh := has_text hd hall
  have hc := h.cnt
  unfold lnL lnE
  by_cases h1 : d ∈ out
  · rw [decide_eq_true h1] at hh
    rw [if_pos h1, if_neg (by decide)]
    exact (learn_twice b M A n c ys out x2 x3 x (textS d) w hG h ht hh).mono fun e w' ⟨h2, h3⟩ => ⟨h2, ⟨A, n, c, ys, h.ext h3, fun g hg => .inl hg, NewR.refl _ _⟩, ChgU.of_ext h3⟩
  · rw [decide_eq_false h1] at hh
    rw [if_neg h1]
    by_cases h6 : out.length = 60
    · rw [if_pos h6, if_neg (by decide)]
      exact (learn_many b M A n c ys out x2 x3 x (textS d) w hG h (by omega) ht hh).mono fun e w' ⟨h2, h3⟩ => ⟨h2, ⟨A, n, c, ys, h.ext h3, fun g hg => .inl hg, NewR.refl _ _⟩, ChgU.of_ext h3⟩
    · rw [if_neg h6, if_pos rfl]
      refine (learn_new b M A n c ys out x2 x3 x d w hG h (by omega) hx hx1 hx2 hA hB ht hh).mono ?_
      rintro e w' ⟨rfl, ⟨A', c', h2, h3⟩, h4⟩
      exact ⟨⟨_, rfl, K.code_0⟩, ⟨A', n + 1, c', _, h2, h3, fun i y hy => by
        rcases Nat.lt_or_ge i ys.length with hi | hi
        · rw [List.getElem?_append_left hi] at hy; exact .inl hy
        · rw [List.getElem?_append_right hi] at hy
          have hm := List.mem_of_getElem? hy
          obtain rfl : y = x := by simpa using hm
          exact .inr hb0⟩, h4⟩
set_option maxHeartbeats 8000000 in
set_option maxRecDepth 100000 in
theorem take_40a (t : List UInt8) (w : World) (hG : K.G w) (ht : t.length ≤ 100000) (h10 : t.getLast? ≠ some 10) :
    Calls Tryd.prog 36 #[.pointer (some ⟨b, 0, none⟩), .string ⟨t.toArray⟩] w fun e w' => (∃ v, e = .returned v ∧ K.Code v 40) ∧ Ext w w' := by
  obtain ⟨te, pe, g0⟩ := hG.k1
  have CS : ∀ w, Calls Tryd.prog 46 #[.string ⟨t.toArray⟩, .string ⟨#[10]⟩] w fun e w' => e = .returned (.tuple #[.string ⟨(Lib.trimSuffix t [10]).toArray⟩, .bool (Lib.hasSuffix t [10])]) ∧ w' = w := fun w => Tryd.strings_CutSuffix ⟨t.toArray⟩ ⟨#[10]⟩ w (by show t.toArray.size ≤ _; simp; omega)
  rw [suf_eq, decide_eq_false h10] at CS
  have HC := Lib.hid CS
  clear CS hG h10
  go_enter Tryd.func36, Tryd.ntmps36
  go_wp2_with (go_at_call 46; refine (HC.out _).mono ?_; rintro e w1 ⟨rfl, rfl⟩)
  go_ret
  exact ⟨⟨_, rfl, K.code_errW 40 (by decide) _ _⟩, Ext.refl _⟩
set_option maxHeartbeats 8000000 in
set_option maxRecDepth 100000 in
theorem take_40b (t : List UInt8) (w : World) (hG : K.G w) (ht : t.length ≤ 100000) (h10 : t.getLast? = some 10) (hp : parseP t.dropLast = none) :
    Calls Tryd.prog 36 #[.pointer (some ⟨b, 0, none⟩), .string ⟨t.toArray⟩] w fun e w' => (∃ v, e = .returned v ∧ K.Code v 40) ∧ Ext w w' := by
  obtain ⟨te, pe, g0⟩ := hG.k0
  have CS : ∀ w, Calls Tryd.prog 46 #[.string ⟨t.toArray⟩, .string ⟨#[10]⟩] w fun e w' => e = .returned (.tuple #[.string ⟨(Lib.trimSuffix t [10]).toArray⟩, .bool (Lib.hasSuffix t [10])]) ∧ w' = w := fun w => Tryd.strings_CutSuffix ⟨t.toArray⟩ ⟨#[10]⟩ w (by show t.toArray.size ≤ _; simp; omega)
  rw [suf_eq, decide_eq_true h10, trim_eq t h10] at CS
  have HC := Lib.hid CS
  have HP := Lib.hid (dparse_is t.dropLast (by simp; omega) w hG.g)
  have HG := Lib.hid (fun W (hW : Ext w W) => hG.glob (b := 3) (by decide) g0 hW)
  unfold DParseR at HP
  rw [hp] at HP
  clear CS hG h10 hp g0
  go_enter Tryd.func36, Tryd.ntmps36
  go_wp2_with (first | (go_at_call 46; refine (HC.out _).mono ?_; rintro e w1 ⟨rfl, rfl⟩) | (go_at_call 47; refine HP.out.mono ?_; rintro e w2 ⟨rfl, k2⟩; have g5 := HG.out _ (Ext.trans k2 (ext1 _ (.cells #[.int .i64 0, .slice none 0 0, .int .i64 0, .slice none 0 0] 27)))))
  go_ret
  exact ⟨⟨_, rfl, K.code_errW 40 (by decide) _ _⟩, Ext.trans k2 (ext1 _ _)⟩
set_option maxHeartbeats 8000000 in
set_option maxRecDepth 100000 in
theorem take_some (t : List UInt8) (d : DescR) (w : World) (hG : K.G w) (h : Kn w b M A n c ys out x2 x3) (hn : n ≤ 60) (hall : ∀ e ∈ out, rightB e = true) (ht : t.length ≤ 100000) (h10 : t.getLast? = some 10) (hp : parseP t.dropLast = some d) :
    Calls Tryd.prog 36 #[.pointer (some ⟨b, 0, none⟩), .string ⟨t.toArray⟩] w (LrnR b M A n c ys w.heap.size (lnL out d) (lnE out d) x2 x3 w) := by
  have CS : ∀ w, Calls Tryd.prog 46 #[.string ⟨t.toArray⟩, .string ⟨#[10]⟩] w fun e w' => e = .returned (.tuple #[.string ⟨(Lib.trimSuffix t [10]).toArray⟩, .bool (Lib.hasSuffix t [10])]) ∧ w' = w := fun w => Tryd.strings_CutSuffix ⟨t.toArray⟩ ⟨#[10]⟩ w (by show t.toArray.size ≤ _; simp; omega)
  rw [suf_eq, decide_eq_true h10, trim_eq t h10] at CS
  obtain ⟨hd, htx⟩ := parse_some hp
  have hR := right_of hd
  have hl := lens_of hR
  have s1 := hR.s1
  have s2 := hR.e1
  have hdl : t.dropLast.length ≤ 100000 := by simp; omega
  have HC := Lib.hid CS
  have HP := Lib.hid (dparse_is t.dropLast hdl w hG.g)
  unfold DParseR at HP
  rw [hp] at HP
  have HG := Lib.hid (fun W (hW : Ext w W) => hG.ext hW)
  have HS := Lib.hid (And.intro h (And.intro hall (And.intro hd (And.intro (show (textS d).length ≤ 1000000 by rw [htx]; omega) (show d.ptrs.length ≤ 1000 ∧ d.eptrs.length ≤ 1000 by omega)))))
  have hlb := h.blk.lt
  rw [← htx] at HP HC
  clear CS hG h10 hp h hall hd hR hl s1 s2 hdl htx
  go_enter Tryd.func36, Tryd.ntmps36
  go_wp2_with (first | (go_at_call 46; refine (HC.out _).mono ?_; rintro e w1 ⟨rfl, rfl⟩) | (go_at_call 47; refine HP.out.mono ?_; rintro e w2 ⟨A2, c2, B2, c2', rfl, h1, h2, h3, h4, i1, i2, n1, n2, k2⟩; have HH := Lib.hid (And.intro h1 (And.intro h2 (And.intro h3 (And.intro h4 (And.intro i1 (And.intro i2 (And.intro n1 n2))))))); clear h1 h2 h3 h4 i1 i2 n1 n2))
  have bX := Blk.new w2 #[.int .i64 d.size, .slice A2 d.ptrs.length c2, .int .i64 d.elem, .slice B2 d.eptrs.length c2'] 27
  have X3 := Ext.trans k2 (ext1 w2 (.cells #[.int .i64 d.size, .slice A2 d.ptrs.length c2, .int .i64 d.elem, .slice B2 d.eptrs.length c2'] 27))
  have hob : ∀ g, (Value.slice A n c).ownBlock = some g → g < w1.heap.size := fun g hg => (World.ownsRow.lt HS.out.1.own g hg).2
  have hMb := HS.out.1.mb
  have hz2 := k2.size
  have hnx : ¬ Ub b M (.slice A n c) w2.heap.size := by
    rintro (h | h | h)
    · omega
    · omega
    · have := hob _ h; omega
  have RL := Lib.hid (fun W (hW : Ext w1 W) (k : Ext w2 W) => learn_any b M A n c ys out x2 x3 ⟨d.size, A2, d.ptrs.length, c2, d.elem, B2, d.eptrs.length, c2'⟩ d W (HG.out W hW) (HS.out.1.ext hW) hn HS.out.2.1 HS.out.2.2.1
    ⟨rfl, rfl, HH.out.2.2.2.2.1.ext k, HH.out.2.2.2.2.2.1.ext k, HH.out.1, HH.out.2.1, HH.out.2.2.1, HH.out.2.2.2.1⟩ HS.out.2.2.2.2.1 HS.out.2.2.2.2.2
    (fun ad e => ⟨by have := HH.out.2.2.2.2.2.2.1 ad e; omega, fun h => by have := HH.out.2.2.2.2.2.2.1 ad e; have := hob _ h; omega⟩) (fun ad e => ⟨by have := HH.out.2.2.2.2.2.2.2 ad e; omega, fun h => by have := HH.out.2.2.2.2.2.2.2 ad e; have := hob _ h; omega⟩) HS.out.2.2.2.1 w1.heap.size ⟨HH.out.2.2.2.2.2.2.1, HH.out.2.2.2.2.2.2.2⟩)
  letI : F.Free := ⟨Ub b M (.slice A n c)⟩
  refine F.wp_region_XT2 7 6 rfl (by kernel_rfl) (by kernel_rfl) ?_
  intro HDD
  refine F.wpH2_segL HDD 0 5 1 rfl rfl (F.ExtF.refl _) (by kernel_rfl) ?_
  apply Exists.intro
  refine ⟨fun cw => ?_, ?_⟩
  · have q0 := on_cell ((show Blk cw.w w2.heap.size _ _ from (cw.h.block _ bX.lt hnx).trans bX).cell 0)
    have q1 := on_cell ((show Blk cw.w w2.heap.size _ _ from (cw.h.block _ bX.lt hnx).trans bX).cell 1)
    have q2 := on_cell ((show Blk cw.w w2.heap.size _ _ from (cw.h.block _ bX.lt hnx).trans bX).cell 2)
    have q3 := on_cell ((show Blk cw.w w2.heap.size _ _ from (cw.h.block _ bX.lt hnx).trans bX).cell 3)
    simp only [List.take_succ_cons, List.take_zero, List.drop_zero]
    repeat (go_big_quiet_step (fail))
    exact wpQuiet_nil rfl
  refine F.wpH2_stepL 5 0 rfl rfl rfl (by kernel_rfl) ?_
  intro V hV KK hK
  go_simp
  refine (RL.out V (Ext.trans X3 hV) (Ext.trans (ext1 w2 _) hV)).mono ?_
  unfold LrnR
  rintro e V2 ⟨⟨v, rfl, hv⟩, ⟨A', n', c', ys', hk', ho', hn'⟩, hc'⟩
  refine hK.out _ _ ((F.ExtF.of_ext hV).trans ⟨hc'.os, hc'.tape, hc'.output, hc'.size, hc'.block⟩) ?_
  clear hK KK
  refine F.wpH2_end (fun V3 hV3 => ⟨by kernel_rfl, ?_⟩)
  have HF := Lib.hid (And.intro hv (And.intro hk' (And.intro ho' (And.intro hc' (And.intro hV (And.intro hV3 hn'))))))
  simp only [List.drop_succ_cons, List.drop_zero]
  clear HDD hv hk' ho' hc' hV3 hn'
  go_wp2
  go_ret
  refine ⟨⟨_, rfl, HF.out.1⟩, ⟨A', n', c', ys', HF.out.2.1.ext HF.out.2.2.2.2.2.1, fun g hg => ?_, HF.out.2.2.2.2.2.2⟩, ?_⟩
  · rcases HF.out.2.2.1 g hg with h | h
    · exact .inl h
    · exact .inr (by have := (Ext.trans X3 hV).size; omega)
  · exact ((ChgU.of_ext (Ext.trans X3 HF.out.2.2.2.2.1)).trans HF.out.2.2.2.1 (fun _ _ h => h)).ext HF.out.2.2.2.2.2.1
end
theorem take_is (b M : Nat) (A : Option Addr) (n c : Nat) (ys : List DRow) (out : List DescR) (x2 x3 : Value) (t : List UInt8) (w : World) (hG : K.G w) (h : Kn w b M A n c ys out x2 x3) (hn : n ≤ 60) (hall : ∀ e ∈ out, rightB e = true) (ht : t.length ≤ 100000) :
    Calls Tryd.prog 36 #[.pointer (some ⟨b, 0, none⟩), .string ⟨t.toArray⟩] w (LrnR b M A n c ys w.heap.size (if takeE out t = 0 then takeL out t else out) (takeE out t) x2 x3 w) := by
  by_cases h10 : t.getLast? = some 10
  · cases hp : parseP t.dropLast with
    | none =>
      have e : takeE out t = 40 := by unfold takeE; rw [if_pos h10, hp]
      rw [e, if_neg (by decide)]
      exact (take_40b b t w hG ht h10 hp).mono fun e w' ⟨h2, h3⟩ => ⟨h2, ⟨A, n, c, ys, h.ext h3, fun g hg => .inl hg, NewR.refl _ _⟩, ChgU.of_ext h3⟩
    | some d =>
      have e : takeE out t = lnE out d := by unfold takeE lnE; rw [if_pos h10, hp]
      have e2 : takeL out t = out ++ [d] := by unfold takeL; rw [hp]
      rw [e, e2]
      exact take_some b M A n c ys out x2 x3 t d w hG h hn hall ht h10 hp
  · have e : takeE out t = 40 := by unfold takeE; rw [if_neg h10]
    rw [e, if_neg (by decide)]
    exact (take_40a b t w hG ht h10).mono fun e w' ⟨h2, h3⟩ => ⟨h2, ⟨A, n, c, ys, h.ext h3, fun g hg => .inl hg, NewR.refl _ _⟩, ChgU.of_ext h3⟩
end Go.Proofs.YtopgbggighaknaaDoor
/- Iterators that own blocks of their own, older than the loop (a captured variable that they write): as XRU; o: the blocks that the iterator writes. -/
namespace Go.Proofs.YtopgbggighaknaaDoor
open Go Go.RowKit
attribute [local go_sem] Oper.semAt_some
/-- Of the blocks below S all but o's lie as they lay. -/
structure BelowO (o : Nat → Prop) (S : Nat) (W W' : World) : Prop where
  os : W'.os = W.os
  tape : W'.tape = W.tape
  output : W'.output = W.output
  size : W.heap.size ≤ W'.heap.size
  block : ∀ k, k < S → ¬ o k → W'.heap[k]? = W.heap[k]?
theorem BelowO.of_below {o : Nat → Prop} {S : Nat} {W W' : World} (h : Below S W W') : BelowO o S W W' := ⟨h.os, h.tape, h.output, h.size, fun k hk _ => h.block k hk⟩
theorem BelowO.mono {o o' : Nat → Prop} {S S' : Nat} {W W' : World} (h : BelowO o S W W') (hS : S' ≤ S) (ho : ∀ k, k < S' → o k → o' k) : BelowO o' S' W W' := ⟨h.os, h.tape, h.output, h.size, fun k hk hn => h.block k (by omega) (fun h' => hn (ho k hk h'))⟩
theorem BelowO.below {o : Nat → Prop} {S : Nat} {W W' : World} (h : BelowO o S W W') {B : Nat} (hB : B ≤ S) (ho : ∀ k, o k → B ≤ k) : Below B W W' := ⟨h.os, h.tape, h.output, h.size, fun k hk => h.block k (by omega) (fun h' => by have := ho k h'; omega)⟩
theorem BelowO.setCell {o : Nat → Prop} {S : Nat} (W : World) (p : Addr) (v : Value) (hp : o p.block ∨ S ≤ p.block) : BelowO o S W (W.setCell p v) :=
  ⟨rfl, rfl, rfl, by simp, fun k hk hn => Below.heap_setCell _ _ _ _ (by rintro rfl; rcases hp with h | h; exact hn h; omega)⟩
theorem BelowO.trans {o : Nat → Prop} {S : Nat} {A B C : World} (h : BelowO o S A B) (k : BelowO o S B C) : BelowO o S A C :=
  ⟨k.os.trans h.os, k.tape.trans h.tape, k.output.trans h.output, Nat.le_trans h.size k.size, fun i hi hn => (k.block i hi hn).trans (h.block i hi hn)⟩
section
variable {P : Program}
def IterO (P : Program) (D o : Nat → Prop) (gf : Nat) (lb : Array Value) (xs : List (Array Value)) (w : World) : Prop :=
  ∀ (l : Nat) (J Jx : Nat → (Nat → Prop) → World → Prop) (u0 : Nat → Prop) (W : World), Keep D w.heap.size w W →
    (∀ k u A B, J k u A → BelowO o W.heap.size A B → (∀ b, u b → B.heap[b]? = A.heap[b]?) → J k u B) →
    (∀ k u A B, Jx k u A → BelowO o W.heap.size A B → (∀ b, u b → B.heap[b]? = A.heap[b]?) → Jx k u B) →
    (∀ k u A, J k u A → ∀ b, u b → b < A.heap.size) →
    (∀ k u A, Jx k u A → ∀ b, u b → b < A.heap.size) →
    (∀ k u x W1, xs[k]? = some x → J k u W1 → YieldAt Fence.wide 0 P l x W1 fun e W' => ∃ u', (∀ b, u' b → u b ∨ W1.heap.size ≤ b) ∧
      ((e = .returned (.bool true) ∧ J (k + 1) u' W' ∧ KeepU D u W.heap.size W1 W') ∨ (e = .returned (.bool false) ∧ Jx (k + 1) u' W' ∧ KeepU D u W.heap.size W1 W'))) →
    (∀ b, o b → ¬ u0 b) →
    J 0 u0 W →
    CallsIn Fence.wide 0 P gf (#[.func (.yield l) #[] #[]] ++ lb) W fun e W' => (∃ v, e = .returned v) ∧ ((∃ u, J xs.length u W') ∨ ∃ k u, k ≤ xs.length ∧ Jx k u W')
/-- 'for .. := range g { body }', outermost in its function. -/
theorem range_outerInO {D o : Nat → Prop} {gf : Nat} {lb : Array Value} {xs : List (Array Value)} {w0 w : World} {g : Operand} {ps : Array Tmp} {assign body : Go.Code} {Q : Exit → Act → World → Prop} {a : Act}
    (hg : a.eval g = .func (.func gf) #[] lb) (eg : ∀ args w, (callFunc gf args).run P w = .ok (.enter gf args) w)
    (hit : IterO P D o gf lb xs w0) (hD : ∀ k, D k → k < w.heap.size) (ho : ∀ k, o k → k < w.heap.size) (hb0 : Keep D w0.heap.size w0 w) (hps : ∀ x ∈ xs, x.size = ps.size)
    (I : Nat → (Nat → Prop) → World → Prop) (Ix : Go.Code → Nat → (Nat → Prop) → World → Prop)
    (hI : ∀ k u A B, I k u A → BelowO o w.heap.size A B → (∀ b, u b → B.heap[b]? = A.heap[b]?) → I k u B) (hIx : ∀ c k u A B, Ix c k u A → BelowO o w.heap.size A B → (∀ b, u b → B.heap[b]? = A.heap[b]?) → Ix c k u B)
    (hIb : ∀ k u A, I k u A → ∀ b, u b → b < A.heap.size) (hIxb : ∀ c k u A, Ix c k u A → ∀ b, u b → b < A.heap.size) {u0 : Nat → Prop} (hou : ∀ b, o b → ¬ u0 b) (h0 : I 0 u0 w)
    (hround : ∀ l k u x W, xs[k]? = some x → w.heap.size ≤ l → (∃ r, W.heap[l]? = some (.loop r)) → ¬ u l → I k u W →
      assign.wpIn (Fence.wide.inRound l) 0 P (Exit.then (fun a' W1 => KeepU D u w.heap.size W W1 ∧ ∀ r, body.wpIn (Fence.wide.inRound l) 0 P (rpostU D u w.heap.size I Ix k (W1.putObj l (.loop r))) a' (W1.putObj l (.loop r))) (fun _ _ _ => False))
        { tmps := (ps.zip x).foldl (fun t (p, v) => t.setIfInBounds p v) a.tmps, defers := [] } W)
    (hdone : ∀ K u W, w.heap.size ≤ K → ¬ u K → I xs.length u W → W.heap[K]? = some (.deferred (some [])) → Q .normal { a with defers := { target := .collected K, args := #[] } :: a.defers } W)
    (hstop : ∀ K c k u W, w.heap.size ≤ K → ¬ u K → k ≤ xs.length → Ix c k u W → W.heap[K]? = some (.deferred (some [])) → c.wpIn Fence.wide 0 P Q { a with defers := { target := .collected K, args := #[] } :: a.defers } W) :
    (Go.Code.rangeFunc g ps assign body).wpIn Fence.wide 0 P Q a w := by
  refine wpIn_rangeFunc ?_
  intro fn hfn
  rw [show Fence.wide.round = none from rfl]
  obtain ⟨rec, hrec⟩ : ∃ rec : LoopState → Option Go.Code → Loop, rec = fun st pe => { state := st, pending := pe, fn, tmps := a.tmps, params := ps, assign, body, defers := w.heap.size } := ⟨_, rfl⟩
  obtain ⟨W1, hW1⟩ : ∃ W1, (w.alloc (.deferred (some []))).alloc (.loop (rec .ready none)) = W1 := ⟨_, rfl⟩
  have hs1 : W1.heap.size = w.heap.size + 2 := by rw [← hW1]; simp
  have hL1 : W1.heap[w.heap.size + 1]? = some (.loop (rec .ready none)) := by
    rw [← hW1]; have := World.alloc_heap_new (w.alloc (.deferred (some []))) (.loop (rec .ready none)); rwa [World.size_alloc] at this
  have hK1 : W1.heap[w.heap.size]? = some (.deferred (some [])) := by
    rw [← hW1]; exact (Below.heap_alloc _ _ _ (by simp)).trans (World.alloc_heap_new w _)
  have hE1 : Ext w W1 := by rw [← hW1]; exact ((Below.refl _ w).alloc (Nat.le_refl _) _).alloc (by simp) _
  have hDl : ¬ D (w.heap.size + 1) := fun h => by have := hD _ h; omega
  refine ⟨w.heap.size + 1, [{ target := .collected w.heap.size, args := #[] }], W1, { target := .fn (.func gf) lb, args := #[.func (.yield (w.heap.size + 1)) #[] #[]] }, W1, gf,
    #[.func (.yield (w.heap.size + 1)) #[] #[]] ++ lb, W1, ?_, ?_, ?_, ?_, (fun h => by cases h), ?_⟩
  · rw [← hW1, hrec]; exact run_enterLoop_outer _ _ _ _ _
  · simp only [resolve, hg]
    simp [go_sem]
  · exact fun _ _ => trivial
  · simp [invoke, go_sem, eg]
  · refine (hit (w.heap.size + 1)
      (fun k u W => I k u W ∧ W.heap[w.heap.size + 1]? = some (.loop (rec .ready none)) ∧ W.heap[w.heap.size]? = some (.deferred (some [])) ∧ ¬ u (w.heap.size + 1) ∧ ¬ u w.heap.size)
      (fun k u W => ∃ c, Ix c k u W ∧ W.heap[w.heap.size + 1]? = some (.loop (rec .done (some c))) ∧ W.heap[w.heap.size]? = some (.deferred (some [])) ∧ ¬ u (w.heap.size + 1) ∧ ¬ u w.heap.size)
      u0 W1 (hb0.trans (.of_ext hE1)) ?_ ?_ ?_ ?_ ?_ hou ⟨hI _ _ _ _ h0 (.of_below hE1) (fun b hb => hE1.block b (hIb _ _ _ h0 b hb)), hL1, hK1, (fun h => by have := hIb _ _ _ h0 _ h; omega), (fun h => by have := hIb _ _ _ h0 _ h; omega)⟩).mono ?_
    · rintro k u A B ⟨h1, h2, h3, h4, h5⟩ hb hu
      exact ⟨hI _ _ _ _ h1 (hb.mono (by omega) (fun _ _ h => h)) hu, (hb.block _ (by omega) (fun h => by have := ho _ h; omega)).trans h2, (hb.block _ (by omega) (fun h => by have := ho _ h; omega)).trans h3, h4, h5⟩
    · rintro k u A B ⟨c, h1, h2, h3, h4, h5⟩ hb hu
      exact ⟨c, hIx _ _ _ _ _ h1 (hb.mono (by omega) (fun _ _ h => h)) hu, (hb.block _ (by omega) (fun h => by have := ho _ h; omega)).trans h2, (hb.block _ (by omega) (fun h => by have := ho _ h; omega)).trans h3, h4, h5⟩
    · rintro k u A ⟨h1, _⟩; exact hIb _ _ _ h1
    · rintro k u A ⟨c, h1, _⟩; exact hIxb _ _ _ _ h1
    · rintro k u x W hx ⟨hi, hl, hk, hul, huk⟩
      have hlt := (Array.getElem?_eq_some_iff.1 hl).1
      refine YieldAt.mono (yield_of_roundU (S := w.heap.size) (l := w.heap.size + 1) (by omega) hul (fun k u A B h hb hu => hI k u A B h (.of_below hb) hu) (fun c k u A B h hb hu => hIx c k u A B h (.of_below hb) hu) rec hrec k x (hps x (List.mem_of_getElem? hx)) W hl (hround _ k u x W hx (by omega) ⟨_, hl⟩ hul hi)) ?_
      rintro e W' ⟨u', hu', hc, h3, hz⟩
      have n1 : ¬ u' (w.heap.size + 1) := fun h => by rcases hu' _ h with h | h; exact hul h; omega
      have n2 : ¬ u' w.heap.size := fun h => by rcases hu' _ h with h | h; exact huk h; omega
      refine ⟨u', hu', ?_⟩
      rcases hc with ⟨rfl, h1, h2⟩ | ⟨rfl, c, h1, h2⟩
      · exact .inl ⟨rfl, ⟨h1, h2, (h3 _ (by omega) (by omega) (.inr ⟨Nat.le_refl _, huk⟩)).trans hk, n1, n2⟩, yield_keepU hz (by omega) (by omega) h3 hDl⟩
      · exact .inr ⟨rfl, ⟨c, h1, h2, (h3 _ (by omega) (by omega) (.inr ⟨Nat.le_refl _, huk⟩)).trans hk, n1, n2⟩, yield_keepU hz (by omega) (by omega) h3 hDl⟩
    · rintro e W2 ⟨⟨v, rfl⟩, (⟨u, hi, hl, hk, hul, huk⟩ | ⟨k, u, hkl, c, hi, hl, hk, hul, huk⟩)⟩
      · exact ⟨none, _, by have := run_endLoop (P := P) hl (by rw [hrec]; simp); rw [hrec] at this; exact this, hdone _ u _ (Nat.le_refl _) huk (hI _ _ _ _ hi (.of_below (below_putObj _ _ _ _ (by omega))) (fun b hb => World.putObj_heap_other (by rintro rfl; exact hul hb))) ((World.putObj_heap_other (by omega)).trans hk)⟩
      · exact ⟨some c, _, by have := run_endLoop (P := P) hl (by rw [hrec]; simp); rw [hrec] at this; exact this, hstop _ c k u _ (Nat.le_refl _) huk hkl (hIx _ _ _ _ _ hi (.of_below (below_putObj _ _ _ _ (by omega))) (fun b hb => World.putObj_heap_other (by rintro rfl; exact hul hb))) ((World.putObj_heap_other (by omega)).trans hk)⟩
/-- The same, in the plain walk. -/
theorem range_outerO {D o : Nat → Prop} {gf : Nat} {lb : Array Value} {xs : List (Array Value)} {w0 w : World} {g : Operand} {ps : Array Tmp} {assign body : Go.Code} {Q : Exit → Act → World → Prop} {a : Act}
    (hg : a.eval g = .func (.func gf) #[] lb) (eg : ∀ args w, (callFunc gf args).run P w = .ok (.enter gf args) w)
    (hit : IterO P D o gf lb xs w0) (hD : ∀ k, D k → k < w.heap.size) (ho : ∀ k, o k → k < w.heap.size) (hb0 : Keep D w0.heap.size w0 w) (hps : ∀ x ∈ xs, x.size = ps.size)
    (I : Nat → (Nat → Prop) → World → Prop) (Ix : Go.Code → Nat → (Nat → Prop) → World → Prop)
    (hI : ∀ k u A B, I k u A → BelowO o w.heap.size A B → (∀ b, u b → B.heap[b]? = A.heap[b]?) → I k u B) (hIx : ∀ c k u A B, Ix c k u A → BelowO o w.heap.size A B → (∀ b, u b → B.heap[b]? = A.heap[b]?) → Ix c k u B)
    (hIb : ∀ k u A, I k u A → ∀ b, u b → b < A.heap.size) (hIxb : ∀ c k u A, Ix c k u A → ∀ b, u b → b < A.heap.size) {u0 : Nat → Prop} (hou : ∀ b, o b → ¬ u0 b) (h0 : I 0 u0 w)
    (hround : ∀ l k u x W, xs[k]? = some x → w.heap.size ≤ l → (∃ r, W.heap[l]? = some (.loop r)) → ¬ u l → I k u W →
      assign.wpIn (Fence.wide.inRound l) 0 P (Exit.then (fun a' W1 => KeepU D u w.heap.size W W1 ∧ ∀ r, body.wpIn (Fence.wide.inRound l) 0 P (rpostU D u w.heap.size I Ix k (W1.putObj l (.loop r))) a' (W1.putObj l (.loop r))) (fun _ _ _ => False))
        { tmps := (ps.zip x).foldl (fun t (p, v) => t.setIfInBounds p v) a.tmps, defers := [] } W)
    (hdone : ∀ K u W, w.heap.size ≤ K → ¬ u K → I xs.length u W → W.heap[K]? = some (.deferred (some [])) → Q .normal { a with defers := { target := .collected K, args := #[] } :: a.defers } W)
    (hstop : ∀ K c k u W, w.heap.size ≤ K → ¬ u K → k ≤ xs.length → Ix c k u W → W.heap[K]? = some (.deferred (some [])) → c.wp P Q { a with defers := { target := .collected K, args := #[] } :: a.defers } W) :
    (Go.Code.rangeFunc g ps assign body).wp P Q a w :=
  wpIn_wide.1 (range_outerInO hg eg hit hD ho hb0 hps I Ix hI hIx hIb hIxb hou h0 hround hdone (fun K c k u W h1 h2 h3 h4 h5 => wpIn_wide.2 (hstop K c k u W h1 h2 h3 h4 h5)))
end
end Go.Proofs.YtopgbggighaknaaDoor
/- KeepU's laws (out of layer 4's XPtrs). -/
namespace Go.Proofs.YtopgbggighaknaaDoor
open Go.RowKit Go
theorem KeepU.trans {D u u' : Nat → Prop} {S : Nat} {A B C : World} (h : KeepU D u S A B) (k : KeepU D u' S B C) (hu : ∀ b, u' b → u b ∨ A.heap.size ≤ b) : KeepU D u S A C :=
  ⟨Nat.le_trans h.size k.size, fun i hi hd => (k.same i (Nat.lt_of_lt_of_le hi h.size) (hd.imp id (fun ⟨a, b⟩ => ⟨a, fun h' => by rcases hu i h' with h' | h'; exact b h'; omega⟩))).trans (h.same i hi hd)⟩
theorem KeepU.blk {D u : Nat → Prop} {S : Nat} {A B : World} (h : KeepU D u S A B) {b : Nat} {cs : Array Value} {t : TypeId} (hb : Blk A b cs t) (hd : D b ∨ (S ≤ b ∧ ¬ u b)) : Blk B b cs t := (h.same b hb.lt hd).trans hb
theorem KeepU.cell {D u : Nat → Prop} {S : Nat} {A B : World} (h : KeepU D u S A B) {p : Addr} (hp : p.block < A.heap.size) (hd : D p.block) : B.cell? p = A.cell? p := World.cell?_of_block (w := A) (h.same p.block hp (.inl hd))
/-- A function with any number of marks returns; nothing but the marks is written. -/
theorem leavesInM_marksO {P : Program} {fn : Func} {tmps : Array Value} {R : Ending → World → Prop} {S : Nat} : ∀ (Ks : List Nat) (W : World), Marks S Ks W →
    (∀ W', Below S W W' → (∀ b, b ∉ Ks → W'.heap[b]? = W.heap[b]?) → ∃ v, (results fn tmps).run P W' = .ok v W' ∧ R (.returned v) W') → LeavesInM Fence.wide 0 P fn tmps R (Ks.map mark) .returning W
  | [], W, _, h => h W (Below.refl _ _) (fun _ _ => rfl)
  | K :: Ks, W, hM, h => by
    have hK := hM.at_ K (by simp)
    have hn := List.nodup_cons.1 hM.nodup
    refine ⟨by simp, .inl ⟨K, _, rfl, run_takeDeferred hK.2, leavesInM_marksO Ks _ ⟨hn.2, fun K' hK' => ⟨(hM.at_ K' (by simp [hK'])).1, ?_⟩⟩ (fun W' hW' hO => h W' (Below.trans (below_putObj _ _ _ _ hK.1) hW') (fun b hb => (hO b (fun hm => hb (by simp [hm]))).trans (World.putObj_heap_other (by rintro rfl; exact hb (by simp)))))⟩⟩
    rw [World.putObj_heap_other (by rintro rfl; exact hn.1 hK')]
    exact (hM.at_ K' (by simp [hK'])).2
theorem leave_marks_endO {P : Program} {fn : Func} {R : Ending → World → Prop} {S : Nat} {tmps : Array Value} {Ks : List Nat} {W : World} (hM : Marks S Ks W)
    (h : ∀ W', Below S W W' → (∀ b, b ∉ Ks → W'.heap[b]? = W.heap[b]?) → ∃ v, (results fn tmps).run P W' = .ok v W' ∧ R (.returned v) W') : bodyPostM Fence.wide 0 P fn R .normal { tmps, defers := Ks.map mark } W := leavesInM_marksO Ks W hM h
theorem leave_marks_retO {P : Program} {fn : Func} {R : Ending → World → Prop} {S : Nat} {tmps : Array Value} {Ks : List Nat} {W : World} (hM : Marks S Ks W)
    (h : ∀ W', Below S W W' → (∀ b, b ∉ Ks → W'.heap[b]? = W.heap[b]?) → ∃ v, (results fn tmps).run P W' = .ok v W' ∧ R (.returned v) W') : bodyPostM Fence.wide 0 P fn R .ret { tmps, defers := Ks.map mark } W := leavesInM_marksO Ks W hM h
end Go.Proofs.YtopgbggighaknaaDoor
/- strings.Lines as an iterator. -/
namespace Go.Proofs.YtopgbggighaknaaDoor
open Go.RowKit Go
attribute [local go_sem] Oper.semAt_some
abbrev bt (s : List UInt8) : Value := .string ⟨s.toArray⟩
def strXs (ls : List (List UInt8)) : List (Array Value) := ls.map fun t => #[bt t]
theorem strXs_get {ls : List (List UInt8)} {k : Nat} {t : List UInt8} (h : ls[k]? = some t) : (strXs ls)[k]? = some #[bt t] := by simp [strXs, h]
theorem bt_size (s : List UInt8) : (ByteArray.mk s.toArray).size = s.length := by show s.toArray.size = _; simp
theorem bt_take (s : List UInt8) (k : Nat) : (ByteArray.mk s.toArray).extract 0 k = ⟨(s.take k).toArray⟩ := by apply ByteArray.ext; rw [ByteArray.data_extract]; simp
theorem bt_drop (s : List UInt8) (k : Nat) : (ByteArray.mk s.toArray).extract k (ByteArray.mk s.toArray).size = ⟨(s.drop k).toArray⟩ := by
  apply ByteArray.ext
  rw [ByteArray.data_extract, bt_size]
  simp
  rw [List.take_of_length_le (by simp)]
theorem slines_mk (X : ByteArray) (w : World) :
    Calls Tryd.prog 45 #[.string X] w fun e w' => e = .returned (.func (.func 53) #[] #[.pointer (some ⟨w.heap.size, 0, none⟩)]) ∧ w' = w.alloc (.cells #[.string X] 9) := by
  go_enter Tryd.func45, Tryd.ntmps45
  go_wp2
  go_ret
  exact ⟨rfl, rfl⟩
section
set_option maxHeartbeats 8000000 in
set_option maxRecDepth 100000 in
theorem lines_iterO (s : List UInt8) (hs : s.length ≤ 1000000) (bs : Nat) (ty : TypeId) (w : World) (hb : Blk w bs #[bt s] ty) :
    IterO Tryd.prog (fun k => k = bs) (fun k => k = bs) 53 #[.pointer (some ⟨bs, 0, none⟩)] (strXs (linesS s)) w := by
  intro l J Jx u0 W hW hJ hJx hB hBx hY hou hJ0
  have hb0 := hb.keep hW (.inl rfl)
  have H := Lib.hid (And.intro hJ (And.intro hJx hY))
  have HB := Lib.hid (And.intro hB hBx)
  have H0 := Lib.hid (And.intro hJ0 (And.intro hb0 (hou bs rfl)))
  have HI := Lib.hid (fun (r : List UInt8) (w : World) => Tryd.strings_IndexByte ⟨r.toArray⟩ 10 w)
  have hbW : bs < W.heap.size := hb0.lt
  clear hJ hJx hB hBx hY hW hb hou hJ0 hb0
  refine callsIn_of_wp Tryd.func53 rfl trivial ?_ rfl
  simp only [Tryd.ntmps53, List.size_toArray, List.length_cons, List.length_nil, Nat.reduceAdd, Nat.reduceSub, Array.replicate_succ, Array.replicate_zero, List.push_toArray, List.append_toArray, List.nil_append, List.cons_append]
  gi_wp2
  gi_loopw [3, 4] (fun v3 v4 wr => ∃ (k : Nat) (u : Nat → Prop), k ≤ (linesS s).length ∧ J k u wr ∧ Blk wr bs #[bt (restS s k)] ty ∧ ¬ u bs ∧ W.heap.size ≤ wr.heap.size) (fun v3 v4 wr => match wr.cell? ⟨bs, 0, none⟩ with | some (.string x) => x.size | _ => 0)
  case atStart => exact ⟨0, u0, Nat.zero_le _, H0.out.1, H0.out.2.1, H0.out.2.2, Nat.le_refl _⟩
  case round =>
    obtain ⟨k, u, hk, hJk, hbk, hub, hz⟩ := hrel
    have c0 := hbk.cell 0
    simp only [List.getElem?_toArray, List.getElem?_cons_zero] at c0
    by_cases h0 : restS s k = []
    · have hke := lines_end s k h0 hk
      rw [h0] at c0
      have HJ := Lib.hid hJk
      clear hJk hbk hk
      gi_wp2
      go_end0
      exact ⟨⟨_, rfl⟩, .inl ⟨u, by rw [show (strXs (linesS s)).length = k by simp [strXs, hke]]; exact HJ.out⟩⟩
    · have hget := strXs_get (lines_get s k h0)
      have hlt := lines_lt s k h0
      have hrl := rest_len s k
      have hls := rest_less s k h0
      have hfz := hbk.frozen 0
      have hpos : 0 < (restS s k).length := List.length_pos_iff.2 h0
      have hstep : restS s (k + 1) = (nextL (restS s k)).2 := rfl
      have hHr := HI.out (restS s k)
      simp only [bt] at c0
      have hbX := Lib.hid (show Blk wr bs #[.string ⟨(restS s k).toArray⟩] ty from hbk)
      have HQ := Lib.hid (And.intro hJk (And.intro hbk (And.intro hub (And.intro hget (And.intro hlt (And.intro hls hz))))))
      rw [hstep] at HQ
      have HST := Lib.hid hstep
      clear hJk hbk hub hget hlt hls hstep hk h0
      generalize restS s k = r at *
      have z0 : (ByteArray.mk r.toArray).size = r.length := bt_size r
      have z1 : (0 : Int) < ((ByteArray.mk r.toArray).size : Nat) := by omega
      have z2 : (ByteArray.mk r.toArray).size ≤ 1000000 := by omega
      cases hl : (lineK r).2 with
      | some rr =>
        have hi := idx_some r rr hl
        obtain ⟨t1, t2, t3⟩ := take_line r rr hl
        generalize (lineK r).1.length = i at *
        have HIr := Lib.hid (show ∀ w, Calls Tryd.prog 54 #[.string ⟨r.toArray⟩, .int .u8 10] w fun e w' => e = .returned (.int .i64 (i : Nat)) ∧ w' = w from fun w => (hHr w).mono fun e w' h => ⟨h.1.trans (by rw [← hi]; rfl), h.2⟩)
        have b1 := bt_take r (i + 1)
        have b2 := bt_drop r (i + 1)
        rw [t1] at b1
        rw [t2] at b2
        have z3 : (i : Int) + 1 ≤ ((ByteArray.mk r.toArray).size : Nat) := by omega
        have z4 : i + 1 ≤ (ByteArray.mk r.toArray).size := by omega
        have HBB := Lib.hid (And.intro b1 (And.intro b2 z0))
        clear hHr hi t1 t2 t3 b1 b2 z0 hrl hpos hl
        generalize ByteArray.mk r.toArray = X at *
        gi_wp2_with (gi_at_call 54; refine (callsIn_wide.2 (HIr.out _)).mono ?_; rintro e w1 ⟨rfl, rfl⟩)
        refine wpIn_wide.2 ?_
        refine wp_region_tail 10 9 rfl (by kernel_rfl) (by kernel_rfl) (by kernel_rfl) ?_
        apply Exists.intro
        refine ⟨fun cc => ?_, fun W4 hW4 => ?_⟩
        · have p0 := on_cell ((hbX.out.ext cc.h).cell 0)
          simp only [List.take_succ_cons, List.take_zero]
          repeat (go_big_quiet_step (fail))
          exact wpQuiet_nil rfl
        have b4 := hbX.out.ext hW4
        have c4 := b4.cell 0
        have f4 := b4.frozen 0
        simp only [List.getElem?_toArray, List.getElem?_cons_zero] at c4
        simp only [List.drop_succ_cons, List.drop_zero]
        clear c0 hfz
        go_wp2
        rw [HBB.out.1, HBB.out.2.1]
        have B5 : BelowO (fun k => k = bs) W.heap.size w1 (W4.setCell ⟨bs, 0, none⟩ (bt (nextL r).2)) := (BelowO.of_below (hW4.mono HQ.out.2.2.2.2.2.2)).trans (BelowO.setCell W4 ⟨bs, 0, none⟩ _ (.inl rfl))
        have b5 := b4.set 0 (bt (nextL r).2)
        simp only [List.setIfInBounds_toArray, List.set_cons_zero] at b5
        have J5 := H.out.1 k u w1 _ HQ.out.1 B5 (fun b hb => (Below.heap_setCell _ _ _ _ (by show b ≠ bs; rintro rfl; exact HQ.out.2.2.1 hb)).trans (hW4.block b (HB.out.1 _ _ _ HQ.out.1 b hb)))
        have hz5 := hW4.size
        have hs5 : w1.heap.size ≤ (W4.setCell ⟨bs, 0, none⟩ (bt (nextL r).2)).heap.size := by simpa using hz5
        have hbl := hbX.out.lt
        clear B5 b4 c4 f4 hW4 hz5
        generalize W4.setCell ⟨bs, 0, none⟩ (bt (nextL r).2) = W5 at *
        obtain ⟨f1, t1, p1, q1, hy1, hR1⟩ := H.out.2.2 k u _ W5 HQ.out.2.2.2.1 J5
        simp only [bt] at hy1 ⊢
        have H5 := Lib.hid (And.intro b5 (And.intro hs5 hbl))
        clear J5 b5 hs5 hbl
        gi_wp2
        refine hR1.mono ?_
        rintro e W6 ⟨u', hu', (⟨rfl, hJ2, hk2⟩ | ⟨rfl, hx2, hk2⟩)⟩
        · have HJ := Lib.hid (And.intro hJ2 (And.intro hk2 hu'))
          clear hJ2 hk2 hu'
          gi_wp2
          have b6 := HJ.out.2.1.blk H5.out.1 (.inl rfl)
          have e6 := b6.cell 0
          simp only [List.getElem?_toArray, List.getElem?_cons_zero] at e6
          refine ⟨⟨k + 1, u', HQ.out.2.2.2.2.1, HJ.out.1, by rw [HST.out]; exact b6, fun h => ?_, ?_⟩, ?_⟩
          · rcases HJ.out.2.2 _ h with h | h
            · exact HQ.out.2.2.1 h
            · have := H5.out.1.lt; omega
          · have := HJ.out.2.1.size; have := H5.out.2.1; have := HQ.out.2.2.2.2.2.2; omega
          · rw [e6, hbX.out.cell 0]
            have := HQ.out.2.2.2.2.2.1
            show (ByteArray.mk (nextL r).2.toArray).size < X.size
            rw [bt_size, HBB.out.2.2]; exact this
        · have HJ := Lib.hid hx2
          clear hx2 hk2
          have hlt := HQ.out.2.2.2.2.1
          gi_wp2
          refine bodyPost_ret (results_none rfl _ _ _) rfl ?_
          exact ⟨⟨_, rfl⟩, .inr ⟨k + 1, u', by simp only [strXs, List.length_map]; omega, HJ.out⟩⟩
      | none =>
        have hi := idx_none r hl
        have HIr := Lib.hid (show ∀ w, Calls Tryd.prog 54 #[.string ⟨r.toArray⟩, .int .u8 10] w fun e w' => e = .returned (.int .i64 (-1)) ∧ w' = w from fun w => (hHr w).mono fun e w' h => ⟨h.1.trans (by rw [← hi]; rfl), h.2⟩)
        have hnx := nextL_none hl
        have HBB := Lib.hid (And.intro hnx (And.intro hnx z0))
        have hJr := Lib.hid (show (ByteArray.mk r.toArray) = ⟨(nextL r).1.toArray⟩ by rw [hnx])
        have hJe := Lib.hid (show (ByteArray.mk #[]) = ⟨(nextL r).2.toArray⟩ by rw [hnx])
        have B5 : BelowO (fun k => k = bs) W.heap.size wr (wr.setCell ⟨bs, 0, none⟩ (.string ⟨#[]⟩)) := BelowO.setCell wr ⟨bs, 0, none⟩ _ (.inl rfl)
        have b5 := hbX.out.set 0 (.string ⟨#[]⟩)
        simp only [List.setIfInBounds_toArray, List.set_cons_zero] at b5
        replace b5 : Blk (wr.setCell ⟨bs, 0, none⟩ (.string ⟨#[]⟩)) bs #[.string ⟨(nextL r).2.toArray⟩] ty := by rw [← hJe.out]; exact b5
        have J5 := H.out.1 k u wr _ HQ.out.1 B5 (fun b hb => (Below.heap_setCell _ _ _ _ (by show b ≠ bs; rintro rfl; exact HQ.out.2.2.1 hb)))
        have hs5 : wr.heap.size ≤ (wr.setCell ⟨bs, 0, none⟩ (.string ⟨#[]⟩)).heap.size := by simp
        have hbl := hbX.out.lt
        obtain ⟨f1, t1, p1, q1, hy1, hR1⟩ := H.out.2.2 k u _ (wr.setCell ⟨bs, 0, none⟩ (.string ⟨#[]⟩)) HQ.out.2.2.2.1 J5
        simp only [bt] at hy1
        rw [← hJr.out] at hy1
        have H5 := Lib.hid (And.intro b5 (And.intro hs5 hbl))
        clear B5 J5 b5 hs5 hbl hHr hi z0 hrl hpos hl hnx
        generalize ByteArray.mk r.toArray = X at *
        gi_wp2_with (gi_at_call 54; refine (callsIn_wide.2 (HIr.out _)).mono ?_; rintro e w1 ⟨rfl, rfl⟩)
        refine hR1.mono ?_
        rintro e W6 ⟨u', hu', (⟨rfl, hJ2, hk2⟩ | ⟨rfl, hx2, hk2⟩)⟩
        · have HJ := Lib.hid (And.intro hJ2 (And.intro hk2 hu'))
          clear hJ2 hk2 hu'
          gi_wp2
          have b6 := HJ.out.2.1.blk H5.out.1 (.inl rfl)
          have e6 := b6.cell 0
          simp only [List.getElem?_toArray, List.getElem?_cons_zero] at e6
          refine ⟨⟨k + 1, u', HQ.out.2.2.2.2.1, HJ.out.1, by rw [HST.out]; exact b6, fun h => ?_, ?_⟩, ?_⟩
          · rcases HJ.out.2.2 _ h with h | h
            · exact HQ.out.2.2.1 h
            · have := H5.out.1.lt; omega
          · have := HJ.out.2.1.size; have := H5.out.2.1; have := HQ.out.2.2.2.2.2.2; omega
          · rw [e6, hbX.out.cell 0]
            have := HQ.out.2.2.2.2.2.1
            show (ByteArray.mk (nextL r).2.toArray).size < X.size
            rw [bt_size, HBB.out.2.2]; exact this
        · have HJ := Lib.hid hx2
          clear hx2 hk2
          have hlt := HQ.out.2.2.2.2.1
          gi_wp2
          refine bodyPost_ret (results_none rfl _ _ _) rfl ?_
          exact ⟨⟨_, rfl⟩, .inr ⟨k + 1, u', by simp only [strXs, List.length_map]; omega, HJ.out⟩⟩
end
end Go.Proofs.YtopgbggighaknaaDoor
