/- Regions that draw their order and whose operations may make memory (calls that box, build, append): operations whose value is the same in every later world are walked once; one that makes a value of its own is met when nothing else can come up; a tail of stores goes by the plain walk. -/
import Derived.Test.YtfpefffgegphnaaDoorRF
import Derived.BigQuiet
import Derived.Deep.QuietTactic
import Derived.StillTail
namespace Go.Proofs.YtfpefffgegphnaaDoor
open Go Go.RowKit
/-- A hypothesis that the walk does not look into. -/
def Lib.Hid' (p : Prop) : Prop := p
theorem Lib.Hid'.out {p : Prop} (h : Lib.Hid' p) : p := h

/-- A world on from b. -/
structure From (b : World) where
  w : World
  h : Ext b w
instance From.any (b : World) : Nonempty (From b) := ⟨⟨b, Ext.refl b⟩⟩
theorem From.cell {b : World} (o : From b) (p : Addr) (h : (b.cell? p).isSome = true) : o.w.cell? p = b.cell? p := by
  obtain ⟨u, hu⟩ := Option.isSome_iff_exists.1 h
  exact o.h.cell (World.block_lt_of_cell? b p hu)
theorem From.cell2 {b c : World} (hc : Ext b c) (o : From c) (p : Addr) (h : (b.cell? p).isSome = true) : o.w.cell? p = b.cell? p := From.cell ⟨o.w, hc.trans o.h⟩ p h
theorem Ext.drew' (w : World) : Ext w w.drew := (Ext.refl w).drew
/-- The class of the worlds on from b, as the quiet walk spells it. -/
abbrev On (b : World) : World → Prop := fun w' => ∃ o : From b, w' = o.w

section
variable {P : Program} {ops : Array Oper} {md : Region.Mode}

theorem quietUpon_mono {C C' : World → Prop} (h : ∀ w, C w → C' w) {w : World} {v : Value} {r : Result Next} (hh : Oper.quietUpon P C w v r) : Oper.quietUpon P C' w v r := by
  cases r with
  | ok n w' =>
    cases n <;> simp only [Oper.quietUpon] at hh ⊢ <;> first | exact hh | exact ⟨hh.1, hh.2.mono fun e w'' ⟨he, hc⟩ => ⟨he, h _ hc⟩⟩
  | halt x w' => simp only [Oper.quietUpon] at hh

def NoQ : Exit → Act → World → Prop := fun _ _ _ => False
theorem noQ_out : ¬ LetsOut NoQ := fun ⟨_, _, h⟩ => h

theorem wpOp_noQ {Q : Exit → Act → World → Prop} {i : Nat} {K : Act → World → Prop} {a : Act} {w : World} (h : wpOp P ops NoQ i K a w) : wpOp P ops Q i K a w := by
  unfold wpOp at *
  split
  · simpa [*] using h
  · rename_i o ho
    simp only [ho] at h
    split
    · rename_i hw
      simp only [hw, if_true] at h
      refine .inl ?_
      rcases h with h | h
      · unfold Oper.wp at *
        generalize (execOp a.eval o).run P w = r at *
        cases r with
        | ok n w' =>
          cases n <;> simp only [Oper.upon] at h ⊢ <;> first | exact h | skip
          case enter f args => exact h.mono fun e w'' he => by cases e <;> first | exact he | exact (he : False).elim | exact (noQ_out he).elim
        | halt x w' => cases x <;> simp only [Oper.upon] at h ⊢ <;> exact (h : False).elim
      · exact (noQ_out h.2).elim
    · rename_i hw; simp only [hw] at h; exact h

/-- In every world on from b operation o yields v, and leaves a world on from there. -/
def YieldsR (P : Program) (ops : Array Oper) (b : World) (o : Oper) (v : Value) (a : Act) : Prop :=
  (Region.wanted o (yielded ops a.tmps) = true ∧ ∀ W, Ext b W → o.quietAt P a (Ext W) W v) ∨ (Region.wanted o (yielded ops a.tmps) = false ∧ v = undef)
theorem YieldsR.mono {b c : World} {o : Oper} {v : Value} {a : Act} (h : YieldsR P ops b o v a) (hc : Ext b c) : YieldsR P ops c o v a :=
  h.imp (fun ⟨hw, hv⟩ => ⟨hw, fun W hW => hv W (hc.trans hW)⟩) id
theorem YieldsR.of_same {b : World} {o : Oper} {v : Value} {a a' : Act} (hy : YieldsR P ops b o v a) (he : execOp a'.eval o = execOp a.eval o)
    (hw : Region.wanted o (yielded ops a'.tmps) = Region.wanted o (yielded ops a.tmps)) : YieldsR P ops b o v a' := by
  unfold YieldsR Oper.quietAt at *
  rw [he, hw]
  exact hy
theorem YieldsR.op {b W : World} {i : Nat} {o : Oper} {v : Value} {a : Act} (hi : ops[i]? = some o) (hy : YieldsR P ops b o v a) (hW : Ext b W) {K : Act → World → Prop} (h : ∀ W', Ext W W' → K (a.put o.dst v) W') : wpOp P ops NoQ i K a W := by
  unfold Go.wpOp
  simp only [hi]
  rcases hy with ⟨hw, hv⟩ | ⟨hw, rfl⟩
  · simp only [hw, if_true]
    refine .inl ?_
    have h3 := hv W hW
    unfold Oper.quietAt at h3
    unfold Oper.wp
    generalize (execOp a.eval o).run P W = r at *
    cases r with
    | ok n w' =>
      cases n <;> simp only [Oper.quietUpon] at h3 <;> simp only [Oper.upon]
      case value u => obtain ⟨e1, e2⟩ := h3; rw [e1, e2]; exact h _ (Ext.refl _)
      case skip => obtain ⟨e1, e2⟩ := h3; rw [e1, ← e2]; exact h _ (Ext.refl _)
      case enter f args =>
        obtain ⟨e1, hc⟩ := h3
        rw [e1]
        exact hc.mono fun e w'' ⟨he, hw''⟩ => by subst he; exact h _ hw''
    | halt x w' => simp only [Oper.quietUpon] at h3
  · simp only [hw, Bool.false_eq_true, if_false]; exact h _ (Ext.refl _)

theorem wpOp_putR {j : Nat} {oi oj : Oper} {v : Value} {b : World} (hj : ops[j]? = some oj) (hap : oi.apart ops oj = true)
    (hsi : ∀ cs b, oi.op ≠ .select cs b) (hsj : ∀ cs b, oj.op ≠ .select cs b) {K : Act → World → Prop} {a : Act} {w : World}
    (hy : YieldsR P ops b oi v a) (h : wpOp P ops NoQ j K (a.put oi.dst v) w) :
    wpOp P ops NoQ j (fun a' w' => YieldsR P ops b oi v a' ∧ K (a'.put oi.dst v) w') a w := by
  obtain ⟨h1, h2, h3⟩ := Oper.apart_spec hap
  have keep : ∀ (a : Act), YieldsR P ops b oi v a → ∀ u, YieldsR P ops b oi v (a.put oj.dst u) := fun a hy u =>
    hy.of_same (execOp_put oi hsi a oj.dst u h3) (wanted_put oi a oj.dst u h3)
  have keepD : ∀ d, YieldsR P ops b oi v { a with defers := d :: a.defers } := fun d => hy.of_same rfl rfl
  unfold wpOp at *
  simp only [hj] at *
  rw [wanted_put oj a oi.dst v h1] at h
  split
  · rename_i hw
    simp only [hw, if_true] at h
    rcases h with h | ⟨_, hlets⟩
    case inr => exact (noQ_out hlets).elim
    refine .inl ?_
    unfold Oper.wp at *
    rw [execOp_put oj hsj a oi.dst v h1] at h
    generalize (execOp a.eval oj).run P w = r at *
    cases r with
    | ok n w' =>
      cases n <;> simp only [Oper.upon] at h ⊢
      case value u => exact ⟨keep a hy u, by rw [← Act.put_comm a v u h2]; exact h⟩
      case skip => exact ⟨keep a hy _, by rw [← Act.put_comm a v undef h2]; exact h⟩
      case defer d =>
        refine ⟨keep _ (keepD d) _, ?_⟩
        rw [← Act.put_comm _ v undef h2, ← Act.put_defers]
        exact h
      case enter f args =>
        refine Calls.mono h fun e w'' he => ?_
        cases e with
        | returned u => exact ⟨keep a hy u, by rw [← Act.put_comm a v u h2]; exact he⟩
        | panicked c => exact (he : False).elim
        | outgrown => exact (noQ_out he).elim
      case row row args => exact Rows.mono h fun u w'' he => ⟨keep a hy u, by rw [← Act.put_comm a v u h2]; exact he⟩
    | halt x w' => cases x <;> simp only [Oper.upon] at h ⊢ <;> exact (h : False).elim
  · rename_i hw
    simp only [hw] at h
    exact ⟨keep a hy _, by rw [← Act.put_comm a v undef h2]; exact h⟩

/-- The head of a region (the operations ahead of n), in whatever order, on from b; then L. -/
def wpX (P : Program) (md : Region.Mode) (ops : Array Oper) (n : Nat) (L : Array Bool → Act → World → Prop) : Nat → World → Array Bool → Act → Prop
  | 0, b, listed, a => ∀ W, Ext b W → L listed a W
  | f + 1, b, listed, a => Region.ready md ops listed ≠ [] ∧ ∀ i ∈ Region.ready md ops listed, i < n ∧ ∀ W, Ext b W → wpOp P ops NoQ i (fun a' W' => Ext W W' ∧ wpX P md ops n L f W' (listed.setIfInBounds i true) a') a W

theorem wpX_mono {n : Nat} {L : Array Bool → Act → World → Prop} : ∀ {f : Nat} {b c : World} {listed : Array Bool} {a : Act}, wpX P md ops n L f b listed a → Ext b c → wpX P md ops n L f c listed a
  | 0, _, _, _, _, h, hc => fun W hW => h W (hc.trans hW)
  | _ + 1, _, _, _, _, h, hc => ⟨h.1, fun i hi => ⟨(h.2 i hi).1, fun W hW => (h.2 i hi).2 W (hc.trans hW)⟩⟩

theorem wpAny_of_X {n g : Nat} {L : Array Bool → Act → World → Prop} {Q : Exit → Act → World → Prop} (hL : ∀ listed a W, L listed a W → wpAny P md ops Q g listed a W) :
    ∀ (f : Nat) (b : World) (listed : Array Bool) (a : Act) (W : World), Ext b W → wpX P md ops n L f b listed a → wpAny P md ops Q (f + g) listed a W
  | 0, b, listed, a, W, hW, h => by rw [Nat.zero_add]; exact hL _ _ _ (h W hW)
  | f + 1, b, listed, a, W, hW, h => by
    rw [show f + 1 + g = (f + g) + 1 by omega]
    exact ⟨fun h0 => absurd h0 h.1, fun i hi => wpOp_mono (fun a' W' h' => wpAny_of_X hL f _ _ a' W' (Ext.refl _) h'.2) (wpOp_noQ ((h.2 i hi).2 W hW))⟩

/-- Nothing of the tail can come up while something of the head has not. -/
def TailWaits (md : Region.Mode) (ops : Array Oper) (n : Nat) : Prop :=
  ∀ listed, HeadInv md ops n listed → ∀ i, i < n → listed.getD i true = false → ∀ t, n ≤ t → t ∉ Region.ready md ops listed

theorem wpX_first {n i : Nat} {oi : Oper} {v : Value} {L : Array Bool → Act → World → Prop} (hi : ops[i]? = some oi) (hsel : ∀ (j : Nat) (o : Oper) cs b, ops[j]? = some o → o.op ≠ .select cs b)
    (hT : TailWaits md ops n) (hin : i < n) (hdone : ∀ listed a W, L listed a W → ∀ j ∈ Region.ready md ops listed, n ≤ j) :
    ∀ (f : Nat) (b : World) (listed : Array Bool) (a : Act), HeadInv md ops n listed →
      (∀ j oj, ops[j]? = some oj → j ≠ i → listed.getD j true = false → (∀ e ∈ oj.after, Region.binds md e = true → e.on ≠ i) → oi.apart ops oj = true) →
      i ∈ Region.ready md ops listed → YieldsR P ops b oi v a →
      wpX P md ops n L f b (listed.setIfInBounds i true) (a.put oi.dst v) → wpX P md ops n L (f + 1) b listed a := by
  intro f
  induction f with
  | zero =>
    intro b listed a inv _ hr hy H
    have hun := (mem_ready.1 hr).1
    refine ⟨fun h => (by rw [h] at hr; cases hr), fun j hj => ?_⟩
    have hjn : j < n := by
      rcases Nat.lt_or_ge j n with h | h
      · exact h
      · exact absurd hj (hT _ inv i hin hun j h)
    refine ⟨hjn, fun W hW => ?_⟩
    by_cases hji : j = i
    · subst hji; exact hy.op hi hW (fun W' hW' => ⟨hW', wpX_mono H (hW.trans hW')⟩)
    · have := hdone _ _ _ (H W hW) j (ready_mono hj hji)
      omega
  | succ f ih =>
    intro b listed a inv hfree hr hy H
    have hun := (mem_ready.1 hr).1
    refine ⟨fun h => (by rw [h] at hr; cases hr), fun j hj => ?_⟩
    have hjn : j < n := by
      rcases Nat.lt_or_ge j n with h | h
      · exact h
      · exact absurd hj (hT _ inv i hin hun j h)
    refine ⟨hjn, fun W hW => ?_⟩
    by_cases hji : j = i
    · subst hji; exact hy.op hi hW (fun W' hW' => ⟨hW', wpX_mono H (hW.trans hW')⟩)
    · have h1 := (H.2 j (ready_mono hj hji)).2 W hW
      obtain ⟨hjun, oj, hoj, hall⟩ := mem_ready.1 hj
      have hnot : ∀ e ∈ oj.after, Region.binds md e = true → e.on ≠ i := fun e he hb heq => by
        have h1 := hall e he hb
        rw [heq, getD_both hun] at h1
        cases h1
      have h2 := wpOp_putR hoj (hfree j oj hoj hji hjun hnot) (fun cs b => hsel i oi cs b hi) (fun cs b => hsel j oj cs b hoj) hy h1
      have hfree' : ∀ k ok, ops[k]? = some ok → k ≠ i → (listed.setIfInBounds j true).getD k true = false →
          (∀ e ∈ ok.after, Region.binds md e = true → e.on ≠ i) → oi.apart ops ok = true := fun k ok hk hki hun hno => by
        refine hfree k ok hk hki ?_ hno
        by_cases hjk : j = k
        · subst hjk; exact hjun
        · rw [getD_set_ne true hjk] at hun; exact hun
      refine wpOp_mono (fun a' W' h3 => ⟨h3.2.1, ih W' (listed.setIfInBounds j true) a' (inv.set hj hjn) hfree' (ready_mono hr (Ne.symm hji)) (h3.1.mono (hW.trans h3.2.1)) ?_⟩) h2
      rw [Array.setIfInBounds_comm _ _ hji]
      exact h3.2.2

/-- What is asked of the region as a whole. -/
structure Head (md : Region.Mode) (ops : Array Oper) (n : Nat) (L : Array Bool → Act → World → Prop) : Prop where
  sel : Region.noSelect ops = true
  tail : TailWaits md ops n
  done : ∀ listed a W, L listed a W → ∀ j ∈ Region.ready md ops listed, n ≤ j

/-- A head's state: the invariant goes along. -/
def wpH (P : Program) (md : Region.Mode) (ops : Array Oper) (n : Nat) (L : Array Bool → Act → World → Prop) (f : Nat) (b : World) (listed : Array Bool) (a : Act) : Prop :=
  HeadInv md ops n listed → wpX P md ops n L f b listed a

def segOk (md : Region.Mode) (ops : Array Oper) (n m : Nat) : Nat → Nat → Array Bool → Bool
  | _, 0, _ => true
  | k, g + 1, listed => (Region.ready md ops listed).contains k && Region.free md ops listed k && decide (k < n) &&
      (match ops[k]? with
       | some o => (match o.dst with
         | some d => decide (d < m) && (List.range g).all (fun j => match ops[k + 1 + j]? with | some o' => o'.dst != some d | none => false)
         | none => false)
       | none => false) && segOk md ops n m (k + 1) g (listed.setIfInBounds k true)
def segSet : Nat → Nat → Array Bool → Array Bool
  | _, 0, listed => listed
  | k, g + 1, listed => segSet (k + 1) g (listed.setIfInBounds k true)

theorem put_slot_ne {a : Act} {x : Option Tmp} {v : Value} {d : Tmp} (h : x ≠ some d) : (a.put x v).tmps[d]? = a.tmps[d]? := by
  cases x with
  | none => rfl
  | some e => simp only [Act.put]; rw [Array.getElem?_setIfInBounds_ne (by rintro rfl; exact h rfl)]
theorem wpQuiet_slot {C : World → Prop} {af : Act} {d : Tmp} : ∀ (l : List Oper) (a : Act), (∀ o ∈ l, o.dst ≠ some d) → wpQuiet P ops C (· = af) l a → a.tmps[d]? = af.tmps[d]?
  | [], a, _, h => by have e : a = af := h; rw [e]
  | o :: l, a, hd, h => by
    simp only [wpQuiet] at h
    split at h
    · obtain ⟨v, _, h2⟩ := h
      rw [← wpQuiet_slot l _ (fun o' ho' => hd o' (by simp [ho'])) h2, put_slot_ne (hd o (by simp))]
    · rw [← wpQuiet_slot l _ (fun o' ho' => hd o' (by simp [ho'])) h, put_slot_ne (hd o (by simp))]
theorem wpQuiet_size {C : World → Prop} {af : Act} : ∀ (l : List Oper) (a : Act), wpQuiet P ops C (· = af) l a → a.tmps.size = af.tmps.size
  | [], a, h => by have e : a = af := h; rw [e]
  | o :: l, a, h => by
    have hp : ∀ v, (a.put o.dst v).tmps.size = a.tmps.size := fun v => by cases o.dst <;> simp [Act.put]
    simp only [wpQuiet] at h
    split at h
    · obtain ⟨v, _, h2⟩ := h
      rw [← wpQuiet_size l _ h2, hp]
    · rw [← wpQuiet_size l _ h, hp]

/-- The g operations from k on, in the order of the text: each yields one value in every world on from b. -/
theorem wpX_seg {n f : Nat} {L : Array Bool → Act → World → Prop} (H : Head md ops n L) {b : World} {af : Act} : ∀ (l : List Oper) (k : Nat) (listed : Array Bool) (a : Act),
    (∀ j, j < l.length → l[j]? = ops[k + j]?) → segOk md ops n a.tmps.size k l.length listed = true → HeadInv md ops n listed →
    (∀ c : From b, wpQuiet P ops (On c.w) (· = af) l a) → wpH P md ops n L f b (segSet k l.length listed) af → wpX P md ops n L (l.length + f) b listed a
  | [], k, listed, a, _, _, inv, h, hr => by
    have e : a = af := h ⟨b, Ext.refl b⟩
    simp only [List.length_nil, Nat.zero_add]
    rw [e]
    exact hr inv
  | o :: l, k, listed, a, hl, hB, inv, h, hr => by
    have h0 : ops[k]? = some o := by simpa using (hl 0 (by simp)).symm
    simp only [List.length_cons, segOk, Bool.and_eq_true, h0, decide_eq_true_eq] at hB
    obtain ⟨⟨⟨⟨hrd, hfr⟩, hkn⟩, hdst⟩, hB'⟩ := hB
    have hrd' : k ∈ Region.ready md ops listed := by simpa using hrd
    obtain ⟨d, hd⟩ : ∃ d, o.dst = some d := by
      cases hd : o.dst with
      | none => rw [hd] at hdst; cases hdst
      | some d => exact ⟨d, rfl⟩
    rw [hd] at hdst
    simp only [Bool.and_eq_true, decide_eq_true_eq] at hdst
    obtain ⟨hdm, hdl⟩ := hdst
    have hne : ∀ o' ∈ l, o'.dst ≠ some d := fun o' ho' => by
      obtain ⟨j, hj, hj'⟩ := List.getElem_of_mem ho'
      have h1 := List.all_eq_true.1 hdl j (List.mem_range.2 hj)
      have h2 := hl (j + 1) (by simp; omega)
      rw [List.getElem?_cons_succ, List.getElem?_eq_getElem hj, hj', show k + (j + 1) = k + 1 + j by omega] at h2
      rw [← h2] at h1
      simpa using h1
    have main : ∃ v, YieldsR P ops b o v a ∧ ∀ c : From b, wpQuiet P ops (On c.w) (· = af) l (a.put o.dst v) := by
      by_cases hw : Region.wanted o (yielded ops a.tmps) = true
      · have hv : ∀ c : From b, ∃ v, (∀ w, On c.w w → o.quietAt P a (On c.w) w v) ∧ wpQuiet P ops (On c.w) (· = af) l (a.put o.dst v) ∧ af.tmps[d]? = some v := fun c => by
          have h1 := h c
          simp only [wpQuiet, hw, if_true] at h1
          obtain ⟨v, h2, h3⟩ := h1
          exact ⟨v, h2, h3, by rw [← wpQuiet_slot l _ hne h3, hd]; simp [Act.put, hdm]⟩
        obtain ⟨v, _, _, hv0⟩ := hv ⟨b, Ext.refl b⟩
        refine ⟨v, .inl ⟨hw, fun W hW => ?_⟩, fun c => ?_⟩
        · obtain ⟨v', h2, _, h4⟩ := hv ⟨W, hW⟩
          rw [hv0] at h4; cases h4
          exact quietUpon_mono (fun w ⟨o, ho⟩ => ho ▸ o.h) (h2 W ⟨⟨W, Ext.refl W⟩, rfl⟩)
        · obtain ⟨v', _, h3, h4⟩ := hv c
          rw [hv0] at h4; cases h4
          exact h3
      · refine ⟨undef, .inr ⟨by simpa using hw, rfl⟩, fun c => ?_⟩
        have h1 := h c
        simp only [wpQuiet, hw] at h1
        exact h1
    obtain ⟨v, hy, hq⟩ := main
    have hps : (a.put o.dst v).tmps.size = a.tmps.size := by cases o.dst <;> simp [Act.put]
    rw [List.length_cons, show l.length + 1 + f = (l.length + f) + 1 by omega]
    refine wpX_first h0 (Region.noSelect_spec H.sel) H.tail hkn H.done _ b listed a inv (Region.free_spec h0 hfr) hrd' hy ?_
    exact wpX_seg H l (k + 1) _ _ (fun j hj => by have := hl (j + 1) (by simp; omega); simpa [Nat.add_assoc, Nat.add_comm 1 j] using this) (by rw [hps]; exact hB') (inv.set hrd' hkn) hq hr

theorem wpH_seg {n f g : Nat} {L : Array Bool → Act → World → Prop} (H : Head md ops n L) {b : World} {af : Act} {l : List Oper} (k : Nat) {listed : Array Bool} {a : Act}
    (hl : ∀ j, j < l.length → l[j]? = ops[k + j]?) (hg : l.length = g) (hB : segOk md ops n a.tmps.size k g listed = true)
    (h : ∀ c : From b, wpQuiet P ops (On c.w) (· = af) l a) (hr : wpH P md ops n L f b (segSet k g listed) af) : wpH P md ops n L (g + f) b listed a := by
  subst hg
  exact fun inv => wpX_seg H l k listed a hl hB inv h hr

/-- Nothing else can come up: the operation, from whatever world on from b; the walk goes on from the world that it leaves. -/
theorem wpH_step {n f : Nat} {L : Array Bool → Act → World → Prop} {b : World} (i : Nat) {oi : Oper} {listed : Array Bool} {a : Act} (hi : ops[i]? = some oi) (hin : i < n) (hr : Region.ready md ops listed = [i])
    (h : ∀ W, Ext b W → ∀ K : Act → World → Prop, (∀ a' W', Ext W W' → wpH P md ops n L f W' (listed.setIfInBounds i true) a' → K a' W') →
      if Region.wanted oi (yielded ops a.tmps) = true then oi.wp P a W K NoQ else K (a.put oi.dst undef) W) : wpH P md ops n L (f + 1) b listed a := fun inv => by
  have hri : i ∈ Region.ready md ops listed := by rw [hr]; simp
  refine ⟨by rw [hr]; simp, fun j hj => ?_⟩
  rw [hr] at hj
  obtain rfl : j = i := by simpa using hj
  refine ⟨hin, fun W hW => ?_⟩
  have := h W hW (fun a' W' => Ext W W' ∧ wpX P md ops n L f W' (listed.setIfInBounds j true) a') (fun a' W' he hx => ⟨he, hx (inv.set hri hin)⟩)
  unfold wpOp
  simp only [hi]
  split
  · rename_i hw; rw [if_pos hw] at this; exact .inl this
  · rename_i hw; rw [if_neg hw] at this; exact this

theorem wpH_end {n : Nat} {L : Array Bool → Act → World → Prop} {b : World} {listed : Array Bool} {a : Act} (h : ∀ W, Ext b W → L listed a W) : wpH P md ops n L 0 b listed a := fun _ => h

abbrev noTail (md : Region.Mode) (ops : Array Oper) (Q : Exit → Act → World → Prop) : Array Bool → Act → World → Prop := fun listed a W => Region.ready md ops listed = [] ∧ Q .normal a W
abbrev theTail (P : Program) (md : Region.Mode) (ops : Array Oper) (n : Nat) (t : List Oper) (Q : Exit → Act → World → Prop) : Array Bool → Act → World → Prop := fun listed a W => Region.seqB md ops (ops.size - n) n listed = true ∧ wpList P ops Q t a W

theorem inv0 {n : Nat} : HeadInv md ops n (Array.replicate ops.size false) :=
  ⟨by simp, fun j oj _ hl => (by rw [getD_replicate_false] at hl; cases hl), fun t _ ht => getD_in (by simpa using ht) (getD_replicate_false _ _)⟩

end

section
variable {P : Program}
theorem head_noTail {l : List Oper} {Q : Exit → Act → World → Prop} (hs : Region.noSelect l.toArray = true) : Head .any l.toArray l.length (noTail .any l.toArray Q) :=
  ⟨hs, fun listed _ i _ _ t ht hr => by
    obtain ⟨_, o, ho, _⟩ := mem_ready.1 hr
    have := (Array.getElem?_eq_some_iff.1 ho).1
    simp at this
    omega, fun listed a W h j hj => by rw [h.1] at hj; cases hj⟩

/-- A region that draws, without stores. -/
theorem wp_region_X {id : Nat} {Q : Exit → Act → World → Prop} {a : Act} {w : World} {l : List Oper} (N : Nat) (hN : l.length = N) (hm : P.follows .mixedOrders = true) (hs : Region.noSelect l.toArray = true)
    (h : Head .any l.toArray N (noTail .any l.toArray Q) → wpH P .any l.toArray N (noTail .any l.toArray Q) N w (Array.replicate N false) a) : (Code.region id l.toArray true).wp P Q a w := by
  subst hN
  refine wp_region_any hm ?_
  have h0 := wpAny_of_X (P := P) (n := l.length) (g := 0) (L := noTail .any l.toArray Q) (Q := Q) (fun listed a W h => ⟨h.1, h.2⟩) l.length w _ a w.drew (Ext.drew' w) (h (head_noTail hs) (by have := inv0 (md := .any) (ops := l.toArray) (n := l.length); simpa using this))
  simpa using h0

/-- A region that draws and ends in a chain (from n on) that may store. -/
theorem wp_region_XT {id : Nat} {Q : Exit → Act → World → Prop} {a : Act} {w : World} {l : List Oper} (N n : Nat) (hN : l.length = N) (hm : P.follows .mixedOrders = true)
    (hB : (Region.noSelect l.toArray && decide (n < N) && Region.sinkB .any l.toArray n && Region.chainB .any l.toArray n) = true)
    (h : Head .any l.toArray n (theTail P .any l.toArray n (l.drop n) Q) → wpH P .any l.toArray n (theTail P .any l.toArray n (l.drop n) Q) n w (Array.replicate N false) a) : (Code.region id l.toArray true).wp P Q a w := by
  subst hN
  simp only [Bool.and_eq_true, decide_eq_true_eq] at hB
  obtain ⟨⟨⟨hsel, hn⟩, hs⟩, hc⟩ := hB
  have hdl : (l.drop n).length = l.toArray.size - n := by simp
  have H : Head .any l.toArray n (theTail P .any l.toArray n (l.drop n) Q) :=
    ⟨hsel, fun listed inv i hi hun t ht => tail_waits hs hc (by simpa using hn) inv _ i rfl hi hun t ht, fun listed a W h => seqB_ready h.1⟩
  refine wp_region_any hm ?_
  have h0 := wpAny_of_X (P := P) (n := n) (g := l.toArray.size - n) (L := theTail P .any l.toArray n (l.drop n) Q) (Q := Q) (fun listed a W h => by
    have := wpAny_of_seq (md := .any) (Q' := Q) (l.drop n) n listed a W (fun j => by simp [List.getElem?_drop]) (by rw [hdl]; exact h.1) h.2
    rwa [hdl] at this) n w _ a w.drew (Ext.drew' w) (h H (by have := inv0 (md := .any) (ops := l.toArray) (n := n); simpa using this))
  rw [show n + (l.toArray.size - n) = l.toArray.size by simp; omega] at h0
  simpa using h0
theorem wpQuiet_monoQ {ops : Array Oper} {C : World → Prop} {Q Q' : Act → Prop} (h : ∀ a, Q a → Q' a) : ∀ (l : List Oper) (a : Act), wpQuiet P ops C Q l a → wpQuiet P ops C Q' l a
  | [], a, hh => h a hh
  | o :: l, a, hh => by
    simp only [wpQuiet] at hh ⊢
    split
    · rename_i hw; rw [if_pos hw] at hh; exact Oper.quiet_mono (fun a => wpQuiet_monoQ h l a) hh
    · rename_i hw; rw [if_neg hw] at hh; exact wpQuiet_monoQ h l _ hh
/-- A region that draws, each of whose operations yields one value in every world on from here: ONE walk, in the order of the text. -/
theorem wp_region_on {id : Nat} {Q : Exit → Act → World → Prop} {a : Act} {w : World} {l : List Oper} (hm : P.follows .mixedOrders = true) (hB : Region.lexB .any l.toArray = true)
    (h : wpQuiet P l.toArray (fun w' => ∃ o : From w, w' = o.w) (fun a' => ∀ w', Ext w w' → Q .normal a' w') l a) : (Code.region id l.toArray true).wp P Q a w :=
  by
  have h' : wpQuiet P l.toArray (fun w' => ∃ o : From w, w' = o.w) (fun a' => ∀ w', (∃ o : From w, w' = o.w) → Q .normal a' w') l a := wpQuiet_monoQ (fun a' h w' ⟨o, ho⟩ => h w' (ho ▸ o.h)) l a h
  exact wp_region_quiet (C := fun w' => ∃ o : From w, w' = o.w) hm hB ⟨⟨w.drew, Ext.drew' w⟩, rfl⟩ (by simpa using h')
theorem on_call {f : FuncId} {args : Array Value} {b : World} {v : Value} (C : ∀ W, Ext b W → Calls P f args W fun e w' => e = .returned v ∧ Ext W w') (o : From b) :
    Calls P f args o.w fun e w'' => e = .returned v ∧ ∃ o' : From b, w'' = o'.w := (C o.w o.h).mono fun _ w'' ⟨he, hw⟩ => ⟨he, ⟨w'', Ext.trans o.h hw⟩, rfl⟩
theorem on_same {f : FuncId} {args : Array Value} {b : World} {v : Value} (C : ∀ W, Calls P f args W fun e w' => e = .returned v ∧ W = w') (o : From b) :
    Calls P f args o.w fun e w'' => e = .returned v ∧ ∃ o' : From b, w'' = o'.w := (C o.w).mono fun _ w'' ⟨he, hw⟩ => ⟨he, ⟨w'', by rw [← hw]; exact o.h⟩, rfl⟩
theorem ext_drewN' (w : World) (n : Nat) : Ext w (w.drewN n) := by
  induction n with
  | zero => exact Ext.refl _
  | succ n ih => exact ih.drew
theorem on_draws {f : FuncId} {args : Array Value} {b : World} {v : Value} (C : ∀ W, Calls P f args W fun e w' => e = .returned v ∧ ∃ n, w' = W.drewN n) (o : From b) :
    Calls P f args o.w fun e w'' => e = .returned v ∧ ∃ o' : From b, w'' = o'.w := (C o.w).mono fun _ w'' ⟨he, n, hw⟩ => ⟨he, ⟨w'', by rw [hw]; exact Ext.trans o.h (ext_drewN' _ n)⟩, rfl⟩
/-- A region that draws: n operations that yield one value each in every world on from here, then a chain that may store. -/
theorem wp_region_tail {id : Nat} {Q : Exit → Act → World → Prop} {a : Act} {w : World} {l : List Oper} (N n : Nat) (hN : l.length = N) (hm : P.follows .mixedOrders = true)
    (hB : (Region.noSelect l.toArray && decide (n < N) && Region.sinkB .any l.toArray n && Region.chainB .any l.toArray n) = true)
    (hS : (segOk .any l.toArray n a.tmps.size 0 n (Array.replicate N false) && Region.seqB .any l.toArray (N - n) n (segSet 0 n (Array.replicate N false))) = true)
    (h : ∃ af, (∀ c : From w, wpQuiet P l.toArray (fun w' => ∃ o : From c.w, w' = o.w) (· = af) (l.take n) a) ∧ ∀ W, Ext w W → wpList P l.toArray Q (l.drop n) af W) : (Code.region id l.toArray true).wp P Q a w := by
  subst hN
  obtain ⟨af, h, ht⟩ := h
  have hn : n ≤ l.length := by simp only [Bool.and_eq_true, decide_eq_true_eq] at hB; omega
  simp only [Bool.and_eq_true] at hS
  refine wp_region_XT l.length n rfl hm hB fun H => ?_
  have := wpH_seg (P := P) (f := 0) (g := n) H (b := w) (af := af) (l := l.take n) 0 (listed := Array.replicate l.length false) (a := a) (fun j hj => by
    have hj' : j < n := by simpa [List.length_take, Nat.min_eq_left hn] using hj
    simp [hj']) (by simp [hn]) hS.1 h (wpH_end fun W hW => ⟨by simpa using hS.2, ht W hW⟩)
  simpa using this
theorem wpH_segL {md : Region.Mode} {l0 : List Oper} {n F : Nat} {L : Array Bool → Act → World → Prop} (H : Head md l0.toArray n L) (k g f : Nat) (hF : F = g + f) (hk : (decide (k + g ≤ l0.length)) = true) {b : World} {listed : Array Bool} {a : Act}
    (hB : segOk md l0.toArray n a.tmps.size k g listed = true)
    (h : ∃ af, (∀ c : From b, wpQuiet P l0.toArray (fun w' => ∃ o : From c.w, w' = o.w) (· = af) ((l0.drop k).take g) a) ∧ wpH P md l0.toArray n L f b (segSet k g listed) af) : wpH P md l0.toArray n L F b listed a := by
  subst hF
  obtain ⟨af, h1, h2⟩ := h
  have hk' : k + g ≤ l0.length := by simpa using hk
  have hlen : ((l0.drop k).take g).length = g := by simp; omega
  exact wpH_seg H k (fun j hj => by
    rw [hlen] at hj
    simp [hj]) hlen hB h1 h2
theorem wpH_stepL {md : Region.Mode} {l0 : List Oper} {n F : Nat} {L : Array Bool → Act → World → Prop} {b : World} (i f : Nat) (hF : F = f + 1) {oi : Oper} {listed : Array Bool} {a : Act} (hi : l0[i]? = some oi) (hin : decide (i < n) = true) (hr : Region.ready md l0.toArray listed = [i])
    (h : ∀ W, Ext b W → ∀ K : Act → World → Prop, Lib.Hid' (∀ a' W', Ext W W' → wpH P md l0.toArray n L f W' (listed.setIfInBounds i true) a' → K a' W') →
      if Region.wanted oi (yielded l0.toArray a.tmps) = true then oi.wp P a W K NoQ else K (a.put oi.dst undef) W) : wpH P md l0.toArray n L F b listed a := by
  subst hF
  exact wpH_step i (by simpa using hi) (by simpa using hin) hr (fun W hW K hK => h W hW K hK)
def tailB (md : Region.Mode) (ops : Array Oper) (n : Nat) : Bool :=
  (List.range ops.size).all fun t => decide (t < n) || (List.range t).any (fun t' => decide (n ≤ t') && Region.waitsFor md ops t t') || (List.range n).all (fun i => Region.waitsFor md ops t i) || (t == n && Region.sinkB md ops n)
theorem tail_of_B {md : Region.Mode} {ops : Array Oper} {n : Nat} (hB : tailB md ops n = true) : TailWaits md ops n := by
  intro listed inv i0 hi0 hun0 t ht hr
  obtain ⟨_, ot, hot, hall⟩ := mem_ready.1 hr
  have htlt : t < ops.size := (Array.getElem?_eq_some_iff.1 hot).1
  have h1 := List.all_eq_true.1 hB t (List.mem_range.2 htlt)
  simp only [Bool.or_eq_true, decide_eq_true_eq, Bool.and_eq_true, beq_iff_eq] at h1
  have use : ∀ j, Region.waitsFor md ops t j = true → listed.getD j false = true := fun j hj => by
    obtain ⟨o', ho', e, he, hb, hon⟩ := Region.waitsFor_spec hj
    have : o' = ot := Option.some.inj (ho'.symm.trans hot)
    subst this
    rw [← hon]; exact hall e he hb
  rcases h1 with ((h1 | h1) | h1) | h1
  · omega
  · obtain ⟨t', ht', h2⟩ := List.any_eq_true.1 h1
    simp only [Bool.and_eq_true, decide_eq_true_eq] at h2
    have h3 := use t' h2.2
    rw [getD_both (inv.tail t' h2.1 (by have := List.mem_range.1 ht'; omega))] at h3
    cases h3
  · have h3 := use i0 (List.all_eq_true.1 h1 i0 (List.mem_range.2 hi0))
    rw [getD_both hun0] at h3
    cases h3
  · obtain ⟨rfl, hs⟩ := h1
    -- by the sink: as in the chain's case at its first operation
    have key : ∀ (d i : Nat), t - i = d → i < t → listed.getD i true = false → False := by
      intro d
      induction d using Nat.strongRecOn with
      | _ d ih =>
        intro i hd hi hun
        have h1 := List.all_eq_true.1 hs i (List.mem_range.2 hi)
        obtain ⟨j, hj, hj2⟩ := List.any_eq_true.1 h1
        simp only [Bool.and_eq_true, decide_eq_true_eq] at hj2
        have hjle : j ≤ t := by have := List.mem_range.1 hj; omega
        by_cases hjt : j = t
        · subst hjt
          have h3 := use i hj2.2
          rw [getD_both hun] at h3
          cases h3
        · obtain ⟨oj, hoj, e, he, hb, hon⟩ := Region.waitsFor_spec hj2.2
          cases hl : listed.getD j false with
          | true =>
            have h2 := inv.closed j oj hoj hl e he hb
            rw [hon, getD_both hun] at h2
            cases h2
          | false =>
            have hjs : j < listed.size := by rw [inv.size]; omega
            exact ih (t - j) (by omega) j rfl (by omega) (getD_in hjs hl)
    exact key _ i0 rfl hi0 hun0
abbrev anyTail (P : Program) (md : Region.Mode) (ops : Array Oper) (n g : Nat) (Q : Exit → Act → World → Prop) : Array Bool → Act → World → Prop := fun listed a W => (Region.ready md ops listed).all (fun j => decide (n ≤ j)) = true ∧ wpAny P md ops Q g listed a W
/-- A region that draws and ends in operations (from n on) that may store. -/
theorem wp_region_XA {id : Nat} {Q : Exit → Act → World → Prop} {a : Act} {w : World} {l : List Oper} (N n g : Nat) (hN : l.length = N) (hg : n + g = N) (hm : P.follows .mixedOrders = true)
    (hB : (Region.noSelect l.toArray && tailB .any l.toArray n) = true)
    (h : Head .any l.toArray n (anyTail P .any l.toArray n g Q) → wpH P .any l.toArray n (anyTail P .any l.toArray n g Q) n w (Array.replicate N false) a) : (Code.region id l.toArray true).wp P Q a w := by
  subst hN
  simp only [Bool.and_eq_true] at hB
  have H : Head .any l.toArray n (anyTail P .any l.toArray n g Q) :=
    ⟨hB.1, tail_of_B hB.2, fun listed a W h j hj => by simpa using List.all_eq_true.1 h.1 j hj⟩
  refine wp_region_any hm ?_
  have h0 := wpAny_of_X (P := P) (n := n) (g := g) (L := anyTail P .any l.toArray n g Q) (Q := Q) (fun listed a W h => h.2) n w _ a w.drew (Ext.drew' w) (h H (by have := inv0 (md := .any) (ops := l.toArray) (n := n); simpa using this))
  rw [hg] at h0
  simpa using h0
theorem wpAny_last {md : Region.Mode} {Q : Exit → Act → World → Prop} {l0 : List Oper} {i : Nat} {o : Oper} {listed : Array Bool} {a : Act} {W : World} (hi : l0[i]? = some o) (h1 : Region.ready md l0.toArray listed = [i])
    (h2 : Region.ready md l0.toArray (listed.setIfInBounds i true) = []) (h : wpList P l0.toArray Q [o] a W) : wpAny P md l0.toArray Q 1 listed a W := by
  refine ⟨fun h0 => (by rw [h1] at h0; cases h0), fun j hj => ?_⟩
  rw [h1] at hj
  obtain rfl : j = i := by simpa using hj
  have hi' : l0.toArray[j]? = some o := by simpa using hi
  have hw : wpOp P l0.toArray Q j (wpList P l0.toArray Q []) a W := by unfold wpOp; simp only [hi']; exact h
  exact wpOp_mono (fun a' W' h' => ⟨h2, h'⟩) hw
/-- The last two: a store (or whatever) and an assignment of a constant, in either order. -/
theorem wpAny_assign_last {md : Region.Mode} {Q : Exit → Act → World → Prop} {l0 : List Oper} {i j : Nat} {o oj : Oper} {x : Operand} {listed : Array Bool} {a : Act} {W : World} (hj : l0[j]? = some oj) (hox : oj.op = .assign x) (hwt : oj.guard = none)
    (hB : (Region.noSelect l0.toArray && Region.free md l0.toArray listed j && (Region.ready md l0.toArray listed).contains j) = true)
    (hi : l0[i]? = some o) (h1 : Region.ready md l0.toArray (listed.setIfInBounds j true) = [i]) (h2 : Region.ready md l0.toArray ((listed.setIfInBounds j true).setIfInBounds i true) = [])
    (hQ' : ∀ c (a' : Act) w, Q (.panic c) (a'.put oj.dst (a.eval x)) w → Q (.panic c) a' w)
    (h : wpList P l0.toArray Q [o] (a.put oj.dst (a.eval x)) W) : wpAny P md l0.toArray Q 2 listed a W := by
  simp only [Bool.and_eq_true] at hB
  refine wpAny_take (i := j) (by simpa using hj) hB.1.1 hB.1.2 hB.2 hQ' (.inl ⟨by simp [Region.wanted, hwt], fun w => BigFrame.run_assign x hox w⟩) ?_
  exact wpAny_last hi h1 h2 h
end
end Go.Proofs.YtfpefffgegphnaaDoor
