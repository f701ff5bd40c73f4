/- Regions that draw, as in XDraw; here an operation may write into what an earlier one of the region made: only what stood ahead of the region is kept. -/
import Derived.Test.YtfpefffgegphnaaDoorDraw
namespace Go.Proofs.YtfpefffgegphnaaDoor
open Go Go.RowKit
section
variable {P : Program} {ops : Array Oper} {md : Region.Mode}
/-- The head of a region, in whatever order, on from b; then L. -/
def wpX2 (P : Program) (md : Region.Mode) (ops : Array Oper) (n : Nat) (L : Array Bool → Act → World → Prop) (b0 : World) : Nat → World → Array Bool → Act → Prop
  | 0, b, listed, a => ∀ W, Ext b W → L listed a W
  | f + 1, b, listed, a => Region.ready md ops listed ≠ [] ∧ ∀ i ∈ Region.ready md ops listed, i < n ∧ ∀ W, Ext b W → wpOp P ops NoQ i (fun a' W' => Ext b0 W' ∧ wpX2 P md ops n L b0 f W' (listed.setIfInBounds i true) a') a W
theorem wpX2_mono {n : Nat} {L : Array Bool → Act → World → Prop} {b0 : World} : ∀ {f : Nat} {b c : World} {listed : Array Bool} {a : Act}, wpX2 P md ops n L b0 f b listed a → Ext b c → wpX2 P md ops n L b0 f c listed a
  | 0, _, _, _, _, h, hc => fun W hW => h W (hc.trans hW)
  | _ + 1, _, _, _, _, h, hc => ⟨h.1, fun i hi => ⟨(h.2 i hi).1, fun W hW => (h.2 i hi).2 W (hc.trans hW)⟩⟩
theorem wpAny_of_X2 {n g : Nat} {L : Array Bool → Act → World → Prop} {b0 : World} {Q : Exit → Act → World → Prop} (hL : ∀ listed a W, L listed a W → wpAny P md ops Q g listed a W) :
    ∀ (f : Nat) (b : World) (listed : Array Bool) (a : Act) (W : World), Ext b W → wpX2 P md ops n L b0 f b listed a → wpAny P md ops Q (f + g) listed a W
  | 0, b, listed, a, W, hW, h => by rw [Nat.zero_add]; exact hL _ _ _ (h W hW)
  | f + 1, b, listed, a, W, hW, h => by
    rw [show f + 1 + g = (f + g) + 1 by omega]
    exact ⟨fun h0 => absurd h0 h.1, fun i hi => wpOp_mono (fun a' W' h' => wpAny_of_X2 hL f _ _ a' W' (Ext.refl _) h'.2) (wpOp_noQ ((h.2 i hi).2 W hW))⟩
theorem wpX2_first {b0 : World} {n i : Nat} {oi : Oper} {v : Value} {L : Array Bool → Act → World → Prop} (hi : ops[i]? = some oi) (hsel : ∀ (j : Nat) (o : Oper) cs b, ops[j]? = some o → o.op ≠ .select cs b)
    (hT : TailWaits md ops n) (hin : i < n) (hdone : ∀ listed a W, L listed a W → ∀ j ∈ Region.ready md ops listed, n ≤ j) :
    ∀ (f : Nat) (b : World) (listed : Array Bool) (a : Act), Ext b0 b → HeadInv md ops n listed →
      (∀ j oj, ops[j]? = some oj → j ≠ i → listed.getD j true = false → (∀ e ∈ oj.after, Region.binds md e = true → e.on ≠ i) → oi.apart ops oj = true) →
      i ∈ Region.ready md ops listed → YieldsR P ops b0 oi v a →
      wpX2 P md ops n L b0 f b (listed.setIfInBounds i true) (a.put oi.dst v) → wpX2 P md ops n L b0 (f + 1) b listed a := by
  intro f
  induction f with
  | zero =>
    intro b listed a hb inv _ hr hy H
    have hun := (mem_ready.1 hr).1
    refine ⟨fun h => (by rw [h] at hr; cases hr), fun j hj => ?_⟩
    have hjn : j < n := by
      rcases Nat.lt_or_ge j n with h | h
      · exact h
      · exact absurd hj (hT _ inv i hin hun j h)
    refine ⟨hjn, fun W hW => ?_⟩
    by_cases hji : j = i
    · subst hji; exact hy.op hi (hb.trans hW) (fun W' hW' => ⟨hb.trans (hW.trans hW'), wpX2_mono H (hW.trans hW')⟩)
    · have := hdone _ _ _ (H W hW) j (ready_mono hj hji)
      omega
  | succ f ih =>
    intro b listed a hb inv hfree hr hy H
    have hun := (mem_ready.1 hr).1
    refine ⟨fun h => (by rw [h] at hr; cases hr), fun j hj => ?_⟩
    have hjn : j < n := by
      rcases Nat.lt_or_ge j n with h | h
      · exact h
      · exact absurd hj (hT _ inv i hin hun j h)
    refine ⟨hjn, fun W hW => ?_⟩
    by_cases hji : j = i
    · subst hji; exact hy.op hi (hb.trans hW) (fun W' hW' => ⟨hb.trans (hW.trans hW'), wpX2_mono H (hW.trans hW')⟩)
    · have h1 := (H.2 j (ready_mono hj hji)).2 W hW
      obtain ⟨hjun, oj, hoj, hall⟩ := mem_ready.1 hj
      have hnot : ∀ e ∈ oj.after, Region.binds md e = true → e.on ≠ i := fun e he hb heq => by
        have h1 := hall e he hb
        rw [heq, getD_both hun] at h1
        cases h1
      have h2 := wpOp_putR hoj (hfree j oj hoj hji hjun hnot) (fun cs b => hsel i oi cs b hi) (fun cs b => hsel j oj cs b hoj) hy h1
      have hfree' : ∀ k ok, ops[k]? = some ok → k ≠ i → (listed.setIfInBounds j true).getD k true = false →
          (∀ e ∈ ok.after, Region.binds md e = true → e.on ≠ i) → oi.apart ops ok = true := fun k ok hk hki hun hno => by
        refine hfree k ok hk hki ?_ hno
        by_cases hjk : j = k
        · subst hjk; exact hjun
        · rw [getD_set_ne true hjk] at hun; exact hun
      refine wpOp_mono (fun a' W' h3 => ⟨h3.2.1, ih W' (listed.setIfInBounds j true) a' h3.2.1 (inv.set hj hjn) hfree' (ready_mono hr (Ne.symm hji)) h3.1 ?_⟩) h2
      rw [Array.setIfInBounds_comm _ _ hji]
      exact h3.2.2

def wpH2 (P : Program) (md : Region.Mode) (ops : Array Oper) (n : Nat) (L : Array Bool → Act → World → Prop) (b0 : World) (f : Nat) (b : World) (listed : Array Bool) (a : Act) : Prop :=
  HeadInv md ops n listed → wpX2 P md ops n L b0 f b listed a
/-- The g operations from k on, in the order of the text: each yields one value in every world on from b. -/
theorem wpX2_seg {n f : Nat} {L : Array Bool → Act → World → Prop} (H : Head md ops n L) {b0 b : World} (hb : Ext b0 b) {af : Act} : ∀ (l : List Oper) (k : Nat) (listed : Array Bool) (a : Act),
    (∀ j, j < l.length → l[j]? = ops[k + j]?) → segOk md ops n a.tmps.size k l.length listed = true → HeadInv md ops n listed →
    (∀ c : From b0, wpQuiet P ops (On c.w) (· = af) l a) → wpH2 P md ops n L b0 f b (segSet k l.length listed) af → wpX2 P md ops n L b0 (l.length + f) b listed a
  | [], k, listed, a, _, _, inv, h, hr => by
    have e : a = af := h ⟨b0, Ext.refl b0⟩
    simp only [List.length_nil, Nat.zero_add]
    rw [e]
    exact hr inv
  | o :: l, k, listed, a, hl, hB, inv, h, hr => by
    have h0 : ops[k]? = some o := by simpa using (hl 0 (by simp)).symm
    simp only [List.length_cons, segOk, Bool.and_eq_true, h0, decide_eq_true_eq] at hB
    obtain ⟨⟨⟨⟨hrd, hfr⟩, hkn⟩, hdst⟩, hB'⟩ := hB
    have hrd' : k ∈ Region.ready md ops listed := by simpa using hrd
    obtain ⟨d, hd⟩ : ∃ d, o.dst = some d := by
      cases hd : o.dst with
      | none => rw [hd] at hdst; cases hdst
      | some d => exact ⟨d, rfl⟩
    rw [hd] at hdst
    simp only [Bool.and_eq_true, decide_eq_true_eq] at hdst
    obtain ⟨hdm, hdl⟩ := hdst
    have hne : ∀ o' ∈ l, o'.dst ≠ some d := fun o' ho' => by
      obtain ⟨j, hj, hj'⟩ := List.getElem_of_mem ho'
      have h1 := List.all_eq_true.1 hdl j (List.mem_range.2 hj)
      have h2 := hl (j + 1) (by simp; omega)
      rw [List.getElem?_cons_succ, List.getElem?_eq_getElem hj, hj', show k + (j + 1) = k + 1 + j by omega] at h2
      rw [← h2] at h1
      simpa using h1
    have main : ∃ v, YieldsR P ops b0 o v a ∧ ∀ c : From b0, wpQuiet P ops (On c.w) (· = af) l (a.put o.dst v) := by
      by_cases hw : Region.wanted o (yielded ops a.tmps) = true
      · have hv : ∀ c : From b0, ∃ v, (∀ w, On c.w w → o.quietAt P a (On c.w) w v) ∧ wpQuiet P ops (On c.w) (· = af) l (a.put o.dst v) ∧ af.tmps[d]? = some v := fun c => by
          have h1 := h c
          simp only [wpQuiet, hw, if_true] at h1
          obtain ⟨v, h2, h3⟩ := h1
          exact ⟨v, h2, h3, by rw [← wpQuiet_slot l _ hne h3, hd]; simp [Act.put, hdm]⟩
        obtain ⟨v, _, _, hv0⟩ := hv ⟨b0, Ext.refl b0⟩
        refine ⟨v, .inl ⟨hw, fun W hW => ?_⟩, fun c => ?_⟩
        · obtain ⟨v', h2, _, h4⟩ := hv ⟨W, hW⟩
          rw [hv0] at h4; cases h4
          exact quietUpon_mono (fun w ⟨o, ho⟩ => ho ▸ o.h) (h2 W ⟨⟨W, Ext.refl W⟩, rfl⟩)
        · obtain ⟨v', _, h3, h4⟩ := hv c
          rw [hv0] at h4; cases h4
          exact h3
      · refine ⟨undef, .inr ⟨by simpa using hw, rfl⟩, fun c => ?_⟩
        have h1 := h c
        simp only [wpQuiet, hw] at h1
        exact h1
    obtain ⟨v, hy, hq⟩ := main
    have hps : (a.put o.dst v).tmps.size = a.tmps.size := by cases o.dst <;> simp [Act.put]
    rw [List.length_cons, show l.length + 1 + f = (l.length + f) + 1 by omega]
    refine wpX2_first h0 (Region.noSelect_spec H.sel) H.tail hkn H.done _ b listed a hb inv (Region.free_spec h0 hfr) hrd' hy ?_
    exact wpX2_seg H hb l (k + 1) _ _ (fun j hj => by have := hl (j + 1) (by simp; omega); simpa [Nat.add_assoc, Nat.add_comm 1 j] using this) (by rw [hps]; exact hB') (inv.set hrd' hkn) hq hr

theorem wpH2_end {n : Nat} {L : Array Bool → Act → World → Prop} {b0 b : World} {listed : Array Bool} {a : Act} (h : ∀ W, Ext b W → L listed a W) : wpH2 P md ops n L b0 0 b listed a := fun _ => h
theorem wpH2_segL {l0 : List Oper} {n F : Nat} {L : Array Bool → Act → World → Prop} (H : Head md l0.toArray n L) (k g f : Nat) (hF : F = g + f) (hk : (decide (k + g ≤ l0.length)) = true) {b0 b : World} (hb : Ext b0 b) {listed : Array Bool} {a : Act}
    (hB : segOk md l0.toArray n a.tmps.size k g listed = true)
    (h : ∃ af, (∀ c : From b0, wpQuiet P l0.toArray (fun w' => ∃ o : From c.w, w' = o.w) (· = af) ((l0.drop k).take g) a) ∧ wpH2 P md l0.toArray n L b0 f b (segSet k g listed) af) : wpH2 P md l0.toArray n L b0 F b listed a := by
  subst hF
  obtain ⟨af, h1, h2⟩ := h
  have hk' : k + g ≤ l0.length := by simpa using hk
  have hlen : ((l0.drop k).take g).length = g := by simp; omega
  intro inv
  have := wpX2_seg (P := P) (f := f) H hb (af := af) ((l0.drop k).take g) k listed a (fun j hj => by
    rw [hlen] at hj
    simp [hj]) (by rw [hlen]; exact hB) inv h1 (by rw [hlen]; exact h2)
  rwa [hlen] at this
/-- What a step asks: the operation, from whatever world on from b. -/
def Step2 (P : Program) (md : Region.Mode) (ops : Array Oper) (n : Nat) (L : Array Bool → Act → World → Prop) (b0 : World) (f : Nat) (b : World) (listed : Array Bool) (a : Act) (i : Nat) (oi : Oper) : Prop :=
  ∀ W, Ext b W → ∀ K : Act → World → Prop, Lib.Hid' (∀ a' W', Ext b0 W' → wpH2 P md ops n L b0 f W' (listed.setIfInBounds i true) a' → K a' W') →
      if Region.wanted oi (yielded ops a.tmps) = true then oi.wp P a W K NoQ else K (a.put oi.dst undef) W
theorem wpX2_one {n f : Nat} {L : Array Bool → Act → World → Prop} {b0 b : World} {i : Nat} {oi : Oper} {listed : Array Bool} {a : Act} (hi : ops[i]? = some oi) (hin : i < n) (hri : i ∈ Region.ready md ops listed) (inv : HeadInv md ops n listed)
    (h : Step2 P md ops n L b0 f b listed a i oi) (W : World) (hW : Ext b W) : wpOp P ops NoQ i (fun a' W' => Ext b0 W' ∧ wpX2 P md ops n L b0 f W' (listed.setIfInBounds i true) a') a W := by
  have := h W hW (fun a' W' => Ext b0 W' ∧ wpX2 P md ops n L b0 f W' (listed.setIfInBounds i true) a') (fun a' W' he hx => ⟨he, hx (inv.set hri hin)⟩)
  unfold wpOp
  simp only [hi]
  split
  · rename_i hw; rw [if_pos hw] at this; exact .inl this
  · rename_i hw; rw [if_neg hw] at this; exact this
theorem wpH2_stepL {l0 : List Oper} {n F : Nat} {L : Array Bool → Act → World → Prop} {b0 b : World} (i f : Nat) (hF : F = f + 1) {oi : Oper} {listed : Array Bool} {a : Act} (hi : l0[i]? = some oi) (hin : decide (i < n) = true) (hr : Region.ready md l0.toArray listed = [i])
    (h : Step2 P md l0.toArray n L b0 f b listed a i oi) : wpH2 P md l0.toArray n L b0 F b listed a := by
  subst hF
  intro inv
  have hri : i ∈ Region.ready md l0.toArray listed := by rw [hr]; simp
  refine ⟨by rw [hr]; simp, fun j hj => ?_⟩
  rw [hr] at hj
  obtain rfl : j = i := by simpa using hj
  exact ⟨by simpa using hin, wpX2_one (by simpa using hi) (by simpa using hin) hri inv h⟩
/-- Either of two may be next. -/
theorem wpH2_twoL {l0 : List Oper} {n F : Nat} {L : Array Bool → Act → World → Prop} {b0 b : World} (i j f : Nat) (hF : F = f + 1) {oi oj : Oper} {listed : Array Bool} {a : Act} (hi : l0[i]? = some oi) (hj : l0[j]? = some oj) (hin : decide (i < n) = true) (hjn : decide (j < n) = true) (hr : Region.ready md l0.toArray listed = [i, j])
    (h1 : Step2 P md l0.toArray n L b0 f b listed a i oi) (h2 : Step2 P md l0.toArray n L b0 f b listed a j oj) : wpH2 P md l0.toArray n L b0 F b listed a := by
  subst hF
  intro inv
  have hri : i ∈ Region.ready md l0.toArray listed := by rw [hr]; simp
  have hrj : j ∈ Region.ready md l0.toArray listed := by rw [hr]; simp
  refine ⟨by rw [hr]; simp, fun k hk => ?_⟩
  rw [hr] at hk
  rcases (by simpa using hk : k = i ∨ k = j) with rfl | rfl
  · exact ⟨by simpa using hin, wpX2_one (by simpa using hi) (by simpa using hin) hri inv h1⟩
  · exact ⟨by simpa using hjn, wpX2_one (by simpa using hj) (by simpa using hjn) hrj inv h2⟩
end
theorem wp_region_XT2 {P : Program} {id : Nat} {Q : Exit → Act → World → Prop} {a : Act} {w : World} {l : List Oper} (N n : Nat) (hN : l.length = N) (hm : P.follows .mixedOrders = true)
    (hB : (Region.noSelect l.toArray && decide (n < N) && Region.sinkB .any l.toArray n && Region.chainB .any l.toArray n) = true)
    (h : Head .any l.toArray n (theTail P .any l.toArray n (l.drop n) Q) → wpH2 P .any l.toArray n (theTail P .any l.toArray n (l.drop n) Q) w n w (Array.replicate N false) a) : (Code.region id l.toArray true).wp P Q a w := by
  subst hN
  simp only [Bool.and_eq_true, decide_eq_true_eq] at hB
  obtain ⟨⟨⟨hsel, hn⟩, hs⟩, hc⟩ := hB
  have hdl : (l.drop n).length = l.toArray.size - n := by simp
  have H : Head .any l.toArray n (theTail P .any l.toArray n (l.drop n) Q) :=
    ⟨hsel, fun listed inv i hi hun t ht => tail_waits hs hc (by simpa using hn) inv _ i rfl hi hun t ht, fun listed a W h => seqB_ready h.1⟩
  refine wp_region_any hm ?_
  have h0 := wpAny_of_X2 (P := P) (n := n) (g := l.toArray.size - n) (L := theTail P .any l.toArray n (l.drop n) Q) (b0 := w) (Q := Q) (fun listed a W h => by
    have := wpAny_of_seq (md := .any) (Q' := Q) (l.drop n) n listed a W (fun j => by simp [List.getElem?_drop]) (by rw [hdl]; exact h.1) h.2
    rwa [hdl] at this) n w _ a w.drew (Ext.drew' w) (h H (by have := inv0 (md := .any) (ops := l.toArray) (n := n); simpa using this))
  rw [show n + (l.toArray.size - n) = l.toArray.size by simp; omega] at h0
  simpa using h0
end Go.Proofs.YtfpefffgegphnaaDoor
