/- Joined texts, in their order: Draw2, App, RU, AppOne. -/
import Derived.Test.YtopgbggighaknaaGreatDoorM02
import Derived.Test.YtopgbggighaknaaGreatDoorM01
import Derived.Maps.AppendAt
import Derived.RangeFuncBox
import Derived.OwnWalkIn
import Derived.Laws.AppendOwn
/- Regions that draw, as in XDraw; here an operation may write into what an earlier one of the region made: only what stood ahead of the region is kept. -/
namespace Go.Proofs.YtopgbggighaknaaGreatDoor
open Go Go.RowKit
section
variable {P : Program} {ops : Array Oper} {md : Region.Mode}
/-- The head of a region, in whatever order, on from b; then L. -/
def wpX2 (P : Program) (md : Region.Mode) (ops : Array Oper) (n : Nat) (L : Array Bool → Act → World → Prop) (b0 : World) : Nat → World → Array Bool → Act → Prop
  | 0, b, listed, a => ∀ W, Ext b W → L listed a W
  | f + 1, b, listed, a => Region.ready md ops listed ≠ [] ∧ ∀ i ∈ Region.ready md ops listed, i < n ∧ ∀ W, Ext b W → wpOp P ops NoQ i (fun a' W' => Ext b0 W' ∧ wpX2 P md ops n L b0 f W' (listed.setIfInBounds i true) a') a W
theorem wpX2_mono {n : Nat} {L : Array Bool → Act → World → Prop} {b0 : World} : ∀ {f : Nat} {b c : World} {listed : Array Bool} {a : Act}, wpX2 P md ops n L b0 f b listed a → Ext b c → wpX2 P md ops n L b0 f c listed a
  | 0, _, _, _, _, h, hc => fun W hW => h W (hc.trans hW)
  | _ + 1, _, _, _, _, h, hc => ⟨h.1, fun i hi => ⟨(h.2 i hi).1, fun W hW => (h.2 i hi).2 W (hc.trans hW)⟩⟩
theorem wpAny_of_X2 {n g : Nat} {L : Array Bool → Act → World → Prop} {b0 : World} {Q : Exit → Act → World → Prop} (hL : ∀ listed a W, L listed a W → wpAny P md ops Q g listed a W) :
    ∀ (f : Nat) (b : World) (listed : Array Bool) (a : Act) (W : World), Ext b W → wpX2 P md ops n L b0 f b listed a → wpAny P md ops Q (f + g) listed a W
  | 0, b, listed, a, W, hW, h => by rw [Nat.zero_add]; exact hL _ _ _ (h W hW)
  | f + 1, b, listed, a, W, hW, h => by
    rw [show f + 1 + g = (f + g) + 1 by omega]
    exact ⟨fun h0 => absurd h0 h.1, fun i hi => wpOp_mono (fun a' W' h' => wpAny_of_X2 hL f _ _ a' W' (Ext.refl _) h'.2) (wpOp_noQ ((h.2 i hi).2 W hW))⟩
theorem wpX2_first {b0 : World} {n i : Nat} {oi : Oper} {v : Value} {L : Array Bool → Act → World → Prop} (hi : ops[i]? = some oi) (hsel : ∀ (j : Nat) (o : Oper) cs b, ops[j]? = some o → o.op ≠ .select cs b)
    (hT : TailWaits md ops n) (hin : i < n) (hdone : ∀ listed a W, L listed a W → ∀ j ∈ Region.ready md ops listed, n ≤ j) :
    ∀ (f : Nat) (b : World) (listed : Array Bool) (a : Act), Ext b0 b → HeadInv md ops n listed →
      (∀ j oj, ops[j]? = some oj → j ≠ i → listed.getD j true = false → (∀ e ∈ oj.after, Region.binds md e = true → e.on ≠ i) → oi.apart ops oj = true) →
      i ∈ Region.ready md ops listed → YieldsR P ops b0 oi v a →
      wpX2 P md ops n L b0 f b (listed.setIfInBounds i true) (a.put oi.dst v) → wpX2 P md ops n L b0 (f + 1) b listed a := by
  intro f
  induction f with
  | zero =>
    intro b listed a hb inv _ hr hy H
    have hun := (mem_ready.1 hr).1
    refine ⟨fun h => (by rw [h] at hr; cases hr), fun j hj => ?_⟩
    have hjn : j < n := by
      rcases Nat.lt_or_ge j n with h | h
      · exact h
      · exact absurd hj (hT _ inv i hin hun j h)
    refine ⟨hjn, fun W hW => ?_⟩
    by_cases hji : j = i
    · subst hji; exact hy.op hi (hb.trans hW) (fun W' hW' => ⟨hb.trans (hW.trans hW'), wpX2_mono H (hW.trans hW')⟩)
    · have := hdone _ _ _ (H W hW) j (ready_mono hj hji)
      omega
  | succ f ih =>
    intro b listed a hb inv hfree hr hy H
    have hun := (mem_ready.1 hr).1
    refine ⟨fun h => (by rw [h] at hr; cases hr), fun j hj => ?_⟩
    have hjn : j < n := by
      rcases Nat.lt_or_ge j n with h | h
      · exact h
      · exact absurd hj (hT _ inv i hin hun j h)
    refine ⟨hjn, fun W hW => ?_⟩
    by_cases hji : j = i
    · subst hji; exact hy.op hi (hb.trans hW) (fun W' hW' => ⟨hb.trans (hW.trans hW'), wpX2_mono H (hW.trans hW')⟩)
    · have h1 := (H.2 j (ready_mono hj hji)).2 W hW
      obtain ⟨hjun, oj, hoj, hall⟩ := mem_ready.1 hj
      have hnot : ∀ e ∈ oj.after, Region.binds md e = true → e.on ≠ i := fun e he hb heq => by
        have h1 := hall e he hb
        rw [heq, getD_both hun] at h1
        cases h1
      have h2 := wpOp_putR hoj (hfree j oj hoj hji hjun hnot) (fun cs b => hsel i oi cs b hi) (fun cs b => hsel j oj cs b hoj) hy h1
      have hfree' : ∀ k ok, ops[k]? = some ok → k ≠ i → (listed.setIfInBounds j true).getD k true = false →
          (∀ e ∈ ok.after, Region.binds md e = true → e.on ≠ i) → oi.apart ops ok = true := fun k ok hk hki hun hno => by
        refine hfree k ok hk hki ?_ hno
        by_cases hjk : j = k
        · subst hjk; exact hjun
        · rw [getD_set_ne true hjk] at hun; exact hun
      refine wpOp_mono (fun a' W' h3 => ⟨h3.2.1, ih W' (listed.setIfInBounds j true) a' h3.2.1 (inv.set hj hjn) hfree' (ready_mono hr (Ne.symm hji)) h3.1 ?_⟩) h2
      rw [Array.setIfInBounds_comm _ _ hji]
      exact h3.2.2

def wpH2 (P : Program) (md : Region.Mode) (ops : Array Oper) (n : Nat) (L : Array Bool → Act → World → Prop) (b0 : World) (f : Nat) (b : World) (listed : Array Bool) (a : Act) : Prop :=
  HeadInv md ops n listed → wpX2 P md ops n L b0 f b listed a
/-- The g operations from k on, in the order of the text: each yields one value in every world on from b. -/
theorem wpX2_seg {n f : Nat} {L : Array Bool → Act → World → Prop} (H : Head md ops n L) {b0 b : World} (hb : Ext b0 b) {af : Act} : ∀ (l : List Oper) (k : Nat) (listed : Array Bool) (a : Act),
    (∀ j, j < l.length → l[j]? = ops[k + j]?) → segOk md ops n a.tmps.size k l.length listed = true → HeadInv md ops n listed →
    (∀ c : From b0, wpQuiet P ops (On c.w) (· = af) l a) → wpH2 P md ops n L b0 f b (segSet k l.length listed) af → wpX2 P md ops n L b0 (l.length + f) b listed a
  | [], k, listed, a, _, _, inv, h, hr => by
    have e : a = af := h ⟨b0, Ext.refl b0⟩
    simp only [List.length_nil, Nat.zero_add]
    rw [e]
    exact hr inv
  | o :: l, k, listed, a, hl, hB, inv, h, hr => by
    have h0 : ops[k]? = some o := by simpa using (hl 0 (by simp)).symm
    simp only [List.length_cons, segOk, Bool.and_eq_true, h0, decide_eq_true_eq] at hB
    obtain ⟨⟨⟨⟨hrd, hfr⟩, hkn⟩, hdst⟩, hB'⟩ := hB
    have hrd' : k ∈ Region.ready md ops listed := by simpa using hrd
    obtain ⟨d, hd⟩ : ∃ d, o.dst = some d := by
      cases hd : o.dst with
      | none => rw [hd] at hdst; cases hdst
      | some d => exact ⟨d, rfl⟩
    rw [hd] at hdst
    simp only [Bool.and_eq_true, decide_eq_true_eq] at hdst
    obtain ⟨hdm, hdl⟩ := hdst
    have hne : ∀ o' ∈ l, o'.dst ≠ some d := fun o' ho' => by
      obtain ⟨j, hj, hj'⟩ := List.getElem_of_mem ho'
      have h1 := List.all_eq_true.1 hdl j (List.mem_range.2 hj)
      have h2 := hl (j + 1) (by simp; omega)
      rw [List.getElem?_cons_succ, List.getElem?_eq_getElem hj, hj', show k + (j + 1) = k + 1 + j by omega] at h2
      rw [← h2] at h1
      simpa using h1
    have main : ∃ v, YieldsR P ops b0 o v a ∧ ∀ c : From b0, wpQuiet P ops (On c.w) (· = af) l (a.put o.dst v) := by
      by_cases hw : Region.wanted o (yielded ops a.tmps) = true
      · have hv : ∀ c : From b0, ∃ v, (∀ w, On c.w w → o.quietAt P a (On c.w) w v) ∧ wpQuiet P ops (On c.w) (· = af) l (a.put o.dst v) ∧ af.tmps[d]? = some v := fun c => by
          have h1 := h c
          simp only [wpQuiet, hw, if_true] at h1
          obtain ⟨v, h2, h3⟩ := h1
          exact ⟨v, h2, h3, by rw [← wpQuiet_slot l _ hne h3, hd]; simp [Act.put, hdm]⟩
        obtain ⟨v, _, _, hv0⟩ := hv ⟨b0, Ext.refl b0⟩
        refine ⟨v, .inl ⟨hw, fun W hW => ?_⟩, fun c => ?_⟩
        · obtain ⟨v', h2, _, h4⟩ := hv ⟨W, hW⟩
          rw [hv0] at h4; cases h4
          exact quietUpon_mono (fun w ⟨o, ho⟩ => ho ▸ o.h) (h2 W ⟨⟨W, Ext.refl W⟩, rfl⟩)
        · obtain ⟨v', _, h3, h4⟩ := hv c
          rw [hv0] at h4; cases h4
          exact h3
      · refine ⟨undef, .inr ⟨by simpa using hw, rfl⟩, fun c => ?_⟩
        have h1 := h c
        simp only [wpQuiet, hw] at h1
        exact h1
    obtain ⟨v, hy, hq⟩ := main
    have hps : (a.put o.dst v).tmps.size = a.tmps.size := by cases o.dst <;> simp [Act.put]
    rw [List.length_cons, show l.length + 1 + f = (l.length + f) + 1 by omega]
    refine wpX2_first h0 (Region.noSelect_spec H.sel) H.tail hkn H.done _ b listed a hb inv (Region.free_spec h0 hfr) hrd' hy ?_
    exact wpX2_seg H hb l (k + 1) _ _ (fun j hj => by have := hl (j + 1) (by simp; omega); simpa [Nat.add_assoc, Nat.add_comm 1 j] using this) (by rw [hps]; exact hB') (inv.set hrd' hkn) hq hr

theorem wpH2_end {n : Nat} {L : Array Bool → Act → World → Prop} {b0 b : World} {listed : Array Bool} {a : Act} (h : ∀ W, Ext b W → L listed a W) : wpH2 P md ops n L b0 0 b listed a := fun _ => h
theorem wpH2_segL {l0 : List Oper} {n F : Nat} {L : Array Bool → Act → World → Prop} (H : Head md l0.toArray n L) (k g f : Nat) (hF : F = g + f) (hk : (decide (k + g ≤ l0.length)) = true) {b0 b : World} (hb : Ext b0 b) {listed : Array Bool} {a : Act}
    (hB : segOk md l0.toArray n a.tmps.size k g listed = true)
    (h : ∃ af, (∀ c : From b0, wpQuiet P l0.toArray (fun w' => ∃ o : From c.w, w' = o.w) (· = af) ((l0.drop k).take g) a) ∧ wpH2 P md l0.toArray n L b0 f b (segSet k g listed) af) : wpH2 P md l0.toArray n L b0 F b listed a := by
  subst hF
  obtain ⟨af, h1, h2⟩ := h
  have hk' : k + g ≤ l0.length := by simpa using hk
  have hlen : ((l0.drop k).take g).length = g := by simp; omega
  intro inv
  have := wpX2_seg (P := P) (f := f) H hb (af := af) ((l0.drop k).take g) k listed a (fun j hj => by
    rw [hlen] at hj
    simp [hj]) (by rw [hlen]; exact hB) inv h1 (by rw [hlen]; exact h2)
  rwa [hlen] at this
/-- What a step asks: the operation, from whatever world on from b. -/
def Step2 (P : Program) (md : Region.Mode) (ops : Array Oper) (n : Nat) (L : Array Bool → Act → World → Prop) (b0 : World) (f : Nat) (b : World) (listed : Array Bool) (a : Act) (i : Nat) (oi : Oper) : Prop :=
  ∀ W, Ext b W → ∀ K : Act → World → Prop, Lib.Hid' (∀ a' W', Ext b0 W' → wpH2 P md ops n L b0 f W' (listed.setIfInBounds i true) a' → K a' W') →
      if Region.wanted oi (yielded ops a.tmps) = true then oi.wp P a W K NoQ else K (a.put oi.dst undef) W
theorem wpX2_one {n f : Nat} {L : Array Bool → Act → World → Prop} {b0 b : World} {i : Nat} {oi : Oper} {listed : Array Bool} {a : Act} (hi : ops[i]? = some oi) (hin : i < n) (hri : i ∈ Region.ready md ops listed) (inv : HeadInv md ops n listed)
    (h : Step2 P md ops n L b0 f b listed a i oi) (W : World) (hW : Ext b W) : wpOp P ops NoQ i (fun a' W' => Ext b0 W' ∧ wpX2 P md ops n L b0 f W' (listed.setIfInBounds i true) a') a W := by
  have := h W hW (fun a' W' => Ext b0 W' ∧ wpX2 P md ops n L b0 f W' (listed.setIfInBounds i true) a') (fun a' W' he hx => ⟨he, hx (inv.set hri hin)⟩)
  unfold wpOp
  simp only [hi]
  split
  · rename_i hw; rw [if_pos hw] at this; exact .inl this
  · rename_i hw; rw [if_neg hw] at this; exact this
theorem wpH2_stepL {l0 : List Oper} {n F : Nat} {L : Array Bool → Act → World → Prop} {b0 b : World} (i f : Nat) (hF : F = f + 1) {oi : Oper} {listed : Array Bool} {a : Act} (hi : l0[i]? = some oi) (hin : decide (i < n) = true) (hr : Region.ready md l0.toArray listed = [i])
    (h : Step2 P md l0.toArray n L b0 f b listed a i oi) : wpH2 P md l0.toArray n L b0 F b listed a := by
  subst hF
  intro inv
  have hri : i ∈ Region.ready md l0.toArray listed := by rw [hr]; simp
  refine ⟨by rw [hr]; simp, fun j hj => ?_⟩
  rw [hr] at hj
  obtain rfl : j = i := by simpa using hj
  exact ⟨by simpa using hin, wpX2_one (by simpa using hi) (by simpa using hin) hri inv h⟩
/-- Either of two may be next. -/
theorem wpH2_twoL {l0 : List Oper} {n F : Nat} {L : Array Bool → Act → World → Prop} {b0 b : World} (i j f : Nat) (hF : F = f + 1) {oi oj : Oper} {listed : Array Bool} {a : Act} (hi : l0[i]? = some oi) (hj : l0[j]? = some oj) (hin : decide (i < n) = true) (hjn : decide (j < n) = true) (hr : Region.ready md l0.toArray listed = [i, j])
    (h1 : Step2 P md l0.toArray n L b0 f b listed a i oi) (h2 : Step2 P md l0.toArray n L b0 f b listed a j oj) : wpH2 P md l0.toArray n L b0 F b listed a := by
  subst hF
  intro inv
  have hri : i ∈ Region.ready md l0.toArray listed := by rw [hr]; simp
  have hrj : j ∈ Region.ready md l0.toArray listed := by rw [hr]; simp
  refine ⟨by rw [hr]; simp, fun k hk => ?_⟩
  rw [hr] at hk
  rcases (by simpa using hk : k = i ∨ k = j) with rfl | rfl
  · exact ⟨by simpa using hin, wpX2_one (by simpa using hi) (by simpa using hin) hri inv h1⟩
  · exact ⟨by simpa using hjn, wpX2_one (by simpa using hj) (by simpa using hjn) hrj inv h2⟩
end
theorem wp_region_XT2 {P : Program} {id : Nat} {Q : Exit → Act → World → Prop} {a : Act} {w : World} {l : List Oper} (N n : Nat) (hN : l.length = N) (hm : P.follows .mixedOrders = true)
    (hB : (Region.noSelect l.toArray && decide (n < N) && Region.sinkB .any l.toArray n && Region.chainB .any l.toArray n) = true)
    (h : Head .any l.toArray n (theTail P .any l.toArray n (l.drop n) Q) → wpH2 P .any l.toArray n (theTail P .any l.toArray n (l.drop n) Q) w n w (Array.replicate N false) a) : (Code.region id l.toArray true).wp P Q a w := by
  subst hN
  simp only [Bool.and_eq_true, decide_eq_true_eq] at hB
  obtain ⟨⟨⟨hsel, hn⟩, hs⟩, hc⟩ := hB
  have hdl : (l.drop n).length = l.toArray.size - n := by simp
  have H : Head .any l.toArray n (theTail P .any l.toArray n (l.drop n) Q) :=
    ⟨hsel, fun listed inv i hi hun t ht => tail_waits hs hc (by simpa using hn) inv _ i rfl hi hun t ht, fun listed a W h => seqB_ready h.1⟩
  refine wp_region_any hm ?_
  have h0 := wpAny_of_X2 (P := P) (n := n) (g := l.toArray.size - n) (L := theTail P .any l.toArray n (l.drop n) Q) (b0 := w) (Q := Q) (fun listed a W h => by
    have := wpAny_of_seq (md := .any) (Q' := Q) (l.drop n) n listed a W (fun j => by simp [List.getElem?_drop]) (by rw [hdl]; exact h.1) h.2
    rwa [hdl] at this) n w _ a w.drew (Ext.drew' w) (h H (by have := inv0 (md := .any) (ops := l.toArray) (n := n); simpa using this))
  rw [show n + (l.toArray.size - n) = l.toArray.size by simp; omega] at h0
  simpa using h0
end Go.Proofs.YtopgbggighaknaaGreatDoor
/- Lists that are appended to: what a row of one's own reads as. -/
namespace Go.Proofs.YtopgbggighaknaaGreatDoor
open Go Go.RowKit
theorem rd_of_own {w : World} {base : Nat} {e : TypeId} {v : Value} {n : Nat} {xs : List Value} (h : w.ownsRow base e 1 v n xs) : ∃ A c, v = .slice A n c ∧ Rd w A n (fun j => xs.getD j undef) := by
  obtain ⟨hl, h⟩ := h
  rcases h with ⟨rfl, rfl⟩ | ⟨g, cap, cur, rfl, hb, hg, hn, hm, hs, ht⟩
  · exact ⟨none, 0, rfl, fun h => absurd h (by omega)⟩
  · refine ⟨_, cap, rfl, Rd.blk (show Blk w g cur e from hg) n _ fun j hj => ?_⟩
    rw [← ht, List.getD_eq_getElem?_getD, List.getElem?_take, if_pos (by omega)]
    have : j < cur.size := by omega
    simp [this]
theorem own_ext {w w' : World} {base : Nat} {e : TypeId} {v : Value} {n : Nat} {xs : List Value} (h : w.ownsRow base e 1 v n xs) (k : Ext w w') : w'.ownsRow base e 1 v n xs := by
  obtain ⟨hl, h⟩ := h
  refine ⟨hl, ?_⟩
  rcases h with ⟨rfl, rfl⟩ | ⟨g, cap, cur, rfl, hb, hg, hn, hm, hs, ht⟩
  · exact .inl ⟨rfl, rfl⟩
  · exact .inr ⟨g, cap, cur, rfl, hb, (k.block g (Array.getElem?_eq_some_iff.1 hg).1).trans hg, hn, hm, hs, ht⟩
/-- .. kept by whatever leaves the row's block. -/
theorem own_keep {w w' : World} {base : Nat} {e : TypeId} {v : Value} {n : Nat} {xs : List Value} (h : w.ownsRow base e 1 v n xs) (k : ∀ g, base ≤ g → g < w.heap.size → v.ownBlock = some g → w'.heap[g]? = w.heap[g]?) : w'.ownsRow base e 1 v n xs := by
  obtain ⟨hl, h⟩ := h
  refine ⟨hl, ?_⟩
  rcases h with ⟨rfl, rfl⟩ | ⟨g, cap, cur, rfl, hb, hg, hn, hm, hs, ht⟩
  · exact .inl ⟨rfl, rfl⟩
  · exact .inr ⟨g, cap, cur, rfl, hb, (k g hb (Array.getElem?_eq_some_iff.1 hg).1 rfl).trans hg, hn, hm, hs, ht⟩
theorem own_block {w : World} {base : Nat} {e : TypeId} {v : Value} {n : Nat} {xs : List Value} (h : w.ownsRow base e 1 v n xs) : ∀ g, v.ownBlock = some g → base ≤ g := by
  intro g hg
  rcases h.2 with ⟨rfl, rfl⟩ | ⟨g', cap, cur, rfl, hb, _⟩
  · cases hg
  · simp [Value.ownBlock] at hg; omega
end Go.Proofs.YtopgbggighaknaaGreatDoor
/- Iterators whose loop body owns blocks: a list that is appended to in the round. As XRF; u: the blocks that the body owns. -/
namespace Go.Proofs.YtopgbggighaknaaGreatDoor
open Go Go.RowKit
attribute [local go_sem] Oper.semAt_some
/-- Of the blocks that were there, those in D, and those from S on that are none of u's, lie as they lay. -/
structure KeepU (D u : Nat → Prop) (S : Nat) (W W' : World) : Prop where
  size : W.heap.size ≤ W'.heap.size
  same : ∀ k, k < W.heap.size → (D k ∨ (S ≤ k ∧ ¬ u k)) → W'.heap[k]? = W.heap[k]?
theorem KeepU.refl (D u : Nat → Prop) (S : Nat) (W : World) : KeepU D u S W W := ⟨Nat.le_refl _, fun _ _ _ => rfl⟩
theorem KeepU.of_ext {D u : Nat → Prop} {S : Nat} {A B : World} (h : Ext A B) : KeepU D u S A B := ⟨h.size, fun i hi _ => h.block i hi⟩
section
variable {P : Program}
def IterU (P : Program) (D : Nat → Prop) (gf : Nat) (lb : Array Value) (xs : List (Array Value)) (w : World) : Prop :=
  ∀ (l : Nat) (J Jx : Nat → (Nat → Prop) → World → Prop) (u0 : Nat → Prop) (W : World), Keep D w.heap.size w W →
    (∀ k u A B, J k u A → Below W.heap.size A B → (∀ b, u b → B.heap[b]? = A.heap[b]?) → J k u B) →
    (∀ k u A B, Jx k u A → Below W.heap.size A B → (∀ b, u b → B.heap[b]? = A.heap[b]?) → Jx k u B) →
    (∀ k u A, J k u A → ∀ b, u b → b < A.heap.size) →
    (∀ k u A, Jx k u A → ∀ b, u b → b < A.heap.size) →
    (∀ k u x W1, xs[k]? = some x → J k u W1 → YieldAt Fence.wide 0 P l x W1 fun e W' => ∃ u', (∀ b, u' b → u b ∨ W1.heap.size ≤ b) ∧
      ((e = .returned (.bool true) ∧ J (k + 1) u' W' ∧ KeepU D u W.heap.size W1 W') ∨ (e = .returned (.bool false) ∧ Jx (k + 1) u' W' ∧ KeepU D u W.heap.size W1 W'))) →
    J 0 u0 W →
    CallsIn Fence.wide 0 P gf (#[.func (.yield l) #[] #[]] ++ lb) W fun e W' => (∃ v, e = .returned v) ∧ ((∃ u, J xs.length u W') ∨ ∃ k u, k ≤ xs.length ∧ Jx k u W')

/-- How a round's body may be left. -/
def rpostU (D u : Nat → Prop) (S : Nat) (I : Nat → (Nat → Prop) → World → Prop) (Ix : Code → Nat → (Nat → Prop) → World → Prop) (k : Nat) (W : World) : Exit → Act → World → Prop
  | .normal, _, W' => KeepU D u S W W' ∧ ∃ u', (∀ b, u' b → u b ∨ W.heap.size ≤ b) ∧ I (k + 1) u' W'
  | .ret, _, W' => KeepU D u S W W' ∧ ∃ u', (∀ b, u' b → u b ∨ W.heap.size ≤ b) ∧ Ix .ret (k + 1) u' W'
  | .exit id, _, W' => KeepU D u S W W' ∧ ∃ u', (∀ b, u' b → u b ∨ W.heap.size ≤ b) ∧ Ix (.exit id) (k + 1) u' W'
  | .goto t, _, W' => KeepU D u S W W' ∧ ∃ u', (∀ b, u' b → u b ∨ W.heap.size ≤ b) ∧ Ix (.goto t) (k + 1) u' W'
  | .panic _, _, _ => False
  | .outgrown, _, _ => False

/-- What the rounds are: from the walk of assign and body to yield's promise. -/
theorem yield_of_roundU {D u : Nat → Prop} {S l : Nat} {I : Nat → (Nat → Prop) → World → Prop} {Ix : Code → Nat → (Nat → Prop) → World → Prop} {fn : FuncId} {tmps : Array Value} {ps : Array Tmp} {assign body : Code} {defers : Nat}
    (hSl : S ≤ l) (hul : ¬ u l) (hI : ∀ k u A B, I k u A → Below S A B → (∀ b, u b → B.heap[b]? = A.heap[b]?) → I k u B) (hIx : ∀ c k u A B, Ix c k u A → Below S A B → (∀ b, u b → B.heap[b]? = A.heap[b]?) → Ix c k u B)
    (rec : LoopState → Option Code → Loop) (hrec : rec = fun st pe => { state := st, pending := pe, fn, tmps, params := ps, assign, body, defers }) (k : Nat) (x : Array Value) (hps : x.size = ps.size) (W : World)
    (hl : W.heap[l]? = some (.loop (rec .ready none)))
    (hr : assign.wpIn (Fence.wide.inRound l) 0 P (Exit.then (fun a' W1 => KeepU D u S W W1 ∧ ∀ r, body.wpIn (Fence.wide.inRound l) 0 P (rpostU D u S I Ix k (W1.putObj l (.loop r))) a' (W1.putObj l (.loop r))) (fun _ _ _ => False))
      { tmps := (ps.zip x).foldl (fun t (p, v) => t.setIfInBounds p v) tmps, defers := [] } W) :
    YieldAt Fence.wide 0 P l x W fun e W' => ∃ u', (∀ b, u' b → u b ∨ W.heap.size ≤ b) ∧ ((e = .returned (.bool true) ∧ I (k + 1) u' W' ∧ W'.heap[l]? = some (.loop (rec .ready none))) ∨
      (e = .returned (.bool false) ∧ ∃ c, Ix c (k + 1) u' W' ∧ W'.heap[l]? = some (.loop (rec .done (some c))))) ∧
      (∀ j, j < W.heap.size → j ≠ l → (D j ∨ (S ≤ j ∧ ¬ u j)) → W'.heap[j]? = W.heap[j]?) ∧ W.heap.size ≤ W'.heap.size := by
  have hy := run_yield (P := P) (args := x) hl (by rw [hrec]; exact hps)
  rw [hrec] at hy
  refine ⟨fn, _, assign, body, hy, roundIn_of_wpIn (F := Fence.wide) trivial (wpIn_mono hr ?_)⟩
  rintro e a1 W1 hq
  cases e with
  | normal =>
    obtain ⟨hk1, hb⟩ := hq
    have hlt := (Array.getElem?_eq_some_iff.1 hl).1
    have hl1 : W1.heap[l]? = some (.loop (rec .ready none)) := (hk1.same l hlt (.inr ⟨hSl, hul⟩)).trans hl
    have hlt1 := (Array.getElem?_eq_some_iff.1 hl1).1
    refine ⟨_, run_beginRound hl1 (by rw [hrec]), wpIn_mono (hb _) ?_⟩
    have fin : ∀ (jump : Option Code) (W3 : World), KeepU D u S (W1.putObj l (.loop { rec .ready none with state := .busy })) W3 →
        (Instr.endRound l jump).run P W3 = .ok (.bool jump.isNone) (W3.putObj l (.loop (rec (if jump.isNone then .ready else .done) jump))) ∧
        (W3.putObj l (.loop (rec (if jump.isNone then .ready else .done) jump))).heap[l]? = some (.loop (rec (if jump.isNone then .ready else .done) jump)) ∧
        (∀ j, j < W.heap.size → j ≠ l → (D j ∨ (S ≤ j ∧ ¬ u j)) → (W3.putObj l (.loop (rec (if jump.isNone then .ready else .done) jump))).heap[j]? = W.heap[j]?) ∧ W.heap.size ≤ W3.heap.size := fun jump W3 hk3 => by
      have hl3 := (hk3.same l (by simpa using hlt1) (.inr ⟨hSl, hul⟩)).trans (World.putObj_heap_same hlt1)
      have := run_endRound (P := P) jump hl3
      have hs3 := hk3.size
      simp at hs3
      have hs1 := hk1.size
      refine ⟨by rw [this]; subst hrec; rfl, World.putObj_heap_same (by omega), fun j hj hne hd => ?_, by omega⟩
      rw [World.putObj_heap_other hne, hk3.same j (by simp; omega) hd, World.putObj_heap_other hne, hk1.same j hj hd]
    have low : ∀ u' : Nat → Prop, (∀ b, u' b → u b ∨ (W1.putObj l (.loop { rec .ready none with state := .busy })).heap.size ≤ b) → (∀ b, u' b → u b ∨ W.heap.size ≤ b) ∧ ¬ u' l := fun u' hu => by
      have hs1 := hk1.size
      refine ⟨fun b hb => (hu b hb).imp id (fun h => by simp at h; omega), fun h => ?_⟩
      rcases hu l h with h | h
      · exact hul h
      · simp at h; omega
    rintro e a3 W3 hp
    cases e with
    | normal =>
      obtain ⟨hk3, u', hu, hi3⟩ := hp
      obtain ⟨hr, hl4, hs, hz⟩ := fin none W3 hk3
      obtain ⟨hu1, hu2⟩ := low u' hu
      exact ⟨_, _, hr, u', hu1, .inl ⟨rfl, hI _ _ _ _ hi3 (below_putObj _ _ _ _ hSl) (fun b hbu => World.putObj_heap_other (fun e => hu2 (e ▸ hbu))), hl4⟩, hs, by simpa using hz⟩
    | ret =>
      obtain ⟨hk3, u', hu, hi3⟩ := hp
      obtain ⟨hr, hl4, hs, hz⟩ := fin (some .ret) W3 hk3
      obtain ⟨hu1, hu2⟩ := low u' hu
      exact ⟨_, _, hr, u', hu1, .inr ⟨rfl, .ret, hIx _ _ _ _ _ hi3 (below_putObj _ _ _ _ hSl) (fun b hbu => World.putObj_heap_other (fun e => hu2 (e ▸ hbu))), hl4⟩, hs, by simpa using hz⟩
    | exit id =>
      obtain ⟨hk3, u', hu, hi3⟩ := hp
      obtain ⟨hr, hl4, hs, hz⟩ := fin (some (.exit id)) W3 hk3
      obtain ⟨hu1, hu2⟩ := low u' hu
      exact ⟨_, _, hr, u', hu1, .inr ⟨rfl, .exit id, hIx _ _ _ _ _ hi3 (below_putObj _ _ _ _ hSl) (fun b hbu => World.putObj_heap_other (fun e => hu2 (e ▸ hbu))), hl4⟩, hs, by simpa using hz⟩
    | goto t =>
      obtain ⟨hk3, u', hu, hi3⟩ := hp
      obtain ⟨hr, hl4, hs, hz⟩ := fin (some (.goto t)) W3 hk3
      obtain ⟨hu1, hu2⟩ := low u' hu
      exact ⟨_, _, hr, u', hu1, .inr ⟨rfl, .goto t, hIx _ _ _ _ _ hi3 (below_putObj _ _ _ _ hSl) (fun b hbu => World.putObj_heap_other (fun e => hu2 (e ▸ hbu))), hl4⟩, hs, by simpa using hz⟩
    | panic ch => exact hp.elim
    | outgrown => exact hp.elim
  | exit id => exact hq.elim
  | goto t => exact hq.elim
  | ret => exact hq.elim
  | panic chain => exact hq.elim
  | outgrown => exact hq.elim

theorem yield_keepU {D u : Nat → Prop} {S S' l : Nat} {W W' : World} (hz : W.heap.size ≤ W'.heap.size) (hl : l < S') (hS : S ≤ S') (h : ∀ j, j < W.heap.size → j ≠ l → (D j ∨ (S ≤ j ∧ ¬ u j)) → W'.heap[j]? = W.heap[j]?) (hD : ¬ D l) : KeepU D u S' W W' :=
  ⟨hz, fun j hj hd => h j hj (by rintro rfl; rcases hd with hd | hd; exact hD hd; omega) (hd.imp id (fun x => ⟨by omega, x.2⟩))⟩

/-- 'for .. := range g { body }', outermost in its function. -/
theorem range_outerInU {D : Nat → Prop} {gf : Nat} {lb : Array Value} {xs : List (Array Value)} {w0 w : World} {g : Operand} {ps : Array Tmp} {assign body : Code} {Q : Exit → Act → World → Prop} {a : Act}
    (hg : a.eval g = .func (.func gf) #[] lb) (eg : ∀ args w, (callFunc gf args).run P w = .ok (.enter gf args) w)
    (hit : IterU P D gf lb xs w0) (hD : ∀ k, D k → k < w.heap.size) (hb0 : Keep D w0.heap.size w0 w) (hps : ∀ x ∈ xs, x.size = ps.size)
    (I : Nat → (Nat → Prop) → World → Prop) (Ix : Code → Nat → (Nat → Prop) → World → Prop)
    (hI : ∀ k u A B, I k u A → Below w.heap.size A B → (∀ b, u b → B.heap[b]? = A.heap[b]?) → I k u B) (hIx : ∀ c k u A B, Ix c k u A → Below w.heap.size A B → (∀ b, u b → B.heap[b]? = A.heap[b]?) → Ix c k u B)
    (hIb : ∀ k u A, I k u A → ∀ b, u b → b < A.heap.size) (hIxb : ∀ c k u A, Ix c k u A → ∀ b, u b → b < A.heap.size) {u0 : Nat → Prop} (h0 : I 0 u0 w)
    (hround : ∀ l k u x W, xs[k]? = some x → w.heap.size ≤ l → (∃ r, W.heap[l]? = some (.loop r)) → ¬ u l → I k u W →
      assign.wpIn (Fence.wide.inRound l) 0 P (Exit.then (fun a' W1 => KeepU D u w.heap.size W W1 ∧ ∀ r, body.wpIn (Fence.wide.inRound l) 0 P (rpostU D u w.heap.size I Ix k (W1.putObj l (.loop r))) a' (W1.putObj l (.loop r))) (fun _ _ _ => False))
        { tmps := (ps.zip x).foldl (fun t (p, v) => t.setIfInBounds p v) a.tmps, defers := [] } W)
    (hdone : ∀ K u W, w.heap.size ≤ K → ¬ u K → I xs.length u W → W.heap[K]? = some (.deferred (some [])) → Q .normal { a with defers := { target := .collected K, args := #[] } :: a.defers } W)
    (hstop : ∀ K c k u W, w.heap.size ≤ K → ¬ u K → k ≤ xs.length → Ix c k u W → W.heap[K]? = some (.deferred (some [])) → c.wpIn Fence.wide 0 P Q { a with defers := { target := .collected K, args := #[] } :: a.defers } W) :
    (Code.rangeFunc g ps assign body).wpIn Fence.wide 0 P Q a w := by
  refine wpIn_rangeFunc ?_
  intro fn hfn
  rw [show Fence.wide.round = none from rfl]
  obtain ⟨rec, hrec⟩ : ∃ rec : LoopState → Option Code → Loop, rec = fun st pe => { state := st, pending := pe, fn, tmps := a.tmps, params := ps, assign, body, defers := w.heap.size } := ⟨_, rfl⟩
  obtain ⟨W1, hW1⟩ : ∃ W1, (w.alloc (.deferred (some []))).alloc (.loop (rec .ready none)) = W1 := ⟨_, rfl⟩
  have hs1 : W1.heap.size = w.heap.size + 2 := by rw [← hW1]; simp
  have hL1 : W1.heap[w.heap.size + 1]? = some (.loop (rec .ready none)) := by
    rw [← hW1]; have := World.alloc_heap_new (w.alloc (.deferred (some []))) (.loop (rec .ready none)); rwa [World.size_alloc] at this
  have hK1 : W1.heap[w.heap.size]? = some (.deferred (some [])) := by
    rw [← hW1]; exact (Below.heap_alloc _ _ _ (by simp)).trans (World.alloc_heap_new w _)
  have hE1 : Ext w W1 := by rw [← hW1]; exact ((Below.refl _ w).alloc (Nat.le_refl _) _).alloc (by simp) _
  have hDl : ¬ D (w.heap.size + 1) := fun h => by have := hD _ h; omega
  refine ⟨w.heap.size + 1, [{ target := .collected w.heap.size, args := #[] }], W1, { target := .fn (.func gf) lb, args := #[.func (.yield (w.heap.size + 1)) #[] #[]] }, W1, gf,
    #[.func (.yield (w.heap.size + 1)) #[] #[]] ++ lb, W1, ?_, ?_, ?_, ?_, (fun h => by cases h), ?_⟩
  · rw [← hW1, hrec]; exact run_enterLoop_outer _ _ _ _ _
  · simp only [resolve, hg]
    simp [go_sem]
  · exact fun _ _ => trivial
  · simp [invoke, go_sem, eg]
  · refine (hit (w.heap.size + 1)
      (fun k u W => I k u W ∧ W.heap[w.heap.size + 1]? = some (.loop (rec .ready none)) ∧ W.heap[w.heap.size]? = some (.deferred (some [])) ∧ ¬ u (w.heap.size + 1) ∧ ¬ u w.heap.size)
      (fun k u W => ∃ c, Ix c k u W ∧ W.heap[w.heap.size + 1]? = some (.loop (rec .done (some c))) ∧ W.heap[w.heap.size]? = some (.deferred (some [])) ∧ ¬ u (w.heap.size + 1) ∧ ¬ u w.heap.size)
      u0 W1 (hb0.trans (.of_ext hE1)) ?_ ?_ ?_ ?_ ?_ ⟨hI _ _ _ _ h0 hE1 (fun b hb => hE1.block b (hIb _ _ _ h0 b hb)), hL1, hK1, (fun h => by have := hIb _ _ _ h0 _ h; omega), (fun h => by have := hIb _ _ _ h0 _ h; omega)⟩).mono ?_
    · rintro k u A B ⟨h1, h2, h3, h4, h5⟩ hb hu
      exact ⟨hI _ _ _ _ h1 (hb.mono (by omega)) hu, (hb.block _ (by omega)).trans h2, (hb.block _ (by omega)).trans h3, h4, h5⟩
    · rintro k u A B ⟨c, h1, h2, h3, h4, h5⟩ hb hu
      exact ⟨c, hIx _ _ _ _ _ h1 (hb.mono (by omega)) hu, (hb.block _ (by omega)).trans h2, (hb.block _ (by omega)).trans h3, h4, h5⟩
    · rintro k u A ⟨h1, _⟩; exact hIb _ _ _ h1
    · rintro k u A ⟨c, h1, _⟩; exact hIxb _ _ _ _ h1
    · rintro k u x W hx ⟨hi, hl, hk, hul, huk⟩
      have hlt := (Array.getElem?_eq_some_iff.1 hl).1
      refine YieldAt.mono (yield_of_roundU (S := w.heap.size) (l := w.heap.size + 1) (by omega) hul hI hIx rec hrec k x (hps x (List.mem_of_getElem? hx)) W hl (hround _ k u x W hx (by omega) ⟨_, hl⟩ hul hi)) ?_
      rintro e W' ⟨u', hu', hc, h3, hz⟩
      have n1 : ¬ u' (w.heap.size + 1) := fun h => by rcases hu' _ h with h | h; exact hul h; omega
      have n2 : ¬ u' w.heap.size := fun h => by rcases hu' _ h with h | h; exact huk h; omega
      refine ⟨u', hu', ?_⟩
      rcases hc with ⟨rfl, h1, h2⟩ | ⟨rfl, c, h1, h2⟩
      · exact .inl ⟨rfl, ⟨h1, h2, (h3 _ (by omega) (by omega) (.inr ⟨Nat.le_refl _, huk⟩)).trans hk, n1, n2⟩, yield_keepU hz (by omega) (by omega) h3 hDl⟩
      · exact .inr ⟨rfl, ⟨c, h1, h2, (h3 _ (by omega) (by omega) (.inr ⟨Nat.le_refl _, huk⟩)).trans hk, n1, n2⟩, yield_keepU hz (by omega) (by omega) h3 hDl⟩
    · rintro e W2 ⟨⟨v, rfl⟩, (⟨u, hi, hl, hk, hul, huk⟩ | ⟨k, u, hkl, c, hi, hl, hk, hul, huk⟩)⟩
      · exact ⟨none, _, by have := run_endLoop (P := P) hl (by rw [hrec]; simp); rw [hrec] at this; exact this, hdone _ u _ (Nat.le_refl _) huk (hI _ _ _ _ hi (below_putObj _ _ _ _ (by omega)) (fun b hb => World.putObj_heap_other (by rintro rfl; exact hul hb))) ((World.putObj_heap_other (by omega)).trans hk)⟩
      · exact ⟨some c, _, by have := run_endLoop (P := P) hl (by rw [hrec]; simp); rw [hrec] at this; exact this, hstop _ c k u _ (Nat.le_refl _) huk hkl (hIx _ _ _ _ _ hi (below_putObj _ _ _ _ (by omega)) (fun b hb => World.putObj_heap_other (by rintro rfl; exact hul hb))) ((World.putObj_heap_other (by omega)).trans hk)⟩
/-- The same, in the plain walk. -/
theorem range_outerU {D : Nat → Prop} {gf : Nat} {lb : Array Value} {xs : List (Array Value)} {w0 w : World} {g : Operand} {ps : Array Tmp} {assign body : Code} {Q : Exit → Act → World → Prop} {a : Act}
    (hg : a.eval g = .func (.func gf) #[] lb) (eg : ∀ args w, (callFunc gf args).run P w = .ok (.enter gf args) w)
    (hit : IterU P D gf lb xs w0) (hD : ∀ k, D k → k < w.heap.size) (hb0 : Keep D w0.heap.size w0 w) (hps : ∀ x ∈ xs, x.size = ps.size)
    (I : Nat → (Nat → Prop) → World → Prop) (Ix : Code → Nat → (Nat → Prop) → World → Prop)
    (hI : ∀ k u A B, I k u A → Below w.heap.size A B → (∀ b, u b → B.heap[b]? = A.heap[b]?) → I k u B) (hIx : ∀ c k u A B, Ix c k u A → Below w.heap.size A B → (∀ b, u b → B.heap[b]? = A.heap[b]?) → Ix c k u B)
    (hIb : ∀ k u A, I k u A → ∀ b, u b → b < A.heap.size) (hIxb : ∀ c k u A, Ix c k u A → ∀ b, u b → b < A.heap.size) {u0 : Nat → Prop} (h0 : I 0 u0 w)
    (hround : ∀ l k u x W, xs[k]? = some x → w.heap.size ≤ l → (∃ r, W.heap[l]? = some (.loop r)) → ¬ u l → I k u W →
      assign.wpIn (Fence.wide.inRound l) 0 P (Exit.then (fun a' W1 => KeepU D u w.heap.size W W1 ∧ ∀ r, body.wpIn (Fence.wide.inRound l) 0 P (rpostU D u w.heap.size I Ix k (W1.putObj l (.loop r))) a' (W1.putObj l (.loop r))) (fun _ _ _ => False))
        { tmps := (ps.zip x).foldl (fun t (p, v) => t.setIfInBounds p v) a.tmps, defers := [] } W)
    (hdone : ∀ K u W, w.heap.size ≤ K → ¬ u K → I xs.length u W → W.heap[K]? = some (.deferred (some [])) → Q .normal { a with defers := { target := .collected K, args := #[] } :: a.defers } W)
    (hstop : ∀ K c k u W, w.heap.size ≤ K → ¬ u K → k ≤ xs.length → Ix c k u W → W.heap[K]? = some (.deferred (some [])) → c.wp P Q { a with defers := { target := .collected K, args := #[] } :: a.defers } W) :
    (Code.rangeFunc g ps assign body).wp P Q a w :=
  wpIn_wide.1 (range_outerInU hg eg hit hD hb0 hps I Ix hI hIx hIb hIxb h0 hround hdone (fun K c k u W h1 h2 h3 h4 h5 => wpIn_wide.2 (hstop K c k u W h1 h2 h3 h4 h5)))
/-- Behind the assignment, where it made nothing: on to the body. -/
theorem to_bodyU {D u : Nat → Prop} {S l : Nat} {W : World} {F : Fence} {n : Nat} {c : Code} {I : Nat → (Nat → Prop) → World → Prop} {Ix : Code → Nat → (Nat → Prop) → World → Prop} {k : Nat} {a : Act} (hS : S ≤ l) (hul : ¬ u l) (hr : ∃ r, W.heap[l]? = some (.loop r))
    (h : ∀ W', Below S W W' → (∀ b, u b → W'.heap[b]? = W.heap[b]?) → Off l W W' → (∃ r, W'.heap[l]? = some (.loop r)) → c.wpIn F n P (rpostU D u S I Ix k W') a W') :
    KeepU D u S W W ∧ ∀ r, c.wpIn F n P (rpostU D u S I Ix k (W.putObj l (.loop r))) a (W.putObj l (.loop r)) := by
  obtain ⟨r1, h1⟩ := hr
  exact ⟨KeepU.refl _ _ _ _, fun r => h _ (below_putObj _ _ _ _ hS) (fun b hb => World.putObj_heap_other (fun e => hul (e ▸ hb))) ⟨by simp, fun j hj => World.putObj_heap_other hj⟩ ⟨_, World.putObj_heap_same (Array.getElem?_eq_some_iff.1 h1).1⟩⟩
/-- The blocks in D lie as they lay. -/
structure KeepD (D : Nat → Prop) (W W' : World) : Prop where
  size : W.heap.size ≤ W'.heap.size
  same : ∀ k, k < W.heap.size → D k → W'.heap[k]? = W.heap[k]?
theorem KeepD.refl (D : Nat → Prop) (W : World) : KeepD D W W := ⟨Nat.le_refl _, fun _ _ _ => rfl⟩
theorem KeepD.trans {D : Nat → Prop} {A B C : World} (h : KeepD D A B) (k : KeepD D B C) : KeepD D A C :=
  ⟨Nat.le_trans h.size k.size, fun i hi hd => (k.same i (Nat.lt_of_lt_of_le hi h.size) hd).trans (h.same i hi hd)⟩
theorem KeepD.of_ext {D : Nat → Prop} {A B : World} (h : Ext A B) : KeepD D A B := ⟨h.size, fun i hi _ => h.block i hi⟩
theorem KeepD.ext {D : Nat → Prop} {A B C : World} (h : KeepD D A B) (k : Ext B C) : KeepD D A C := h.trans (.of_ext k)
theorem KeepD.under {D : Nat → Prop} {A B C : World} (h : KeepD D A B) (k : Below A.heap.size B C) : KeepD D A C := ⟨Nat.le_trans h.size k.size, fun i hi hd => (k.block i hi).trans (h.same i hi hd)⟩
theorem KeepD.at {D : Nat → Prop} {A B : World} (h : KeepD D A B) (b o : Nat) (hb : b < A.heap.size) (hd : D b) : B.cell? ⟨b, o, none⟩ = A.cell? ⟨b, o, none⟩ := World.cell?_of_block (w := A) (h.same b hb hd)
theorem KeepD.cell {D : Nat → Prop} {A B : World} (h : KeepD D A B) {p : Addr} (hp : p.block < A.heap.size) (hd : D p.block) : B.cell? p = A.cell? p := World.cell?_of_block (w := A) (h.same p.block hp hd)
theorem KeepD.mono {D D' : Nat → Prop} {A B : World} (h : KeepD D A B) (k : ∀ b, D' b → D b) : KeepD D' A B := ⟨h.size, fun i hi hd => h.same i hi (k i hd)⟩
end
end Go.Proofs.YtopgbggighaknaaGreatDoor
/- append to a row of one's own: the new row is the old one's block, or a new block. -/
namespace Go.Proofs.YtopgbggighaknaaGreatDoor
open Go Go.RowKit
section
variable {P : Program}
theorem own_result {w : World} (base : Nat) (t ty e : TypeId) (i : TypeInfo) (z : Value) (bytes : Nat) (ht : P.underlying t = some (.slice e)) (hi : P.info? e = some i) (hz : i.zero = some z)
    (hsize : i.size = 1) (hby : i.bytes = bytes) (v : Value) (n : Nat) (xs : List Value) (hown : w.ownsRow base e 1 v n xs)
    (a : Addr) (c : Nat) (x : Value) (hx : w.cell? (a.add 0) = some x) (h1 : x.oneCell' = true) (h63 : n + 1 ≤ maxLen) (hbytes : (n + 1) * bytes ≤ 140737488355328)
    {v' : Value} {w' : World} (hr : (Builtin.append_ #[t, t] ty #[v, .slice (some a) 1 c]).run P w = .ok v' w') : ∀ b, v'.ownBlock = some b → v.ownBlock = some b ∨ w.heap.size ≤ b := by
  have hsmall : n + 1 ≤ 9223372036854775807 := by simp only [maxLen] at h63; omega
  have hnews : ∀ j u, ([x] : List Value)[j]? = some u → w.cell? (a.add j) = some u := by
    intro j u hj
    rcases j with _ | j
    · simp at hj; subst hj; exact hx
    · simp at hj
  have hl : ([x] : List Value).length = 1 * i.size := by rw [hsize]; rfl
  intro b hb
  rcases hown.2 with ⟨rfl, rfl⟩ | ⟨g, cap, cur, rfl, hbg, hg, hnc, hcm, hcs, htake⟩
  · have h2 := run_append_nil (P := P) w t ty e i z ht hi hz a 1 c [x] hl hnews (by omega) (by omega) (by rw [hby]; have hb := hbytes; simp only [Nat.zero_add] at hb; omega)
    rw [h2] at hr
    cases hr
    simp [Value.ownBlock] at hb
    exact .inr (by omega)
  · by_cases hroom : n + 1 ≤ cap
    · have hfit : n * i.size + ([x] : List Value).length ≤ cur.size := by rw [hsize, hcs]; simp; omega
      have h2 := run_append_room (P := P) w t ty e i ht hi g n cap cur hg a 1 c [x] hl hnews (by simpa using h1) hroom hfit
      rw [h2] at hr
      cases hr
      exact .inl hb
    · have hxs : xs.length = n * i.size := by rw [hsize]; exact hown.1
      have h2 := run_append_grow (P := P) w t ty e i z ht hi hz ⟨g, 0, none⟩ n cap xs hxs (hown.cells (g := g) rfl) a 1 c [x] hl hnews (by omega) (by omega) (growslice_fits (by omega) (by rw [hby]; exact hbytes))
      rw [h2] at hr
      cases hr
      simp [Value.ownBlock] at hb
      exact .inr (by omega)
theorem wpListIn_append_one {F : Fence} {n : Nat} (w : World) {ops : Array Oper} {rest : List Oper} {o : Oper} {a : Act} {Q : Exit → Act → World → Prop}
    (hg : o.guard = none) (s x : Operand) (t : TypeId) (hop : o.op = Op.call { callee := Callee.builtin Builtin.append, args := #[s, x], argTypes := #[t, t] })
    (base : Nat) (e : TypeId) (i : TypeInfo) (z : Value) (bytes : Nat) (h1 : P.underlying t = some (.slice e)) (h2 : P.info? e = some i) (h3 : i.zero = some z) (h4 : i.size = 1) (h5 : i.bytes = bytes) (h6 : z.cells.size = 1)
    (v : Value) (k : Nat) (xs : List Value) (hs : a.eval s = v) (hown : w.ownsRow base e 1 v k xs) (ad : Addr) (c : Nat) (y : Value) (hx : a.eval x = .slice (some ad) 1 c)
    (hc : w.cell? (ad.add 0) = some y) (h1c : y.oneCell' = true) (b1 : k + 1 ≤ maxLen) (b2 : (k + 1) * bytes ≤ 140737488355328) (b3 : base ≤ w.heap.size)
    (hK : ∀ v' w', w'.ownsRow base e 1 v' (k + 1) (xs ++ [y]) → w.grownBy w' v.ownBlock → (∀ b, v'.ownBlock = some b → v.ownBlock = some b ∨ w.heap.size ≤ b) → wpListIn F n P ops Q rest (a.put o.dst v') w') :
    wpListIn F n P ops Q (o :: rest) a w := by
  refine wpListIn_plain hg fun K hK' => ?_
  have hnews : ∀ j u, ([y] : List Value)[j]? = some u → w.cell? (ad.add j) = some u := by
    intro j u hj
    rcases j with _ | j
    · simp at hj; subst hj; exact hc
    · simp at hj
  obtain ⟨v', w', hrun, r1, r2, _⟩ := run_append_own (P := P) w base t o.type e i z 1 bytes h1 h2 h3 h4 h5 h6 (by decide) v k xs hown ad 1 c [y] rfl hnews (by simpa using h1c) b1 b2 b3
  have r3 := own_result (P := P) base t o.type e i z bytes h1 h2 h3 h4 h5 v k xs hown ad c y hc h1c b1 b2 hrun
  unfold Oper.wpIn
  refine ⟨?_, ?_⟩
  · simp [Oper.about, hop, resolve, Target.leads, Sem.run_pure]
  · rw [Oper.semAt_plain F _ _ (by rw [hop]; intro c hc'; cases hc')]
    simp [execOp, hop, resolve, invoke, builtin, hs, hx, hrun, Result.andThen]
    exact hK' _ _ (hK v' w' r1 r2 r3)
end
end Go.Proofs.YtopgbggighaknaaGreatDoor
