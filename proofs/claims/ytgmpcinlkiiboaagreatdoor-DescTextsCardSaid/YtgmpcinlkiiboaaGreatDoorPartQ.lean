/- desc: its reader's part. -/
import Derived.Test.YtgmpcinlkiiboaaGreatDoorNumD
import Derived.Test.YtgmpcinlkiiboaaGreatDoorVals
namespace Go.Proofs.YtgmpcinlkiiboaaGreatDoor
open Go.RowKit Go
theorem scan_le : ∀ (s : List UInt8) (N k : Nat), N ≤ 10249 → ∀ n r, scan N k s = some (n, r) → n ≤ 10249 ∧ r.length ≤ s.length
  | [], N, k, hN, n, r, h => by
    simp only [scan] at h
    split at h
    · cases h
    · cases h; exact ⟨hN, by simp⟩
  | c :: s, N, k, hN, n, r, h => by
    simp only [scan] at h
    split at h
    · rename_i hd
      split at h
      · cases h
      · obtain ⟨q, hq, _, hq2, _⟩ := dig_byte hd
        have := scan_le s _ _ (by omega) n r h
        exact ⟨this.1, by simp; omega⟩
    · split at h
      · cases h
      · cases h; exact ⟨hN, by simp⟩
theorem num_len (st : St) : (numberQ st).1 ≤ 10249 ∧ (numberQ st).2.1.length ≤ st.1.length := by
  unfold numberQ
  split
  · rename_i n r h; exact scan_le _ _ _ (by omega) _ _ h
  · exact ⟨by decide, by simp⟩
theorem must_len (g : List UInt8) (st : St) : (mustQ g st).1.length ≤ st.1.length := by
  unfold mustQ; split <;> simp
theorem loop_len : ∀ (f : Nat) (l : List Nat) (st : St), (loopQ f l st).2.1.length ≤ st.1.length ∧ (loopQ f l st).1.length ≤ l.length + f
  | 0, l, st => by simp [loopQ]
  | f + 1, l, st => by
    by_cases h : hasQ [32] st.1 = true
    · simp only [loopQ, h, if_true]
      have h1 := loop_len f (l ++ [(numberQ (st.1.drop 1, st.2)).1]) (numberQ (st.1.drop 1, st.2)).2
      have h2 := (num_len (st.1.drop 1, st.2)).2
      simp at h1 h2 ⊢
      omega
    · simp only [loopQ, h]
      simp
theorem part_len (st : St) : (partQ st).1 ≤ 10249 ∧ (partQ st).2.1.length ≤ 10249 ∧ (partQ st).2.2.1.length ≤ st.1.length := by
  unfold partQ
  have h1 := num_len st
  have h2 := must_len [58] (numberQ st).2
  have h3 := loop_len (numberQ st).1 [] (mustQ [58] (numberQ st).2)
  simp at h3 ⊢
  omega
theorem Chg.under {b S : Nat} {a w w' : World} (h : Chg b a w) (k : Below S w w') (hS : a.heap.size ≤ S) : Chg b a w' :=
  ⟨k.os.trans h.os, k.tape.trans h.tape, k.output.trans h.output, Nat.le_trans h.size k.size, fun i hi hne => (k.block i (by omega)).trans (h.block i hi hne)⟩
theorem Rdr.below {S : Nat} {w w' : World} {b : Nat} {st : St} (h : Rdr w b st) (k : Below S w w') (hb : b < S) : Rdr w' b st := by
  obtain ⟨ev, h1, h2⟩ := h
  exact ⟨ev, h1.below k hb, h2⟩
def encM (l : List Nat) : List Value := l.map fun x => Value.int .i64 (x : Nat)
theorem ilm_of_own {w w' : World} {base : Nat} {L : List Nat} {v : Value} (h : w.ownsRow base 3 1 v L.length (encM L)) (he : Ext w w') :
    ∃ A c, v = .slice A L.length c ∧ L.length ≤ c ∧ c ≤ maxLen ∧ (∀ ad, A = some ad → base ≤ ad.block) ∧ Il w' A L.length (L.map Int.ofNat) := by
  obtain ⟨A, c, rfl, hr⟩ := rd_of_own h
  have hc : L.length ≤ c ∧ c ≤ maxLen ∧ (∀ ad, A = some ad → base ≤ ad.block) := by
    rcases h.2 with ⟨e, h0⟩ | ⟨g, cap, cur, e, hgb, _, h1, h2, _⟩
    · simp only [Value.slice.injEq] at e; obtain ⟨e1, e2, e3⟩ := e; exact ⟨by omega, by unfold maxLen; omega, fun ad h => by rw [h] at e1; cases e1⟩
    · simp only [Value.slice.injEq] at e; obtain ⟨e1, e2, rfl⟩ := e; exact ⟨by omega, h2, fun ad h => (by rw [h] at e1; cases e1; exact hgb)⟩
  refine ⟨A, c, rfl, hc.1, hc.2.1, hc.2.2, by simp, fun hn => ?_⟩
  obtain ⟨ad, e, hb, hcl⟩ := (hr.ext he) hn
  refine ⟨ad, e, hb, fun j hj => ?_⟩
  rw [hcl j hj]
  simp [encM, hj]
theorem loop_stop {f : Nat} {l : List Nat} {st : St} (h : hasQ [32] st.1 = false) : loopQ f l st = (l, st) := by
  cases f with
  | zero => rfl
  | succ f => simp only [loopQ, h]; rfl
theorem loop_more {f : Nat} {l : List Nat} {st : St} (h : hasQ [32] st.1 = true) : loopQ (f + 1) l st = loopQ f (l ++ [(numberQ (cutQ [32] st.1, st.2)).1]) (numberQ (cutQ [32] st.1, st.2)).2 := by
  simp only [loopQ, h, if_true, cutQ]; rfl
/-- What part answers. -/
def PartR (w : World) (b : Nat) (st : St) (e : Ending) (w' : World) : Prop :=
  ∃ A c, e = .returned (.tuple #[.int .i64 ((partQ st).1 : Nat), .slice A (partQ st).2.1.length c]) ∧ (partQ st).2.1.length ≤ c ∧ c ≤ maxLen ∧ (∀ ad, A = some ad → w.heap.size ≤ ad.block) ∧
    Il w' A (partQ st).2.1.length ((partQ st).2.1.map Int.ofNat) ∧ Rdr w' b (partQ st).2.2 ∧ Chg b w w'
section
set_option maxHeartbeats 4000000 in
theorem dpart_is (b : Nat) (st : St) (hl : st.1.length ≤ 100000) (w0 w : World) (hG : G w0) (hE : Ext w0 w) (hb : w0.heap.size ≤ b) (h : Rdr w b st) :
    Calls Tryz.prog 35 #[.pointer (some ⟨b, 0, none⟩)] w (PartR w b st) := by
  have hlt := h.lt
  have hz := hE.size
  have C1 := Lib.hid (number_is b st hl w0 w hG hE hb h)
  obtain ⟨N, hN⟩ : ∃ N, (numberQ st).1 = N := ⟨_, rfl⟩
  obtain ⟨s1, hs1⟩ : ∃ s1, (numberQ st).2 = s1 := ⟨_, rfl⟩
  have hn1 := num_len st
  rw [hN, hs1] at hn1
  have C2 := Lib.hid (fun (w1 : World) (h1 : Rdr w1 b s1) (k1 : Chg b w w1) => must_is b s1 [58] (by omega) (by decide) w0 w1 hG (Chg.below hE k1 hE.size hb) hb h1)
  have C3 := Lib.hid (fun (w1 : World) (stk : St) (hk : stk.1.length ≤ 100000) (h1 : Rdr w1 b stk) => has_is b stk [32] hk (by decide) w1 h1)
  have C4 := Lib.hid (fun (w1 : World) (stk : St) (hk : stk.1.length ≤ 100000) (h1 : Rdr w1 b stk) (k1 : Chg b w w1) => number_is b stk hk w0 w1 hG (Chg.below hE k1 hE.size hb) hb h1)
  have HP := Lib.hid (show partQ st = (N, loopQ N [] (mustQ [58] s1)) by unfold partQ; rw [hN, hs1])
  have hm := must_len [58] s1
  obtain ⟨s2, hs2⟩ : ∃ s2, mustQ [58] s1 = s2 := ⟨_, rfl⟩
  rw [hN, hs1] at C1
  rw [hs2] at C2 HP hm
  obtain ⟨i0, hi, hzz⟩ := Option.map_eq_some_iff.1 infoZ
  simp only [Prod.mk.injEq] at hzz
  obtain ⟨hz0, hz1, hz2⟩ := hzz
  have HI := Lib.hid (And.intro hi (And.intro hz0 (And.intro hz1 hz2)))
  have hl2 : s2.1.length ≤ 100000 := by omega
  have hNl : N ≤ 10249 := hn1.1
  clear hi hz0 hz1 hz2 hG hE h hm hn1 hN hs1 hs2
  unfold tv at *
  go_enter Tryz.func35, Tryz.ntmps35
  go_wp2_with (first | (go_at_call 53; (with_reducible refine C1.out.mono ?_); rintro e w1 ⟨rfl, h1, k1⟩) | (go_at_call 36; (refine (C2.out _ h1 k1).mono ?_); rintro e w2 ⟨⟨v, rfl⟩, h2, k2⟩; have K2 := Lib.hid (And.intro h2 (k1.trans k2)); clear h1 h2 k1 k2))
  go_loopg [4] N (fun mm v wr => ∃ (l : List Nat) (stk : St), l.length + mm = N ∧ wr.ownsRow w.heap.size 3 1 v l.length (encM l) ∧ Rdr wr b stk ∧ Chg b w wr ∧ loopQ N [] s2 = loopQ mm l stk ∧ stk.1.length ≤ 100000)
  case atStart => exact ⟨[], s2, by simp, World.ownsRow_nil _ _ _ _, K2.out.1, K2.out.2, rfl, hl2⟩
  case round =>
    obtain ⟨l, stk, hk, hown, hr, hC, hq, hlk⟩ := hrel
    obtain ⟨A', c', rfl, hle, hc2, hfr, hil⟩ := ilm_of_own hown (Ext.refl _)
    by_cases hlt2 : l.length < N
    · have h5 : (l.length : Int) < N := by omega
      have D3 := Lib.hid (C3.out wr stk hlk hr)
      obtain ⟨mm, rfl⟩ : ∃ q, gk = q + 1 := ⟨gk - 1, by omega⟩
      cases hh : hasQ [32] stk.1
      · rw [hh] at D3
        have HQ := Lib.hid (And.intro (hq.trans (loop_stop hh)) (And.intro hown (And.intro hC (And.intro hle (And.intro hc2 (And.intro hfr hk))))))
        have HW := Lib.hid (show cutQ [32] stk.1 = stk.1 by rw [cutQ, hh]; rfl)
        clear hq hown hC hr hh hil hle hc2 hfr hk
        go_wp2_with (go_at_call 54; (refine D3.out.mono ?_); rintro e w3 ⟨rfl, h3, k3⟩; have K3 := Lib.hid (And.intro h3 k3); clear h3 k3)
        go_ret2
        obtain ⟨q1, q2, q3, q4, q5, q6, q7⟩ := HQ.out
        have hw3 := HW.out
        have hown3 := own_keep q2 (w' := w3) (fun g hg hgl hv => K3.out.2.block g hgl (by omega))
        obtain ⟨A2, c2, e2, r1, r2, r3, r4⟩ := ilm_of_own hown3 (Ext.refl _)
        cases e2
        refine ⟨A', c', ?_, ?_, r2, r3, ?_, ?_, q3.trans K3.out.2⟩
        · rw [HP.out, q1]; rfl
        · rw [HP.out, q1]; exact r1
        · rw [HP.out, q1]; exact r4
        · rw [HP.out, q1]; have := K3.out.1; rw [hw3] at this; exact this
      · rw [hh] at D3
        have hcl : (cutQ [32] stk.1).length ≤ stk.1.length := by unfold cutQ; split <;> simp
        have hnl := num_len (cutQ [32] stk.1, stk.2)
        have HQ := Lib.hid (And.intro (hq.trans (loop_more hh)) (And.intro hown (And.intro hC (And.intro hle (And.intro hc2 (And.intro hfr hk))))))
        have HL := Lib.hid (And.intro hcl (And.intro hnl hlk))
        have hlN : l.length ≤ 10249 := by omega
        clear hq hown hC hr hh hil hle hc2 hfr hk hcl hnl hlk
        go_wp2_with (first | (go_at_call 54; (refine D3.out.mono ?_); rintro e w3 ⟨rfl, h3, k3⟩; have K3 := Lib.hid (And.intro h3 k3); clear h3 k3) | (go_at_call 53; (refine (C4.out _ _ (Nat.le_trans HL.out.1 HL.out.2.2) K3.out.1 (HQ.out.2.2.1.trans K3.out.2)).mono ?_); rintro e w4 ⟨rfl, h4, k4⟩; have K4 := Lib.hid (And.intro h4 (K3.out.2.trans k4)); have hown4 := Lib.hid (own_keep HQ.out.2.1 (w' := w4) (fun g hg hgl hv => K4.out.2.block g hgl (by omega))); clear h4 k4) | (at_builtin; refine wpList_append_own _ rfl _ _ 22 rfl w.heap.size 3 i0 (.int .i64 0) 1 8 Tryz.underlying22 HI.out.1 HI.out.2.1 HI.out.2.2.1 HI.out.2.2.2 rfl (by decide) _ _ _ rfl (own_ext hown4.out (ext1 _ _)) ⟨w4.heap.size, 0, none⟩ 1 1 [.int .i64 ((numberQ (cutQ [32] stk.1, stk.2)).1 : Nat)] rfl rfl (cell_one_new _ _ _) (by simp [Value.oneCell']) (by unfold maxLen; omega) (by omega) (by have := HQ.out.2.2.1.size; have := K4.out.2.size; simp; omega) ?_; intro v' w5 hown5 hgrow _))
        obtain ⟨q1, q2, q3, q4, q5, q6, q7⟩ := HQ.out
        have hob := own_block hown4.out
        have hz4 := K4.out.2.size
        have hz3 := q3.size
        have hB5 : Below w.heap.size (w4.alloc (.cells #[.int .i64 ((numberQ (cutQ [32] stk.1, stk.2)).1 : Nat)] 3)) w5 := Below.grown (Below.refl _ _) hgrow (by simp; omega) hob
        go_roundg mm
        case measure => omega
        case rel =>
          refine ⟨l ++ [(numberQ (cutQ [32] stk.1, stk.2)).1], (numberQ (cutQ [32] stk.1, stk.2)).2, by simp; omega, ?_, (K4.out.1.ext (ext1 _ _)).below hB5 hlt, ((q3.trans K4.out.2).ext (ext1 _ _)).under hB5 (Nat.le_refl _), q1, Nat.le_trans HL.out.2.1.2 (Nat.le_trans HL.out.1 HL.out.2.2)⟩
          simpa [encM] using hown5
    · have h5 : ¬ (l.length : Int) < N := by omega
      obtain rfl : gk = 0 := by omega
      have HQ := Lib.hid (And.intro (show loopQ N [] s2 = (l, stk) from hq) (And.intro hown (And.intro hC (And.intro hle (And.intro hc2 (And.intro hfr (And.intro hil hr)))))))
      clear hq hown hC hr hil hle hc2 hfr hk
      go_wp2
      go_ret2
      obtain ⟨q1, q2, q3, r1, r2, r3, r4, r5⟩ := HQ.out
      refine ⟨A', c', ?_, ?_, r2, r3, ?_, ?_, q3⟩
      · rw [HP.out, q1]; rfl
      · rw [HP.out, q1]; exact r1
      · rw [HP.out, q1]; exact r4
      · rw [HP.out, q1]; exact r5
end
end Go.Proofs.YtgmpcinlkiiboaaGreatDoor
