/- Joined texts, in their order: PartQ, ReadQ, ParseD. -/
import Derived.Test.YtopgbggighaknaaDoorM07
import Derived.Test.YtopgbggighaknaaDoorM05
/- desc: its reader's part. -/
namespace Go.Proofs.YtopgbggighaknaaDoor
open Go.RowKit Go
theorem scan_le : ∀ (s : List UInt8) (N k : Nat), N ≤ 10249 → ∀ n r, scan N k s = some (n, r) → n ≤ 10249 ∧ r.length ≤ s.length
  | [], N, k, hN, n, r, h => by
    simp only [scan] at h
    split at h
    · cases h
    · cases h; exact ⟨hN, by simp⟩
  | c :: s, N, k, hN, n, r, h => by
    simp only [scan] at h
    split at h
    · rename_i hd
      split at h
      · cases h
      · obtain ⟨q, hq, _, hq2, _⟩ := dig_byte hd
        have := scan_le s _ _ (by omega) n r h
        exact ⟨this.1, by simp; omega⟩
    · split at h
      · cases h
      · cases h; exact ⟨hN, by simp⟩
theorem num_len (st : St) : (numberQ st).1 ≤ 10249 ∧ (numberQ st).2.1.length ≤ st.1.length := by
  unfold numberQ
  split
  · rename_i n r h; exact scan_le _ _ _ (by omega) _ _ h
  · exact ⟨by decide, by simp⟩
theorem must_len (g : List UInt8) (st : St) : (mustQ g st).1.length ≤ st.1.length := by
  unfold mustQ; split <;> simp
theorem loop_len : ∀ (f : Nat) (l : List Nat) (st : St), (loopQ f l st).2.1.length ≤ st.1.length ∧ (loopQ f l st).1.length ≤ l.length + f
  | 0, l, st => by simp [loopQ]
  | f + 1, l, st => by
    by_cases h : hasQ [32] st.1 = true
    · simp only [loopQ, h, if_true]
      have h1 := loop_len f (l ++ [(numberQ (st.1.drop 1, st.2)).1]) (numberQ (st.1.drop 1, st.2)).2
      have h2 := (num_len (st.1.drop 1, st.2)).2
      simp at h1 h2 ⊢
      omega
    · simp only [loopQ, h]
      simp
theorem part_len (st : St) : (partQ st).1 ≤ 10249 ∧ (partQ st).2.1.length ≤ 10249 ∧ (partQ st).2.2.1.length ≤ st.1.length := by
  unfold partQ
  have h1 := num_len st
  have h2 := must_len [58] (numberQ st).2
  have h3 := loop_len (numberQ st).1 [] (mustQ [58] (numberQ st).2)
  simp at h3 ⊢
  omega
theorem Chg.under {b S : Nat} {a w w' : World} (h : Chg b a w) (k : Below S w w') (hS : a.heap.size ≤ S) : Chg b a w' :=
  ⟨k.os.trans h.os, k.tape.trans h.tape, k.output.trans h.output, Nat.le_trans h.size k.size, fun i hi hne => (k.block i (by omega)).trans (h.block i hi hne)⟩
theorem Rdr.below {S : Nat} {w w' : World} {b : Nat} {st : St} (h : Rdr w b st) (k : Below S w w') (hb : b < S) : Rdr w' b st := by
  obtain ⟨ev, h1, h2⟩ := h
  exact ⟨ev, h1.below k hb, h2⟩
def encM (l : List Nat) : List Value := l.map fun x => Value.int .i64 (x : Nat)
theorem ilm_of_own {w w' : World} {base : Nat} {L : List Nat} {v : Value} (h : w.ownsRow base 3 1 v L.length (encM L)) (he : Ext w w') :
    ∃ A c, v = .slice A L.length c ∧ L.length ≤ c ∧ c ≤ maxLen ∧ (∀ ad, A = some ad → base ≤ ad.block) ∧ Il w' A L.length (L.map Int.ofNat) := by
  obtain ⟨A, c, rfl, hr⟩ := rd_of_own h
  have hc : L.length ≤ c ∧ c ≤ maxLen ∧ (∀ ad, A = some ad → base ≤ ad.block) := by
    rcases h.2 with ⟨e, h0⟩ | ⟨g, cap, cur, e, hgb, _, h1, h2, _⟩
    · simp only [Value.slice.injEq] at e; obtain ⟨e1, e2, e3⟩ := e; exact ⟨by omega, by unfold maxLen; omega, fun ad h => by rw [h] at e1; cases e1⟩
    · simp only [Value.slice.injEq] at e; obtain ⟨e1, e2, rfl⟩ := e; exact ⟨by omega, h2, fun ad h => (by rw [h] at e1; cases e1; exact hgb)⟩
  refine ⟨A, c, rfl, hc.1, hc.2.1, hc.2.2, by simp, fun hn => ?_⟩
  obtain ⟨ad, e, hb, hcl⟩ := (hr.ext he) hn
  refine ⟨ad, e, hb, fun j hj => ?_⟩
  rw [hcl j hj]
  simp [encM, hj]
theorem loop_stop {f : Nat} {l : List Nat} {st : St} (h : hasQ [32] st.1 = false) : loopQ f l st = (l, st) := by
  cases f with
  | zero => rfl
  | succ f => simp only [loopQ, h]; rfl
theorem loop_more {f : Nat} {l : List Nat} {st : St} (h : hasQ [32] st.1 = true) : loopQ (f + 1) l st = loopQ f (l ++ [(numberQ (cutQ [32] st.1, st.2)).1]) (numberQ (cutQ [32] st.1, st.2)).2 := by
  simp only [loopQ, h, if_true, cutQ]; rfl
/-- What part answers. -/
def PartR (w : World) (b : Nat) (st : St) (e : Ending) (w' : World) : Prop :=
  ∃ A c, e = .returned (.tuple #[.int .i64 ((partQ st).1 : Nat), .slice A (partQ st).2.1.length c]) ∧ (partQ st).2.1.length ≤ c ∧ c ≤ maxLen ∧ (∀ ad, A = some ad → w.heap.size ≤ ad.block) ∧
    Il w' A (partQ st).2.1.length ((partQ st).2.1.map Int.ofNat) ∧ Rdr w' b (partQ st).2.2 ∧ Chg b w w'
section
set_option maxHeartbeats 4000000 in
theorem dpart_is (b : Nat) (st : St) (hl : st.1.length ≤ 100000) (w0 w : World) (hG : G w0) (hE : Ext w0 w) (hb : w0.heap.size ≤ b) (h : Rdr w b st) :
    Calls Tryd.prog 60 #[.pointer (some ⟨b, 0, none⟩)] w (PartR w b st) := by
  have hlt := h.lt
  have hz := hE.size
  have C1 := Lib.hid (number_is b st hl w0 w hG hE hb h)
  obtain ⟨N, hN⟩ : ∃ N, (numberQ st).1 = N := ⟨_, rfl⟩
  obtain ⟨s1, hs1⟩ : ∃ s1, (numberQ st).2 = s1 := ⟨_, rfl⟩
  have hn1 := num_len st
  rw [hN, hs1] at hn1
  have C2 := Lib.hid (fun (w1 : World) (h1 : Rdr w1 b s1) (k1 : Chg b w w1) => must_is b s1 [58] (by omega) (by decide) w0 w1 hG (Chg.below hE k1 hE.size hb) hb h1)
  have C3 := Lib.hid (fun (w1 : World) (stk : St) (hk : stk.1.length ≤ 100000) (h1 : Rdr w1 b stk) => has_is b stk [32] hk (by decide) w1 h1)
  have C4 := Lib.hid (fun (w1 : World) (stk : St) (hk : stk.1.length ≤ 100000) (h1 : Rdr w1 b stk) (k1 : Chg b w w1) => number_is b stk hk w0 w1 hG (Chg.below hE k1 hE.size hb) hb h1)
  have HP := Lib.hid (show partQ st = (N, loopQ N [] (mustQ [58] s1)) by unfold partQ; rw [hN, hs1])
  have hm := must_len [58] s1
  obtain ⟨s2, hs2⟩ : ∃ s2, mustQ [58] s1 = s2 := ⟨_, rfl⟩
  rw [hN, hs1] at C1
  rw [hs2] at C2 HP hm
  obtain ⟨i0, hi, hzz⟩ := Option.map_eq_some_iff.1 infoZ
  simp only [Prod.mk.injEq] at hzz
  obtain ⟨hz0, hz1, hz2⟩ := hzz
  have HI := Lib.hid (And.intro hi (And.intro hz0 (And.intro hz1 hz2)))
  have hl2 : s2.1.length ≤ 100000 := by omega
  have hNl : N ≤ 10249 := hn1.1
  clear hi hz0 hz1 hz2 hG hE h hm hn1 hN hs1 hs2
  unfold tv at *
  go_enter Tryd.func60, Tryd.ntmps60
  go_wp2_with (first | (go_at_call 68; (with_reducible refine C1.out.mono ?_); rintro e w1 ⟨rfl, h1, k1⟩) | (go_at_call 61; (refine (C2.out _ h1 k1).mono ?_); rintro e w2 ⟨⟨v, rfl⟩, h2, k2⟩; have K2 := Lib.hid (And.intro h2 (k1.trans k2)); clear h1 h2 k1 k2))
  go_loopg [4] N (fun mm v wr => ∃ (l : List Nat) (stk : St), l.length + mm = N ∧ wr.ownsRow w.heap.size 3 1 v l.length (encM l) ∧ Rdr wr b stk ∧ Chg b w wr ∧ loopQ N [] s2 = loopQ mm l stk ∧ stk.1.length ≤ 100000)
  case atStart => exact ⟨[], s2, by simp, World.ownsRow_nil _ _ _ _, K2.out.1, K2.out.2, rfl, hl2⟩
  case round =>
    obtain ⟨l, stk, hk, hown, hr, hC, hq, hlk⟩ := hrel
    obtain ⟨A', c', rfl, hle, hc2, hfr, hil⟩ := ilm_of_own hown (Ext.refl _)
    by_cases hlt2 : l.length < N
    · have h5 : (l.length : Int) < N := by omega
      have D3 := Lib.hid (C3.out wr stk hlk hr)
      obtain ⟨mm, rfl⟩ : ∃ q, gk = q + 1 := ⟨gk - 1, by omega⟩
      cases hh : hasQ [32] stk.1
      · rw [hh] at D3
        have HQ := Lib.hid (And.intro (hq.trans (loop_stop hh)) (And.intro hown (And.intro hC (And.intro hle (And.intro hc2 (And.intro hfr hk))))))
        have HW := Lib.hid (show cutQ [32] stk.1 = stk.1 by rw [cutQ, hh]; rfl)
        clear hq hown hC hr hh hil hle hc2 hfr hk
        go_wp2_with (go_at_call 69; (refine D3.out.mono ?_); rintro e w3 ⟨rfl, h3, k3⟩; have K3 := Lib.hid (And.intro h3 k3); clear h3 k3)
        go_ret2
        obtain ⟨q1, q2, q3, q4, q5, q6, q7⟩ := HQ.out
        have hw3 := HW.out
        have hown3 := own_keep q2 (w' := w3) (fun g hg hgl hv => K3.out.2.block g hgl (by omega))
        obtain ⟨A2, c2, e2, r1, r2, r3, r4⟩ := ilm_of_own hown3 (Ext.refl _)
        cases e2
        refine ⟨A', c', ?_, ?_, r2, r3, ?_, ?_, q3.trans K3.out.2⟩
        · rw [HP.out, q1]; rfl
        · rw [HP.out, q1]; exact r1
        · rw [HP.out, q1]; exact r4
        · rw [HP.out, q1]; have := K3.out.1; rw [hw3] at this; exact this
      · rw [hh] at D3
        have hcl : (cutQ [32] stk.1).length ≤ stk.1.length := by unfold cutQ; split <;> simp
        have hnl := num_len (cutQ [32] stk.1, stk.2)
        have HQ := Lib.hid (And.intro (hq.trans (loop_more hh)) (And.intro hown (And.intro hC (And.intro hle (And.intro hc2 (And.intro hfr hk))))))
        have HL := Lib.hid (And.intro hcl (And.intro hnl hlk))
        have hlN : l.length ≤ 10249 := by omega
        clear hq hown hC hr hh hil hle hc2 hfr hk hcl hnl hlk
        go_wp2_with (first | (go_at_call 69; (refine D3.out.mono ?_); rintro e w3 ⟨rfl, h3, k3⟩; have K3 := Lib.hid (And.intro h3 k3); clear h3 k3) | (go_at_call 68; (refine (C4.out _ _ (Nat.le_trans HL.out.1 HL.out.2.2) K3.out.1 (HQ.out.2.2.1.trans K3.out.2)).mono ?_); rintro e w4 ⟨rfl, h4, k4⟩; have K4 := Lib.hid (And.intro h4 (K3.out.2.trans k4)); have hown4 := Lib.hid (own_keep HQ.out.2.1 (w' := w4) (fun g hg hgl hv => K4.out.2.block g hgl (by omega))); clear h4 k4) | (at_builtin; refine wpList_append_own _ rfl _ _ 25 rfl w.heap.size 3 i0 (.int .i64 0) 1 8 Tryd.underlying25 HI.out.1 HI.out.2.1 HI.out.2.2.1 HI.out.2.2.2 rfl (by decide) _ _ _ rfl (own_ext hown4.out (ext1 _ _)) ⟨w4.heap.size, 0, none⟩ 1 1 [.int .i64 ((numberQ (cutQ [32] stk.1, stk.2)).1 : Nat)] rfl rfl (cell_one_new _ _ _) (by simp [Value.oneCell']) (by unfold maxLen; omega) (by omega) (by have := HQ.out.2.2.1.size; have := K4.out.2.size; simp; omega) ?_; intro v' w5 hown5 hgrow _))
        obtain ⟨q1, q2, q3, q4, q5, q6, q7⟩ := HQ.out
        have hob := own_block hown4.out
        have hz4 := K4.out.2.size
        have hz3 := q3.size
        have hB5 : Below w.heap.size (w4.alloc (.cells #[.int .i64 ((numberQ (cutQ [32] stk.1, stk.2)).1 : Nat)] 3)) w5 := Below.grown (Below.refl _ _) hgrow (by simp; omega) hob
        go_roundg mm
        case measure => omega
        case rel =>
          refine ⟨l ++ [(numberQ (cutQ [32] stk.1, stk.2)).1], (numberQ (cutQ [32] stk.1, stk.2)).2, by simp; omega, ?_, (K4.out.1.ext (ext1 _ _)).below hB5 hlt, ((q3.trans K4.out.2).ext (ext1 _ _)).under hB5 (Nat.le_refl _), q1, Nat.le_trans HL.out.2.1.2 (Nat.le_trans HL.out.1 HL.out.2.2)⟩
          simpa [encM] using hown5
    · have h5 : ¬ (l.length : Int) < N := by omega
      obtain rfl : gk = 0 := by omega
      have HQ := Lib.hid (And.intro (show loopQ N [] s2 = (l, stk) from hq) (And.intro hown (And.intro hC (And.intro hle (And.intro hc2 (And.intro hfr (And.intro hil hr)))))))
      clear hq hown hC hr hil hle hc2 hfr hk
      go_wp2
      go_ret2
      obtain ⟨q1, q2, q3, r1, r2, r3, r4, r5⟩ := HQ.out
      refine ⟨A', c', ?_, ?_, r2, r3, ?_, ?_, q3⟩
      · rw [HP.out, q1]; rfl
      · rw [HP.out, q1]; exact r1
      · rw [HP.out, q1]; exact r4
      · rw [HP.out, q1]; exact r5
end
end Go.Proofs.YtopgbggighaknaaDoor
/- desc: read. -/
namespace Go.Proofs.YtopgbggighaknaaDoor
open Go.RowKit Go
theorem Rdr.other {w : World} {b : Nat} {st : St} (h : Rdr w b st) (p : Addr) (v : Value) (hne : b ≠ p.block) : Rdr (w.setCell p v) b st := by
  obtain ⟨ev, h1, h2⟩ := h
  exact ⟨ev, h1.other p v hne, h2⟩
structure Kp (w W : World) (d0 d1 d2 d3 : Value) (st : St) : Prop where
  res : Blk W w.heap.size #[.int .i64 0, .slice none 0 0, .int .i64 0, .slice none 0 0] 27
  dst : Blk W (w.heap.size + 1) #[d0, d1, d2, d3] 27
  rdr : Rdr W (w.heap.size + 1 + 1) st
  ext : Ext w W
theorem Kp.chg {w W W' : World} {d0 d1 d2 d3 : Value} {st st' : St} (k : Kp w W d0 d1 d2 d3 st) (c : Chg (w.heap.size + 1 + 1) W W') (r : Rdr W' (w.heap.size + 1 + 1) st') : Kp w W' d0 d1 d2 d3 st' :=
  ⟨k.res.chg c (by omega), k.dst.chg c (by omega), r, Chg.below k.ext c k.ext.size (by omega)⟩
theorem Kp.set01 {w W : World} {d0 d1 d2 d3 u v : Value} {st : St} (k : Kp w W d0 d1 d2 d3 st) : Kp w ((W.setCell ⟨w.heap.size + 1, 0, none⟩ u).setCell ⟨w.heap.size + 1, 1, none⟩ v) u v d2 d3 st := by
  have h := (k.dst.set 0 u).set 1 v
  simp only [List.setIfInBounds_toArray, List.set_cons_zero, List.set_cons_succ] at h
  exact ⟨(k.res.other _ _ (by show w.heap.size ≠ w.heap.size + 1; omega)).other _ _ (by show w.heap.size ≠ w.heap.size + 1; omega), h, (k.rdr.other _ _ (by show w.heap.size + 1 + 1 ≠ w.heap.size + 1; omega)).other _ _ (by show w.heap.size + 1 + 1 ≠ w.heap.size + 1; omega),
    (k.ext.setCell (p := ⟨w.heap.size + 1, 0, none⟩) (by show w.heap.size ≤ w.heap.size + 1; omega) _).setCell (p := ⟨w.heap.size + 1, 1, none⟩) (by show w.heap.size ≤ w.heap.size + 1; omega) _⟩
theorem Kp.set23 {w W : World} {d0 d1 d2 d3 u v : Value} {st : St} (k : Kp w W d0 d1 d2 d3 st) : Kp w ((W.setCell ⟨w.heap.size + 1, 2, none⟩ u).setCell ⟨w.heap.size + 1, 3, none⟩ v) d0 d1 u v st := by
  have h := (k.dst.set 2 u).set 3 v
  simp only [List.setIfInBounds_toArray, List.set_cons_zero, List.set_cons_succ] at h
  exact ⟨(k.res.other _ _ (by show w.heap.size ≠ w.heap.size + 1; omega)).other _ _ (by show w.heap.size ≠ w.heap.size + 1; omega), h, (k.rdr.other _ _ (by show w.heap.size + 1 + 1 ≠ w.heap.size + 1; omega)).other _ _ (by show w.heap.size + 1 + 1 ≠ w.heap.size + 1; omega),
    (k.ext.setCell (p := ⟨w.heap.size + 1, 2, none⟩) (by show w.heap.size ≤ w.heap.size + 1; omega) _).setCell (p := ⟨w.heap.size + 1, 3, none⟩) (by show w.heap.size ≤ w.heap.size + 1; omega) _⟩
theorem Il.chg {b : Nat} {w w' : World} {A : Option Addr} {n : Nat} {l : List Int} (h : Il w A n l) (k : Chg b w w') (hne : ∀ ad, A = some ad → ad.block ≠ b) : Il w' A n l :=
  ⟨h.1, h.2.keep k.size (fun ad e hb => k.block _ hb (hne ad e))⟩
theorem Il.other {w : World} {A : Option Addr} {n : Nat} {l : List Int} (h : Il w A n l) (p : Addr) (v : Value) (hne : ∀ ad, A = some ad → ad.block ≠ p.block) : Il (w.setCell p v) A n l :=
  ⟨h.1, h.2.keep (by simp) (fun ad e hb => Below.heap_setCell _ _ _ _ (hne ad e))⟩
theorem res_store4D {w w2 : World} {R : Nat} {x0 x1 x2 x3 u0 u1 u2 u3 : Value} {t : TypeId} (hB : Blk w2 R #[x0, x1, x2, x3] t) (hE : Ext w w2) (hR : w.heap.size ≤ R) :
    let W := (((w2.setCell ⟨R, 0, none⟩ u0).setCell ⟨R, 1, none⟩ u1).setCell ⟨R, 2, none⟩ u2).setCell ⟨R, 3, none⟩ u3
    W.cell? ⟨R, 0, none⟩ = some u0 ∧ W.cell? ⟨R, 1, none⟩ = some u1 ∧ W.cell? ⟨R, 2, none⟩ = some u2 ∧ W.cell? ⟨R, 3, none⟩ = some u3 ∧ Ext w W := by
  have h3 := (((hB.set 0 u0).set 1 u1).set 2 u2).set 3 u3
  simp only [List.setIfInBounds_toArray, List.set_cons_zero, List.set_cons_succ] at h3
  obtain ⟨⟨a0, a1, a2, a3⟩, _⟩ := cells4 h3
  exact ⟨a0, a1, a2, a3, (((hE.setCell (p := ⟨R, 0, none⟩) hR _).setCell (p := ⟨R, 1, none⟩) hR _).setCell (p := ⟨R, 2, none⟩) hR _).setCell (p := ⟨R, 3, none⟩) hR _⟩
/-- What read answers. -/
def ReadR (w : World) (s : List UInt8) (e : Ending) (w' : World) : Prop :=
  ∃ A c B c' ev, e = .returned (.tuple #[.agg #[.int .i64 ((readQ1 s).1 : Nat), .slice A (readQ1 s).2.1.length c, .int .i64 ((readQ2 s).1 : Nat), .slice B (readQ2 s).2.1.length c'], ev]) ∧
    (readQ1 s).2.1.length ≤ c ∧ (readQ2 s).2.1.length ≤ c' ∧ c ≤ maxLen ∧ c' ≤ maxLen ∧ Il w' A (readQ1 s).2.1.length ((readQ1 s).2.1.map Int.ofNat) ∧ Il w' B (readQ2 s).2.1.length ((readQ2 s).2.1.map Int.ofNat) ∧
    Code ev (codeI (!readF s) 40) ∧ Ext w w' ∧ (∀ ad, A = some ad → w.heap.size + 3 ≤ ad.block) ∧ (∀ ad, B = some ad → w.heap.size + 3 ≤ ad.block)
section
set_option maxHeartbeats 4000000 in
theorem read_is (s : List UInt8) (hl : s.length ≤ 100000) (w : World) (hG : G w) :
    Calls Tryd.prog 56 #[tv s] w (ReadR w s) := by
  have hsz := hG.sz
  have P := Lib.hid (fun (W : World) (st : St) (hst : st.1.length ≤ 100000) (hE : Ext w W) (h : Rdr W (w.heap.size + 1 + 1) st) => dpart_is (w.heap.size + 1 + 1) st hst w W hG hE (by omega) h)
  have M := Lib.hid (fun (W : World) (st : St) (hst : st.1.length ≤ 100000) (hE : Ext w W) (h : Rdr W (w.heap.size + 1 + 1) st) => must_is (w.heap.size + 1 + 1) st [59, 32] hst (by decide) w W hG hE (by omega) h)
  have F := Lib.hid (fun (W : World) (st : St) (hE : Ext w W) (h : Rdr W (w.heap.size + 1 + 1) st) => fail_is (w.heap.size + 1 + 1) st W (hG.ext hE) (by omega) h)
  have q1 : partQ (s, false) = readQ1 s := rfl
  have q2 : partQ (mustQ [59, 32] (readQ1 s).2.2) = readQ2 s := rfl
  have l1 := part_len (s, false)
  rw [q1] at l1
  have l2 := must_len [59, 32] (readQ1 s).2.2
  have l3 := part_len (mustQ [59, 32] (readQ1 s).2.2)
  rw [q2] at l3
  have hF : readF s = ((readQ2 s).2.2.2 || !(readQ2 s).2.2.1.isEmpty) := rfl
  have HQ := Lib.hid (And.intro q1 (And.intro q2 (And.intro l1 (And.intro l2 (And.intro l3 (And.intro hF (And.intro hG hl)))))))
  have K0 : Kp w (((w.alloc (.cells #[.int .i64 0, .slice none 0 0, .int .i64 0, .slice none 0 0] 27)).alloc (.cells #[.int .i64 0, .slice none 0 0, .int .i64 0, .slice none 0 0] 27)).alloc (.cells #[tv s, .nilIface] 129))
      (.int .i64 0) (.slice none 0 0) (.int .i64 0) (.slice none 0 0) (s, false) := by
    refine ⟨(Blk.new w _ _).ext (ext2 _ _ _), ?_, ⟨.nilIface, ?_, .inl ⟨rfl, rfl⟩⟩, ext3 _ _ _ _⟩
    · have := (Blk.new (w.alloc (.cells #[.int .i64 0, .slice none 0 0, .int .i64 0, .slice none 0 0] 27)) #[.int .i64 0, .slice none 0 0, .int .i64 0, .slice none 0 0] 27).ext (ext1 _ (.cells #[tv s, .nilIface] 129))
      rwa [World.size_alloc] at this
    · have := Blk.new ((w.alloc (.cells #[.int .i64 0, .slice none 0 0, .int .i64 0, .slice none 0 0] 27)).alloc (.cells #[.int .i64 0, .slice none 0 0, .int .i64 0, .slice none 0 0] 27)) #[tv s, .nilIface] 129
      rwa [World.size_alloc, World.size_alloc] at this
  have HK0 := Lib.hid K0
  clear K0 q1 q2 l1 l2 l3 hF hG
  obtain ⟨X3, hX3⟩ : ∃ X, ByteArray.mk (readQ2 s).2.2.1.toArray = X := ⟨_, rfl⟩
  have HX3 := Lib.hid hX3
  clear hX3
  go_enter Tryd.func56, Tryd.ntmps56
  have hXe : X3.toList = (readQ2 s).2.2.1 := by rw [← HX3.out, bx_list]
  cases hemp : X3.toList.isEmpty
  · have HC := Lib.hid (show readF s = true by rw [HQ.out.2.2.2.2.2.1, ← hXe, hemp]; simp)
    clear hXe
    go_wp2_with (first | (go_at_call 60; (with_reducible refine (P.out _ (s, false) HQ.out.2.2.2.2.2.2.2 HK0.out.ext HK0.out.rdr).mono ?_); rintro e w1 ⟨A, c, he, a1, a2, a3, a4, a5, a6⟩; rw [HQ.out.1] at he a1 a4 a5; subst he; have K1 := HK0.out.chg a6 a5; obtain ⟨⟨p0, p1, p2, p3⟩, f0, f1, f2, f3⟩ := cells4 K1.dst; have HK1 := Lib.hid (And.intro (K1.set01 (u := .int .i64 ((readQ1 s).1 : Nat)) (v := .slice A (readQ1 s).2.1.length c)) (And.intro a1 (And.intro a2 (And.intro a3 (And.intro a4 a6))))); clear a1 a2 a3 a4 a5 a6 K1) | (go_at_call 61; (with_reducible refine (M.out _ (readQ1 s).2.2 (Nat.le_trans HQ.out.2.2.1.2.2 HQ.out.2.2.2.2.2.2.2) HK1.out.1.ext HK1.out.1.rdr).mono ?_); rintro e w2 ⟨⟨v, rfl⟩, h2, k2⟩; have HK2 := Lib.hid (And.intro (HK1.out.1.chg k2 h2) k2); clear h2 k2) | (go_at_call 60; (with_reducible refine (P.out _ (mustQ [59, 32] (readQ1 s).2.2) (Nat.le_trans HQ.out.2.2.2.1 (Nat.le_trans HQ.out.2.2.1.2.2 HQ.out.2.2.2.2.2.2.2)) HK2.out.1.ext HK2.out.1.rdr).mono ?_); rintro e w3 ⟨B, c', he, a1, a2, a3, a4, a5, a6⟩; rw [HQ.out.2.1] at he a1 a4 a5; subst he; have K3 := HK2.out.1.chg a6 a5; obtain ⟨ev, hB, hv⟩ := a5; have r0 : w3.cell? ⟨w.heap.size + 1 + 1, 0, none⟩ = some (.string X3) := (by rw [← HX3.out, hB.cell]; rfl); have r1 : w3.cell? ⟨w.heap.size + 1 + 1, 1, none⟩ = some ev := (by rw [hB.cell]; rfl); obtain ⟨⟨p0, p1, p2, p3⟩, f0, f1, f2, f3⟩ := cells4 K3.dst; have HK3 := Lib.hid (And.intro (K3.set23 (u := .int .i64 ((readQ2 s).1 : Nat)) (v := .slice B (readQ2 s).2.1.length c')) (And.intro a1 (And.intro a2 (And.intro a3 (And.intro a4 (And.intro a6 hv)))))); clear a1 a2 a3 a4 a6 hB hv K3))
    go_wp2_with (go_at_call 62; (with_reducible refine (F.out _ _ HK3.out.1.ext HK3.out.1.rdr).mono ?_); rintro e w4 ⟨⟨v4, rfl⟩, h4, k4⟩; have HK4 := Lib.hid (And.intro (HK3.out.1.chg k4 h4) k4); clear h4 k4 r0 r1)
    clear p0 p1 p2 p3 f0 f1 f2 f3
    have nA : ∀ ad, A = some ad → w.heap.size + 3 ≤ ad.block := fun ad e => by have := HK1.out.2.2.2.1 ad e; simpa using this
    have nB : ∀ ad, B = some ad → w.heap.size + 3 ≤ ad.block := fun ad e => by have := HK3.out.2.2.2.1 ad e; have h2 := HK2.out.2.size; have h1 := HK1.out.2.2.2.2.2.size; simp at h1 h2; omega
    have iA := (((((HK1.out.2.2.2.2.1.other ⟨w.heap.size + 1, 0, none⟩ (.int .i64 ((readQ1 s).1 : Nat)) (fun ad e => by have := nA ad e; show ad.block ≠ w.heap.size + 1; omega)).other ⟨w.heap.size + 1, 1, none⟩ (.slice A (readQ1 s).2.1.length c) (fun ad e => by have := nA ad e; show ad.block ≠ w.heap.size + 1; omega)).chg HK2.out.2 (fun ad e => by have := nA ad e; omega)).chg HK3.out.2.2.2.2.2.1 (fun ad e => by have := nA ad e; omega)).other ⟨w.heap.size + 1, 2, none⟩ (.int .i64 ((readQ2 s).1 : Nat)) (fun ad e => by have := nA ad e; show ad.block ≠ w.heap.size + 1; omega)).other ⟨w.heap.size + 1, 3, none⟩ (.slice B (readQ2 s).2.1.length c') (fun ad e => by have := nA ad e; show ad.block ≠ w.heap.size + 1; omega)
    have iB := (HK3.out.2.2.2.2.1.other ⟨w.heap.size + 1, 2, none⟩ (.int .i64 ((readQ2 s).1 : Nat)) (fun ad e => by have := nB ad e; show ad.block ≠ w.heap.size + 1; omega)).other ⟨w.heap.size + 1, 3, none⟩ (.slice B (readQ2 s).2.1.length c') (fun ad e => by have := nB ad e; show ad.block ≠ w.heap.size + 1; omega)
    have KF := HK4.out.1
    replace iA := iA.chg HK4.out.2 (fun ad e => by have := nA ad e; omega)
    replace iB := iB.chg HK4.out.2 (fun ad e => by have := nB ad e; omega)
    clear HK4
    generalize hWf : w4 = Wf at *
    clear hWf
    obtain ⟨evr, hBr, hvr⟩ := KF.rdr
    have x1 : Wf.cell? ⟨w.heap.size + 1 + 1, 1, none⟩ = some evr := by rw [hBr.cell]; rfl
    obtain ⟨⟨p0, p1, p2, p3⟩, f0, f1, f2, f3⟩ := cells4 KF.dst
    obtain ⟨⟨g0, g1, g2, g3⟩, h0, h1, h2, h3⟩ := cells4 KF.res
    have HF := Lib.hid (And.intro KF.res (And.intro KF.ext (And.intro hvr (And.intro iA iB))))
    clear KF hBr hvr iA iB
    go_region
    go_wp2
    obtain ⟨s0, s1, s2, s3, hE⟩ := res_store4D (u0 := .int .i64 ((readQ1 s).1 : Nat)) (u1 := .slice A (readQ1 s).2.1.length c) (u2 := .int .i64 ((readQ2 s).1 : Nat)) (u3 := .slice B (readQ2 s).2.1.length c') HF.out.1 HF.out.2.1 (Nat.le_refl _)
    refine bodyPost_ret (v := .tuple #[.agg #[.int .i64 ((readQ1 s).1 : Nat), .slice A (readQ1 s).2.1.length c, .int .i64 ((readQ2 s).1 : Nat), .slice B (readQ2 s).2.1.length c'], evr]) (by simp [results, Tryd.results56, go_sem, s0, s1, s2, s3]) rfl ?_
    refine ⟨A, c, B, c', evr, rfl, HK1.out.2.1, HK3.out.2.1, HK1.out.2.2.1, HK3.out.2.2.1, ?_, ?_, ?_, hE.drew, nA, nB⟩
    · have i := HF.out.2.2.2.1
      have n := nA
      exact Il.ext ((((i.other _ _ (fun ad e => by have := n ad e; show ad.block ≠ w.heap.size; omega)).other _ _ (fun ad e => by have := n ad e; show ad.block ≠ w.heap.size; omega)).other _ _ (fun ad e => by have := n ad e; show ad.block ≠ w.heap.size; omega)).other _ _ (fun ad e => by have := n ad e; show ad.block ≠ w.heap.size; omega)) (Ext.refl _).drew
    · have i := HF.out.2.2.2.2
      have n := nB
      exact Il.ext ((((i.other _ _ (fun ad e => by have := n ad e; show ad.block ≠ w.heap.size; omega)).other _ _ (fun ad e => by have := n ad e; show ad.block ≠ w.heap.size; omega)).other _ _ (fun ad e => by have := n ad e; show ad.block ≠ w.heap.size; omega)).other _ _ (fun ad e => by have := n ad e; show ad.block ≠ w.heap.size; omega)) (Ext.refl _).drew
    · rw [HC.out]; exact HF.out.2.2.1
  · have HC := Lib.hid (show readF s = (readQ2 s).2.2.2 by rw [HQ.out.2.2.2.2.2.1, ← hXe, hemp]; simp)
    clear hXe
    go_wp2_with (first | (go_at_call 60; (with_reducible refine (P.out _ (s, false) HQ.out.2.2.2.2.2.2.2 HK0.out.ext HK0.out.rdr).mono ?_); rintro e w1 ⟨A, c, he, a1, a2, a3, a4, a5, a6⟩; rw [HQ.out.1] at he a1 a4 a5; subst he; have K1 := HK0.out.chg a6 a5; obtain ⟨⟨p0, p1, p2, p3⟩, f0, f1, f2, f3⟩ := cells4 K1.dst; have HK1 := Lib.hid (And.intro (K1.set01 (u := .int .i64 ((readQ1 s).1 : Nat)) (v := .slice A (readQ1 s).2.1.length c)) (And.intro a1 (And.intro a2 (And.intro a3 (And.intro a4 a6))))); clear a1 a2 a3 a4 a5 a6 K1) | (go_at_call 61; (with_reducible refine (M.out _ (readQ1 s).2.2 (Nat.le_trans HQ.out.2.2.1.2.2 HQ.out.2.2.2.2.2.2.2) HK1.out.1.ext HK1.out.1.rdr).mono ?_); rintro e w2 ⟨⟨v, rfl⟩, h2, k2⟩; have HK2 := Lib.hid (And.intro (HK1.out.1.chg k2 h2) k2); clear h2 k2) | (go_at_call 60; (with_reducible refine (P.out _ (mustQ [59, 32] (readQ1 s).2.2) (Nat.le_trans HQ.out.2.2.2.1 (Nat.le_trans HQ.out.2.2.1.2.2 HQ.out.2.2.2.2.2.2.2)) HK2.out.1.ext HK2.out.1.rdr).mono ?_); rintro e w3 ⟨B, c', he, a1, a2, a3, a4, a5, a6⟩; rw [HQ.out.2.1] at he a1 a4 a5; subst he; have K3 := HK2.out.1.chg a6 a5; obtain ⟨ev, hB, hv⟩ := a5; have r0 : w3.cell? ⟨w.heap.size + 1 + 1, 0, none⟩ = some (.string X3) := (by rw [← HX3.out, hB.cell]; rfl); have r1 : w3.cell? ⟨w.heap.size + 1 + 1, 1, none⟩ = some ev := (by rw [hB.cell]; rfl); obtain ⟨⟨p0, p1, p2, p3⟩, f0, f1, f2, f3⟩ := cells4 K3.dst; have HK3 := Lib.hid (And.intro (K3.set23 (u := .int .i64 ((readQ2 s).1 : Nat)) (v := .slice B (readQ2 s).2.1.length c')) (And.intro a1 (And.intro a2 (And.intro a3 (And.intro a4 (And.intro a6 hv)))))); clear a1 a2 a3 a4 a6 hB hv K3))
    clear p0 p1 p2 p3 f0 f1 f2 f3 r0 r1
    have nA : ∀ ad, A = some ad → w.heap.size + 3 ≤ ad.block := fun ad e => by have := HK1.out.2.2.2.1 ad e; simpa using this
    have nB : ∀ ad, B = some ad → w.heap.size + 3 ≤ ad.block := fun ad e => by have := HK3.out.2.2.2.1 ad e; have h2 := HK2.out.2.size; have h1 := HK1.out.2.2.2.2.2.size; simp at h1 h2; omega
    have iA := (((((HK1.out.2.2.2.2.1.other ⟨w.heap.size + 1, 0, none⟩ (.int .i64 ((readQ1 s).1 : Nat)) (fun ad e => by have := nA ad e; show ad.block ≠ w.heap.size + 1; omega)).other ⟨w.heap.size + 1, 1, none⟩ (.slice A (readQ1 s).2.1.length c) (fun ad e => by have := nA ad e; show ad.block ≠ w.heap.size + 1; omega)).chg HK2.out.2 (fun ad e => by have := nA ad e; omega)).chg HK3.out.2.2.2.2.2.1 (fun ad e => by have := nA ad e; omega)).other ⟨w.heap.size + 1, 2, none⟩ (.int .i64 ((readQ2 s).1 : Nat)) (fun ad e => by have := nA ad e; show ad.block ≠ w.heap.size + 1; omega)).other ⟨w.heap.size + 1, 3, none⟩ (.slice B (readQ2 s).2.1.length c') (fun ad e => by have := nA ad e; show ad.block ≠ w.heap.size + 1; omega)
    have iB := (HK3.out.2.2.2.2.1.other ⟨w.heap.size + 1, 2, none⟩ (.int .i64 ((readQ2 s).1 : Nat)) (fun ad e => by have := nB ad e; show ad.block ≠ w.heap.size + 1; omega)).other ⟨w.heap.size + 1, 3, none⟩ (.slice B (readQ2 s).2.1.length c') (fun ad e => by have := nB ad e; show ad.block ≠ w.heap.size + 1; omega)
    have KF := HK3.out.1
    generalize (w3.setCell ⟨w.heap.size + 1, 2, none⟩ (.int .i64 ((readQ2 s).1 : Nat))).setCell ⟨w.heap.size + 1, 3, none⟩ (.slice B (readQ2 s).2.1.length c') = Wf at *
    obtain ⟨evr, hBr, hvr⟩ := KF.rdr
    have x1 : Wf.cell? ⟨w.heap.size + 1 + 1, 1, none⟩ = some evr := by rw [hBr.cell]; rfl
    obtain ⟨⟨p0, p1, p2, p3⟩, f0, f1, f2, f3⟩ := cells4 KF.dst
    obtain ⟨⟨g0, g1, g2, g3⟩, h0, h1, h2, h3⟩ := cells4 KF.res
    have HF := Lib.hid (And.intro KF.res (And.intro KF.ext (And.intro hvr (And.intro iA iB))))
    clear KF hBr hvr iA iB
    go_region
    go_wp2
    obtain ⟨s0, s1, s2, s3, hE⟩ := res_store4D (u0 := .int .i64 ((readQ1 s).1 : Nat)) (u1 := .slice A (readQ1 s).2.1.length c) (u2 := .int .i64 ((readQ2 s).1 : Nat)) (u3 := .slice B (readQ2 s).2.1.length c') HF.out.1 HF.out.2.1 (Nat.le_refl _)
    refine bodyPost_ret (v := .tuple #[.agg #[.int .i64 ((readQ1 s).1 : Nat), .slice A (readQ1 s).2.1.length c, .int .i64 ((readQ2 s).1 : Nat), .slice B (readQ2 s).2.1.length c'], evr]) (by simp [results, Tryd.results56, go_sem, s0, s1, s2, s3]) rfl ?_
    refine ⟨A, c, B, c', evr, rfl, HK1.out.2.1, HK3.out.2.1, HK1.out.2.2.1, HK3.out.2.2.1, ?_, ?_, ?_, hE.drew, nA, nB⟩
    · have i := HF.out.2.2.2.1
      have n := nA
      exact Il.ext ((((i.other _ _ (fun ad e => by have := n ad e; show ad.block ≠ w.heap.size; omega)).other _ _ (fun ad e => by have := n ad e; show ad.block ≠ w.heap.size; omega)).other _ _ (fun ad e => by have := n ad e; show ad.block ≠ w.heap.size; omega)).other _ _ (fun ad e => by have := n ad e; show ad.block ≠ w.heap.size; omega)) (Ext.refl _).drew
    · have i := HF.out.2.2.2.2
      have n := nB
      exact Il.ext ((((i.other _ _ (fun ad e => by have := n ad e; show ad.block ≠ w.heap.size; omega)).other _ _ (fun ad e => by have := n ad e; show ad.block ≠ w.heap.size; omega)).other _ _ (fun ad e => by have := n ad e; show ad.block ≠ w.heap.size; omega)).other _ _ (fun ad e => by have := n ad e; show ad.block ≠ w.heap.size; omega)) (Ext.refl _).drew
    · rw [HC.out]; exact HF.out.2.2.1
end
end Go.Proofs.YtopgbggighaknaaDoor
/- desc: Parse. -/
namespace Go.Proofs.YtopgbggighaknaaDoor
open Go.RowKit Go
/-- What Parse answers. -/
def DParseR (w : World) (s : List UInt8) (e : Ending) (w' : World) : Prop :=
  match parseP s with
  | none => e = .returned (.tuple #[.agg #[.int .i64 0, .slice none 0 0, .int .i64 0, .slice none 0 0], .int .i64 40]) ∧ Ext w w'
  | some d => ∃ A c B c', e = .returned (.tuple #[.agg #[.int .i64 d.size, .slice A d.ptrs.length c, .int .i64 d.elem, .slice B d.eptrs.length c'], .int .i64 0]) ∧
      d.ptrs.length ≤ c ∧ d.eptrs.length ≤ c' ∧ c ≤ maxLen ∧ c' ≤ maxLen ∧ Il w' A d.ptrs.length d.ptrs ∧ Il w' B d.eptrs.length d.eptrs ∧ (∀ ad, A = some ad → w.heap.size ≤ ad.block) ∧ (∀ ad, B = some ad → w.heap.size ≤ ad.block) ∧ Ext w w'
theorem told2_new (j k : Int) (u v : Value) (w : World) (hG : G w) (hu : Code u j) (hv : Code v k) :
    Calls Tryd.prog 31 #[.slice (some ⟨w.heap.size, 0, none⟩) 2 2] (w.alloc (.cells #[u, v] 45)) fun e w' => e = .returned (.int .i64 (first2 j k)) ∧ Ext (w.alloc (.cells #[u, v] 45)) w' :=
  told2_is j k u v _ 45 _ (hG.ext (ext1 _ _)) (Blk.new w _ _) hu hv
theorem some_read {s : List UInt8} {d : DescR} (h : parseP s = some d) : readF s = false ∧ readD s = d ∧ rightB (readD s) = true := by
  obtain ⟨h1, rfl⟩ := parse_some h
  have hR := right_of h1
  have hl := lens_of hR
  have a1 := hR.s0
  have a2 := hR.e0
  obtain ⟨h2, h3⟩ := read_of h1 (by omega) (by omega)
  exact ⟨h2, h3, by rw [h3]; exact h1⟩
theorem none_read {s : List UInt8} (h : parseP s = none) : readF s = true ∨ rightB (readD s) = false := by
  cases hF : readF s
  · right
    cases hR : rightB (readD s)
    · rfl
    · exact absurd (text_of hF) ((parse_none s).1 h _ hR)
  · exact .inl rfl
section
set_option maxHeartbeats 4000000 in
theorem dparse_is (s : List UInt8) (hl : s.length ≤ 100000) (w : World) (hG : G w) :
    Calls Tryd.prog 47 #[tv s] w (DParseR w s) := by
  have E1 := ext1 w (.cells #[.int .i64 0, .slice none 0 0, .int .i64 0, .slice none 0 0] 27)
  have R := Lib.hid (read_is s hl _ (hG.ext E1))
  have l1 := part_len (s, false)
  have l3 := part_len (mustQ [59, 32] (readQ1 s).2.2)
  have HL := Lib.hid (show (readQ1 s).2.1.length ≤ 1000000 ∧ (readQ2 s).2.1.length ≤ 1000000 from ⟨Nat.le_trans l1.2.1 (by decide), Nat.le_trans l3.2.1 (by decide)⟩)
  have HG := Lib.hid (fun W (hW : Ext w W) => hG.ext hW)
  have HE := Lib.hid E1
  clear E1 hG l1 l3
  unfold DParseR
  cases hp : parseP s with
  | none =>
    have HN := Lib.hid (none_read hp)
    cases hF : readF s
    · cases hR : rightB (readD s)
      · have ND := Lib.hid (fun (W : World) (hW : Ext w W) (A B : Option Addr) (c c' : Nat) (hA : Il W A _ _) (hB : Il W B _ _) => noDesc_is A B (readQ1 s).2.1.length (readQ2 s).2.1.length c c' ((readQ1 s).1 : Nat) ((readQ2 s).1 : Nat) ((readQ1 s).2.1.map Int.ofNat) ((readQ2 s).2.1.map Int.ofNat) HL.out.1 HL.out.2 W (HG.out W hW) hA hB)
        rw [show rightB ⟨((readQ1 s).1 : Nat), (readQ1 s).2.1.map Int.ofNat, ((readQ2 s).1 : Nat), (readQ2 s).2.1.map Int.ofNat⟩ = false from hR] at ND
        have HD := Lib.hid hF
        clear hp hF hR
        go_enter Tryd.func47, Tryd.ntmps47
        go_wp2_with (first | (go_at_call 56; (with_reducible refine R.out.mono ?_); rintro e w1 ⟨A, c, B, c', ev, rfl, a1, a2, a3, a4, a5, a6, a7, a8, a9, a10⟩; rw [HD.out] at a7; have H7 := Lib.hid (show Code ev 0 from a7); obtain rfl := code_nil H7.out rfl; have K1 := Lib.hid (And.intro a1 (And.intro a2 (And.intro a3 (And.intro a4 (And.intro a5 (And.intro a6 a8)))))); clear a1 a2 a3 a4 a5 a6 a7 a8 a9 a10) | (go_at_call 32; (with_reducible refine (ND.out _ (Ext.trans (Ext.trans HE.out K1.out.2.2.2.2.2.2) (ext1 _ _)) A B c c' (K1.out.2.2.2.2.1.ext (ext1 _ _)) (K1.out.2.2.2.2.2.1.ext (ext1 _ _))).mono ?_); rintro e w2 ⟨⟨v, rfl, hv⟩, k2⟩; have H8 := Lib.hid (show Code v 40 from hv); obtain ⟨te8, pe8, rfl⟩ := code_err H8.out (by decide); have K2 := Lib.hid k2; clear hv k2) | (go_at_call 31; (with_reducible refine (told2_new 0 40 _ _ w2 (HG.out _ (Ext.trans (Ext.trans HE.out K1.out.2.2.2.2.2.2) (Ext.trans (ext1 _ _) K2.out))) H7.out H8.out).mono ?_); rintro e w3 ⟨rfl, k3⟩; have K3 := Lib.hid (Ext.trans (Ext.trans (ext1 _ _) K2.out) (Ext.trans (ext1 _ _) k3)); clear k3; obtain ⟨⟨r0, r1, r2, r3⟩, g0, g1, g2, g3⟩ := cells4 (at_new (Ext.trans K1.out.2.2.2.2.2.2 K3.out))))
        obtain ⟨s0, s1, s2, s3, hE⟩ := res_store4D (u0 := .int .i64 0) (u1 := .slice none 0 0) (u2 := .int .i64 0) (u3 := .slice none 0 0) (at_new (Ext.trans K1.out.2.2.2.2.2.2 K3.out)) (Ext.trans (Ext.trans HE.out K1.out.2.2.2.2.2.2) K3.out) (Nat.le_refl _)
        exact bodyPost_ret (v := .tuple #[.agg #[.int .i64 0, .slice none 0 0, .int .i64 0, .slice none 0 0], .int .i64 40]) (by simp [results, Tryd.results47, go_sem, s0, s1, s2, s3, first2]) rfl ⟨rfl, hE⟩
      · exact absurd HN.out (by rw [hF, hR]; simp)
    · cases hR : rightB (readD s)
      · have ND := Lib.hid (fun (W : World) (hW : Ext w W) (A B : Option Addr) (c c' : Nat) (hA : Il W A _ _) (hB : Il W B _ _) => noDesc_is A B (readQ1 s).2.1.length (readQ2 s).2.1.length c c' ((readQ1 s).1 : Nat) ((readQ2 s).1 : Nat) ((readQ1 s).2.1.map Int.ofNat) ((readQ2 s).2.1.map Int.ofNat) HL.out.1 HL.out.2 W (HG.out W hW) hA hB)
        rw [show rightB ⟨((readQ1 s).1 : Nat), (readQ1 s).2.1.map Int.ofNat, ((readQ2 s).1 : Nat), (readQ2 s).2.1.map Int.ofNat⟩ = false from hR] at ND
        have HD := Lib.hid hF
        clear hp hF hR
        go_enter Tryd.func47, Tryd.ntmps47
        go_wp2_with (first | (go_at_call 56; (with_reducible refine R.out.mono ?_); rintro e w1 ⟨A, c, B, c', ev, rfl, a1, a2, a3, a4, a5, a6, a7, a8, a9, a10⟩; rw [HD.out] at a7; have H7 := Lib.hid (show Code ev 40 from a7); obtain ⟨te7, pe7, rfl⟩ := code_err H7.out (by decide); have K1 := Lib.hid (And.intro a1 (And.intro a2 (And.intro a3 (And.intro a4 (And.intro a5 (And.intro a6 a8)))))); clear a1 a2 a3 a4 a5 a6 a7 a8 a9 a10) | (go_at_call 32; (with_reducible refine (ND.out _ (Ext.trans (Ext.trans HE.out K1.out.2.2.2.2.2.2) (ext1 _ _)) A B c c' (K1.out.2.2.2.2.1.ext (ext1 _ _)) (K1.out.2.2.2.2.2.1.ext (ext1 _ _))).mono ?_); rintro e w2 ⟨⟨v, rfl, hv⟩, k2⟩; have H8 := Lib.hid (show Code v 40 from hv); obtain ⟨te8, pe8, rfl⟩ := code_err H8.out (by decide); have K2 := Lib.hid k2; clear hv k2) | (go_at_call 31; (with_reducible refine (told2_new 40 40 _ _ w2 (HG.out _ (Ext.trans (Ext.trans HE.out K1.out.2.2.2.2.2.2) (Ext.trans (ext1 _ _) K2.out))) H7.out H8.out).mono ?_); rintro e w3 ⟨rfl, k3⟩; have K3 := Lib.hid (Ext.trans (Ext.trans (ext1 _ _) K2.out) (Ext.trans (ext1 _ _) k3)); clear k3; obtain ⟨⟨r0, r1, r2, r3⟩, g0, g1, g2, g3⟩ := cells4 (at_new (Ext.trans K1.out.2.2.2.2.2.2 K3.out))))
        obtain ⟨s0, s1, s2, s3, hE⟩ := res_store4D (u0 := .int .i64 0) (u1 := .slice none 0 0) (u2 := .int .i64 0) (u3 := .slice none 0 0) (at_new (Ext.trans K1.out.2.2.2.2.2.2 K3.out)) (Ext.trans (Ext.trans HE.out K1.out.2.2.2.2.2.2) K3.out) (Nat.le_refl _)
        exact bodyPost_ret (v := .tuple #[.agg #[.int .i64 0, .slice none 0 0, .int .i64 0, .slice none 0 0], .int .i64 40]) (by simp [results, Tryd.results47, go_sem, s0, s1, s2, s3, first2]) rfl ⟨rfl, hE⟩
      · have ND := Lib.hid (fun (W : World) (hW : Ext w W) (A B : Option Addr) (c c' : Nat) (hA : Il W A _ _) (hB : Il W B _ _) => noDesc_is A B (readQ1 s).2.1.length (readQ2 s).2.1.length c c' ((readQ1 s).1 : Nat) ((readQ2 s).1 : Nat) ((readQ1 s).2.1.map Int.ofNat) ((readQ2 s).2.1.map Int.ofNat) HL.out.1 HL.out.2 W (HG.out W hW) hA hB)
        rw [show rightB ⟨((readQ1 s).1 : Nat), (readQ1 s).2.1.map Int.ofNat, ((readQ2 s).1 : Nat), (readQ2 s).2.1.map Int.ofNat⟩ = true from hR] at ND
        have HD := Lib.hid hF
        clear hp hF hR
        go_enter Tryd.func47, Tryd.ntmps47
        go_wp2_with (first | (go_at_call 56; (with_reducible refine R.out.mono ?_); rintro e w1 ⟨A, c, B, c', ev, rfl, a1, a2, a3, a4, a5, a6, a7, a8, a9, a10⟩; rw [HD.out] at a7; have H7 := Lib.hid (show Code ev 40 from a7); obtain ⟨te7, pe7, rfl⟩ := code_err H7.out (by decide); have K1 := Lib.hid (And.intro a1 (And.intro a2 (And.intro a3 (And.intro a4 (And.intro a5 (And.intro a6 a8)))))); clear a1 a2 a3 a4 a5 a6 a7 a8 a9 a10) | (go_at_call 32; (with_reducible refine (ND.out _ (Ext.trans (Ext.trans HE.out K1.out.2.2.2.2.2.2) (ext1 _ _)) A B c c' (K1.out.2.2.2.2.1.ext (ext1 _ _)) (K1.out.2.2.2.2.2.1.ext (ext1 _ _))).mono ?_); rintro e w2 ⟨⟨v, rfl, hv⟩, k2⟩; have H8 := Lib.hid (show Code v 0 from hv); obtain rfl := code_nil H8.out rfl; have K2 := Lib.hid k2; clear hv k2) | (go_at_call 31; (with_reducible refine (told2_new 40 0 _ _ w2 (HG.out _ (Ext.trans (Ext.trans HE.out K1.out.2.2.2.2.2.2) (Ext.trans (ext1 _ _) K2.out))) H7.out H8.out).mono ?_); rintro e w3 ⟨rfl, k3⟩; have K3 := Lib.hid (Ext.trans (Ext.trans (ext1 _ _) K2.out) (Ext.trans (ext1 _ _) k3)); clear k3; obtain ⟨⟨r0, r1, r2, r3⟩, g0, g1, g2, g3⟩ := cells4 (at_new (Ext.trans K1.out.2.2.2.2.2.2 K3.out))))
        obtain ⟨s0, s1, s2, s3, hE⟩ := res_store4D (u0 := .int .i64 0) (u1 := .slice none 0 0) (u2 := .int .i64 0) (u3 := .slice none 0 0) (at_new (Ext.trans K1.out.2.2.2.2.2.2 K3.out)) (Ext.trans (Ext.trans HE.out K1.out.2.2.2.2.2.2) K3.out) (Nat.le_refl _)
        exact bodyPost_ret (v := .tuple #[.agg #[.int .i64 0, .slice none 0 0, .int .i64 0, .slice none 0 0], .int .i64 40]) (by simp [results, Tryd.results47, go_sem, s0, s1, s2, s3, first2]) rfl ⟨rfl, hE⟩
  | some d =>
    obtain ⟨hF, hD, hR⟩ := some_read hp
    have ND := Lib.hid (fun (W : World) (hW : Ext w W) (A B : Option Addr) (c c' : Nat) (hA : Il W A _ _) (hB : Il W B _ _) => noDesc_is A B (readQ1 s).2.1.length (readQ2 s).2.1.length c c' ((readQ1 s).1 : Nat) ((readQ2 s).1 : Nat) ((readQ1 s).2.1.map Int.ofNat) ((readQ2 s).2.1.map Int.ofNat) HL.out.1 HL.out.2 W (HG.out W hW) hA hB)
    rw [show rightB ⟨((readQ1 s).1 : Nat), (readQ1 s).2.1.map Int.ofNat, ((readQ2 s).1 : Nat), (readQ2 s).2.1.map Int.ofNat⟩ = true from hR] at ND
    have HD := Lib.hid (And.intro hD hF)
    clear hp hF hD hR
    go_enter Tryd.func47, Tryd.ntmps47
    go_wp2_with (first | (go_at_call 56; (with_reducible refine R.out.mono ?_); rintro e w1 ⟨A, c, B, c', ev, rfl, a1, a2, a3, a4, a5, a6, a7, a8, a9, a10⟩; rw [HD.out.2] at a7; obtain rfl := code_nil a7 rfl; have K1 := Lib.hid (And.intro a1 (And.intro a2 (And.intro a3 (And.intro a4 (And.intro a5 (And.intro a6 a8)))))); have K9 := Lib.hid (And.intro a9 a10); clear a1 a2 a3 a4 a5 a6 a7 a8 a9 a10) | (go_at_call 32; (with_reducible refine (ND.out _ (Ext.trans (Ext.trans HE.out K1.out.2.2.2.2.2.2) (ext1 _ _)) A B c c' (K1.out.2.2.2.2.1.ext (ext1 _ _)) (K1.out.2.2.2.2.2.1.ext (ext1 _ _))).mono ?_); rintro e w2 ⟨⟨v, rfl, hv⟩, k2⟩; obtain rfl := code_nil hv rfl; have K2 := Lib.hid k2; clear hv k2) | (go_at_call 31; (with_reducible refine (told2_new 0 0 _ _ w2 (HG.out _ (Ext.trans (Ext.trans HE.out K1.out.2.2.2.2.2.2) (Ext.trans (ext1 _ _) K2.out))) code_0 code_0).mono ?_); rintro e w3 ⟨rfl, k3⟩; have K3 := Lib.hid (Ext.trans (Ext.trans (ext1 _ _) K2.out) (Ext.trans (ext1 _ _) k3)); have K4 := Lib.hid (Ext.trans K2.out (Ext.trans (ext1 _ _) k3)); clear k3; obtain ⟨⟨p0, p1, p2, p3⟩, f0, f1, f2, f3⟩ := cells4 (at_new K4.out); obtain ⟨⟨r0, r1, r2, r3⟩, g0, g1, g2, g3⟩ := cells4 (at_new (Ext.trans K1.out.2.2.2.2.2.2 K3.out))))
    obtain ⟨s0, s1, s2, s3, hE⟩ := res_store4D (u0 := .int .i64 ((readQ1 s).1 : Nat)) (u1 := .slice A (readQ1 s).2.1.length c) (u2 := .int .i64 ((readQ2 s).1 : Nat)) (u3 := .slice B (readQ2 s).2.1.length c') (at_new (Ext.trans K1.out.2.2.2.2.2.2 K3.out)) (Ext.trans (Ext.trans HE.out K1.out.2.2.2.2.2.2) K3.out) (Nat.le_refl _)
    have nA : ∀ ad, A = some ad → ad.block ≠ w.heap.size := fun ad e => by have := K9.out.1 ad e; simp at this; omega
    have nB : ∀ ad, B = some ad → ad.block ≠ w.heap.size := fun ad e => by have := K9.out.2 ad e; simp at this; omega
    have iA := ((((K1.out.2.2.2.2.1.ext K3.out).other ⟨w.heap.size, 0, none⟩ (.int .i64 ((readQ1 s).1 : Nat)) nA).other ⟨w.heap.size, 1, none⟩ (.slice A (readQ1 s).2.1.length c) nA).other ⟨w.heap.size, 2, none⟩ (.int .i64 ((readQ2 s).1 : Nat)) nA).other ⟨w.heap.size, 3, none⟩ (.slice B (readQ2 s).2.1.length c') nA
    have iB := ((((K1.out.2.2.2.2.2.1.ext K3.out).other ⟨w.heap.size, 0, none⟩ (.int .i64 ((readQ1 s).1 : Nat)) nB).other ⟨w.heap.size, 1, none⟩ (.slice A (readQ1 s).2.1.length c) nB).other ⟨w.heap.size, 2, none⟩ (.int .i64 ((readQ2 s).1 : Nat)) nB).other ⟨w.heap.size, 3, none⟩ (.slice B (readQ2 s).2.1.length c') nB
    refine bodyPost_ret (v := .tuple #[.agg #[.int .i64 ((readQ1 s).1 : Nat), .slice A (readQ1 s).2.1.length c, .int .i64 ((readQ2 s).1 : Nat), .slice B (readQ2 s).2.1.length c'], .int .i64 0]) (by simp [results, Tryd.results47, go_sem, s0, s1, s2, s3]) rfl ?_
    rw [← HD.out.1]
    simp only [readD, List.length_map]
    exact ⟨A, c, B, c', rfl, K1.out.1, K1.out.2.1, K1.out.2.2.1, K1.out.2.2.2.1, iA, iB, (fun ad e => by have := K9.out.1 ad e; simp at this; omega), (fun ad e => by have := K9.out.2 ad e; simp at this; omega), hE⟩
end
end Go.Proofs.YtopgbggighaknaaDoor
