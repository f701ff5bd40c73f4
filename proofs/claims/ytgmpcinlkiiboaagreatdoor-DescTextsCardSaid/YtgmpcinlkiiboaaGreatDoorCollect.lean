/- slices.AppendSeq and Collect at ints, over whatever iterator yields a known list. -/
import Derived.Test.YtgmpcinlkiiboaaGreatDoorPtrs
import Derived.Test.YtgmpcinlkiiboaaGreatDoorAppOne
import Derived.Test.YtgmpcinlkiiboaaGreatDoorVals
namespace Go.Proofs.YtgmpcinlkiiboaaGreatDoor
open Go.RowKit Go
attribute [local go_sem] Oper.semAt_some
def ListR (w : World) (L : List Int) (e : Ending) (w' : World) : Prop := ∃ A c, e = .returned (.slice A L.length c) ∧ L.length ≤ c ∧ Il w' A L.length L ∧ Ext w w'
section
set_option maxHeartbeats 4000000 in
theorem appSeq_is (D : Nat → Prop) (gf : Nat) (lb : Array Value) (L : List Int) (hL : L.length ≤ 1000000) (w : World) (hit : IterU Tryz.prog D gf lb (intsX L) w) (hD : ∀ k, D k → k < w.heap.size) (eg : Enters Tryz.prog gf) :
    Calls Tryz.prog 41 #[.slice none 0 0, .func (.func gf) #[] lb] w (ListR w L) := by
  refine calls_of_marks Tryz.func41 rfl ?_
  simp only [Tryz.ntmps41, List.size_toArray, List.length_cons, List.length_nil, Nat.reduceAdd, Nat.reduceSub, Array.replicate_succ, Array.replicate_zero, List.push_toArray, List.append_toArray, List.nil_append, List.cons_append]
  go_wp2
  obtain ⟨i0, hi0, hz⟩ := Option.map_eq_some_iff.1 infoZ
  simp only [Prod.mk.injEq] at hz
  obtain ⟨hz0, hz1, hz2⟩ := hz
  have HI := Lib.hid (And.intro hi0 (And.intro hz0 (And.intro hz1 hz2)))
  clear hi0 hz0 hz1 hz2
  refine wp_world ?_
  intro w2 hw2
  have E12 : Ext (w.alloc (.cells #[.slice none 0 0] 22)) w2 := by rw [hw2]; exact Ext.refl _
  have bL : Blk w2 w.heap.size #[.slice none 0 0] 22 := at_new E12
  have s2 : w2.heap.size = w.heap.size + 1 := by rw [hw2]; simp
  have E2 : Ext w w2 := Ext.trans (ext1 _ _) E12
  clear hw2 E12
  have hLe : ∀ j, j < L.length → (encZ L)[j]? = some (.int .i64 (L.getD j 0)) := fun j hj => by simp [encZ, hj]
  refine range_outerU (D := D) (w0 := w) rfl eg hit (fun k hk => by have := hD k hk; omega) (Keep.of_ext E2) (by intro x' hx'; obtain ⟨i', _, rfl⟩ := List.mem_map.1 hx'; rfl)
    (fun k u W => ∃ v, Blk W w.heap.size #[v] 22 ∧ W.ownsRow w2.heap.size 3 1 v k (encZ (L.take k)) ∧ u = (fun b => v.ownBlock = some b) ∧ Ext w W)
    (fun _ _ _ _ => False) ?hI ?hIx ?hIb ?hIxb (u0 := fun b => (Value.slice none 0 0).ownBlock = some b) ⟨_, bL, World.ownsRow_nil _ _ _ _, rfl, E2⟩ ?hround ?hdone ?hstop
  case hI =>
    rintro k u A' B ⟨v, q1, q2, rfl, q3⟩ hb hu
    exact ⟨v, q1.below hb (by omega), own_keep q2 (fun g _ _ hv => hu g hv), rfl, Below.trans q3 (hb.mono (by have := E2.size; omega))⟩
  case hIx => intro c k u A' B h; exact h.elim
  case hIb =>
    rintro k u A' ⟨v, q1, q2, rfl, q3⟩ b hb
    exact (q2.lt b hb).2
  case hIxb => intro c k u A' h; exact h.elim
  case hround =>
    have HS2 := Lib.hid s2
    have HD := Lib.hid (And.intro hD hLe)
    clear s2 hit hD eg hLe
    rintro l' k u x' Wx hx' hl' hr' hul ⟨v, q1, q2, rfl, q3⟩
    obtain ⟨i', hi', rfl⟩ : ∃ i', L[k]? = some i' ∧ x' = #[.int .i64 i'] := by
      simp only [intsX, List.getElem?_map, Option.map_eq_some_iff] at hx'
      obtain ⟨i', h1, h2⟩ := hx'
      exact ⟨i', h1, h2.symm⟩
    have hkL : k < L.length := (List.getElem?_eq_some_iff.1 hi').1
    have htk : L.take (k + 1) = L.take k ++ [i'] := by
      rw [List.take_add_one, hi']; rfl
    have Q := Lib.hid (And.intro q1 (And.intro q2 (And.intro q3 htk)))
    clear hx' q1 q2 q3 hi' htk
    gi_wp2
    refine to_bodyU hl' hul hr' ?_
    intro W' hW' hu' hof hr2
    obtain ⟨q1, q2, q3, htk⟩ := Q.out
    have q1' : Blk W' w.heap.size #[v] 22 := q1.below hW' (by have := HS2.out; omega)
    have q2' := own_keep q2 (fun g _ _ hv => hu' g hv)
    have q3' : Ext w W' := Below.trans q3 (hW'.mono (by have := E2.size; omega))
    have p0 := q1'.cell 0
    simp only [List.getElem?_toArray, List.getElem?_cons_zero] at p0
    have hz' : w2.heap.size ≤ W'.heap.size := by
      obtain ⟨r, h⟩ := hr2
      have := (Array.getElem?_eq_some_iff.1 h).1
      omega
    have fr := q1'.frozen 0
    have Q2 := Lib.hid (And.intro q1' (And.intro q2' (And.intro q3' htk)))
    clear q1 q2 q3 q1' q2' q3' htk Q hu' hW'
    have c1 : (W'.alloc (.cells #[.int .i64 i'] 3)).cell? ((⟨W'.heap.size, 0, none⟩ : Addr).add 0) = some (.int .i64 i') := (Blk.new W' #[.int .i64 i'] 3).cell 0
    have CC := Lib.hid c1
    clear c1
    have hne : ∀ g, v.ownBlock = some g → w2.heap.size ≤ g := own_block Q2.out.2.1
    have HN := Lib.hid hne
    clear hne
    gi_wp2_with (gi_at_builtin; refine wpListIn_append_one _ rfl _ _ 22 rfl w2.heap.size 3 i0 (.int .i64 0) 8 Tryz.underlying22 HI.out.1 HI.out.2.1 HI.out.2.2.1 HI.out.2.2.2 rfl _ _ _ rfl (own_ext Q2.out.2.1 (ext1 _ _)) ⟨W'.heap.size, 0, none⟩ 1 (.int .i64 i') rfl CC.out (by simp [Value.oneCell']) (by unfold maxLen; omega) (by omega) (by simp; omega) ?_; intro v' w3 hown3 hgrow hfresh; obtain ⟨A', c', rfl, hrd'⟩ := rd_of_own hown3; clear hrd'; have q1w : Blk w3 w.heap.size #[v] 22 := (hgrow.block _ (Q2.out.1.alloc _).lt (by intro e; have := HN.out _ e.symm; have := HS2.out; omega)).trans (Q2.out.1.alloc _); have p0' := q1w.cell 0; have fr' := q1w.frozen 0; simp only [List.getElem?_toArray, List.getElem?_cons_zero] at p0'; have Q4 := Lib.hid (And.intro hown3 (And.intro hgrow (And.intro hfresh q1w))); clear hown3 hgrow hfresh q1w)
    obtain ⟨r1, r2, r3, r4⟩ := Q4.out
    obtain ⟨t1, t2, t3, t4⟩ := Q2.out
    have hs2 := HS2.out
    have hsz := r2.size
    simp at hsz
    refine ⟨⟨by simp; omega, fun j hj hd => ?_⟩, fun b => (Value.slice A' (k + 1) c').ownBlock = some b, fun b hb => (r3 b hb).imp id (fun h => by simp at h; omega), .slice A' (k + 1) c', r4.set 0 _, ?_, rfl, ?_⟩
    · have hlow : j ≠ w.heap.size ∧ v.ownBlock ≠ some j := by
        rcases hd with hd | ⟨hd, hd2⟩
        · have := HD.out.1 j hd
          exact ⟨by omega, fun e => by have := HN.out _ e; omega⟩
        · exact ⟨by omega, hd2⟩
      rw [Below.heap_setCell _ _ _ _ hlow.1, r2.block j (by simp; omega) (fun e => hlow.2 e.symm), Below.heap_alloc _ _ _ hj]
    · refine own_keep (v := .slice A' (k + 1) c') ?_ (fun g hg _ _ => Below.heap_setCell w3 ⟨w.heap.size, 0, none⟩ (.slice A' (k + 1) c') g (by show g ≠ w.heap.size; omega))
      rw [t4]
      simpa [encZ] using r1
    · exact (Below.grown (Ext.trans t3 (ext1 _ _)) r2 (by have := t3.size; simp; omega) (fun g hg => by have := HN.out _ hg; omega)).setCell (by show w.heap.size ≤ w.heap.size; omega) _
  case hdone =>
    rintro K u W hK hKu ⟨v, q1, q2, rfl, q3⟩ hKd
    rw [show (intsX L).length = L.length by simp [intsX], List.take_length] at q2
    have p0 := q1.cell 0
    simp only [List.getElem?_toArray, List.getElem?_cons_zero] at p0
    obtain ⟨A', c', rfl, hrd⟩ := rd_of_own q2
    have hcap : L.length ≤ c' := by
      rcases q2.2 with ⟨_, h0⟩ | ⟨g, cap, cur, e, _, _, hnc, _⟩
      · omega
      · simp only [Value.slice.injEq] at e
        omega
    have QQ := Lib.hid (And.intro q1 (And.intro q2 (And.intro q3 (And.intro hKd hrd))))
    clear q1 q2 q3 hKd hrd hit
    go_wp2
    obtain ⟨q1, q2, q3, hKd, hrd⟩ := QQ.out
    have hKg : A' ≠ none → ∀ ad, A' = some ad → ad.block ≠ K := fun _ ad e h => by
      rcases q2.2 with ⟨e', _⟩ | ⟨g, cap, cur, e', _⟩
      · simp only [Value.slice.injEq] at e'
        rw [e] at e'
        exact absurd e'.1 (by simp)
      · simp only [Value.slice.injEq] at e'
        have e2 := e.symm.trans e'.1
        simp only [Option.some.injEq] at e2
        exact hKu (by rw [← h, e]; rfl)
    refine leave_mark (v := .slice A' L.length c') hKd (by simp [results, Tryz.results41, go_sem]) ⟨A', c', rfl, hcap, ⟨rfl, ?_⟩, Below.trans q3 (below_putObj _ K w.heap.size _ (by have := E2.size; omega))⟩
    intro h0
    obtain ⟨ad, rfl, hb, hc⟩ := hrd h0
    refine ⟨ad, rfl, by simpa using hb, fun j hj => ?_⟩
    rw [World.cell?_of_block (w := W) (by rw [block_of_add]; exact World.putObj_heap_other (hKg (by simp) ad rfl)), hc j hj]
    simp [encZ, hj]
  case hstop => intro K c k u W _ _ _ h; exact h.elim
theorem collect_is (D : Nat → Prop) (gf : Nat) (lb : Array Value) (L : List Int) (hL : L.length ≤ 1000000) (w : World) (hit : IterU Tryz.prog D gf lb (intsX L) w) (hD : ∀ k, D k → k < w.heap.size) (eg : Enters Tryz.prog gf) :
    Calls Tryz.prog 24 #[.func (.func gf) #[] lb] w (ListR w L) := by
  have C := Lib.hid (appSeq_is D gf lb L hL w hit hD eg)
  clear hit hD eg
  go_enter Tryz.func24, Tryz.ntmps24
  go_wp2_with (go_at_call 41; refine C.out.mono ?_; rintro e w1 ⟨A', c', rfl, h1⟩; have H1 := Lib.hid h1; clear h1)
  go_ret
  exact ⟨A', c', rfl, H1.out⟩
end
end Go.Proofs.YtgmpcinlkiiboaaGreatDoor
