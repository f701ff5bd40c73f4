/- bits: List. -/
import Derived.Test.YtichgkeglgagfaaDoorRefList
import Derived.Test.YtichgkeglgagfaaDoorPlacesU
import Derived.Test.YtichgkeglgagfaaDoorAppOne
namespace Go.Proofs.YtichgkeglgagfaaDoor
open Go.RowKit Go
attribute [local go_sem] Oper.semAt_some
section
variable {a : Nat → Addr}
set_option maxHeartbeats 1000000 in
theorem list_wrong (N : Int) (A : Option Addr) (n c : Nat) (ws : List Nat) (hr : rightB N ws = false) (w : World) (h : Bt w A n ws) :
    Calls Tryd.prog 22 #[.agg #[.int .i64 N, .slice A n c]] w (ListR w (lst N ws)) := by
  have RR := Lib.hid (fun W (hW : Ext w W) => hr ▸ right_any N A n c ws W (h.ext hW))
  have H := Lib.hid (And.intro (ext1 w (.cells #[.int .i64 N, .slice A n c] 24)) (show lst N ws = [] by rw [lst, hr]; rfl))
  clear h hr
  refine calls_of_marks Tryd.func22 rfl ?_
  simp only [Tryd.ntmps22, List.size_toArray, List.length_cons, List.length_nil, Nat.reduceAdd, Nat.reduceSub, Array.replicate_succ, Array.replicate_zero, List.push_toArray, List.append_toArray, List.nil_append, List.cons_append]
  go_wp2_with (go_at_call 15; refine (RR.out _ H.out.1).mono ?_; rintro e w1 ⟨rfl, h1⟩)
  refine leave_marks (S := w.heap.size) (Ks := []) (Marks.nil _ _) (fun W' hW' => ⟨_, results_tmp rfl _ _ _, ?_⟩)
  rw [H.out.2]
  exact ⟨none, 0, rfl, fun h => absurd h (by simp), Below.trans (Ext.trans H.out.1 h1) hW'⟩
set_option maxHeartbeats 4000000 in
theorem list_right (N : Int) (A : Option Addr) (n c : Nat) (ws : List Nat) (hr : rightB N ws = true) (w : World) (h : Bt w A n ws) (hG : G a w) :
    Calls Tryd.prog 22 #[.agg #[.int .i64 N, .slice A n c]] w (ListR w (lst N ws)) := by
  have RR := Lib.hid (fun W (hW : Ext w W) => hr ▸ right_any N A n c ws W (h.ext hW))
  have hr' := (right_iff N ws).1 hr
  have E1 := ext1 w (.cells #[.int .i64 N, .slice A n c] 24)
  have hL : lst N ws = plist N ws 0 true := by rw [lst, if_pos hr]
  have H := Lib.hid (And.intro h (And.intro hG (And.intro hr' (And.intro E1 hL))))
  have hl := plist_len N ws 0 true
  have hn := h.le
  have hlen := h.len
  clear h hG hr hr' E1 hL
  refine calls_of_marks Tryd.func22 rfl ?_
  simp only [Tryd.ntmps22, List.size_toArray, List.length_cons, List.length_nil, Nat.reduceAdd, Nat.reduceSub, Array.replicate_succ, Array.replicate_zero, List.push_toArray, List.append_toArray, List.nil_append, List.cons_append]
  go_wp2_with (first | (go_at_call 15; refine (RR.out _ H.out.2.2.2.1).mono ?_; rintro e w1 ⟨rfl, h1⟩; have B0 := (at_new h1).ext (ext1 w1 (.cells #[.slice none 0 0] 34)); have p0 := B0.cell 0; have p1 := B0.cell 1; simp only [List.getElem?_toArray, List.getElem?_cons_zero, List.getElem?_cons_succ] at p0 p1; clear B0) | (go_at_call 43; refine (places_mk _ _ _ _ _ _ _).mono ?_; rintro e w2 ⟨rfl, rfl⟩))
  obtain ⟨i0, hi0, hz⟩ := Option.map_eq_some_iff.1 infoI
  simp only [Prod.mk.injEq] at hz
  obtain ⟨hz0, hz1, hz2⟩ := hz
  have HI := Lib.hid (And.intro hi0 (And.intro hz0 (And.intro hz1 hz2)))
  clear hi0 hz0 hz1 hz2 p0 p1
  have hs1 := h1.size
  simp at hs1
  refine wp_world ?_
  intro w2 hw2
  have E12 : Ext (w1.alloc (.cells #[.slice none 0 0] 34)) w2 := by rw [hw2]; exact ext3 _ _ _ _
  have bL : Blk w2 w1.heap.size #[.slice none 0 0] 34 := at_new E12
  have b0 : Blk w2 (w1.heap.size + 1) #[.int .i64 N, .slice A n c] 24 := by
    have := ((Blk.new (w1.alloc (.cells #[.slice none 0 0] 34)) #[.int .i64 N, .slice A n c] 24).alloc (.cells #[.int .i64 0] 3)).alloc (.cells #[.bool true] 4)
    rw [← hw2] at this
    rwa [World.size_alloc] at this
  have b1 : Blk w2 (w1.heap.size + 1 + 1) #[.int .i64 0] 3 := by
    have := at_old (w := (w1.alloc (.cells #[.slice none 0 0] 34)).alloc (.cells #[.int .i64 N, .slice A n c] 24)) (W := w2) (by rw [hw2]; exact Ext.refl _)
    rwa [World.size_alloc, World.size_alloc] at this
  have b2 : Blk w2 (w1.heap.size + 1 + 1 + 1) #[.bool true] 4 := by
    have := at_new3 (w := w1.alloc (.cells #[.slice none 0 0] 34)) (W := w2) (by rw [hw2]; exact Ext.refl _)
    rwa [World.size_alloc] at this
  have s2 : w2.heap.size = w1.heap.size + 4 := by rw [hw2]; simp
  have hL2 : w1.heap.size < w2.heap.size := by omega
  have HS2 := Lib.hid s2
  have E2 : Ext w w2 := Ext.trans H.out.2.2.2.1 (Ext.trans h1 (Ext.trans (ext1 _ _) E12))
  clear hw2 E12 h1
  have X2 := H.out
  obtain ⟨L, hLL⟩ : ∃ L, plist N ws 0 true = L := ⟨_, rfl⟩
  rw [X2.2.2.2.2, hLL]
  have hLn : L.length ≤ 32000 := by rw [← hLL]; omega
  refine range_outerU (D := fun k => k = w1.heap.size + 1 + 1 ∨ k = w1.heap.size + 1 ∨ k = w1.heap.size + 1 + 1 + 1 ∨ k = 3 ∨ ∃ ad, A = some ad ∧ 0 < n ∧ k = ad.block) (w0 := w2) rfl (enters_of Tryd.func56 (by kernel_rfl) rfl)
    (hLL ▸ places_iterU (a := a) N A n c ws 0 true X2.2.2.1 (by decide) (by decide) (w1.heap.size + 1 + 1) (w1.heap.size + 1) (w1.heap.size + 1 + 1 + 1) w2 (X2.1.ext E2) (X2.2.1.ext E2) (by omega) (by omega) (by omega) (by rw [b1.cell]; rfl) (by rw [b0.cell]; rfl) (by rw [b0.cell]; rfl) (by rw [b2.cell]; rfl))
    (by
      have htz := (X2.2.1.ext E2).tz
      rintro k (rfl | rfl | rfl | rfl | ⟨ad, rfl, hn, rfl⟩)
      · omega
      · omega
      · omega
      · exact htz
      · obtain ⟨ad', e, hb, _⟩ := (X2.1.ext E2).rd hn
        cases e
        exact hb)
    (Keep.refl _ _ _) (by intro x' hx'; obtain ⟨i', _, rfl⟩ := List.mem_map.1 hx'; rfl)
    (fun k u W => ∃ v, Blk W w1.heap.size #[v] 34 ∧ W.ownsRow w2.heap.size 3 1 v k (encI (L.take k)) ∧ u = (fun b => v.ownBlock = some b) ∧ Ext w W)
    (fun _ _ _ _ => False) ?hI ?hIx ?hIb ?hIxb (u0 := fun b => (Value.slice none 0 0).ownBlock = some b) ⟨_, bL, World.ownsRow_nil _ _ _ _, rfl, E2⟩ ?hround ?hdone ?hstop
  case hI =>
    rintro k u A' B ⟨v, q1, q2, rfl, q3⟩ hb hu
    exact ⟨v, q1.below hb (by omega), own_keep q2 (fun g _ _ hv => hu g hv), rfl, Below.trans q3 (hb.mono (by have := E2.size; omega))⟩
  case hIx => intro c k u A' B h; exact h.elim
  case hIb =>
    rintro k u A' ⟨v, q1, q2, rfl, q3⟩ b hb
    exact (q2.lt b hb).2
  case hIxb => intro c k u A' h; exact h.elim
  case hround =>
    clear s2
    rintro l' k u x' Wx hx' hl' hr' hul ⟨v, q1, q2, rfl, q3⟩
    obtain ⟨i', hi', rfl⟩ : ∃ i', L[k]? = some i' ∧ x' = #[.int .i64 (i' : Nat)] := by
      simp only [intXs, List.getElem?_map, Option.map_eq_some_iff] at hx'
      obtain ⟨i', h1, h2⟩ := hx'
      exact ⟨i', h1, h2.symm⟩
    have hkL : k < L.length := (List.getElem?_eq_some_iff.1 hi').1
    have htk : L.take (k + 1) = L.take k ++ [i'] := by
      rw [List.take_add_one, hi']; rfl
    have Q := Lib.hid (And.intro q1 (And.intro q2 (And.intro q3 htk)))
    clear hx' q1 q2 q3 hi' htk
    gi_wp2
    refine to_bodyU hl' hul hr' ?_
    intro W' hW' hu' hof hr2
    obtain ⟨q1, q2, q3, htk⟩ := Q.out
    have q1' : Blk W' w1.heap.size #[v] 34 := q1.below hW' (by omega)
    have q2' := own_keep q2 (fun g _ _ hv => hu' g hv)
    have q3' : Ext w W' := Below.trans q3 (hW'.mono (by have := E2.size; omega))
    have p0 := q1'.cell 0
    simp only [List.getElem?_toArray, List.getElem?_cons_zero] at p0
    have hz' : w2.heap.size ≤ W'.heap.size := by
      obtain ⟨r, h⟩ := hr2
      have := (Array.getElem?_eq_some_iff.1 h).1
      omega
    have fr := q1'.frozen 0
    have Q2 := Lib.hid (And.intro q1' (And.intro q2' (And.intro q3' htk)))
    clear q1 q2 q3 q1' q2' q3' htk Q hu' hW'
    have c1 : (W'.alloc (.cells #[.int .i64 (i' : Nat)] 3)).cell? ((⟨W'.heap.size, 0, none⟩ : Addr).add 0) = some (.int .i64 (i' : Nat)) := (Blk.new W' #[.int .i64 (i' : Nat)] 3).cell 0
    have CC := Lib.hid c1
    clear c1
    have hne : ∀ g, v.ownBlock = some g → w2.heap.size ≤ g := own_block Q2.out.2.1
    have HN := Lib.hid hne
    clear hne
    gi_wp2_with (gi_at_builtin; refine wpListIn_append_one _ rfl _ _ 34 rfl w2.heap.size 3 i0 (.int .i64 0) 8 Tryd.underlying34 HI.out.1 HI.out.2.1 HI.out.2.2.1 HI.out.2.2.2 rfl _ _ _ rfl (own_ext Q2.out.2.1 (ext1 _ _)) ⟨W'.heap.size, 0, none⟩ 1 (.int .i64 (i' : Nat)) rfl CC.out (by simp [Value.oneCell']) (by unfold maxLen; omega) (by omega) (by simp; omega) ?_; intro v' w3 hown3 hgrow hfresh; obtain ⟨A', c', rfl, hrd'⟩ := rd_of_own hown3; clear hrd'; have q1w : Blk w3 w1.heap.size #[v] 34 := (hgrow.block _ (Q2.out.1.alloc _).lt (by intro e; have := HN.out _ e.symm; omega)).trans (Q2.out.1.alloc _); have p0' := q1w.cell 0; have fr' := q1w.frozen 0; simp only [List.getElem?_toArray, List.getElem?_cons_zero] at p0'; have Q4 := Lib.hid (And.intro hown3 (And.intro hgrow (And.intro hfresh q1w))); clear hown3 hgrow hfresh q1w)
    obtain ⟨r1, r2, r3, r4⟩ := Q4.out
    obtain ⟨t1, t2, t3, t4⟩ := Q2.out
    have hsz := r2.size
    simp at hsz
    refine ⟨⟨by simp; omega, fun j hj hd => ?_⟩, fun b => (Value.slice A' (k + 1) c').ownBlock = some b, fun b hb => (r3 b hb).imp id (fun h => by simp at h; omega), .slice A' (k + 1) c', r4.set 0 _, ?_, rfl, ?_⟩
    · have hlow : j ≠ w1.heap.size ∧ v.ownBlock ≠ some j := by
        rcases hd with hd | ⟨hd, hd2⟩
        · have hj2 : j < w2.heap.size ∧ j ≠ w1.heap.size := by
            have hs2 := HS2.out
            have htz := X2.2.1.tz
            rcases hd with rfl | rfl | rfl | rfl | ⟨ad, rfl, hn0, rfl⟩
            · omega
            · omega
            · omega
            · omega
            · obtain ⟨ad', e, hb, _⟩ := X2.1.rd hn0
              cases e
              omega
          exact ⟨hj2.2, fun e => by have := HN.out _ e; omega⟩
        · exact ⟨by omega, hd2⟩
      rw [Below.heap_setCell _ _ _ _ hlow.1, r2.block j (by simp; omega) (fun e => hlow.2 e.symm), Below.heap_alloc _ _ _ hj]
    · refine own_keep (v := .slice A' (k + 1) c') ?_ (fun g hg _ _ => Below.heap_setCell w3 ⟨w1.heap.size, 0, none⟩ (.slice A' (k + 1) c') g (by show g ≠ w1.heap.size; omega))
      rw [t4]
      simpa [encI] using r1
    · exact (Below.grown (Ext.trans t3 (ext1 _ _)) r2 (by have := t3.size; simp; omega) (fun g hg => by have := HN.out _ hg; have := E2.size; omega)).setCell (by show w.heap.size ≤ w1.heap.size; omega) _
  case hdone =>
    rintro K u W hK hKu ⟨v, q1, q2, rfl, q3⟩ hKd
    rw [show (intXs L).length = L.length by simp [intXs], List.take_length] at q2
    have p0 := q1.cell 0
    simp only [List.getElem?_toArray, List.getElem?_cons_zero] at p0
    obtain ⟨A', c', rfl, hrd⟩ := rd_of_own q2
    have hcap : L.length ≤ c' := by
      rcases q2.2 with ⟨_, h0⟩ | ⟨g, cap, cur, e, _, _, hnc, _⟩
      · omega
      · simp only [Value.slice.injEq] at e
        omega
    have h5 : (L.length : Int) ≤ (c' : Int) := by omega
    have QQ := Lib.hid (And.intro q1 (And.intro q2 (And.intro q3 (And.intro hKd hrd))))
    clear q1 q2 q3 hKd hrd
    go_wp2
    obtain ⟨q1, q2, q3, hKd, hrd⟩ := QQ.out
    have hKg : A' ≠ none → ∀ ad, A' = some ad → ad.block ≠ K := fun _ ad e h => by
      rcases q2.2 with ⟨e', _⟩ | ⟨g, cap, cur, e', _⟩
      · simp only [Value.slice.injEq] at e'
        rw [e] at e'
        exact absurd e'.1 (by simp)
      · simp only [Value.slice.injEq] at e'
        have e2 := e.symm.trans e'.1
        simp only [Option.some.injEq] at e2
        exact hKu (by rw [← h, e]; rfl)
    refine leave_mark (v := .slice A' L.length L.length) hKd (by simp [results, Tryd.results22, go_sem]) ⟨A', L.length, rfl, ?_, Below.trans q3 (below_putObj _ K w.heap.size _ (by have := E2.size; omega))⟩
    intro h0
    obtain ⟨ad, rfl, hb, hc⟩ := hrd h0
    refine ⟨ad, rfl, by simpa using hb, fun j hj => ?_⟩
    rw [World.cell?_of_block (w := W) (by rw [block_of_add]; exact World.putObj_heap_other (hKg (by simp) ad rfl)), hc j hj]
    simp [encI, List.getD_eq_getElem?_getD, hj]
  case hstop => intro K c k u W _ _ _ h; exact h.elim
end
end Go.Proofs.YtichgkeglgagfaaDoor
