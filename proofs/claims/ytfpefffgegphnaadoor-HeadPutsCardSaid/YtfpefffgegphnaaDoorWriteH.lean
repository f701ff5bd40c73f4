/- head: a right head's bytes. -/
import Derived.Test.YtfpefffgegphnaaDoorBytesH
import Derived.Test.YtfpefffgegphnaaDoorEvenH
import Derived.Test.YtfpefffgegphnaaDoorNearH
import Derived.Test.YtfpefffgegphnaaDoorAppOne
import Derived.Test.YtfpefffgegphnaaDoorNew
namespace Go.Proofs.YtfpefffgegphnaaDoor
open Go.RowKit Go
attribute [local go_sem] Oper.semAt_some
namespace H
open HD
/-- Numbers that have a place in a head's bytes. -/
structure FitM (m : MkR) : Prop where
  k1 : 0 ≤ m.kind
  k2 : m.kind ≤ 255
  l1 : 0 ≤ m.len
  l2 : m.len ≤ 16777215
  c1 : 0 ≤ m.cls
  c2 : m.cls ≤ 255
  e1 : 0 ≤ m.ep
  e2 : m.ep ≤ 255
theorem fit_right {m : MkR} (h : rightM m = true) : FitM m := by
  obtain ⟨h1, h2, h3, h4, h5, h6, h7, h8⟩ := right_iff.1 h
  exact ⟨by omega, by omega, by omega, by omega, by omega, by omega, by omega, by omega⟩
theorem fit_read (s : List UInt8) : FitM (readM s) := by
  have l := bAt_lo s
  have h := bAt_hi s
  have := l 4; have := l 5; have := l 6; have := h 4; have := h 5; have := h 6
  exact ⟨l 1, h 1, by show 0 ≤ bAt s 4 + 256 * bAt s 5 + 65536 * bAt s 6; omega, by show bAt s 4 + 256 * bAt s 5 + 65536 * bAt s 6 ≤ 16777215; omega, l 2, h 2, l 3, h 3⟩
/-- text, a byte longer: append to a row of one's own, as an equation. -/
theorem app_one {base : Nat} {v : Value} {k : Nat} {S : List UInt8} (hk : S.length = k) (hk2 : k ≤ 100) (W : World) (h : W.ownsRow base 5 1 v k (S.map bv)) (hb : base ≤ W.heap.size) (y : UInt8) (ty : TypeId) :
    ∃ v' w', (Builtin.append_ #[47, 47] ty #[v, .slice (some ⟨W.heap.size, 0, none⟩) 1 1]).run Tryd.prog (W.alloc (.cells #[bv y] 5)) = .ok v' w' ∧ w'.ownsRow base 5 1 v' (k + 1) ((S ++ [y]).map bv) ∧ (W.alloc (.cells #[bv y] 5)).grownBy w' v.ownBlock ∧ ∀ b, v'.ownBlock = some b → v.ownBlock = some b ∨ W.heap.size ≤ b := by
  obtain ⟨i, hi, hz⟩ := Option.map_eq_some_iff.1 info_u8
  simp only [Prod.mk.injEq] at hz
  obtain ⟨hz0, hz1, hz2⟩ := hz
  have hown := own_ext h (ext1 W (.cells #[bv y] 5))
  have hc : (W.alloc (.cells #[bv y] 5)).cell? ((⟨W.heap.size, 0, none⟩ : Addr).add 0) = some (bv y) := (Blk.new W #[bv y] 5).cell 0
  have hnews : ∀ j u, ([bv y] : List Value)[j]? = some u → (W.alloc (.cells #[bv y] 5)).cell? ((⟨W.heap.size, 0, none⟩ : Addr).add j) = some u := by
    intro j u hj
    rcases j with _ | j
    · simp at hj; subst hj; exact hc
    · simp at hj
  obtain ⟨v', w', hrun, r1, r2, _⟩ := run_append_own (P := Tryd.prog) (W.alloc (.cells #[bv y] 5)) base 47 ty 5 i (.int .u8 0) 1 1 Tryd.underlying47 hi hz0 hz1 hz2 rfl (by decide) v k (S.map bv) hown ⟨W.heap.size, 0, none⟩ 1 1 [bv y] rfl hnews (by simp [Value.oneCell', bv]) (by unfold maxLen; omega) (by omega) (by simp; omega)
  have r3 := own_result (P := Tryd.prog) base 47 ty 5 i (.int .u8 0) 1 Tryd.underlying47 hi hz0 hz1 hz2 v k (S.map bv) hown ⟨W.heap.size, 0, none⟩ 1 (bv y) hc (by simp [Value.oneCell', bv]) (by unfold maxLen; omega) (by omega) hrun
  refine ⟨v', w', hrun, by simpa using r1, r2, fun b hb => (r3 b hb).imp id (fun h => by simp at h; omega)⟩
/-- The k-th byte behind the first one: of which number, how far up. -/
def ByM (m : MkR) (c k : Nat) (x : Array Value) (up d : Int) : Prop :=
  ∃ (q : Nat) (n : Int) (y : UInt8), x = #[at_ c q, .int .i64 up] ∧ (mkC m)[q]? = some (.int .i64 n) ∧ (0 ≤ n ∧ n ≤ 16777215) ∧ ((n / d) % 256 = (y.toNat : Int)) ∧ (bytes7 m).take (k + 1 + 1) = (bytes7 m).take (k + 1) ++ [y] ∧ ((bytes7 m).take (k + 1)).length = k + 1 ∧ k < 6
theorem by_of {m : MkR} (hm : FitM m) {c k : Nat} {x : Array Value} (h : (byXs c)[k]? = some x) : ByM m c k x 0 1 ∨ ByM m c k x 8 256 ∨ ByM m c k x 16 65536 := by
  obtain ⟨h1, h2, h3, h4, h5, h6, h7, h8⟩ := hm
  rcases k with _ | _ | _ | _ | _ | _ | k
  · simp only [byXs, List.getElem?_cons_zero, Option.some.injEq] at h
    exact .inl ⟨0, m.kind, u8 m.kind, h.symm, rfl, by omega, by rw [u8_nat]; omega, rfl, rfl, by decide⟩
  · simp only [byXs, List.getElem?_cons_zero, List.getElem?_cons_succ, Option.some.injEq] at h
    exact .inl ⟨2, m.cls, u8 m.cls, h.symm, rfl, by omega, by rw [u8_nat]; omega, rfl, rfl, by decide⟩
  · simp only [byXs, List.getElem?_cons_zero, List.getElem?_cons_succ, Option.some.injEq] at h
    exact .inl ⟨3, m.ep, u8 m.ep, h.symm, rfl, by omega, by rw [u8_nat]; omega, rfl, rfl, by decide⟩
  · simp only [byXs, List.getElem?_cons_zero, List.getElem?_cons_succ, Option.some.injEq] at h
    exact .inl ⟨1, m.len, u8 m.len, h.symm, rfl, by omega, by rw [u8_nat]; omega, rfl, rfl, by decide⟩
  · simp only [byXs, List.getElem?_cons_zero, List.getElem?_cons_succ, Option.some.injEq] at h
    exact .inr (.inl ⟨1, m.len, u8 (m.len / 256), h.symm, rfl, by omega, by rw [u8_nat], rfl, rfl, by decide⟩)
  · simp only [byXs, List.getElem?_cons_zero, List.getElem?_cons_succ, Option.some.injEq] at h
    exact .inr (.inr ⟨1, m.len, u8 (m.len / 65536), h.symm, rfl, by omega, by rw [u8_nat], rfl, rfl, by decide⟩)
  · simp [byXs] at h
theorem keep_app {D u : Nat → Prop} {S : Nat} {X W0 w' : World} {row : Option Nat} (hE : Ext X W0) (hg : W0.grownBy w' row) (hu : ∀ b, row = some b → u b) (hD : ∀ b, row = some b → ¬ D b) : KeepU D u S X w' :=
  ⟨by have := hE.size; have := hg.size; omega, fun i hi hd => by
    have hs := hE.size
    rw [hg.block i (by omega) (fun e => by rcases hd with hd | ⟨_, hd⟩; exact hD _ e.symm hd; exact hd (hu _ e.symm))]
    exact hE.block i hi⟩
theorem wfin {m : MkR} {w w1 X1 w' : World} {k c' : Nat} {v : Value} {A' : Option Addr} {y : UInt8} {cs : Array Value} {t : TypeId} (hz : w1.heap.size = w.heap.size + 4) (hg : 6 < w.heap.size)
    (HR : Blk X1 (w.heap.size + 1 + 1 + 1) #[v] 47 ∧ X1.ownsRow w.heap.size 5 1 v (k + 1) (((bytes7 m).map bv).take (k + 1)) ∧ (∀ b, v.ownBlock = some b → b = w.heap.size + 1 + 1 ∨ w1.heap.size ≤ b) ∧ Blk X1 (w.heap.size + 1) (mkC m) 78 ∧ Ext w X1 ∧
      w'.ownsRow w.heap.size 5 1 (.slice A' (k + 1 + 1) c') (k + 1 + 1) (((bytes7 m).take (k + 1) ++ [y]).map bv) ∧ (X1.drew.alloc (.cells cs t)).grownBy w' v.ownBlock ∧ (∀ b, (Value.slice A' (k + 1 + 1) c').ownBlock = some b → v.ownBlock = some b ∨ X1.drew.heap.size ≤ b) ∧ Blk w' (w.heap.size + 1 + 1 + 1) #[v] 47)
    (htk : (bytes7 m).take (k + 1 + 1) = (bytes7 m).take (k + 1) ++ [y]) :
    KeepU (fun k => k = 6) (fun b => v.ownBlock = some b) w1.heap.size X1 (w'.setCell ⟨w.heap.size + 1 + 1 + 1, 0, none⟩ (.slice A' (k + 1 + 1) c')) ∧ ∃ u', (∀ b, u' b → v.ownBlock = some b ∨ X1.heap.size ≤ b) ∧
      ∃ v, Blk (w'.setCell ⟨w.heap.size + 1 + 1 + 1, 0, none⟩ (.slice A' (k + 1 + 1) c')) (w.heap.size + 1 + 1 + 1) #[v] 47 ∧ (w'.setCell ⟨w.heap.size + 1 + 1 + 1, 0, none⟩ (.slice A' (k + 1 + 1) c')).ownsRow w.heap.size 5 1 v (k + 1 + 1) (((bytes7 m).map bv).take (k + 1 + 1)) ∧ u' = (fun b => v.ownBlock = some b) ∧
        (∀ b, v.ownBlock = some b → b = w.heap.size + 1 + 1 ∨ w1.heap.size ≤ b) ∧ Blk (w'.setCell ⟨w.heap.size + 1 + 1 + 1, 0, none⟩ (.slice A' (k + 1 + 1) c')) (w.heap.size + 1) (mkC m) 78 ∧ Ext w (w'.setCell ⟨w.heap.size + 1 + 1 + 1, 0, none⟩ (.slice A' (k + 1 + 1) c')) := by
  obtain ⟨h1, h2, h3, h4, h5, r1, r2, r3, q1⟩ := HR
  have hsX := h5.size
  have E0 : Ext X1 (X1.drew.alloc (.cells cs t)) := (Ext.refl X1).drew.alloc (Nat.le_refl _) _
  have hown := own_block h2
  have hk := keep_app (D := fun k => k = 6) (u := fun b => v.ownBlock = some b) (S := w1.heap.size) E0 r2 (fun b hb => hb) (fun b hb e => by have := hown b hb; have : b = 6 := e; omega)
  have hs1 : w1.heap.size ≤ X1.heap.size := by have := h1.lt; omega
  refine ⟨hk.setLow _ _ (by show w.heap.size + 1 + 1 + 1 < _; omega) (by show ¬ w.heap.size + 1 + 1 + 1 = _; omega), fun b => (Value.slice A' (k + 1 + 1) c').ownBlock = some b, fun b hb => r3 b hb, .slice A' (k + 1 + 1) c', q1.set 0 _, ?_, rfl, fun b hb => ?_, ?_, ?_⟩
  · rw [← htk, List.map_take] at r1
    refine own_keep r1 (fun g hgb hgs hg2 => Below.heap_setCell _ _ _ _ (show g ≠ w.heap.size + 1 + 1 + 1 from ?_))
    rintro rfl
    rcases r3 _ hg2 with h | h
    · rcases h3 _ h with h | h <;> omega
    · have := h1.lt; have : X1.heap.size ≤ w.heap.size + 1 + 1 + 1 := h; omega
  · rcases r3 b hb with h | h
    · exact h3 b h
    · have : X1.heap.size ≤ b := h; exact .inr (by omega)
  · refine Blk.other ?_ _ _ (by show w.heap.size + 1 ≠ w.heap.size + 1 + 1 + 1; omega)
    exact (r2.block _ (h4.drew.alloc _).lt (fun e => by rcases h3 _ e.symm with h | h <;> omega)).trans (h4.drew.alloc _)
  · exact (Below.grown (Ext.trans h5 E0) r2 (by have := E0.size; omega) (fun g hg => hown g hg)).setCell (by show w.heap.size ≤ w.heap.size + 1 + 1 + 1; omega) _
theorem rd8 {w : World} {A : Option Addr} {n : Nat} {l : List UInt8} (h : Rd w A n (fun j => (l.map bv).getD j undef)) (hn : l.length = n) : Rd w A l.length (fun j => bv (l.getD j 0)) := fun h0 => by
  obtain ⟨ad, e, hb, hc⟩ := h (by omega)
  refine ⟨ad, e, hb, fun j hj => ?_⟩
  rw [hc j (by omega)]
  simp [List.getD_eq_getElem?_getD, hj]
/-- The post, and no panic. -/
def noP (Q : Exit → Act → World → Prop) : Exit → Act → World → Prop
  | .panic _, _, _ => False
  | .normal, a, w => Q .normal a w
  | .ret, a, w => Q .ret a w
  | .exit i, a, w => Q (.exit i) a w
  | .goto i, a, w => Q (.goto i) a w
  | .outgrown, a, w => Q .outgrown a w
theorem wpIn_noP {P : Program} {F : Fence} {n : Nat} {c : Go.Code} {Q : Exit → Act → World → Prop} {a : Act} {w : World} (h : c.wpIn F n P (noP Q) a w) : c.wpIn F n P Q a w :=
  wpIn_mono h (by intro e a' w' h'; cases e <;> first | exact h' | exact h'.elim)
/-- append, under a name that no walk opens: its run is laid as an equation. -/
def appBox (ats : Array TypeId) (ty : TypeId) (args : Array Value) : Sem Value := Builtin.append_ ats ty args
theorem builtin_app (ats : Array TypeId) (ty : TypeId) (cs : Array Bool) (args : Array Value) : builtin .append ats ty cs args = (do pure (.value (← appBox ats ty args))) := rfl
section
attribute [local go_sem ↓ high] builtin_app
set_option maxHeartbeats 4000000 in
set_option maxRecDepth 100000 in
theorem write_is (m : MkR) (hm : FitM m) (w : World) (hT : FTab w) :
    Calls Tryd.prog 32 #[mkV m] w fun e w' => e = .returned (.string ⟨(encS m).toArray⟩) ∧ Ext w w' := by
  have HT := Lib.hid hT
  clear hT
  refine callsIn_wide.1 (callsIn_of_wp_marks (n := 0) Tryd.func32 rfl trivial ?_)
  simp only [Tryd.ntmps32, List.size_toArray, List.length_cons, List.length_nil, Nat.reduceAdd, Nat.reduceSub, Array.replicate_succ, Array.replicate_zero, List.push_toArray, List.append_toArray, List.nil_append, List.cons_append]
  gi_wp2
  refine wpIn_world ?_
  intro w1 hw1
  have b1 : Blk w1 (w.heap.size + 1) (mkC m) 78 := by
    rw [hw1]
    have h := (((Blk.new (w.alloc (.cells (mkC m) 23)) (mkC m) 78).alloc (.cells #[.int .u8 181] 5)).alloc (.cells #[.slice (some ⟨w.heap.size + 1 + 1, 0, none⟩) 1 1] 47))
    rw [World.size_alloc] at h
    exact h
  have b2 : Blk w1 (w.heap.size + 1 + 1) #[.int .u8 181] 5 := by
    rw [hw1]
    have h := (Blk.new ((w.alloc (.cells (mkC m) 23)).alloc (.cells (mkC m) 78)) #[.int .u8 181] 5).alloc (.cells #[.slice (some ⟨w.heap.size + 1 + 1, 0, none⟩) 1 1] 47)
    rw [World.size_alloc, World.size_alloc] at h
    exact h
  have b3 : Blk w1 (w.heap.size + 1 + 1 + 1) #[.slice (some ⟨w.heap.size + 1 + 1, 0, none⟩) 1 1] 47 := by
    rw [hw1]
    have h := Blk.new (((w.alloc (.cells (mkC m) 23)).alloc (.cells (mkC m) 78)).alloc (.cells #[.int .u8 181] 5)) #[.slice (some ⟨w.heap.size + 1 + 1, 0, none⟩) 1 1] 47
    rw [World.size_alloc, World.size_alloc, World.size_alloc] at h
    exact h
  have E1 : Ext w w1 := by rw [hw1]; exact (ext3 _ _ _ _).alloc (by simp; omega) _
  have hz : w1.heap.size = w.heap.size + 4 := by rw [hw1]; simp
  have hT1 := HT.out.ext E1
  have hg : 6 < w.heap.size := HT.out.lt
  have HZ := Lib.hid hz
  have o1 : w1.ownsRow w.heap.size 5 1 (.slice (some ⟨w.heap.size + 1 + 1, 0, none⟩) 1 1) 1 (((bytes7 m).map bv).take 1) :=
    ⟨rfl, .inr ⟨w.heap.size + 1 + 1, 1, #[.int .u8 181], rfl, by omega, b2, by omega, by decide, rfl, rfl⟩⟩
  clear hw1
  refine range_outerInV (D := fun k => k = 6) (w0 := w1) rfl (enters_of Tryd.func49 (by kernel_rfl) rfl) (bytes_iter (w.heap.size + 1) w1 hT1) (by rintro k rfl; omega) (Keep.refl _ _ _)
    (by intro x hx; simp only [byXs, List.mem_cons, List.not_mem_nil, or_false] at hx; rcases hx with rfl | rfl | rfl | rfl | rfl | rfl <;> rfl)
    (fun k u X => ∃ v, Blk X (w.heap.size + 1 + 1 + 1) #[v] 47 ∧ X.ownsRow w.heap.size 5 1 v (k + 1) (((bytes7 m).map bv).take (k + 1)) ∧ u = (fun b => v.ownBlock = some b) ∧ (∀ b, v.ownBlock = some b → b = w.heap.size + 1 + 1 ∨ w1.heap.size ≤ b) ∧ Blk X (w.heap.size + 1) (mkC m) 78 ∧ Ext w X) (fun _ _ _ _ => False)
    ?hI ?hIx ?hIb ?hIxb (u0 := fun b => (Value.slice (some ⟨w.heap.size + 1 + 1, 0, none⟩) 1 1).ownBlock = some b) ⟨_, b3, o1, rfl, fun b hb => .inl (by simpa [Value.ownBlock] using hb.symm), b1, E1⟩ ?hround ?hdone ?hstop
  case hI =>
    rintro k u A B ⟨v, h1, h2, rfl, h3, h4, h5⟩ hb hu
    exact ⟨v, h1.below hb (by omega), own_keep h2 (fun g _ _ hv => hu g hv), rfl, h3, h4.below hb (by omega), Below.trans h5 (hb.mono (by omega))⟩
  case hIx => intro c k u A B h; exact h.elim
  case hIb =>
    rintro k u A ⟨v, h1, h2, rfl, h3, h4, h5⟩ b hb
    exact (h2.lt b hb).2
  case hIxb => intro c k u A h; exact h.elim
  case hround =>
    rintro l k u x X hx hl hr hul ⟨v, h1, h2, rfl, h3, h4, h5⟩
    have HX := Lib.hid (And.intro h1 (And.intro h2 (And.intro h3 (And.intro h4 h5))))
    clear h1 h2 h3 h4 h5 hz
    rcases by_of hm hx with ⟨q, n, y, rfl, hq, hn, hy, htk, hlen, hk6⟩ | ⟨q, n, y, rfl, hq, hn, hy, htk, hlen, hk6⟩ | ⟨q, n, y, rfl, hq, hn, hy, htk, hlen, hk6⟩
    · clear hx
      gi_wp2
      refine to_bodyU hl hul hr ?_
      intro X1 hbl hub hof hr1
      obtain ⟨h1, h2, h3, h4, h5⟩ := HX.out
      have hz := HZ.out
      have hsX := h5.size
      have h1' := h1.below hbl (by omega)
      have h2' := own_keep h2 (fun g _ _ hv => hub g hv)
      have h4' := h4.below hbl (by omega)
      have h5' : Ext w X1 := Below.trans h5 (hbl.mono (by omega))
      have hs1 := h5'.size
      have c0 := h1'.cell 0
      have f0 := h1'.frozen 0
      have p0 := (h4'.cell q).trans hq
      simp only [List.getElem?_toArray, List.getElem?_cons_zero] at c0
      obtain ⟨v', w', hrun, r1, r2, r3⟩ := app_one (S := (bytes7 m).take (k + 1)) (k := k + 1) hlen (by omega) X1.drew (by rw [List.map_take]; exact own_ext h2' (Ext.refl X1).drew) hs1 y 47
      obtain ⟨A', c', rfl, _⟩ := rd_of_own r1
      have hbox : (appBox #[47, 47] 47 #[v, .slice (some ⟨X1.heap.size, 0, none⟩) 1 1]).run Tryd.prog (X1.alloc (.cells #[.int .u8 (IntKind.u8.wrap n)] 5)).drew = .ok (.slice A' (k + 1 + 1) c') w' := by
        have e : Value.int .u8 (IntKind.u8.wrap n) = bv y := by rw [bv, ← hy, Int.ediv_one]; rfl
        rw [e]; exact hrun
      clear hrun
      have hnb : v.ownBlock ≠ some (w.heap.size + 1 + 1 + 1) := fun e => by rcases h3 _ e with h | h <;> omega
      have q1w : Blk w' (w.heap.size + 1 + 1 + 1) #[v] 47 := (r2.block _ (h1'.drew.alloc _).lt (fun e => hnb e.symm)).trans (h1'.drew.alloc _)
      have c0' := q1w.cell 0
      have ca := (h1'.alloc (.cells #[.int .u8 (IntKind.u8.wrap n)] 5)).cell 0
      have f0' := q1w.frozen 0
      simp only [List.getElem?_toArray, List.getElem?_cons_zero] at c0' ca
      have HR := Lib.hid (And.intro h1' (And.intro h2' (And.intro h3 (And.intro h4' (And.intro h5' (And.intro r1 (And.intro r2 (And.intro r3 q1w))))))))
      have HQ := Lib.hid (And.intro htk hlen)
      have n0 := hn.1
      clear HX hz h1 h2 h3 h4 h5 h1' h2' h4' h5' hsX hs1 hof hbl hub hr1 hr hul r1 r2 r3 q1w hnb hq htk hlen hy
      gi_wp2
      gi_region
      all_goals
        gi_wp2
        exact wfin HZ.out hg HR.out HQ.out.1
    · clear hx
      gi_wp2
      refine to_bodyU hl hul hr ?_
      intro X1 hbl hub hof hr1
      obtain ⟨h1, h2, h3, h4, h5⟩ := HX.out
      have hz := HZ.out
      have hsX := h5.size
      have h1' := h1.below hbl (by omega)
      have h2' := own_keep h2 (fun g _ _ hv => hub g hv)
      have h4' := h4.below hbl (by omega)
      have h5' : Ext w X1 := Below.trans h5 (hbl.mono (by omega))
      have hs1 := h5'.size
      have c0 := h1'.cell 0
      have f0 := h1'.frozen 0
      have p0 := (h4'.cell q).trans hq
      simp only [List.getElem?_toArray, List.getElem?_cons_zero] at c0
      obtain ⟨v', w', hrun, r1, r2, r3⟩ := app_one (S := (bytes7 m).take (k + 1)) (k := k + 1) hlen (by omega) X1.drew (by rw [List.map_take]; exact own_ext h2' (Ext.refl X1).drew) hs1 y 47
      obtain ⟨A', c', rfl, _⟩ := rd_of_own r1
      have hbox : (appBox #[47, 47] 47 #[v, .slice (some ⟨X1.heap.size, 0, none⟩) 1 1]).run Tryd.prog (X1.alloc (.cells #[.int .u8 (IntKind.u8.wrap (n / 256))] 5)).drew = .ok (.slice A' (k + 1 + 1) c') w' := by
        have e : Value.int .u8 (IntKind.u8.wrap (n / 256)) = bv y := by rw [bv, ← hy]; rfl
        rw [e]; exact hrun
      clear hrun
      have hnb : v.ownBlock ≠ some (w.heap.size + 1 + 1 + 1) := fun e => by rcases h3 _ e with h | h <;> omega
      have q1w : Blk w' (w.heap.size + 1 + 1 + 1) #[v] 47 := (r2.block _ (h1'.drew.alloc _).lt (fun e => hnb e.symm)).trans (h1'.drew.alloc _)
      have c0' := q1w.cell 0
      have ca := (h1'.alloc (.cells #[.int .u8 (IntKind.u8.wrap (n / 256))] 5)).cell 0
      have f0' := q1w.frozen 0
      simp only [List.getElem?_toArray, List.getElem?_cons_zero] at c0' ca
      have HR := Lib.hid (And.intro h1' (And.intro h2' (And.intro h3 (And.intro h4' (And.intro h5' (And.intro r1 (And.intro r2 (And.intro r3 q1w))))))))
      have HQ := Lib.hid (And.intro htk hlen)
      have n0 := hn.1
      clear HX hz h1 h2 h3 h4 h5 h1' h2' h4' h5' hsX hs1 hof hbl hub hr1 hr hul r1 r2 r3 q1w hnb hq htk hlen hy
      gi_wp2
      gi_region
      all_goals
        gi_wp2
        exact wfin HZ.out hg HR.out HQ.out.1
    · clear hx
      gi_wp2
      refine to_bodyU hl hul hr ?_
      intro X1 hbl hub hof hr1
      obtain ⟨h1, h2, h3, h4, h5⟩ := HX.out
      have hz := HZ.out
      have hsX := h5.size
      have h1' := h1.below hbl (by omega)
      have h2' := own_keep h2 (fun g _ _ hv => hub g hv)
      have h4' := h4.below hbl (by omega)
      have h5' : Ext w X1 := Below.trans h5 (hbl.mono (by omega))
      have hs1 := h5'.size
      have c0 := h1'.cell 0
      have f0 := h1'.frozen 0
      have p0 := (h4'.cell q).trans hq
      simp only [List.getElem?_toArray, List.getElem?_cons_zero] at c0
      obtain ⟨v', w', hrun, r1, r2, r3⟩ := app_one (S := (bytes7 m).take (k + 1)) (k := k + 1) hlen (by omega) X1.drew (by rw [List.map_take]; exact own_ext h2' (Ext.refl X1).drew) hs1 y 47
      obtain ⟨A', c', rfl, _⟩ := rd_of_own r1
      have hbox : (appBox #[47, 47] 47 #[v, .slice (some ⟨X1.heap.size, 0, none⟩) 1 1]).run Tryd.prog (X1.alloc (.cells #[.int .u8 (IntKind.u8.wrap (n / 65536))] 5)).drew = .ok (.slice A' (k + 1 + 1) c') w' := by
        have e : Value.int .u8 (IntKind.u8.wrap (n / 65536)) = bv y := by rw [bv, ← hy]; rfl
        rw [e]; exact hrun
      clear hrun
      have hnb : v.ownBlock ≠ some (w.heap.size + 1 + 1 + 1) := fun e => by rcases h3 _ e with h | h <;> omega
      have q1w : Blk w' (w.heap.size + 1 + 1 + 1) #[v] 47 := (r2.block _ (h1'.drew.alloc _).lt (fun e => hnb e.symm)).trans (h1'.drew.alloc _)
      have c0' := q1w.cell 0
      have ca := (h1'.alloc (.cells #[.int .u8 (IntKind.u8.wrap (n / 65536))] 5)).cell 0
      have f0' := q1w.frozen 0
      simp only [List.getElem?_toArray, List.getElem?_cons_zero] at c0' ca
      have HR := Lib.hid (And.intro h1' (And.intro h2' (And.intro h3 (And.intro h4' (And.intro h5' (And.intro r1 (And.intro r2 (And.intro r3 q1w))))))))
      have HQ := Lib.hid (And.intro htk hlen)
      have n0 := hn.1
      clear HX hz h1 h2 h3 h4 h5 h1' h2' h4' h5' hsX hs1 hof hbl hub hr1 hr hul r1 r2 r3 q1w hnb hq htk hlen hy
      gi_wp2
      gi_region
      all_goals
        gi_wp2
        exact wfin HZ.out hg HR.out HQ.out.1
  case hdone =>
    rintro K u X hK hKu ⟨v, h1, h2, rfl, h3, h4, h5⟩ hKd
    rw [show (byXs (w.heap.size + 1)).length = 6 from rfl, show ((bytes7 m).map bv).take (6 + 1) = (bytes7 m).map bv from rfl] at h2
    change X.ownsRow _ _ _ v 7 _ at h2
    obtain ⟨A, c, rfl, hrd⟩ := rd_of_own h2
    have c0 := h1.cell 0
    have hsX := h5.size
    have V := Lib.hid (show Calls Tryd.prog 50 #[.slice A 7 c] X.drew _ from even_is A c (bytes7 m) (by show 7 ≤ 100; decide) X.drew (rd8 (hrd.ext (Ext.refl X).drew) rfl))
    obtain ⟨v', w', hrun, r1, r2, r3⟩ := app_one (S := bytes7 m) (k := 7) rfl (by decide) X.drew (own_ext h2 (Ext.refl X).drew) hsX (xorL (bytes7 m)) 47
    obtain ⟨A', c', rfl, hrd'⟩ := rd_of_own r1
    obtain ⟨ad, rfl, hab, hcell⟩ := hrd' (by decide)
    have hbox : (appBox #[47, 47] 47 #[.slice A 7 c, .slice (some ⟨X.heap.size, 0, none⟩) 1 1]).run Tryd.prog (X.alloc (.cells #[.int .u8 ((xorL (bytes7 m)).toNat : Int)] 5)).drew = .ok (.slice (some ad) 8 c') w' := hrun
    have kc : (convert 47 9 (.slice (some ad) 8 c')).run Tryd.prog w' = .ok (.string ⟨(encS m).toArray⟩) w' := run_convert_bytes_back (P := Tryd.prog) w' 47 9 5 ad c' (encS m) Tryd.underlying47 Tryd.underlying5 Tryd.underlying9 (fun j hj => by
      have h8 : j < 7 + 1 := hj
      rw [hcell j h8]
      show some (((encS m).map bv).getD j undef) = _
      simp [List.getD_eq_getElem?_getD, hj, bv])
    have hXE : Ext w w' := Below.grown (Ext.trans h5 ((Ext.refl X).drew.alloc (Nat.le_refl _) _)) r2 (by simp; omega) (fun g hg => own_block h2 g hg)
    have hKw : w'.heap[K]? = some (.deferred (some [])) := by
      have e0 : (X.drew.alloc (.cells #[bv (xorL (bytes7 m))] 5)).heap[K]? = X.heap[K]? := Below.heap_alloc _ _ _ (Array.getElem?_eq_some_iff.1 hKd).1
      rw [r2.block K (by have := (Array.getElem?_eq_some_iff.1 hKd).1; simp; omega) (fun e => hKu e.symm), e0]
      exact hKd
    have HF := Lib.hid (And.intro hXE hKw)
    simp only [List.getElem?_toArray, List.getElem?_cons_zero] at c0
    have ca := (h1.alloc (.cells #[.int .u8 ((xorL (bytes7 m)).toNat : Int)] 5)).cell 0
    simp only [List.getElem?_toArray, List.getElem?_cons_zero] at ca
    clear hrun r1 r2 r3 hrd hrd' hcell h1 h2 h3 h4 h5 hKd hXE hKw hab
    generalize ((xorL (bytes7 m)).toNat : Int) = z at *
    gi_wp2
    refine wpIn_noP ?_
    gi_region_with (gi_at_call 50; refine (callsIn_wide.2 V.out).mono ?_; rintro e w2 ⟨rfl, rfl⟩)
    all_goals
      dsimp only [noP]
      gi_wp2
      refine leave_mark HF.out.2 (results_tmp rfl _ _ _) ⟨rfl, ?_⟩
      exact Below.trans HF.out.1 (below_putObj _ K w.heap.size _ (by have := HZ.out; omega))
  case hstop => intro K c k u W _ _ _ h; exact h.elim
end
end H
end Go.Proofs.YtfpefffgegphnaaDoor
