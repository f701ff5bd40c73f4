/- What listed package variables hold, cell by cell: plain data decoded, sentinel errors, pairwise apart. -/
import Derived.Test.YtfpefffgegphnaaDoorRF
import Derived.ProofKit
import Derived.LaidMore
import Derived.OpenShut
import Derived.Stop.LaidErr
import Derived.Stop.Joined
namespace Go.Proofs.YtfpefffgegphnaaDoor
open Go Go.RowKit

/-- The fields one behind the other, from off on. -/
def decF (P : Program) (g : TypeId → DataW Unit → Option (List Value)) : Nat → List Field → List (DataW Unit) → Option (List Value)
  | _, [], [] => some []
  | off, f :: fs, d :: ds =>
    match g f.type d with
    | some v => if f.offset = off ∧ v.length = P.cellsOf f.type then
        match decF P g (off + v.length) fs ds with
        | some r => some (v ++ r)
        | none => none
      else none
    | none => none
  | _, _, _ => none
def decA (g : DataW Unit → Option (List Value)) (c : Nat) : List (DataW Unit) → Option (List Value)
  | [] => some []
  | d :: ds =>
    match g d with
    | some v => if v.length = c then
        match decA g c ds with
        | some r => some (v ++ r)
        | none => none
      else none
    | none => none
/-- The cells of a plain datum. -/
def dec (P : Program) : Nat → TypeId → DataW Unit → Option (List Value)
  | 0, _, _ => none
  | n + 1, t, d =>
    match P.underlying t, d with
    | some (.int k), .lit (.int k' a) => if k' = k then some [.int k a] else none
    | some .bool, .lit (.bool b) => some [.bool b]
    | some .string, .lit (.string s) => some [.string ⟨s.toArray⟩]
    | some (.array m e), .agg ds =>
      match decA (dec P n e) (P.cellsOf e) ds with
      | some r => if ds.length = m ∧ r.length = P.cellsOf t then some r else none
      | none => none
    | some (.struct fs), .agg ds =>
      match decF P (dec P n) 0 fs.toList ds with
      | some r => if r.length = P.cellsOf t then some r else none
      | none => none
    | _, _ => none

theorem take_drop_append (cs v r : List Value) (off : Nat) (h1 : (cs.drop off).take v.length = v) (h2 : (cs.drop (off + v.length)).take r.length = r) : (cs.drop off).take (v ++ r).length = v ++ r := by
  rw [List.length_append, List.take_add, h1, List.drop_drop, h2]

theorem decF_sound {P : Program} {g : TypeId → DataW Unit → Option (List Value)} {w : World} {sp : Nat → Bool} {held : Bool} {base fuel : Nat} {cs : List Value}
    (hg : ∀ t d vs cs' p, g t d = some vs → DataW.trod (fun _ => ()) P w base sp held fuel t cs' = some (d, p) → cs' = vs) :
    ∀ (fs : List Field) (ds : List (DataW Unit)) (ps : List (List MemPlace)) (off : Nat) (r : List Value), decF P g off fs ds = some r → ds.length = ps.length →
      (∀ (i : Nat) (f : Field), fs[i]? = some f → DataW.trod (fun _ => ()) P w base sp held fuel f.type ((cs.drop f.offset).take (P.cellsOf f.type)) = (ds.zip ps)[i]?) → (cs.drop off).take r.length = r
  | [], [], _, _, _, h, _, _ => by simp [decF] at h; subst h; simp
  | [], _ :: _, _, _, _, h, _, _ => by simp [decF] at h
  | _ :: _, [], _, _, _, h, _, _ => by simp [decF] at h
  | f :: fs, d :: ds, [], _, _, _, hl, _ => by simp at hl
  | f :: fs, d :: ds, p :: ps, off, r, h, hl, ht => by
    simp only [decF] at h
    split at h
    · rename_i v hv
      split at h
      · rename_i hof
        split at h
        · rename_i r' hr'
          cases h
          have h0 := ht 0 f rfl
          simp at h0
          have e0 := hg _ _ _ _ _ hv h0
          rw [hof.1, ← hof.2] at e0
          exact take_drop_append cs v r' off e0 (decF_sound hg fs ds ps (off + v.length) r' hr' (by simpa using hl) (fun i f' hf' => by simpa using ht (i + 1) f' (by simpa using hf')))
        · cases h
      · cases h
    · cases h

theorem decA_sound {P : Program} {g : DataW Unit → Option (List Value)} {w : World} {sp : Nat → Bool} {held : Bool} {base fuel : Nat} {cs : List Value} {e : TypeId}
    (hg : ∀ d vs cs' p, g d = some vs → DataW.trod (fun _ => ()) P w base sp held fuel e cs' = some (d, p) → cs' = vs) :
    ∀ (ds : List (DataW Unit)) (ps : List (List MemPlace)) (k : Nat) (r : List Value), decA g (P.cellsOf e) ds = some r → ds.length = ps.length →
      (∀ i, i < ds.length → DataW.trod (fun _ => ()) P w base sp held fuel e ((cs.drop ((k + i) * P.cellsOf e)).take (P.cellsOf e)) = (ds.zip ps)[i]?) → (cs.drop (k * P.cellsOf e)).take r.length = r
  | [], _, _, _, h, _, _ => by simp [decA] at h; subst h; simp
  | d :: ds, [], _, _, _, hl, _ => by simp at hl
  | d :: ds, p :: ps, k, r, h, hl, ht => by
    simp only [decA] at h
    split at h
    · rename_i v hv
      split at h
      · rename_i hof
        split at h
        · rename_i r' hr'
          cases h
          have h0 := ht 0 (by simp)
          simp at h0
          have e0 := hg _ _ _ _ hv h0
          rw [← hof] at e0
          refine take_drop_append cs v r' _ (by rw [hof] at e0 ⊢; exact e0) ?_
          have := decA_sound hg ds ps (k + 1) r' hr' (by simpa using hl) (fun i hi => by
            have := ht (i + 1) (by simpa using hi)
            simpa [Nat.add_assoc, Nat.add_comm 1 i] using this)
          rw [hof, show k * P.cellsOf e + P.cellsOf e = (k + 1) * P.cellsOf e by rw [Nat.add_mul, Nat.one_mul]]
          exact this
        · cases h
      · cases h
    · cases h

theorem zip_fst_snd {α β : Type} : ∀ (xs : List (α × β)), (xs.map (·.1)).zip (xs.map (·.2)) = xs
  | [] => rfl
  | x :: xs => by simp [zip_fst_snd xs]

theorem dec_sound {P : Program} {w : World} {sp : Nat → Bool} {held : Bool} {base : Nat} : ∀ (n : Nat) (t : TypeId) (d : DataW Unit) (vs : List Value) (fuel : Nat) (cs : List Value) (p : List MemPlace),
    dec P n t d = some vs → DataW.trod (fun _ => ()) P w base sp held fuel t cs = some (d, p) → cs = vs
  | 0, _, _, _, _, _, _, h, _ => by simp [dec] at h
  | n + 1, t, d, vs, fuel, cs, p, h, ht => by
    simp only [dec] at h
    split at h
    · rename_i k k' a hu
      obtain ⟨m, rfl, hx, _⟩ := DataW.trod_int hu ht
      simp only [Prod.mk.injEq, DataW.lit.injEq, Lit.int.injEq] at hx
      split at h
      · cases h; rw [hx.1.2]
      · cases h
    · rename_i b hu
      obtain ⟨m, rfl, hx⟩ := DataW.trod_bool hu ht
      simp only [Prod.mk.injEq, DataW.lit.injEq, Lit.bool.injEq] at hx
      cases h; rw [hx.1]
    · rename_i s hu
      obtain ⟨m, rfl, hx, _⟩ := DataW.trod_string hu ht
      simp only [Prod.mk.injEq, DataW.lit.injEq, Lit.string.injEq] at hx
      cases h; rw [hx.1]
    · rename_i m e ds hu
      split at h
      · rename_i r hr
        split at h
        · rename_i hl
          cases h
          obtain ⟨xs, f, rfl, hx, hcl, hxl, hel⟩ := DataW.trod_array hu ht
          simp only [Prod.mk.injEq, DataW.agg.injEq] at hx
          obtain ⟨rfl, _⟩ := hx
          have := decA_sound (cs := cs) (fun d' vs' cs' p' h1 h2 => dec_sound n e d' vs' f cs' p' h1 h2) _ (xs.map (·.2)) 0 vs hr (by simp) (fun i hi => by
            rw [zip_fst_snd, Nat.zero_add]; exact hel i (by simp at hi; omega))
          simp only [Nat.zero_mul, List.drop_zero] at this
          rw [← this, List.take_of_length_le (by omega)]
        · cases h
      · cases h
    · rename_i fs ds hu
      split at h
      · rename_i r hr
        split at h
        · rename_i hl
          cases h
          obtain ⟨xs, f, rfl, hx, hcl, hxl, hel⟩ := DataW.trod_struct hu ht
          simp only [Prod.mk.injEq, DataW.agg.injEq] at hx
          obtain ⟨rfl, _⟩ := hx
          have := decF_sound (cs := cs) (fun t' d' vs' cs' p' h1 h2 => dec_sound n t' d' vs' f cs' p' h1 h2) _ _ (xs.map (·.2)) 0 vs hr (by simp) (fun i f' hf' => by
            rw [zip_fst_snd]; exact hel i f' (by simpa using hf'))
          simp only [List.drop_zero] at this
          rw [← this, List.take_of_length_le (by omega)]
        · cases h
      · cases h
    · cases h

/-- A variable of the list, with the places that it and its datum take. -/
structure At (P : Program) (W : World) (nm : String) (d : DataW Unit) (qs : List MemPlace) : Prop where
  got : ∃ g t cs fuel p, P.globalNamed nm = some g ∧ (P.globals[g]?).map (·.type) = some t ∧ W.var? P nm = some cs ∧
    DataW.trod (fun _ => ()) P W 0 (fun _ => true) false fuel t cs.toList = some (d, p) ∧ qs = MemPlace.row ⟨g, 0, none⟩ cs.size ++ p

theorem laidVars_at {P : Program} {W : World} : ∀ (laid : List (String × DataW Unit)) (ps : List MemPlace), DataW.LaidVars P W laid ps → ∀ (i : Nat) (nm : String) (d : DataW Unit), laid[i]? = some (nm, d) → ∃ qs, At P W nm d qs ∧ qs.Sublist ps
  | [], _, _, i, _, _, h => by simp at h
  | (n, d0) :: r, ps, hl, i, nm, d, h => by
    obtain ⟨g, t, cs, fuel, p, q, h1, h2, h3, h4, h5, rfl⟩ := hl
    rcases i with _ | i
    · simp only [List.getElem?_cons_zero, Option.some.injEq, Prod.mk.injEq] at h
      obtain ⟨rfl, rfl⟩ := h
      exact ⟨_, ⟨g, t, cs, fuel, p, h1, h2, h3, h4, rfl⟩, List.sublist_append_left _ _⟩
    · obtain ⟨qs, ha, hs⟩ := laidVars_at r q h5 i nm d (by simpa using h)
      exact ⟨qs, ha, hs.trans (List.sublist_append_right _ _)⟩

theorem laidVars_two {P : Program} {W : World} : ∀ (laid : List (String × DataW Unit)) (ps : List MemPlace), DataW.LaidVars P W laid ps → ∀ (i j : Nat) (nm nm' : String) (d d' : DataW Unit), i < j → laid[i]? = some (nm, d) → laid[j]? = some (nm', d') →
    ∃ qs qs', At P W nm d qs ∧ At P W nm' d' qs' ∧ (qs ++ qs').Sublist ps
  | [], _, _, i, _, _, _, _, _, _, h, _ => by simp at h
  | (n, d0) :: r, ps, hl, i, j, nm, nm', d, d', hij, h, h' => by
    obtain ⟨g, t, cs, fuel, p, q, h1, h2, h3, h4, h5, rfl⟩ := hl
    rcases j with _ | j
    · omega
    · rcases i with _ | i
      · simp only [List.getElem?_cons_zero, Option.some.injEq, Prod.mk.injEq] at h
        obtain ⟨rfl, rfl⟩ := h
        obtain ⟨qs, ha, hs⟩ := laidVars_at r q h5 j nm' d' (by simpa using h')
        exact ⟨_, qs, ⟨g, t, cs, fuel, p, h1, h2, h3, h4, rfl⟩, ha, (List.Sublist.refl _).append hs⟩
      · obtain ⟨qs, qs', ha, ha', hs⟩ := laidVars_two r q h5 i j nm nm' d d' (by omega) (by simpa using h) (by simpa using h')
        exact ⟨qs, qs', ha, ha', hs.trans (List.sublist_append_right _ _)⟩

/-- The cells of a listed variable of plain data. -/
theorem laid_cells {P : Program} {W : World} {laid : List (String × DataW Unit)} (h : laidMet P laid W) (i : Nat) {nm : String} {d : DataW Unit} (hi : laid[i]? = some (nm, d)) {g : Nat} {t : TypeId} (n : Nat) {vs : List Value}
    (hg : P.globalNamed nm = some g) (ht : (P.globals[g]?).map (·.type) = some t) (hd : dec P n t d = some vs) (o : Nat) : W.cell? ⟨g, o, none⟩ = vs[o]? := by
  obtain ⟨ps, hl, _, _⟩ := h
  obtain ⟨qs, ⟨g', t', cs, fuel, p, h1, h2, h3, h4, _⟩, _⟩ := laidVars_at _ _ hl i nm d hi
  obtain rfl := Option.some.inj (hg.symm.trans h1)
  obtain rfl := Option.some.inj (ht.symm.trans h2)
  have := dec_sound n t d vs fuel _ p hd h4
  rw [World.var?_cell h1 h3 o, ← this]
  simp

/-- What is asked of the types of an error made by errors.New. -/
structure ErrTypes (P : Program) (ti tp : TypeId) : Prop where
  i : ∃ ms, P.underlying ti = some (.interface ms)
  row : ∀ u, P.typeName? 3 u = some "*errors.errorString" → u = tp
  rest : ∃ te ts f, P.underlying tp = some (.pointer te) ∧ P.underlying te = some (.struct #[f]) ∧ f.type = ts ∧ f.offset = 0 ∧ P.underlying ts = some .string ∧ P.cellsOf te = 1 ∧ P.cellsOf ts = 1

theorem at_sentinel {P : Program} {W : World} {ps : List MemPlace} {nm : String} {text : List UInt8} {qs : List MemPlace} {g : Nat} {ti tp : TypeId} (hT : ErrTypes P ti tp)
    (hrows : ∀ b off, MemPlace.cell b off ∈ ps → (∃ c t, W.heap[b]? = some (.cells c t (0, 0))) ∧ ∀ u v, W.cell? ⟨b, off, none⟩ = some (.iface u v) → Value.okWide P W .any 0 u v)
    (ha : At P W nm (.iface "*errors.errorString" (.ptr (.agg [.lit (.string text)]))) qs) (hs : qs.Sublist ps) (hg : P.globalNamed nm = some g) (ht : (P.globals[g]?).map (·.type) = some ti) :
    ∃ a c t, W.cell? ⟨g, 0, none⟩ = some (.iface tp (.pointer (some a))) ∧ W.heap[a.block]? = some (.cells c t (0, 0)) ∧ MemPlace.cell a.block a.off ∈ qs := by
  obtain ⟨ms, hi⟩ := hT.i
  obtain ⟨te, ts, f, hp, he, hft, hfo, hst, hc, hcs⟩ := hT.rest
  obtain ⟨g', t', cs, fuel, p, h1, h2, h3, h4, rfl⟩ := ha
  obtain rfl := Option.some.inj (hg.symm.trans h1)
  obtain rfl := Option.some.inj (ht.symm.trans h2)
  obtain ⟨l⟩ := cs
  have ok : ∀ u v, l = [.iface u v] → Value.okWide P W .any 0 u v := fun u v e => by
    subst e
    exact (hrows g 0 (hs.subset (by simp [MemPlace.row]))).2 u v (by simpa using World.var?_cell h1 h3 0)
  obtain ⟨a, s, rfl, hca, _, _, rfl⟩ := errorString_of_trod hi hT.row hp he hft hfo hst hc hcs h4 ok
  have hm : MemPlace.cell a.block a.off ∈ MemPlace.row ⟨g, 0, none⟩ (⟨[Value.iface tp (.pointer (some a))]⟩ : Array Value).size ++ MemPlace.row a 1 := by simp [MemPlace.row]
  obtain ⟨c, t, hb⟩ := (hrows a.block a.off (hs.subset hm)).1
  exact ⟨a, c, t, by simpa using World.var?_cell h1 h3 0, hb, hm⟩

/-- A listed sentinel. -/
theorem laid_err {P : Program} {W : World} {laid : List (String × DataW Unit)} (h : laidMet P laid W) (i : Nat) {nm : String} {text : List UInt8} (hi : laid[i]? = some (nm, .iface "*errors.errorString" (.ptr (.agg [.lit (.string text)])))) {g : Nat} {ti tp : TypeId} (hT : ErrTypes P ti tp)
    (hg : P.globalNamed nm = some g) (ht : (P.globals[g]?).map (·.type) = some ti) : ∃ a c t, W.cell? ⟨g, 0, none⟩ = some (.iface tp (.pointer (some a))) ∧ W.heap[a.block]? = some (.cells c t (0, 0)) := by
  obtain ⟨ps, hl, _, hrows⟩ := h
  obtain ⟨qs, ha, hs⟩ := laidVars_at _ _ hl i nm _ hi
  obtain ⟨a, c, t, h1, h2, _⟩ := at_sentinel hT hrows ha hs hg ht
  exact ⟨a, c, t, h1, h2⟩

/-- Two listed sentinels are two pointers. -/
theorem laid_errs_ne {P : Program} {W : World} {laid : List (String × DataW Unit)} (h : laidMet P laid W) (i j : Nat) (hij : i < j) {nm nm' : String} {text text' : List UInt8} (hi : laid[i]? = some (nm, .iface "*errors.errorString" (.ptr (.agg [.lit (.string text)])))) (hj : laid[j]? = some (nm', .iface "*errors.errorString" (.ptr (.agg [.lit (.string text')]))))
    {g g' : Nat} {ti tp : TypeId} (hT : ErrTypes P ti tp) (hg : P.globalNamed nm = some g) (ht : (P.globals[g]?).map (·.type) = some ti) (hg' : P.globalNamed nm' = some g') (ht' : (P.globals[g']?).map (·.type) = some ti)
    {a a' : Addr} (ha : W.cell? ⟨g, 0, none⟩ = some (.iface tp (.pointer (some a)))) (ha' : W.cell? ⟨g', 0, none⟩ = some (.iface tp (.pointer (some a')))) : a ≠ a' := by
  obtain ⟨ps, hl, hnd, hrows⟩ := h
  obtain ⟨qs, qs', h1, h2, hs⟩ := laidVars_two _ _ hl i j nm nm' _ _ hij hi hj
  obtain ⟨b, c, t, e1, _, m1⟩ := at_sentinel hT hrows h1 ((List.sublist_append_left _ _).trans hs) hg ht
  obtain ⟨b', c', t', e2, _, m2⟩ := at_sentinel hT hrows h2 ((List.sublist_append_right _ _).trans hs) hg' ht'
  rw [ha] at e1
  rw [ha'] at e2
  cases e1
  cases e2
  rintro rfl
  have := hnd.sublist hs
  rw [List.nodup_append] at this
  exact this.2.2 _ m1 _ m2 rfl
end Go.Proofs.YtfpefffgegphnaaDoor
