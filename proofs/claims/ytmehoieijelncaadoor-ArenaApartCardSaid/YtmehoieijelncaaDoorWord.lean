/- arena: word, setWord; Load, Store. -/
import Derived.Test.YtmehoieijelncaaDoorOn
import Derived.Laws.BitsAllLaws
namespace Go.Proofs.YtmehoieijelncaaDoor
open Go.RowKit Go
attribute [local go_sem] Oper.semAt_some
section
variable {a : Nat → Addr}

/-- the first k bytes from x on, the least part first -/
def wv (L : List UInt8) (x : Nat) : Nat → Nat
  | 0 => 0
  | k + 1 => wv L x k + 256 ^ k * (L.getD (x + k) 0).toNat
theorem wv_lt (L : List UInt8) (x : Nat) : ∀ k, wv L x k < 256 ^ k
  | 0 => by simp [wv]
  | k + 1 => by
    have h1 := wv_lt L x k
    have h2 := (L.getD (x + k) 0).toNat_lt
    have h3 : 256 ^ k * (L.getD (x + k) 0).toNat ≤ 256 ^ k * 255 := Nat.mul_le_mul_left _ (by omega)
    unfold wv
    rw [Nat.pow_succ]
    omega
theorem or_form (V d m : Nat) (hV : V < 2 ^ m) (hm : 2 ^ m * d < 4294967296) (hV2 : V < 4294967296) : bits .or .u32 (V : Int) ((2 ^ m * d : Nat) : Int) = ((V + 2 ^ m * d : Nat) : Int) := by
  rw [u32_or_nat _ _ hV2 hm]
  congr 1
  rw [Nat.or_comm, ← Nat.two_pow_add_eq_or_of_lt hV, Nat.add_comm]

theorem u32_small (d : Nat) (h : d < 4294967296) : IntKind.u32.wrap (d : Int) = d := by
  simp only [IntKind.wrap, IntKind.signed, IntKind.bits]; simp; omega
set_option maxHeartbeats 4000000 in
set_option maxRecDepth 100000 in
theorem word_any (p g : Nat) (L : List UInt8) (x : Nat) (hx : x + 4 ≤ L.length) (w : World) (hA : Ar w p g L) :
    Calls Tryd.prog 42 #[ptr p, .int .i64 (x : Nat)] w fun e w' => e = .returned (.int .u32 (wv L x 4 : Nat)) ∧ Ext w w' := by
  refine calls_of_marks Tryd.func42 rfl ?_
  simp only [Tryd.ntmps42, List.size_toArray, List.length_cons, List.length_nil, Nat.reduceAdd, Nat.reduceSub, Array.replicate_succ, Array.replicate_zero, List.push_toArray, List.append_toArray, List.nil_append, List.cons_append]
  have A' := Lib.hid hA
  clear hA
  go_wp2
  go_step3
  go_wp2_with (go_at_call 48; refine (onward_mk _ _ _).mono ?_; rintro e w' ⟨rfl, rfl⟩)
  go_step3
  go_wp2_with (go_at_call 48; refine (onward_mk _ _ _).mono ?_; rintro e w' ⟨rfl, rfl⟩)
  refine wp_world ?_
  intro w1 hw1
  have hE1 : Ext w w1 := by rw [hw1]; exact ext3 _ _ _ _
  have hz1 : w1.heap.size = w.heap.size + 3 := by rw [hw1]; simp
  have hb0 : Blk w1 w.heap.size #[.int .u32 0] 34 := by rw [hw1]; exact ((Blk.new _ _ _).alloc _).alloc _
  have hb1 : Blk w1 (w.heap.size + 1) #[ptr p] 81 := by rw [hw1]; have := (Blk.new (w.alloc (.cells #[.int .u32 0] 34)) #[ptr p] 81).alloc (.cells #[.int .i64 (x : Nat)] 3); rwa [World.size_alloc] at this
  have hb2 : Blk w1 (w.heap.size + 1 + 1) #[.int .i64 (x : Nat)] 3 := by
    rw [hw1]
    have := Blk.new ((w.alloc (.cells #[.int .u32 0] 34)).alloc (.cells #[ptr p] 81)) #[.int .i64 (x : Nat)] 3
    rw [World.size_alloc, World.size_alloc] at this
    exact this
  clear hw1
  have hAr := A'.out.ext hE1
  have hlt1 := A'.out.p.lt
  have hlt2 := A'.out.b.lt
  refine range_outer (D := fun k => k = w.heap.size + 1 ∨ k = w.heap.size + 1 + 1 ∨ k = p ∨ k = g) rfl (enters_of Tryd.func54 (by kernel_rfl) rfl)
    (onward_iter p g L x (by omega) (w.heap.size + 1) (w.heap.size + 1 + 1) w1 hAr (by omega) (by omega) (hb1.cell 0) (hb2.cell 0)) (by rintro k (rfl | rfl | rfl | rfl) <;> omega) (Keep.refl _ _ _) (by intro x hx; obtain ⟨i, _, rfl⟩ := List.mem_map.1 hx; rfl)
    (fun k W => Ext w W ∧ k ≤ 4 ∧ Blk W w.heap.size #[.int .u32 (wv L x k : Nat)] 34) (fun c _ W => c = .exit 0 ∧ Ext w W ∧ Blk W w.heap.size #[.int .u32 (wv L x 4 : Nat)] 34) ?hI ?hIx ⟨hE1, by omega, hb0⟩ ?hround ?hdone ?hstop
  case hI =>
    rintro k A B ⟨h1, h2, h3⟩ hb
    exact ⟨Below.trans h1 (hb.mono (by omega)), h2, h3.below hb (by omega)⟩
  case hIx =>
    rintro c k A B ⟨rfl, h1, h2⟩ hb
    exact ⟨rfl, Below.trans h1 (hb.mono (by omega)), h2.below hb (by omega)⟩
  case hround =>
    rintro l k v W hv hl hr ⟨hE, hk4, hB0⟩
    obtain ⟨hk, rfl⟩ := onXs_cases hv
    clear hv
    have hd := getD_lt L (x + k)
    have hV := wv_lt L x k
    have hst : wv L x (k + 1) = wv L x k + 256 ^ k * (L.getD (x + k) 0).toNat := rfl
    have H := Lib.hid (And.intro hE (And.intro hB0 (And.intro hst (And.intro hV hd))))
    clear hE hB0 hst
    generalize hdg : (L.getD (x + k) 0).toNat = d at *
    have hd0 : (0 : Int) ≤ d := by omega
    rcases k with _ | _ | _ | _ | _ | k
    · have e0 : IntKind.i64.wrap 0 = 0 := by rfl
      have e1 := u32_small d (by omega)
      obtain ⟨sd, hsd⟩ : ∃ sd, 2 ^ 0 * d = sd := ⟨_, rfl⟩
      gi_wp2
      refine to_body (by omega) hr ?_
      intro W' hW' hr'
      obtain ⟨hE, hB0, hst, hV, hd⟩ := H.out
      replace hE := Below.trans hE (hW'.mono (by omega))
      replace hB0 := hB0.below hW' (by omega)
      have hfin : bits .or .u32 ((wv L x 0 : Nat) : Int) (sd : Int) = ((wv L x (0 + 1) : Nat) : Int) := by
        rw [hst, ← hsd, or_form (wv L x 0) d 0 (by simpa using hV) (by omega) (by simp at hV; omega)]
      have hsd' : sd = d := by omega
      subst hsd'
      have c0 := hB0.cell 0
      have f0 := hB0.frozen 0
      simp only [List.getElem?_toArray, List.getElem?_cons_zero] at c0
      generalize wv L x 0 = V at *
      have H' := Lib.hid (And.intro hE (And.intro hB0 hfin))
      clear hE hB0 H hr hr' hW' hst hfin hsd hV hd
      gi_wp2
      gi_region
      all_goals
        gi_wp2
        rw [H'.out.2.2]
        refine ⟨?_, ?_, by omega, ?_⟩
        · first
            | exact ((Keep.refl _ _ _).setCell _ _ (.inl (by show w.heap.size < _; omega)) (.inl (by show ¬ (w.heap.size = _ ∨ w.heap.size = _ ∨ w.heap.size = _ ∨ w.heap.size = _); omega))).drew
            | exact (Keep.refl _ _ _).drew.setCell _ _ (.inl (by show w.heap.size < _; omega)) (.inl (by show ¬ (w.heap.size = _ ∨ w.heap.size = _ ∨ w.heap.size = _ ∨ w.heap.size = _); omega))
        · first
            | exact (H'.out.1.setCell (p := ⟨w.heap.size, _, none⟩) (Nat.le_refl _) _).drew
            | exact H'.out.1.drew.setCell (p := ⟨w.heap.size, _, none⟩) (Nat.le_refl _) _
        · first
            | exact (H'.out.2.1.set 0 _).drew
            | exact H'.out.2.1.drew.set 0 _
    · have e0 : IntKind.i64.wrap 8 = 8 := by rfl
      have e1 := u32_small d (by omega)
      obtain ⟨sd, hsd⟩ : ∃ sd, 2 ^ 8 * d = sd := ⟨_, rfl⟩
      have e2 : IntKind.u32.wrap ((d : Int) * 256) = (sd : Int) := by rw [← u32_small sd (by omega), ← hsd]; congr 1; omega
      gi_wp2
      refine to_body (by omega) hr ?_
      intro W' hW' hr'
      obtain ⟨hE, hB0, hst, hV, hd⟩ := H.out
      replace hE := Below.trans hE (hW'.mono (by omega))
      replace hB0 := hB0.below hW' (by omega)
      have hfin : bits .or .u32 ((wv L x 1 : Nat) : Int) (sd : Int) = ((wv L x (1 + 1) : Nat) : Int) := by
        rw [hst, ← hsd, or_form (wv L x 1) d 8 (by simpa using hV) (by omega) (by simp at hV; omega)]
      have c0 := hB0.cell 0
      have f0 := hB0.frozen 0
      simp only [List.getElem?_toArray, List.getElem?_cons_zero] at c0
      generalize wv L x 1 = V at *
      have H' := Lib.hid (And.intro hE (And.intro hB0 hfin))
      clear hE hB0 H hr hr' hW' hst hfin hsd hV hd
      gi_wp2
      gi_region
      all_goals
        gi_wp2
        rw [H'.out.2.2]
        refine ⟨?_, ?_, by omega, ?_⟩
        · first
            | exact ((Keep.refl _ _ _).setCell _ _ (.inl (by show w.heap.size < _; omega)) (.inl (by show ¬ (w.heap.size = _ ∨ w.heap.size = _ ∨ w.heap.size = _ ∨ w.heap.size = _); omega))).drew
            | exact (Keep.refl _ _ _).drew.setCell _ _ (.inl (by show w.heap.size < _; omega)) (.inl (by show ¬ (w.heap.size = _ ∨ w.heap.size = _ ∨ w.heap.size = _ ∨ w.heap.size = _); omega))
        · first
            | exact (H'.out.1.setCell (p := ⟨w.heap.size, _, none⟩) (Nat.le_refl _) _).drew
            | exact H'.out.1.drew.setCell (p := ⟨w.heap.size, _, none⟩) (Nat.le_refl _) _
        · first
            | exact (H'.out.2.1.set 0 _).drew
            | exact H'.out.2.1.drew.set 0 _
    · have e0 : IntKind.i64.wrap 16 = 16 := by rfl
      have e1 := u32_small d (by omega)
      obtain ⟨sd, hsd⟩ : ∃ sd, 2 ^ 16 * d = sd := ⟨_, rfl⟩
      have e2 : IntKind.u32.wrap ((d : Int) * 65536) = (sd : Int) := by rw [← u32_small sd (by omega), ← hsd]; congr 1; omega
      gi_wp2
      refine to_body (by omega) hr ?_
      intro W' hW' hr'
      obtain ⟨hE, hB0, hst, hV, hd⟩ := H.out
      replace hE := Below.trans hE (hW'.mono (by omega))
      replace hB0 := hB0.below hW' (by omega)
      have hfin : bits .or .u32 ((wv L x 2 : Nat) : Int) (sd : Int) = ((wv L x (2 + 1) : Nat) : Int) := by
        rw [hst, ← hsd, or_form (wv L x 2) d 16 (by simpa using hV) (by omega) (by simp at hV; omega)]
      have c0 := hB0.cell 0
      have f0 := hB0.frozen 0
      simp only [List.getElem?_toArray, List.getElem?_cons_zero] at c0
      generalize wv L x 2 = V at *
      have H' := Lib.hid (And.intro hE (And.intro hB0 hfin))
      clear hE hB0 H hr hr' hW' hst hfin hsd hV hd
      gi_wp2
      gi_region
      all_goals
        gi_wp2
        rw [H'.out.2.2]
        refine ⟨?_, ?_, by omega, ?_⟩
        · first
            | exact ((Keep.refl _ _ _).setCell _ _ (.inl (by show w.heap.size < _; omega)) (.inl (by show ¬ (w.heap.size = _ ∨ w.heap.size = _ ∨ w.heap.size = _ ∨ w.heap.size = _); omega))).drew
            | exact (Keep.refl _ _ _).drew.setCell _ _ (.inl (by show w.heap.size < _; omega)) (.inl (by show ¬ (w.heap.size = _ ∨ w.heap.size = _ ∨ w.heap.size = _ ∨ w.heap.size = _); omega))
        · first
            | exact (H'.out.1.setCell (p := ⟨w.heap.size, _, none⟩) (Nat.le_refl _) _).drew
            | exact H'.out.1.drew.setCell (p := ⟨w.heap.size, _, none⟩) (Nat.le_refl _) _
        · first
            | exact (H'.out.2.1.set 0 _).drew
            | exact H'.out.2.1.drew.set 0 _
    · have e0 : IntKind.i64.wrap 24 = 24 := by rfl
      have e1 := u32_small d (by omega)
      obtain ⟨sd, hsd⟩ : ∃ sd, 2 ^ 24 * d = sd := ⟨_, rfl⟩
      have e2 : IntKind.u32.wrap ((d : Int) * 16777216) = (sd : Int) := by rw [← u32_small sd (by omega), ← hsd]; congr 1; omega
      gi_wp2
      refine to_body (by omega) hr ?_
      intro W' hW' hr'
      obtain ⟨hE, hB0, hst, hV, hd⟩ := H.out
      replace hE := Below.trans hE (hW'.mono (by omega))
      replace hB0 := hB0.below hW' (by omega)
      have hfin : bits .or .u32 ((wv L x 3 : Nat) : Int) (sd : Int) = ((wv L x (3 + 1) : Nat) : Int) := by
        rw [hst, ← hsd, or_form (wv L x 3) d 24 (by simpa using hV) (by omega) (by simp at hV; omega)]
      have c0 := hB0.cell 0
      have f0 := hB0.frozen 0
      simp only [List.getElem?_toArray, List.getElem?_cons_zero] at c0
      generalize wv L x 3 = V at *
      have H' := Lib.hid (And.intro hE (And.intro hB0 hfin))
      clear hE hB0 H hr hr' hW' hst hfin hsd hV hd
      gi_wp2
      gi_region
      all_goals
        gi_wp2
        rw [H'.out.2.2]
        refine ⟨?_, ?_, by omega, ?_⟩
        · first
            | exact ((Keep.refl _ _ _).setCell _ _ (.inl (by show w.heap.size < _; omega)) (.inl (by show ¬ (w.heap.size = _ ∨ w.heap.size = _ ∨ w.heap.size = _ ∨ w.heap.size = _); omega))).drew
            | exact (Keep.refl _ _ _).drew.setCell _ _ (.inl (by show w.heap.size < _; omega)) (.inl (by show ¬ (w.heap.size = _ ∨ w.heap.size = _ ∨ w.heap.size = _ ∨ w.heap.size = _); omega))
        · first
            | exact (H'.out.1.setCell (p := ⟨w.heap.size, _, none⟩) (Nat.le_refl _) _).drew
            | exact H'.out.1.drew.setCell (p := ⟨w.heap.size, _, none⟩) (Nat.le_refl _) _
        · first
            | exact (H'.out.2.1.set 0 _).drew
            | exact H'.out.2.1.drew.set 0 _
    · gi_wp2
      refine to_body (by omega) hr ?_
      intro W' hW' hr'
      obtain ⟨hE, hB0, hst, hV, hd⟩ := H.out
      replace hE := Below.trans hE (hW'.mono (by omega))
      replace hB0 := hB0.below hW' (by omega)
      have H' := Lib.hid (And.intro hE hB0)
      clear hE hB0 H hr hr' hW' hst hV hd
      gi_wp2
      exact ⟨Keep.refl _ _ _, rfl, H'.out.1, H'.out.2⟩
    · omega
  case hdone =>
    rintro K W hK ⟨hE, hk4, hB0⟩ hk
    rw [onXs_len] at hk4 hB0
    obtain h4 : L.length - x = 4 := by omega
    rw [h4] at hB0
    have c0 := hB0.cell 0
    simp only [List.getElem?_toArray, List.getElem?_cons_zero] at c0
    have H := Lib.hid (And.intro hE (And.intro hk hK))
    clear hE hB0 hk hK h4 hk4
    go_wp2
    rw [Exit.noGoto_ret]
    obtain ⟨hE, hk, hK⟩ := H.out
    exact leave_mark hk (results_tmp rfl _ _ _) ⟨rfl, Below.trans hE (below_putObj W K w.heap.size _ (by omega))⟩
  case hstop =>
    rintro K c k W hK hk2 ⟨rfl, hE, hB0⟩ hk
    have c0 := hB0.cell 0
    simp only [List.getElem?_toArray, List.getElem?_cons_zero] at c0
    have H := Lib.hid (And.intro hE (And.intro hk hK))
    clear hE hB0 hk hK
    go_wp2
    rw [Exit.noGoto_ret]
    obtain ⟨hE, hk, hK⟩ := H.out
    exact leave_mark hk (results_tmp rfl _ _ _) ⟨rfl, Below.trans hE (below_putObj W K w.heap.size _ (by omega))⟩
end
end Go.Proofs.YtmehoieijelncaaDoor
