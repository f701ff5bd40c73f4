/- head: the one head whose bytes these may be. -/
import Derived.Test.YtfpefffgegphnaaDoorWriteH
import Derived.Test.YtfpefffgegphnaaDoorDrawR
namespace Go.Proofs.YtfpefffgegphnaaDoor
open Go.RowKit Go
attribute [local go_sem] Oper.semAt_some
namespace H
open HD
theorem or64 (a b : Nat) (ha : a < 4611686018427387904) (hb : b < 4611686018427387904) : bits .or .i64 (a : Int) (b : Int) = ((a ||| b : Nat) : Int) := by
  have hx : a ||| b < 2 ^ 62 := Nat.or_lt_two_pow (by omega) (by omega)
  have h1 : (BitVec.ofInt 64 (a : Int)).toNat = a := by
    rw [BitVec.ofInt_natCast, BitVec.toNat_ofNat]; exact Nat.mod_eq_of_lt (by omega)
  have h2 : (BitVec.ofInt 64 (b : Int)).toNat = b := by
    rw [BitVec.ofInt_natCast, BitVec.toNat_ofNat]; exact Nat.mod_eq_of_lt (by omega)
  show IntKind.i64.wrap ((BitVec.ofInt 64 (a : Int) ||| BitVec.ofInt 64 (b : Int)).toNat : Int) = _
  rw [BitVec.toNat_or, h1, h2]
  simp only [IntKind.wrap, IntKind.signed, IntKind.bits]
  simp
  omega
theorem or_nat (v d m : Nat) (hv : v < 2 ^ m) (h1 : v < 4611686018427387904) (h2 : 2 ^ m * d < 4611686018427387904) : bits .or .i64 (v : Int) ((2 ^ m * d : Nat) : Int) = ((v + 2 ^ m * d : Nat) : Int) := by
  rw [or64 _ _ h1 h2, Nat.or_comm, ← Nat.two_pow_add_eq_or_of_lt hv, Nat.add_comm]
theorem or_0 (b : Int) (hb : 0 ≤ b ∧ b ≤ 255) : bits .or .i64 0 b = 0 + 1 * b := by
  obtain ⟨d, rfl⟩ := Int.eq_ofNat_of_zero_le hb.1
  have := or_nat 0 d 0 (by decide) (by decide) (by omega)
  simpa using this
theorem or_8 (V b : Int) (hV : 0 ≤ V ∧ V < 256) (hb : 0 ≤ b ∧ b ≤ 255) : bits .or .i64 V (b * 256) = V + 256 * b := by
  obtain ⟨v, rfl⟩ := Int.eq_ofNat_of_zero_le hV.1
  obtain ⟨d, rfl⟩ := Int.eq_ofNat_of_zero_le hb.1
  have := or_nat v d 8 (by omega) (by omega) (by omega)
  rw [show ((d : Int) * 256) = ((2 ^ 8 * d : Nat) : Int) by omega, this]
  omega
theorem or_16 (V b : Int) (hV : 0 ≤ V ∧ V < 65536) (hb : 0 ≤ b ∧ b ≤ 255) : bits .or .i64 V (b * 65536) = V + 65536 * b := by
  obtain ⟨v, rfl⟩ := Int.eq_ofNat_of_zero_le hV.1
  obtain ⟨d, rfl⟩ := Int.eq_ofNat_of_zero_le hb.1
  have := or_nat v d 16 (by omega) (by omega) (by omega)
  rw [show ((d : Int) * 65536) = ((2 ^ 16 * d : Nat) : Int) by omega, this]
  omega
theorem idx_str {s : List UInt8} {S : ByteArray} (hS : ⟨s.toArray⟩ = S) {k : Nat} (h : k + 1 < s.length) (W : World) : (Instr.index 9 (.string S) (.int .i64 ((k : Int) + 1))).run Tryd.prog W = .ok (.int .u8 (bAt s (k + 1))) W := by
  subst hS
  have hsz : (⟨s.toArray⟩ : ByteArray).size = s.length := by show s.toArray.size = _; simp
  rw [run_index_string W 9 _ .i64 ((k : Int) + 1) Tryd.underlying9, dif_pos ⟨by omega, by rw [hsz]; omega⟩]
  have h8 : ((k : Int) + 1).toNat = k + 1 := by omega
  simp only [h8]
  show Result.ok (Value.int .u8 ((s.toArray[k + 1]'(by simpa using h)).toNat : Int)) W = _
  simp [bAt, List.getD_eq_getElem?_getD, h]
def rstep (s : List UInt8) : Nat → MkR
  | 0 => zM
  | 1 => ⟨bAt s 1, 0, 0, 0⟩
  | 2 => ⟨bAt s 1, 0, bAt s 2, 0⟩
  | 3 => ⟨bAt s 1, 0, bAt s 2, bAt s 3⟩
  | 4 => ⟨bAt s 1, bAt s 4, bAt s 2, bAt s 3⟩
  | 5 => ⟨bAt s 1, bAt s 4 + 256 * bAt s 5, bAt s 2, bAt s 3⟩
  | _ => readM s
theorem bAt_out {s : List UInt8} {i : Nat} (h : s.length ≤ i) : bAt s i = 0 := by
  unfold bAt; rw [List.getD_eq_getElem?_getD, List.getElem?_eq_none h]; rfl
theorem rstep_out {s : List UInt8} {k : Nat} (h : s.length ≤ k + 1) : rstep s k = readM s := by
  rcases k with _ | _ | _ | _ | _ | _ | k
  · show zM = _; unfold zM readM; rw [bAt_out (i := 1) (by omega), bAt_out (i := 2) (by omega), bAt_out (i := 3) (by omega), bAt_out (i := 4) (by omega), bAt_out (i := 5) (by omega), bAt_out (i := 6) (by omega)]; rfl
  · show MkR.mk _ _ _ _ = _; unfold readM; rw [bAt_out (i := 2) (by omega), bAt_out (i := 3) (by omega), bAt_out (i := 4) (by omega), bAt_out (i := 5) (by omega), bAt_out (i := 6) (by omega)]; rfl
  · show MkR.mk _ _ _ _ = _; unfold readM; rw [bAt_out (i := 3) (by omega), bAt_out (i := 4) (by omega), bAt_out (i := 5) (by omega), bAt_out (i := 6) (by omega)]; rfl
  · show MkR.mk _ _ _ _ = _; unfold readM; rw [bAt_out (i := 4) (by omega), bAt_out (i := 5) (by omega), bAt_out (i := 6) (by omega)]; rfl
  · show MkR.mk _ _ _ _ = _; unfold readM; rw [bAt_out (i := 5) (by omega), bAt_out (i := 6) (by omega)]; simp
  · show MkR.mk _ _ _ _ = _; unfold readM; rw [bAt_out (i := 6) (by omega)]; simp
  · rfl
/-- The k-th round of reading. -/
def RdM (s : List UInt8) (c k : Nat) (x : Array Value) (up d : Int) : Prop :=
  ∃ (q : Nat) (V : Int), x = #[at_ c q, .int .i64 up] ∧ (mkC (rstep s k))[q]? = some (.int .i64 V) ∧ (0 ≤ V ∧ V < d) ∧ (mkC (rstep s k)).setIfInBounds q (.int .i64 (V + d * bAt s (k + 1))) = mkC (rstep s (k + 1)) ∧ k < 6
theorem rd_of {s : List UInt8} {c k : Nat} {x : Array Value} (h : (byXs c)[k]? = some x) : RdM s c k x 0 1 ∨ RdM s c k x 8 256 ∨ RdM s c k x 16 65536 := by
  have l := bAt_lo s
  have r := bAt_hi s
  have := l 4; have := l 5; have := r 4; have := r 5
  rcases k with _ | _ | _ | _ | _ | _ | k
  · simp only [byXs, List.getElem?_cons_zero, Option.some.injEq] at h
    exact .inl ⟨0, 0, h.symm, rfl, by omega, by simp [mkC, rstep, zM], by decide⟩
  · simp only [byXs, List.getElem?_cons_zero, List.getElem?_cons_succ, Option.some.injEq] at h
    exact .inl ⟨2, 0, h.symm, rfl, by omega, by simp [mkC, rstep], by decide⟩
  · simp only [byXs, List.getElem?_cons_zero, List.getElem?_cons_succ, Option.some.injEq] at h
    exact .inl ⟨3, 0, h.symm, rfl, by omega, by simp [mkC, rstep], by decide⟩
  · simp only [byXs, List.getElem?_cons_zero, List.getElem?_cons_succ, Option.some.injEq] at h
    exact .inl ⟨1, 0, h.symm, rfl, by omega, by simp [mkC, rstep], by decide⟩
  · simp only [byXs, List.getElem?_cons_zero, List.getElem?_cons_succ, Option.some.injEq] at h
    exact .inr (.inl ⟨1, bAt s 4, h.symm, rfl, by omega, by simp [mkC, rstep], by decide⟩)
  · simp only [byXs, List.getElem?_cons_zero, List.getElem?_cons_succ, Option.some.injEq] at h
    exact .inr (.inr ⟨1, bAt s 4 + 256 * bAt s 5, h.symm, rfl, by omega, by simp [mkC, rstep, readM], by decide⟩)
  · simp [byXs] at h
section
set_option maxHeartbeats 4000000 in
set_option maxRecDepth 100000 in
theorem read_is (s : List UInt8) (w : World) (hT : FTab w) :
    Calls Tryd.prog 34 #[.string ⟨s.toArray⟩] w fun e w' => e = .returned (mkV (readM s)) ∧ Ext w w' := by
  obtain ⟨S, hS⟩ : ∃ S : ByteArray, ⟨s.toArray⟩ = S := ⟨_, rfl⟩
  have hsz : S.size = s.length := by rw [← hS]; show s.toArray.size = _; simp
  rw [hS]
  have HT := Lib.hid hT
  clear hT
  refine calls_of_marks Tryd.func34 rfl ?_
  simp only [Tryd.ntmps34, List.size_toArray, List.length_cons, List.length_nil, Nat.reduceAdd, Nat.reduceSub, Array.replicate_succ, Array.replicate_zero, List.push_toArray, List.append_toArray, List.nil_append, List.cons_append]
  go_wp2
  go_step3
  go_wp2
  go_step3
  go_wp2
  refine wp_world ?_
  intro w1 hw1
  have b0 : Blk w1 (w.heap.size) #[.string S] 9 := by
    rw [hw1]
    have h := (((Blk.new w #[.string S] 9).alloc (.cells (mkC zM) 23)).alloc (.cells (mkC zM) 78)).alloc (.cells #[.int .i64 1] 3)
    exact h
  have b1 : Blk w1 (w.heap.size + 1) (mkC zM) 23 := by
    rw [hw1]
    have h := ((Blk.new (w.alloc (.cells #[.string S] 9)) (mkC zM) 23).alloc (.cells (mkC zM) 78)).alloc (.cells #[.int .i64 1] 3)
    rw [World.size_alloc] at h
    exact h
  have b2 : Blk w1 (w.heap.size + 1 + 1) (mkC zM) 78 := by
    rw [hw1]
    have h := (Blk.new ((w.alloc (.cells #[.string S] 9)).alloc (.cells (mkC zM) 23)) (mkC zM) 78).alloc (.cells #[.int .i64 1] 3)
    rw [World.size_alloc, World.size_alloc] at h
    exact h
  have b3 : Blk w1 (w.heap.size + 1 + 1 + 1) #[.int .i64 1] 3 := by
    rw [hw1]
    have h := Blk.new (((w.alloc (.cells #[.string S] 9)).alloc (.cells (mkC zM) 23)).alloc (.cells (mkC zM) 78)) #[.int .i64 1] 3
    rw [World.size_alloc, World.size_alloc, World.size_alloc] at h
    exact h
  have E1 : Ext w w1 := by rw [hw1]; exact (ext3 _ _ _ _).alloc (by simp; omega) _
  have hz : w1.heap.size = w.heap.size + 4 := by rw [hw1]; simp
  have hT1 := HT.out.ext E1
  have hg : 6 < w.heap.size := HT.out.lt
  have HZ := Lib.hid hz
  clear hw1
  refine range_outerV (D := fun k => k = 6) (w0 := w1) rfl (enters_of Tryd.func49 (by kernel_rfl) rfl) (bytes_iter (w.heap.size + 1 + 1) w1 hT1) (by rintro k rfl; omega) (Keep.refl _ _ _)
    (by intro x hx; simp only [byXs, List.mem_cons, List.not_mem_nil, or_false] at hx; rcases hx with rfl | rfl | rfl | rfl | rfl | rfl <;> rfl)
    (fun k u X => u = (fun _ => False) ∧ (k + 1 ≤ s.length ∨ k = 0) ∧ Ext w X ∧ Blk X w.heap.size #[.string S] 9 ∧ Blk X (w.heap.size + 1) (mkC zM) 23 ∧ Blk X (w.heap.size + 1 + 1) (mkC (rstep s k)) 78 ∧ Blk X (w.heap.size + 1 + 1 + 1) #[.int .i64 ((k : Int) + 1)] 3)
    (fun e k u X => e = .exit 0 ∧ u = (fun _ => False) ∧ Ext w X ∧ Blk X (w.heap.size + 1) (mkC zM) 23 ∧ Blk X (w.heap.size + 1 + 1) (mkC (readM s)) 78)
    ?hI ?hIx ?hIb ?hIxb (u0 := fun _ => False) ⟨rfl, .inr rfl, E1, b0, b1, b2, b3⟩ ?hround ?hdone ?hstop
  case hI =>
    rintro k u A B ⟨rfl, h0, h1, h2, h3, h4, h5⟩ hb hu
    exact ⟨rfl, h0, Below.trans h1 (hb.mono (by omega)), h2.below hb (by omega), h3.below hb (by omega), h4.below hb (by omega), h5.below hb (by omega)⟩
  case hIx =>
    rintro e k u A B ⟨rfl, rfl, h1, h2, h3⟩ hb hu
    exact ⟨rfl, rfl, Below.trans h1 (hb.mono (by omega)), h2.below hb (by omega), h3.below hb (by omega)⟩
  case hIb => rintro k u A ⟨rfl, _⟩ b hb; exact hb.elim
  case hIxb => rintro e k u A ⟨rfl, rfl, _⟩ b hb; exact hb.elim
  case hround =>
    rintro l k u x X hx hl hr hul ⟨rfl, h0, h1, h2, h3, h4, h5⟩
    have HX := Lib.hid (And.intro h1 (And.intro h2 (And.intro h3 (And.intro h4 h5))))
    clear h1 h2 h3 h4 h5 hz
    rcases rd_of (s := s) hx with ⟨q, V, rfl, hq, hV, hst, hk6⟩ | ⟨q, V, rfl, hq, hV, hst, hk6⟩ | ⟨q, V, rfl, hq, hV, hst, hk6⟩
    · clear hx
      gi_wp2
      refine to_bodyU hl hul hr ?_
      intro X1 hbl hub hof hr1
      obtain ⟨h1, h2, h3, h4, h5⟩ := HX.out
      have hz := HZ.out
      have hE : Ext w X1 := Below.trans h1 (hbl.mono (by omega))
      have h2' := h2.below hbl (by omega)
      have h3' := h3.below hbl (by omega)
      have h4' := h4.below hbl (by omega)
      have h5' := h5.below hbl (by omega)
      have c0 := h2'.cell 0
      have t0 := h5'.cell 0
      have ft := h5'.frozen 0
      have p0 := (h4'.cell q).trans hq
      have f0 := h4'.frozen q
      simp only [List.getElem?_toArray, List.getElem?_cons_zero] at c0 t0
      have HR := Lib.hid (And.intro hE (And.intro h2' (And.intro h3' (And.intro h4' h5'))))
      have HQ := Lib.hid (And.intro hst hV)
      clear HX hz h1 h2 h3 h4 h5 hE h2' h3' h4' h5' hof hbl hub hr1 hr hul hq hst hV
      by_cases hlt : s.length ≤ k + 1
      · have h6 : (s.length : Int) ≤ (k : Int) + 1 := by omega
        gi_wp2
        obtain ⟨hE, _, h3, h4, _⟩ := HR.out
        rw [rstep_out hlt] at h4
        exact ⟨KeepU.refl _ _ _ _, fun _ => False, fun b hb => hb.elim, rfl, rfl, hE, h3, h4⟩
      · have h6 : ¬ (s.length : Int) ≤ (k : Int) + 1 := by omega
        have hidx := fun W => idx_str hS (show k + 1 < s.length by omega) W
        obtain ⟨z, hz⟩ : ∃ z, bAt s (k + 1) = z := ⟨_, rfl⟩
        have z0 : 0 ≤ z := hz ▸ bAt_lo s (k + 1)
        have z1 : z ≤ 255 := hz ▸ bAt_hi s (k + 1)
        rw [hz] at hidx
        have w0 : wrap64 z = z := by unfold wrap64; omega
        have w8 : wrap64 (z * 256) = z * 256 := by unfold wrap64; omega
        have w16 : wrap64 (z * 65536) = z * 65536 := by unfold wrap64; omega
        have HB := Lib.hid hz
        clear hz
        gi_wp2
        refine round_tail 12 11 rfl (by kernel_rfl) (by kernel_rfl) (by kernel_rfl) (by kernel_rfl) ?_
        apply Exists.intro
        refine ⟨fun cc => ?_, fun W hW => ?_⟩
        · have hx := fun (o : From cc.w) p h => From.cell2 cc.h o p h
          simp only [List.take_succ_cons, List.take_zero]
          repeat (go_big_quiet_step (fail))
          exact wpQuiet_nil rfl
        · simp only [List.drop_succ_cons, List.drop_zero]
          obtain ⟨hE, h2', h3', h4', h5'⟩ := HR.out
          have g4 := h4'.ext hW
          have g5 := h5'.ext hW
          have p1 : W.cell? ⟨w.heap.size + 1 + 1, q, none⟩ = some (.int .i64 V) := (hW.cell (p := ⟨w.heap.size + 1 + 1, q, none⟩) h4'.lt).trans p0
          have f1 := g4.frozen q
          have t1 := (g5.other ⟨w.heap.size + 1 + 1, q, none⟩ (.int .i64 (bits .or .i64 V z)) (by show w.heap.size + 1 + 1 + 1 ≠ w.heap.size + 1 + 1; omega)).cell 0
          have tf := (g5.other ⟨w.heap.size + 1 + 1, q, none⟩ (.int .i64 (bits .or .i64 V z)) (by show w.heap.size + 1 + 1 + 1 ≠ w.heap.size + 1 + 1; omega)).frozen 0
          simp only [List.getElem?_toArray, List.getElem?_cons_zero] at t1
          have HW := Lib.hid hW
          clear hE h2' h3' h4' h5' g4 g5 hW c0 t0 ft p0 f0
          go_wp2
          dsimp only [noPO]
          gi_wp2
          obtain ⟨hE, h2', h3', h4', h5'⟩ := HR.out
          have hz := HZ.out
          have hW := HW.out
          have e1 : bits .or .i64 V z = V + 1 * bAt s (k + 1) := by
            rw [HB.out]
            have h0 : V = 0 := by have := HQ.out.2; omega
            rw [h0]
            exact or_0 z ⟨z0, z1⟩
          rw [e1]
          refine ⟨((KeepU.of_ext hW).setLow _ _ (by show w.heap.size + 1 + 1 < _; omega) (by show ¬ w.heap.size + 1 + 1 = _; omega)).setLow _ _ (by show w.heap.size + 1 + 1 + 1 < _; omega) (by show ¬ w.heap.size + 1 + 1 + 1 = _; omega), fun _ => False, fun b hb => hb.elim, rfl, .inl (by omega), ?_, ?_, ?_, ?_, ?_⟩
          · exact ((Ext.trans hE hW).setCell (p := ⟨w.heap.size + 1 + 1, q, none⟩) (by show w.heap.size ≤ w.heap.size + 1 + 1; omega) _).setCell (p := ⟨w.heap.size + 1 + 1 + 1, 0, none⟩) (by show w.heap.size ≤ w.heap.size + 1 + 1 + 1; omega) _
          · exact ((h2'.ext hW).other _ _ (by show w.heap.size ≠ w.heap.size + 1 + 1; omega)).other _ _ (by show w.heap.size ≠ w.heap.size + 1 + 1 + 1; omega)
          · exact ((h3'.ext hW).other _ _ (by show w.heap.size + 1 ≠ w.heap.size + 1 + 1; omega)).other _ _ (by show w.heap.size + 1 ≠ w.heap.size + 1 + 1 + 1; omega)
          · have h := ((h4'.ext hW).set q (.int .i64 (V + 1 * bAt s (k + 1)))).other ⟨w.heap.size + 1 + 1 + 1, 0, none⟩ (.int .i64 ((k : Int) + 1 + 1)) (by show w.heap.size + 1 + 1 ≠ w.heap.size + 1 + 1 + 1; omega)
            rw [HQ.out.1] at h
            exact h
          · have h := ((h5'.ext hW).other ⟨w.heap.size + 1 + 1, q, none⟩ (.int .i64 (V + 1 * bAt s (k + 1))) (by show w.heap.size + 1 + 1 + 1 ≠ w.heap.size + 1 + 1; omega)).set 0 (.int .i64 ((k : Int) + 1 + 1))
            rw [show (((k + 1 : Nat) : Int) + 1) = (k : Int) + 1 + 1 by omega]
            exact h
    · clear hx
      gi_wp2
      refine to_bodyU hl hul hr ?_
      intro X1 hbl hub hof hr1
      obtain ⟨h1, h2, h3, h4, h5⟩ := HX.out
      have hz := HZ.out
      have hE : Ext w X1 := Below.trans h1 (hbl.mono (by omega))
      have h2' := h2.below hbl (by omega)
      have h3' := h3.below hbl (by omega)
      have h4' := h4.below hbl (by omega)
      have h5' := h5.below hbl (by omega)
      have c0 := h2'.cell 0
      have t0 := h5'.cell 0
      have ft := h5'.frozen 0
      have p0 := (h4'.cell q).trans hq
      have f0 := h4'.frozen q
      simp only [List.getElem?_toArray, List.getElem?_cons_zero] at c0 t0
      have HR := Lib.hid (And.intro hE (And.intro h2' (And.intro h3' (And.intro h4' h5'))))
      have HQ := Lib.hid (And.intro hst hV)
      clear HX hz h1 h2 h3 h4 h5 hE h2' h3' h4' h5' hof hbl hub hr1 hr hul hq hst hV
      by_cases hlt : s.length ≤ k + 1
      · have h6 : (s.length : Int) ≤ (k : Int) + 1 := by omega
        gi_wp2
        obtain ⟨hE, _, h3, h4, _⟩ := HR.out
        rw [rstep_out hlt] at h4
        exact ⟨KeepU.refl _ _ _ _, fun _ => False, fun b hb => hb.elim, rfl, rfl, hE, h3, h4⟩
      · have h6 : ¬ (s.length : Int) ≤ (k : Int) + 1 := by omega
        have hidx := fun W => idx_str hS (show k + 1 < s.length by omega) W
        obtain ⟨z, hz⟩ : ∃ z, bAt s (k + 1) = z := ⟨_, rfl⟩
        have z0 : 0 ≤ z := hz ▸ bAt_lo s (k + 1)
        have z1 : z ≤ 255 := hz ▸ bAt_hi s (k + 1)
        rw [hz] at hidx
        have w0 : wrap64 z = z := by unfold wrap64; omega
        have w8 : wrap64 (z * 256) = z * 256 := by unfold wrap64; omega
        have w16 : wrap64 (z * 65536) = z * 65536 := by unfold wrap64; omega
        have HB := Lib.hid hz
        clear hz
        gi_wp2
        refine round_tail 12 11 rfl (by kernel_rfl) (by kernel_rfl) (by kernel_rfl) (by kernel_rfl) ?_
        apply Exists.intro
        refine ⟨fun cc => ?_, fun W hW => ?_⟩
        · have hx := fun (o : From cc.w) p h => From.cell2 cc.h o p h
          simp only [List.take_succ_cons, List.take_zero]
          repeat (go_big_quiet_step (fail))
          exact wpQuiet_nil rfl
        · simp only [List.drop_succ_cons, List.drop_zero]
          obtain ⟨hE, h2', h3', h4', h5'⟩ := HR.out
          have g4 := h4'.ext hW
          have g5 := h5'.ext hW
          have p1 : W.cell? ⟨w.heap.size + 1 + 1, q, none⟩ = some (.int .i64 V) := (hW.cell (p := ⟨w.heap.size + 1 + 1, q, none⟩) h4'.lt).trans p0
          have f1 := g4.frozen q
          have t1 := (g5.other ⟨w.heap.size + 1 + 1, q, none⟩ (.int .i64 (bits .or .i64 V (z * 256))) (by show w.heap.size + 1 + 1 + 1 ≠ w.heap.size + 1 + 1; omega)).cell 0
          have tf := (g5.other ⟨w.heap.size + 1 + 1, q, none⟩ (.int .i64 (bits .or .i64 V (z * 256))) (by show w.heap.size + 1 + 1 + 1 ≠ w.heap.size + 1 + 1; omega)).frozen 0
          simp only [List.getElem?_toArray, List.getElem?_cons_zero] at t1
          have HW := Lib.hid hW
          clear hE h2' h3' h4' h5' g4 g5 hW c0 t0 ft p0 f0
          go_wp2
          dsimp only [noPO]
          gi_wp2
          obtain ⟨hE, h2', h3', h4', h5'⟩ := HR.out
          have hz := HZ.out
          have hW := HW.out
          have e1 : bits .or .i64 V (z * 256) = V + 256 * bAt s (k + 1) := by
            rw [HB.out]
            exact or_8 V z HQ.out.2 ⟨z0, z1⟩
          rw [e1]
          refine ⟨((KeepU.of_ext hW).setLow _ _ (by show w.heap.size + 1 + 1 < _; omega) (by show ¬ w.heap.size + 1 + 1 = _; omega)).setLow _ _ (by show w.heap.size + 1 + 1 + 1 < _; omega) (by show ¬ w.heap.size + 1 + 1 + 1 = _; omega), fun _ => False, fun b hb => hb.elim, rfl, .inl (by omega), ?_, ?_, ?_, ?_, ?_⟩
          · exact ((Ext.trans hE hW).setCell (p := ⟨w.heap.size + 1 + 1, q, none⟩) (by show w.heap.size ≤ w.heap.size + 1 + 1; omega) _).setCell (p := ⟨w.heap.size + 1 + 1 + 1, 0, none⟩) (by show w.heap.size ≤ w.heap.size + 1 + 1 + 1; omega) _
          · exact ((h2'.ext hW).other _ _ (by show w.heap.size ≠ w.heap.size + 1 + 1; omega)).other _ _ (by show w.heap.size ≠ w.heap.size + 1 + 1 + 1; omega)
          · exact ((h3'.ext hW).other _ _ (by show w.heap.size + 1 ≠ w.heap.size + 1 + 1; omega)).other _ _ (by show w.heap.size + 1 ≠ w.heap.size + 1 + 1 + 1; omega)
          · have h := ((h4'.ext hW).set q (.int .i64 (V + 256 * bAt s (k + 1)))).other ⟨w.heap.size + 1 + 1 + 1, 0, none⟩ (.int .i64 ((k : Int) + 1 + 1)) (by show w.heap.size + 1 + 1 ≠ w.heap.size + 1 + 1 + 1; omega)
            rw [HQ.out.1] at h
            exact h
          · have h := ((h5'.ext hW).other ⟨w.heap.size + 1 + 1, q, none⟩ (.int .i64 (V + 256 * bAt s (k + 1))) (by show w.heap.size + 1 + 1 + 1 ≠ w.heap.size + 1 + 1; omega)).set 0 (.int .i64 ((k : Int) + 1 + 1))
            rw [show (((k + 1 : Nat) : Int) + 1) = (k : Int) + 1 + 1 by omega]
            exact h
    · clear hx
      gi_wp2
      refine to_bodyU hl hul hr ?_
      intro X1 hbl hub hof hr1
      obtain ⟨h1, h2, h3, h4, h5⟩ := HX.out
      have hz := HZ.out
      have hE : Ext w X1 := Below.trans h1 (hbl.mono (by omega))
      have h2' := h2.below hbl (by omega)
      have h3' := h3.below hbl (by omega)
      have h4' := h4.below hbl (by omega)
      have h5' := h5.below hbl (by omega)
      have c0 := h2'.cell 0
      have t0 := h5'.cell 0
      have ft := h5'.frozen 0
      have p0 := (h4'.cell q).trans hq
      have f0 := h4'.frozen q
      simp only [List.getElem?_toArray, List.getElem?_cons_zero] at c0 t0
      have HR := Lib.hid (And.intro hE (And.intro h2' (And.intro h3' (And.intro h4' h5'))))
      have HQ := Lib.hid (And.intro hst hV)
      clear HX hz h1 h2 h3 h4 h5 hE h2' h3' h4' h5' hof hbl hub hr1 hr hul hq hst hV
      by_cases hlt : s.length ≤ k + 1
      · have h6 : (s.length : Int) ≤ (k : Int) + 1 := by omega
        gi_wp2
        obtain ⟨hE, _, h3, h4, _⟩ := HR.out
        rw [rstep_out hlt] at h4
        exact ⟨KeepU.refl _ _ _ _, fun _ => False, fun b hb => hb.elim, rfl, rfl, hE, h3, h4⟩
      · have h6 : ¬ (s.length : Int) ≤ (k : Int) + 1 := by omega
        have hidx := fun W => idx_str hS (show k + 1 < s.length by omega) W
        obtain ⟨z, hz⟩ : ∃ z, bAt s (k + 1) = z := ⟨_, rfl⟩
        have z0 : 0 ≤ z := hz ▸ bAt_lo s (k + 1)
        have z1 : z ≤ 255 := hz ▸ bAt_hi s (k + 1)
        rw [hz] at hidx
        have w0 : wrap64 z = z := by unfold wrap64; omega
        have w8 : wrap64 (z * 256) = z * 256 := by unfold wrap64; omega
        have w16 : wrap64 (z * 65536) = z * 65536 := by unfold wrap64; omega
        have HB := Lib.hid hz
        clear hz
        gi_wp2
        refine round_tail 12 11 rfl (by kernel_rfl) (by kernel_rfl) (by kernel_rfl) (by kernel_rfl) ?_
        apply Exists.intro
        refine ⟨fun cc => ?_, fun W hW => ?_⟩
        · have hx := fun (o : From cc.w) p h => From.cell2 cc.h o p h
          simp only [List.take_succ_cons, List.take_zero]
          repeat (go_big_quiet_step (fail))
          exact wpQuiet_nil rfl
        · simp only [List.drop_succ_cons, List.drop_zero]
          obtain ⟨hE, h2', h3', h4', h5'⟩ := HR.out
          have g4 := h4'.ext hW
          have g5 := h5'.ext hW
          have p1 : W.cell? ⟨w.heap.size + 1 + 1, q, none⟩ = some (.int .i64 V) := (hW.cell (p := ⟨w.heap.size + 1 + 1, q, none⟩) h4'.lt).trans p0
          have f1 := g4.frozen q
          have t1 := (g5.other ⟨w.heap.size + 1 + 1, q, none⟩ (.int .i64 (bits .or .i64 V (z * 65536))) (by show w.heap.size + 1 + 1 + 1 ≠ w.heap.size + 1 + 1; omega)).cell 0
          have tf := (g5.other ⟨w.heap.size + 1 + 1, q, none⟩ (.int .i64 (bits .or .i64 V (z * 65536))) (by show w.heap.size + 1 + 1 + 1 ≠ w.heap.size + 1 + 1; omega)).frozen 0
          simp only [List.getElem?_toArray, List.getElem?_cons_zero] at t1
          have HW := Lib.hid hW
          clear hE h2' h3' h4' h5' g4 g5 hW c0 t0 ft p0 f0
          go_wp2
          dsimp only [noPO]
          gi_wp2
          obtain ⟨hE, h2', h3', h4', h5'⟩ := HR.out
          have hz := HZ.out
          have hW := HW.out
          have e1 : bits .or .i64 V (z * 65536) = V + 65536 * bAt s (k + 1) := by
            rw [HB.out]
            exact or_16 V z HQ.out.2 ⟨z0, z1⟩
          rw [e1]
          refine ⟨((KeepU.of_ext hW).setLow _ _ (by show w.heap.size + 1 + 1 < _; omega) (by show ¬ w.heap.size + 1 + 1 = _; omega)).setLow _ _ (by show w.heap.size + 1 + 1 + 1 < _; omega) (by show ¬ w.heap.size + 1 + 1 + 1 = _; omega), fun _ => False, fun b hb => hb.elim, rfl, .inl (by omega), ?_, ?_, ?_, ?_, ?_⟩
          · exact ((Ext.trans hE hW).setCell (p := ⟨w.heap.size + 1 + 1, q, none⟩) (by show w.heap.size ≤ w.heap.size + 1 + 1; omega) _).setCell (p := ⟨w.heap.size + 1 + 1 + 1, 0, none⟩) (by show w.heap.size ≤ w.heap.size + 1 + 1 + 1; omega) _
          · exact ((h2'.ext hW).other _ _ (by show w.heap.size ≠ w.heap.size + 1 + 1; omega)).other _ _ (by show w.heap.size ≠ w.heap.size + 1 + 1 + 1; omega)
          · exact ((h3'.ext hW).other _ _ (by show w.heap.size + 1 ≠ w.heap.size + 1 + 1; omega)).other _ _ (by show w.heap.size + 1 ≠ w.heap.size + 1 + 1 + 1; omega)
          · have h := ((h4'.ext hW).set q (.int .i64 (V + 65536 * bAt s (k + 1)))).other ⟨w.heap.size + 1 + 1 + 1, 0, none⟩ (.int .i64 ((k : Int) + 1 + 1)) (by show w.heap.size + 1 + 1 ≠ w.heap.size + 1 + 1 + 1; omega)
            rw [HQ.out.1] at h
            exact h
          · have h := ((h5'.ext hW).other ⟨w.heap.size + 1 + 1, q, none⟩ (.int .i64 (V + 65536 * bAt s (k + 1))) (by show w.heap.size + 1 + 1 + 1 ≠ w.heap.size + 1 + 1; omega)).set 0 (.int .i64 ((k : Int) + 1 + 1))
            rw [show (((k + 1 : Nat) : Int) + 1) = (k : Int) + 1 + 1 by omega]
            exact h
  case hdone =>
    rintro K u X hK hKu ⟨rfl, h0, h1, h2, h3, h4, h5⟩ hKd
    rw [show rstep s (byXs (w.heap.size + 1 + 1)).length = readM s from rfl] at h4
    clear h2 h5
    have p0 := h4.cell 0
    have p1 := h4.cell 1
    have p2 := h4.cell 2
    have p3 := h4.cell 3
    have q0 := h3.cell 0
    have q1 := h3.cell 1
    have q2 := h3.cell 2
    have q3 := h3.cell 3
    have f0 := h3.frozen 0
    have f1 := h3.frozen 1
    have f2 := h3.frozen 2
    have f3 := h3.frozen 3
    simp only [mkC, List.getElem?_toArray, List.getElem?_cons_zero, List.getElem?_cons_succ] at p0 p1 p2 p3 q0 q1 q2 q3
    have hHE := Lib.hid (And.intro h1 (And.intro h3 hKd))
    clear h1 h3 h4 hKd hz
    obtain ⟨M, hM⟩ : ∃ M, readM s = M := ⟨_, rfl⟩
    rw [hM] at p0 p1 p2 p3
    go_wp2
    obtain ⟨h1, h2, hKd⟩ := hHE.out
    have hz := HZ.out
    have b4 := set4 (v0 := .int .i64 M.kind) (v1 := .int .i64 M.len) (v2 := .int .i64 M.cls) (v3 := .int .i64 M.ep) h2
    have E4 := ext_set4 (v0 := .int .i64 M.kind) (v1 := .int .i64 M.len) (v2 := .int .i64 M.cls) (v3 := .int .i64 M.ep) h1 (B := w.heap.size + 1) (by omega)
    have hK4 := (heap_set4 X (w.heap.size + 1) K (.int .i64 M.kind) (.int .i64 M.len) (.int .i64 M.cls) (.int .i64 M.ep) (by omega)).trans hKd
    generalize (((X.setCell ⟨w.heap.size + 1, 0, none⟩ (.int .i64 M.kind)).setCell ⟨w.heap.size + 1, 1, none⟩ (.int .i64 M.len)).setCell ⟨w.heap.size + 1, 2, none⟩ (.int .i64 M.cls)).setCell ⟨w.heap.size + 1, 3, none⟩ (.int .i64 M.ep) = W4 at *
    have b5 := b4.putObj K (.deferred none) (by omega)
    have s0 := b5.cell 0
    have s1 := b5.cell 1
    have s2 := b5.cell 2
    have s3 := b5.cell 3
    simp only [List.getElem?_toArray, List.getElem?_cons_zero, List.getElem?_cons_succ] at s0 s1 s2 s3
    exact leave_mark (v := mkV M) hK4 (by simp [results, Tryd.results34, go_sem, s0, s1, s2, s3]) ⟨by first | rfl | rw [hM], Below.trans E4 (below_putObj W4 K w.heap.size _ (by omega))⟩
  case hstop =>
    rintro K e k u X hK hKu hk ⟨rfl, rfl, h1, h3, h4⟩ hKd
    have p0 := h4.cell 0
    have p1 := h4.cell 1
    have p2 := h4.cell 2
    have p3 := h4.cell 3
    have q0 := h3.cell 0
    have q1 := h3.cell 1
    have q2 := h3.cell 2
    have q3 := h3.cell 3
    have f0 := h3.frozen 0
    have f1 := h3.frozen 1
    have f2 := h3.frozen 2
    have f3 := h3.frozen 3
    simp only [mkC, List.getElem?_toArray, List.getElem?_cons_zero, List.getElem?_cons_succ] at p0 p1 p2 p3 q0 q1 q2 q3
    have hHE := Lib.hid (And.intro h1 (And.intro h3 hKd))
    clear h1 h3 h4 hKd hz
    obtain ⟨M, hM⟩ : ∃ M, readM s = M := ⟨_, rfl⟩
    rw [hM] at p0 p1 p2 p3
    go_wp2
    obtain ⟨h1, h2, hKd⟩ := hHE.out
    have hz := HZ.out
    have b4 := set4 (v0 := .int .i64 M.kind) (v1 := .int .i64 M.len) (v2 := .int .i64 M.cls) (v3 := .int .i64 M.ep) h2
    have E4 := ext_set4 (v0 := .int .i64 M.kind) (v1 := .int .i64 M.len) (v2 := .int .i64 M.cls) (v3 := .int .i64 M.ep) h1 (B := w.heap.size + 1) (by omega)
    have hK4 := (heap_set4 X (w.heap.size + 1) K (.int .i64 M.kind) (.int .i64 M.len) (.int .i64 M.cls) (.int .i64 M.ep) (by omega)).trans hKd
    generalize (((X.setCell ⟨w.heap.size + 1, 0, none⟩ (.int .i64 M.kind)).setCell ⟨w.heap.size + 1, 1, none⟩ (.int .i64 M.len)).setCell ⟨w.heap.size + 1, 2, none⟩ (.int .i64 M.cls)).setCell ⟨w.heap.size + 1, 3, none⟩ (.int .i64 M.ep) = W4 at *
    have b5 := b4.putObj K (.deferred none) (by omega)
    have s0 := b5.cell 0
    have s1 := b5.cell 1
    have s2 := b5.cell 2
    have s3 := b5.cell 3
    simp only [List.getElem?_toArray, List.getElem?_cons_zero, List.getElem?_cons_succ] at s0 s1 s2 s3
    exact leave_mark (v := mkV M) hK4 (by simp [results, Tryd.results34, go_sem, s0, s1, s2, s3]) ⟨by first | rfl | rw [hM], Below.trans E4 (below_putObj W4 K w.heap.size _ (by omega))⟩
end
end H
end Go.Proofs.YtfpefffgegphnaaDoor
