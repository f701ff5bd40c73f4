/- bits: places as an iterator. -/
import Derived.Test.YtichgkeglgagfaaDoorIter
namespace Go.Proofs.YtichgkeglgagfaaDoor
open Go.RowKit Go
attribute [local go_sem] Oper.semAt_some
theorem Keep.under {D : Nat → Prop} {S : Nat} {A B C : World} (h : Keep D S A B) (k : Below A.heap.size B C) : Keep D S A C := ⟨Nat.le_trans h.size k.size, fun i hi hd => (k.block i hi).trans (h.same i hi hd)⟩
section
variable {a : Nat → Addr}
theorem places_mk (N : Int) (A : Option Addr) (n c : Nat) (f : Int) (on : Bool) (w : World) :
    Calls Tryd.prog 43 #[.agg #[.int .i64 N, .slice A n c], .int .i64 f, .bool on] w fun e w' =>
      e = .returned (.func (.func 56) #[] #[.pointer (some ⟨w.heap.size + 1, 0, none⟩), .pointer (some ⟨w.heap.size, 0, none⟩), .pointer (some ⟨w.heap.size + 1 + 1, 0, none⟩)]) ∧
      w' = ((w.alloc (.cells #[.int .i64 N, .slice A n c] 24)).alloc (.cells #[.int .i64 f] 3)).alloc (.cells #[.bool on] 4) := by
  go_enter Tryd.func43, Tryd.ntmps43
  go_wp2
  go_ret
  exact ⟨rfl, rfl⟩
set_option maxHeartbeats 2000000 in
theorem places_iter (N : Int) (A : Option Addr) (n c : Nat) (ws : List Nat) (f : Int) (on : Bool) (hr : Right N ws) (hf : 0 ≤ f) (hf2 : f ≤ 9223372036854775807) (bf bb bo : Nat) (w : World) (h : Bt w A n ws) (hG : G a w)
    (hbf : bf < w.heap.size) (hbb : bb < w.heap.size) (hbo : bo < w.heap.size) (cf : w.cell? ⟨bf, 0, none⟩ = some (.int .i64 f)) (c0 : w.cell? ⟨bb, 0, none⟩ = some (.int .i64 N)) (c1 : w.cell? ⟨bb, 1, none⟩ = some (.slice A n c)) (co : w.cell? ⟨bo, 0, none⟩ = some (.bool on)) :
    Iter Tryd.prog (fun k => k = bf ∨ k = bb ∨ k = bo ∨ k = 3 ∨ ∃ ad, A = some ad ∧ 0 < n ∧ k = ad.block) 56 #[.pointer (some ⟨bf, 0, none⟩), .pointer (some ⟨bb, 0, none⟩), .pointer (some ⟨bo, 0, none⟩)] (intXs (plist N ws f on)) w := by
  intro l J Jx W hW hJ hJx hY hJ0
  have hWs := hW.size
  have E1 := ext1 W (.cells #[.func (.yield l) #[] #[]] 53)
  have HW1 := Lib.hid (And.intro hW (And.intro E1 hG))
  have dd0 : W.cell? ⟨bb, 0, none⟩ = some (.int .i64 N) := (hW.at bb 0 hbb (.inl (.inr (.inl rfl)))).trans c0
  have dd1 : W.cell? ⟨bb, 1, none⟩ = some (.slice A n c) := (hW.at bb 1 hbb (.inl (.inr (.inl rfl)))).trans c1
  have ddf : W.cell? ⟨bf, 0, none⟩ = some (.int .i64 f) := (hW.at bf 0 hbf (.inl (.inl rfl))).trans cf
  have ddo : W.cell? ⟨bo, 0, none⟩ = some (.bool on) := (hW.at bo 0 hbo (.inl (.inr (.inr (.inl rfl))))).trans co
  have d0 := (extAt E1 bb 0 (by omega)).trans dd0
  have d1 := (extAt E1 bb 1 (by omega)).trans dd1
  have df := (extAt E1 bf 0 (by omega)).trans ddf
  have do' := (extAt E1 bo 0 (by omega)).trans ddo
  refine callsIn_of_wp_marks Tryd.func56 rfl trivial (wpIn_wide.2 ?_)
  simp only [Tryd.ntmps56, List.size_toArray, List.length_cons, List.length_nil, Nat.reduceAdd, Nat.reduceSub, Array.replicate_succ, Array.replicate_zero, List.push_toArray, List.append_toArray, List.nil_append, List.cons_append]
  have H := Lib.hid (And.intro hJ (And.intro hJx hY))
  have H0 := Lib.hid hJ0
  have n1 := hr.n1
  have hn := h.le
  have HR := Lib.hid (And.intro hr h)
  clear hJ hJx hY hJ0 hW E1 hG dd0 dd1 ddf ddo c0 c1 cf co hr h
  obtain ⟨F, hF⟩ : ∃ F : Nat, f / 32 = F := ⟨(f / 32).toNat, by omega⟩
  have hF2 : F ≤ 288230376151711743 := by omega
  go_wp2
  go_step3
  go_wp2
  go_step3
  go_wp2
  have hE1 := HW1.out.2.1
  refine wp_loop (fun a' wr => ∃ (k : Nat) (Ks : List Nat) (u6 u7 u8 u17 u18 u19 u20 u21 u22 u23 u24 u25 u26 u27 u28 u29 u30 u31 u32 u33 u34 u35 u36 u37 u38 u39 u40 u41 u42 u43 u44 : Value), a' = { tmps := #[.func (.yield l) #[] #[], .pointer (some ⟨bf, 0, none⟩), .pointer (some ⟨bb, 0, none⟩), .pointer (some ⟨bo, 0, none⟩), .pointer (some ⟨W.heap.size, 0, none⟩), .int .i64 (F : Nat), u6, u7, u8, .int .i64 f, .int .i64 (F : Nat), .pointer (some ⟨bb, 1, none⟩), .slice A n c, .int .i64 (n : Nat), .int .i64 (F : Nat), .int .i64 ((n : Int) - (F : Int)), .int .i64 (k : Nat), u17, u18, u19, u20, u21, u22, u23, u24, u25, u26, u27, u28, u29, u30, u31, u32, u33, u34, u35, u36, u37, u38, u39, u40, u41, u42, u43, u44], defers := Ks.map mark } ∧ (k : Int) ≤ max 0 ((n : Int) - F) ∧ J (plTo N ws f on (F + k)).length wr ∧ Marks W.heap.size Ks wr ∧ Keep (fun k => k = bf ∨ k = bb ∨ k = bo ∨ k = 3 ∨ ∃ ad, A = some ad ∧ 0 < n ∧ k = ad.block) W.heap.size (W.alloc (.cells #[.func (.yield l) #[] #[]] 53)) wr)
    (fun a' _ => n - (intOf (a'.tmps.getD 16 undef)).toNat) ?_ ?_
  · refine ⟨0, [], undef, undef, undef, undef, undef, undef, undef, undef, undef, undef, undef, undef, undef, undef, undef, undef, undef, undef, undef, undef, undef, undef, undef, undef, undef, undef, undef, undef, undef, undef, undef, by simp only [hF]; rfl, by omega, ?_, Marks.nil _ _, Keep.refl _ _ _⟩
    rw [plTo_low (by omega)]
    exact H.out.1 0 _ _ H0.out (hE1.mono (Nat.le_refl _))
  · rintro a' wr ⟨k, Ks, u6, u7, u8, u17, u18, u19, u20, u21, u22, u23, u24, u25, u26, u27, u28, u29, u30, u31, u32, u33, u34, u35, u36, u37, u38, u39, u40, u41, u42, u43, u44, rfl, hk, hJk, hM, hKp⟩
    have hsz := hKp.size
    simp at hsz
    have e0 := (hKp.at bb 0 (by simp; omega) (.inl (.inr (.inl rfl)))).trans d0
    have e1 := (hKp.at bb 1 (by simp; omega) (.inl (.inr (.inl rfl)))).trans d1
    have ef := (hKp.at bf 0 (by simp; omega) (.inl (.inl rfl))).trans df
    have eo := (hKp.at bo 0 (by simp; omega) (.inl (.inr (.inr (.inl rfl))))).trans do'
    have ey : wr.cell? ⟨W.heap.size, 0, none⟩ = some (.func (.yield l) #[] #[]) := ((Blk.new W _ _).keep hKp (.inr (Nat.le_refl _))).cell 0
    by_cases hlt : F + k < n
    · have h5 : (k : Int) < (n : Int) - F := by omega
      obtain ⟨ad, rfl, hab, hcell⟩ := HR.out.2.rd (by omega)
      have hl := HR.out.2.len
      have hW := HW1.out.1
      have ck : wr.cell? (ad.add (F + k)) = some (.int .u32 (wd ws (F + k) : Nat)) := by
        have q1 : W.cell? (ad.add (F + k)) = some (.int .u32 (wd ws (F + k) : Nat)) := (hW.cell (p := ad.add (F + k)) (by rw [block_of_add]; exact hab) (.inl (.inr (.inr (.inr (.inr ⟨ad, rfl, by omega, block_of_add _ _⟩)))))).trans (hcell _ hlt)
        have q2 := (hKp.cell (p := ad.add (F + k)) (by rw [block_of_add]; simp; omega) (.inl (.inr (.inr (.inr (.inr ⟨ad, rfl, by omega, block_of_add _ _⟩))))))
        rw [q2, HW1.out.2.1.cell (p := ad.add (F + k)) (by rw [block_of_add]; omega)]
        exact q1
      have hBk := Lib.hid (Blk.new wr #[.int .i64 ((F : Int) + (k : Int))] 3)
      have g0 := fun v => (extAt (ext1 wr (.cells #[v] 3)) bb 0 (by omega)).trans e0
      have g1 := fun v => (extAt (ext1 wr (.cells #[v] 3)) bb 1 (by omega)).trans e1
      have gf := fun v => (extAt (ext1 wr (.cells #[v] 3)) bf 0 (by omega)).trans ef
      have go' := fun v => (extAt (ext1 wr (.cells #[v] 3)) bo 0 (by omega)).trans eo
      have gk := fun v => ((ext1 wr (.cells #[v] 3)).cell (p := ad.add (F + k)) (by rw [block_of_add]; omega)).trans ck
      have HH := Lib.hid (And.intro hJk (And.intro hM (And.intro hKp (And.intro ey hab))))
      clear hJk hM hKp e0 e1 ef eo ck ey hcell hW
      have hx := wd_lt HR.out.2.lt (F + k)
      have SO := Lib.hid (fun w => so_any (wd ws (F + k)) hx on w)
      have DG := Lib.hid (fun w => digits_any ((F : Int) + (k : Int)) f N (by omega) (by omega) (by have := HR.out.1.n0; omega) w)
      have R0 : bits .and .u32 ((so (wd ws (F + k)) on : Nat) : Int) ((dig ((F : Int) + (k : Int)) f N : Nat) : Int) = (word N ws f on (F + k) : Nat) := by
        rw [u32_and_nat _ _ (so_lt _ _ hx) (dig_lt _ _ _)]; rfl
      have hy := word_lt N ws f on (F + k)
      have hps := plTo_succ N f on (F + k) HR.out.2.lt
      have hsg : seg N ws f on (F + k) = (ones (word N ws f on (F + k))).map (32 * (F + k) + ·) := rfl
      have HPS := Lib.hid (And.intro hps hsg)
      clear hps hsg hx
      generalize so (wd ws (F + k)) on = z at *
      generalize dig ((F : Int) + (k : Int)) f N = d at *
      generalize hyw : word N ws f on (F + k) = y at *
      have HYW := Lib.hid hyw
      clear hyw
      generalize wd ws (F + k) = x at *
      go_wp2
      refine wp_region_tail 14 13 rfl (by kernel_rfl) (by kernel_rfl) (by kernel_rfl) ?_
      apply Exists.intro
      refine ⟨fun cc => ?_, fun W4 hW4 => ?_⟩
      · have hx := fun (o : From cc.w) p h => From.cell2 cc.h o p h
        simp only [List.take_succ_cons, List.take_zero]
        repeat (go_big_quiet_step ((first | (go_at_call 58; exact on_same SO.out _) | (go_at_call 39; exact on_same DG.out _))))
        exact wpQuiet_nil rfl
      simp only [List.drop_succ_cons, List.drop_zero]
      clear g0 g1 gf go' gk
      have h4 := hW4.size
      simp at h4
      have HW4 := Lib.hid hW4
      clear hW4
      go_wp2_with (go_at_call 57; refine (ones_mk _ _).mono ?_; rintro e w' ⟨rfl, rfl⟩)
      obtain ⟨hJk, hM, hKp, ey, hab⟩ := HH.out
      have X4 : Ext wr W4 := Ext.trans (ext1 _ _) HW4.out
      have X5 : Ext wr (W4.alloc (.cells #[.int .u32 y] 47)) := Ext.trans X4 (ext1 _ _)
      have hty := HW1.out.2.2.t
      have htz := HW1.out.2.2.tz
      have ht5 : ∀ j, j < 32 → (W4.alloc (.cells #[.int .u32 y] 47)).cell? ⟨3, j, none⟩ = some (.int .u8 (Lib.deBruijn32tab.getD j 0)) := fun j hj => by
        rw [extAt X5 _ _ (by omega), hKp.at 3 j (by simp; omega) (.inl (.inr (.inr (.inr (.inl rfl))))), extAt HW1.out.2.1 _ _ (by omega), HW1.out.1.at 3 j htz (.inl (.inr (.inr (.inr (.inl rfl)))))]
        exact hty j hj
      have b5 := (Blk.new W4 #[.int .u32 y] 47)
      have s5 : (W4.alloc (.cells #[.int .u32 y] 47)).heap.size = W4.heap.size + 1 := by simp
      have k5 : Blk (W4.alloc (.cells #[.int .u32 y] 47)) wr.heap.size #[.int .i64 ((F : Int) + (k : Int))] 3 := (at_new HW4.out).ext (ext1 _ _)
      have y5 : Blk (W4.alloc (.cells #[.int .u32 y] 47)) W.heap.size #[.func (.yield l) #[] #[]] 53 := ((Blk.new W _ _).keep hKp (.inr (Nat.le_refl _))).ext X5
      have M5 := hM.ext X5
      have K5 : Keep (fun k => k = bf ∨ k = bb ∨ k = bo ∨ k = 3 ∨ ∃ ad', (some ad : Option Addr) = some ad' ∧ 0 < n ∧ k = ad'.block) W.heap.size (W.alloc (.cells #[.func (.yield l) #[] #[]] 53)) (W4.alloc (.cells #[.int .u32 y] 47)) := hKp.ext X5
      have J5 : J (plTo N ws f on (F + k)).length (W4.alloc (.cells #[.int .u32 y] 47)) := H.out.1 _ _ _ hJk (X5.mono (by omega))
      have hGet := fun j i (h : (ones y)[j]? = some i) => plTo_get N f on HR.out.2.lt (m := F + k) (i := i) (j := j) (by have := HR.out.2.len; omega) (show (ones (word N ws f on (F + k)))[j]? = some i from HYW.out ▸ h)
      clear hJk hM hKp ey hty
      generalize (W4.alloc (.cells #[.int .u32 y] 47)) = W5 at *
      refine range_outer (D := fun k => k = W4.heap.size ∨ k = 3) (w0 := W5) rfl (enters_of Tryd.func64 (by kernel_rfl) rfl)
        (ones_iter y hy W4.heap.size W5 (by omega) ht5 (by omega) (by rw [b5.cell]; rfl)) (by rintro k' (rfl | rfl) <;> omega) (Keep.refl _ _ _) (by intro x' hx'; obtain ⟨i', _, rfl⟩ := List.mem_map.1 hx'; rfl)
        (fun j Wx => J ((plTo N ws f on (F + k)).length + j) Wx ∧ Keep (fun k => k = bf ∨ k = bb ∨ k = bo ∨ k = 3 ∨ ∃ ad', (some ad : Option Addr) = some ad' ∧ 0 < n ∧ k = ad'.block) W.heap.size W5 Wx)
        (fun c' j Wx => c' = .exit 0 ∧ Jx ((plTo N ws f on (F + k)).length + j) Wx ∧ Keep (fun k => k = bf ∨ k = bb ∨ k = bo ∨ k = 3 ∨ ∃ ad', (some ad : Option Addr) = some ad' ∧ 0 < n ∧ k = ad'.block) W.heap.size W5 Wx) ?hI ?hIx ⟨J5, Keep.refl _ _ _⟩ ?hround ?hdone ?hstop
      case hI =>
        rintro j A B ⟨q1, q2⟩ hb
        exact ⟨H.out.1 _ _ _ q1 (hb.mono (by omega)), q2.under hb⟩
      case hIx =>
        rintro c' j A B ⟨rfl, q1, q2⟩ hb
        exact ⟨rfl, H.out.2.1 _ _ _ q1 (hb.mono (by omega)), q2.under hb⟩
      case hround =>
        rintro l' j x' Wx hx' hl' hr' ⟨q1, q2⟩
        obtain ⟨i', hi', rfl⟩ : ∃ i', (ones y)[j]? = some i' ∧ x' = #[.int .i64 (i' : Nat)] := by
          simp only [intXs, List.getElem?_map, Option.map_eq_some_iff] at hx'
          obtain ⟨i', h1, h2⟩ := hx'
          exact ⟨i', h1, h2.symm⟩
        have Q := Lib.hid (And.intro q1 q2)
        clear hx' q1 q2
        gi_wp2
        refine to_body hl' hr' ?_
        intro W' hW' hr2
        obtain ⟨q1, q2⟩ := Q.out
        have q2' : Keep (fun k => k = bf ∨ k = bb ∨ k = bo ∨ k = 3 ∨ ∃ ad', (some ad : Option Addr) = some ad' ∧ 0 < n ∧ k = ad'.block) W.heap.size W5 W' := q2.under hW'
        have q1' := H.out.1 _ _ _ q1 (hW'.mono (by omega))
        have ey' : W'.cell? ⟨W.heap.size, 0, none⟩ = some (.func (.yield l) #[] #[]) := ((y5.keep q2' (.inr (Nat.le_refl _))).cell 0).trans rfl
        have ek' : W'.cell? ⟨wr.heap.size, 0, none⟩ = some (.int .i64 ((F : Int) + (k : Int))) := ((k5.keep q2' (.inr (by omega))).cell 0).trans rfl
        obtain ⟨f1, t1, p1, w1, hy1, hR1⟩ := H.out.2.2 _ _ W' (intXs_get _ _ _ (hGet j i' hi')) q1'
        rw [show ((32 * (F + k) + i' : Nat) : Int) = 32 * ((F : Int) + (k : Int)) + (i' : Int) by push_cast; rfl] at hy1
        have hi32 : i' < 32 := by
          have := List.mem_of_getElem? hi'
          exact List.mem_range.1 (List.mem_filter.1 this).1
        have Q2 := Lib.hid (And.intro q1' q2')
        clear q1 q2 q1' q2' hi'
        gi_wp2
        refine RoundIn.mono (show RoundIn (Fence.wide.inRound l') 0 _ _ _ _ _ _ _ _ from hR1) ?_
        rintro e W2 (⟨rfl, hJ2, hk2⟩ | ⟨rfl, hx2, hk2⟩)
        · have Q3 := Lib.hid (And.intro hJ2 hk2)
          clear hJ2 hk2
          gi_wp2
          obtain ⟨hJ2, hk2⟩ := Q3.out
          have kk : Keep (fun k => k = W4.heap.size ∨ k = 3) W5.heap.size W' W2 := ⟨hk2.size, fun i hi hd => hk2.same i hi (by
            rcases hd with (rfl | rfl) | hd
            · exact .inr (by omega)
            · exact .inl (.inr (.inr (.inr (.inl rfl))))
            · exact .inr (by omega))⟩
          exact ⟨kk, by rw [← Nat.add_assoc]; exact hJ2, Q2.out.2.trans hk2⟩
        · have Q3 := Lib.hid (And.intro hx2 hk2)
          clear hx2 hk2
          gi_wp2
          obtain ⟨hx2, hk2⟩ := Q3.out
          have kk : Keep (fun k => k = W4.heap.size ∨ k = 3) W5.heap.size W' W2 := ⟨hk2.size, fun i hi hd => hk2.same i hi (by
            rcases hd with (rfl | rfl) | hd
            · exact .inr (by omega)
            · exact .inl (.inr (.inr (.inr (.inl rfl))))
            · exact .inr (by omega))⟩
          exact ⟨kk, rfl, by rw [← Nat.add_assoc]; exact hx2, Q2.out.2.trans hk2⟩
      case hdone =>
        rintro K Wd hK ⟨q1, q2⟩ hKd
        have Q := Lib.hid (And.intro q1 (And.intro q2 hKd))
        clear q1 q2 hKd
        go_wp2
        obtain ⟨q1, q2, hKd⟩ := Q.out
        have hM' : Marks W.heap.size (K :: Ks) Wd := (M5.keep (fun K' hK' => q2.same K' (M5.lt hK') (.inr (M5.at_ K' hK').1))).cons (by omega) (fun h => by have := M5.lt h; omega) hKd
        have hlen : (plTo N ws f on (F + k + 1)).length = (plTo N ws f on (F + k)).length + (ones y).length := by rw [HPS.out.1, HPS.out.2, List.length_append, List.length_map]
        refine ⟨⟨k + 1, K :: Ks, _, _, _, _, _, _, _, _, _, _, _, _, _, _, _, _, _, _, _, _, _, _, _, _, _, _, _, _, _, _, _, rfl, by omega, ?_, hM', K5.trans q2⟩, ?_⟩
        · rw [← Nat.add_assoc, hlen]
          rw [show (intXs (ones y)).length = (ones y).length by simp [intXs]] at q1
          exact q1
        · simp [intOf]; omega
      case hstop =>
        rintro K c' j Wd hK hj ⟨rfl, q1, q2⟩ hKd
        have Q := Lib.hid (And.intro q1 (And.intro q2 hKd))
        clear q1 q2 hKd
        go_wp2
        obtain ⟨q1, q2, hKd⟩ := Q.out
        have hM' : Marks W.heap.size (K :: Ks) Wd := (M5.keep (fun K' hK' => q2.same K' (M5.lt hK') (.inr (M5.at_ K' hK').1))).cons (by omega) (fun h => by have := M5.lt h; omega) hKd
        have hlen : (plTo N ws f on (F + k + 1)).length = (plTo N ws f on (F + k)).length + (ones y).length := by rw [HPS.out.1, HPS.out.2, List.length_append, List.length_map]
        have hl2 := HR.out.2.len
        obtain ⟨t, ht⟩ := plTo_prefix N f on HR.out.2.lt (F + k + 1) (ws.length - (F + k + 1))
        rw [show F + k + 1 + (ws.length - (F + k + 1)) = ws.length by omega] at ht
        have hle : (plTo N ws f on (F + k)).length + j ≤ (intXs (plist N ws f on)).length := by
          rw [show (intXs (ones y)).length = (ones y).length by simp [intXs]] at hj
          rw [show (intXs (plist N ws f on)).length = (plTo N ws f on ws.length).length by simp [intXs, plist], ht, List.length_append, hlen]
          omega
        exact leave_marks_end (Ks := K :: Ks) hM' (fun W' hW' => ⟨_, results_none rfl _ _ _, ⟨_, rfl⟩, .inr ⟨_, hle, H.out.2.1 _ _ _ q1 hW'⟩⟩)
    · have h5 : ¬ (k : Int) < (n : Int) - F := by omega
      have HH := Lib.hid (And.intro hJk hM)
      clear hJk hM hKp
      go_wp2
      obtain ⟨hJk, hM⟩ := HH.out
      refine leave_marks_end hM (fun W' hW' => ⟨_, results_none rfl _ _ _, ⟨_, rfl⟩, .inl ?_⟩)
      have hl := HR.out.2.len
      have e : (intXs (plist N ws f on)).length = (plTo N ws f on (F + k)).length := by
        simp only [intXs, List.length_map]
        by_cases hFn : F ≤ n
        · rw [show F + k = ws.length by omega]; rfl
        · rw [plTo_low (by omega), show plist N ws f on = plTo N ws f on ws.length from rfl, plTo_low (by omega)]
      rw [e]
      exact H.out.1 _ _ _ hJk hW'
end
end Go.Proofs.YtichgkeglgagfaaDoor
