/- bits: places as an iterator whose body owns blocks. -/
import Derived.Test.YtichgkeglgagfaaDoorPlaces
import Derived.Test.YtichgkeglgagfaaDoorIterU
namespace Go.Proofs.YtichgkeglgagfaaDoor
open Go.RowKit Go
attribute [local go_sem] Oper.semAt_some
/-- A function with any number of marks returns; nothing but the marks is written. -/
theorem leavesInM_marksO {P : Program} {fn : Func} {tmps : Array Value} {R : Ending → World → Prop} {S : Nat} : ∀ (Ks : List Nat) (W : World), Marks S Ks W →
    (∀ W', Below S W W' → (∀ b, b ∉ Ks → W'.heap[b]? = W.heap[b]?) → ∃ v, (results fn tmps).run P W' = .ok v W' ∧ R (.returned v) W') → LeavesInM Fence.wide 0 P fn tmps R (Ks.map mark) .returning W
  | [], W, _, h => h W (Below.refl _ _) (fun _ _ => rfl)
  | K :: Ks, W, hM, h => by
    have hK := hM.at_ K (by simp)
    have hn := List.nodup_cons.1 hM.nodup
    refine ⟨by simp, .inl ⟨K, _, rfl, run_takeDeferred hK.2, leavesInM_marksO Ks _ ⟨hn.2, fun K' hK' => ⟨(hM.at_ K' (by simp [hK'])).1, ?_⟩⟩ (fun W' hW' hO => h W' (Below.trans (below_putObj _ _ _ _ hK.1) hW') (fun b hb => (hO b (fun hm => hb (by simp [hm]))).trans (World.putObj_heap_other (by rintro rfl; exact hb (by simp)))))⟩⟩
    rw [World.putObj_heap_other (by rintro rfl; exact hn.1 hK')]
    exact (hM.at_ K' (by simp [hK'])).2
theorem leave_marks_endO {P : Program} {fn : Func} {R : Ending → World → Prop} {S : Nat} {tmps : Array Value} {Ks : List Nat} {W : World} (hM : Marks S Ks W)
    (h : ∀ W', Below S W W' → (∀ b, b ∉ Ks → W'.heap[b]? = W.heap[b]?) → ∃ v, (results fn tmps).run P W' = .ok v W' ∧ R (.returned v) W') : bodyPostM Fence.wide 0 P fn R .normal { tmps, defers := Ks.map mark } W := leavesInM_marksO Ks W hM h
/-- What is the iterator's own stays so behind a yield. -/
theorem fresh_keep {D u u' : Nat → Prop} {W W5 W' W2 : World} {Ks : List Nat} {b : Nat} (hk : KeepU D u W.heap.size W' W2) (hq : KeepD (fun k => (D k ∨ k = W.heap.size) ∨ k = b ∨ k ∈ Ks) W5 W') (h1 : ∀ K ∈ Ks, ¬ u K) (h2 : ¬ u W.heap.size) (h3 : ¬ u b)
    (hu : ∀ c, u' c → u c ∨ W'.heap.size ≤ c) (hM : Marks W.heap.size Ks W5) (hb : W.heap.size ≤ b) (hb5 : b < W5.heap.size) (hW5 : W.heap.size < W5.heap.size) :
    KeepD (fun k => (D k ∨ k = W.heap.size) ∨ k = b ∨ k ∈ Ks) W5 W2 ∧ (∀ K ∈ Ks, ¬ u' K) ∧ ¬ u' W.heap.size ∧ ¬ u' b := by
  have hs := hq.size
  refine ⟨hq.trans ⟨hk.size, fun i hi hd => hk.same i hi ?_⟩, fun K hK h => ?_, fun h => ?_, fun h => ?_⟩
  · rcases hd with (hd | rfl) | rfl | hd
    · exact .inl hd
    · exact .inr ⟨Nat.le_refl _, h2⟩
    · exact .inr ⟨hb, h3⟩
    · exact .inr ⟨(hM.at_ _ hd).1, h1 _ hd⟩
  · rcases hu _ h with h | h
    · exact h1 _ hK h
    · have := hM.lt hK; omega
  · rcases hu _ h with h | h
    · exact h2 h
    · omega
  · rcases hu _ h with h | h
    · exact h3 h
    · omega
section
variable {a : Nat → Addr}
set_option maxHeartbeats 2000000 in
theorem places_iterU (N : Int) (A : Option Addr) (n c : Nat) (ws : List Nat) (f : Int) (on : Bool) (hr : Right N ws) (hf : 0 ≤ f) (hf2 : f ≤ 9223372036854775807) (bf bb bo : Nat) (w : World) (h : Bt w A n ws) (hG : G a w)
    (hbf : bf < w.heap.size) (hbb : bb < w.heap.size) (hbo : bo < w.heap.size) (cf : w.cell? ⟨bf, 0, none⟩ = some (.int .i64 f)) (c0 : w.cell? ⟨bb, 0, none⟩ = some (.int .i64 N)) (c1 : w.cell? ⟨bb, 1, none⟩ = some (.slice A n c)) (co : w.cell? ⟨bo, 0, none⟩ = some (.bool on)) :
    IterU Tryd.prog (fun k => k = bf ∨ k = bb ∨ k = bo ∨ k = 3 ∨ ∃ ad, A = some ad ∧ 0 < n ∧ k = ad.block) 56 #[.pointer (some ⟨bf, 0, none⟩), .pointer (some ⟨bb, 0, none⟩), .pointer (some ⟨bo, 0, none⟩)] (intXs (plist N ws f on)) w := by
  intro l J Jx u0 W hW hJ hJx hB hBx hY hJ0
  have hWs := hW.size
  have E1 := ext1 W (.cells #[.func (.yield l) #[] #[]] 53)
  have HW1 := Lib.hid (And.intro hW (And.intro E1 hG))
  have dd0 : W.cell? ⟨bb, 0, none⟩ = some (.int .i64 N) := (hW.at bb 0 hbb (.inl (.inr (.inl rfl)))).trans c0
  have dd1 : W.cell? ⟨bb, 1, none⟩ = some (.slice A n c) := (hW.at bb 1 hbb (.inl (.inr (.inl rfl)))).trans c1
  have ddf : W.cell? ⟨bf, 0, none⟩ = some (.int .i64 f) := (hW.at bf 0 hbf (.inl (.inl rfl))).trans cf
  have ddo : W.cell? ⟨bo, 0, none⟩ = some (.bool on) := (hW.at bo 0 hbo (.inl (.inr (.inr (.inl rfl))))).trans co
  have d0 := (extAt E1 bb 0 (by omega)).trans dd0
  have d1 := (extAt E1 bb 1 (by omega)).trans dd1
  have df := (extAt E1 bf 0 (by omega)).trans ddf
  have do' := (extAt E1 bo 0 (by omega)).trans ddo
  refine callsIn_of_wp_marks Tryd.func56 rfl trivial (wpIn_wide.2 ?_)
  simp only [Tryd.ntmps56, List.size_toArray, List.length_cons, List.length_nil, Nat.reduceAdd, Nat.reduceSub, Array.replicate_succ, Array.replicate_zero, List.push_toArray, List.append_toArray, List.nil_append, List.cons_append]
  have H := Lib.hid (And.intro hJ (And.intro hJx hY))
  have HB := Lib.hid (And.intro hB hBx)
  have H0 := Lib.hid hJ0
  have n1 := hr.n1
  have hn := h.le
  have HR := Lib.hid (And.intro hr h)
  clear hJ hJx hB hBx hY hJ0 hW E1 hG dd0 dd1 ddf ddo c0 c1 cf co hr h
  obtain ⟨F, hF⟩ : ∃ F : Nat, f / 32 = F := ⟨(f / 32).toNat, by omega⟩
  have hF2 : F ≤ 288230376151711743 := by omega
  go_wp2
  go_step3
  go_wp2
  go_step3
  go_wp2
  have hE1 := HW1.out.2.1
  refine wp_loop (fun a' wr => ∃ (k : Nat) (Ks : List Nat) (u : Nat → Prop) (u6 u7 u8 u17 u18 u19 u20 u21 u22 u23 u24 u25 u26 u27 u28 u29 u30 u31 u32 u33 u34 u35 u36 u37 u38 u39 u40 u41 u42 u43 u44 : Value), a' = { tmps := #[.func (.yield l) #[] #[], .pointer (some ⟨bf, 0, none⟩), .pointer (some ⟨bb, 0, none⟩), .pointer (some ⟨bo, 0, none⟩), .pointer (some ⟨W.heap.size, 0, none⟩), .int .i64 (F : Nat), u6, u7, u8, .int .i64 f, .int .i64 (F : Nat), .pointer (some ⟨bb, 1, none⟩), .slice A n c, .int .i64 (n : Nat), .int .i64 (F : Nat), .int .i64 ((n : Int) - (F : Int)), .int .i64 (k : Nat), u17, u18, u19, u20, u21, u22, u23, u24, u25, u26, u27, u28, u29, u30, u31, u32, u33, u34, u35, u36, u37, u38, u39, u40, u41, u42, u43, u44], defers := Ks.map mark } ∧ (k : Int) ≤ max 0 ((n : Int) - F) ∧ J (plTo N ws f on (F + k)).length u wr ∧ Marks W.heap.size Ks wr ∧ (∀ K ∈ Ks, ¬ u K) ∧ ¬ u W.heap.size ∧ KeepD (fun k => (k = bf ∨ k = bb ∨ k = bo ∨ k = 3 ∨ ∃ ad, A = some ad ∧ 0 < n ∧ k = ad.block) ∨ k = W.heap.size) (W.alloc (.cells #[.func (.yield l) #[] #[]] 53)) wr)
    (fun a' _ => n - (intOf (a'.tmps.getD 16 undef)).toNat) ?_ ?_
  · refine ⟨0, [], u0, undef, undef, undef, undef, undef, undef, undef, undef, undef, undef, undef, undef, undef, undef, undef, undef, undef, undef, undef, undef, undef, undef, undef, undef, undef, undef, undef, undef, undef, undef, undef, by simp only [hF]; rfl, by omega, ?_, Marks.nil _ _, (fun _ h => by cases h), (fun h => by have := HB.out.1 _ _ _ H0.out _ h; omega), KeepD.refl _ _⟩
    rw [plTo_low (by omega)]
    exact H.out.1 0 _ _ _ H0.out (hE1.mono (Nat.le_refl _)) (fun b hb => hE1.block b (HB.out.1 _ _ _ H0.out _ hb))
  · rintro a' wr ⟨k, Ks, u, u6, u7, u8, u17, u18, u19, u20, u21, u22, u23, u24, u25, u26, u27, u28, u29, u30, u31, u32, u33, u34, u35, u36, u37, u38, u39, u40, u41, u42, u43, u44, rfl, hk, hJk, hM, hKu, hWu, hKp⟩
    have hsz := hKp.size
    simp at hsz
    have e0 := (hKp.at bb 0 (by simp; omega) (.inl (.inr (.inl rfl)))).trans d0
    have e1 := (hKp.at bb 1 (by simp; omega) (.inl (.inr (.inl rfl)))).trans d1
    have ef := (hKp.at bf 0 (by simp; omega) (.inl (.inl rfl))).trans df
    have eo := (hKp.at bo 0 (by simp; omega) (.inl (.inr (.inr (.inl rfl))))).trans do'
    have ey : wr.cell? ⟨W.heap.size, 0, none⟩ = some (.func (.yield l) #[] #[]) := (show Blk wr W.heap.size _ _ from (hKp.same W.heap.size (by simp) (.inr rfl)).trans (Blk.new W _ _)).cell 0
    by_cases hlt : F + k < n
    · have h5 : (k : Int) < (n : Int) - F := by omega
      obtain ⟨ad, rfl, hab, hcell⟩ := HR.out.2.rd (by omega)
      have hl := HR.out.2.len
      have hW := HW1.out.1
      have ck : wr.cell? (ad.add (F + k)) = some (.int .u32 (wd ws (F + k) : Nat)) := by
        have q1 : W.cell? (ad.add (F + k)) = some (.int .u32 (wd ws (F + k) : Nat)) := (hW.cell (p := ad.add (F + k)) (by rw [block_of_add]; exact hab) (.inl (.inr (.inr (.inr (.inr ⟨ad, rfl, by omega, block_of_add _ _⟩)))))).trans (hcell _ hlt)
        have q2 := (hKp.cell (p := ad.add (F + k)) (by rw [block_of_add]; simp; omega) (.inl (.inr (.inr (.inr (.inr ⟨ad, rfl, by omega, block_of_add _ _⟩))))))
        rw [q2, HW1.out.2.1.cell (p := ad.add (F + k)) (by rw [block_of_add]; omega)]
        exact q1
      have hBk := Lib.hid (Blk.new wr #[.int .i64 ((F : Int) + (k : Int))] 3)
      have g0 := fun v => (extAt (ext1 wr (.cells #[v] 3)) bb 0 (by omega)).trans e0
      have g1 := fun v => (extAt (ext1 wr (.cells #[v] 3)) bb 1 (by omega)).trans e1
      have gf := fun v => (extAt (ext1 wr (.cells #[v] 3)) bf 0 (by omega)).trans ef
      have go' := fun v => (extAt (ext1 wr (.cells #[v] 3)) bo 0 (by omega)).trans eo
      have gk := fun v => ((ext1 wr (.cells #[v] 3)).cell (p := ad.add (F + k)) (by rw [block_of_add]; omega)).trans ck
      have HH := Lib.hid (And.intro hJk (And.intro hM (And.intro hKp (And.intro ey (And.intro hab (And.intro hKu hWu))))))
      clear hJk hM hKp hKu hWu e0 e1 ef eo ck ey hcell hW
      have hx := wd_lt HR.out.2.lt (F + k)
      have SO := Lib.hid (fun w => so_any (wd ws (F + k)) hx on w)
      have DG := Lib.hid (fun w => digits_any ((F : Int) + (k : Int)) f N (by omega) (by omega) (by have := HR.out.1.n0; omega) w)
      have R0 : bits .and .u32 ((so (wd ws (F + k)) on : Nat) : Int) ((dig ((F : Int) + (k : Int)) f N : Nat) : Int) = (word N ws f on (F + k) : Nat) := by
        rw [u32_and_nat _ _ (so_lt _ _ hx) (dig_lt _ _ _)]; rfl
      have hy := word_lt N ws f on (F + k)
      have hps := plTo_succ N f on (F + k) HR.out.2.lt
      have hsg : seg N ws f on (F + k) = (ones (word N ws f on (F + k))).map (32 * (F + k) + ·) := rfl
      have HPS := Lib.hid (And.intro hps hsg)
      clear hps hsg hx
      generalize so (wd ws (F + k)) on = z at *
      generalize dig ((F : Int) + (k : Int)) f N = d at *
      generalize hyw : word N ws f on (F + k) = y at *
      have HYW := Lib.hid hyw
      clear hyw
      generalize wd ws (F + k) = x at *
      go_wp2
      refine wp_region_tail 14 13 rfl (by kernel_rfl) (by kernel_rfl) (by kernel_rfl) ?_
      apply Exists.intro
      refine ⟨fun cc => ?_, fun W4 hW4 => ?_⟩
      · have hx := fun (o : From cc.w) p h => From.cell2 cc.h o p h
        simp only [List.take_succ_cons, List.take_zero]
        repeat (go_big_quiet_step ((first | (go_at_call 58; exact on_same SO.out _) | (go_at_call 39; exact on_same DG.out _))))
        exact wpQuiet_nil rfl
      simp only [List.drop_succ_cons, List.drop_zero]
      clear g0 g1 gf go' gk
      have h4 := hW4.size
      simp at h4
      have HW4 := Lib.hid hW4
      clear hW4
      go_wp2_with (go_at_call 57; refine (ones_mk _ _).mono ?_; rintro e w' ⟨rfl, rfl⟩)
      obtain ⟨hJk, hM, hKp, ey, hab, hKu, hWu⟩ := HH.out
      have X4 : Ext wr W4 := Ext.trans (ext1 _ _) HW4.out
      have X5 : Ext wr (W4.alloc (.cells #[.int .u32 y] 47)) := Ext.trans X4 (ext1 _ _)
      have hty := HW1.out.2.2.t
      have htz := HW1.out.2.2.tz
      have ht5 : ∀ j, j < 32 → (W4.alloc (.cells #[.int .u32 y] 47)).cell? ⟨3, j, none⟩ = some (.int .u8 (Lib.deBruijn32tab.getD j 0)) := fun j hj => by
        rw [extAt X5 _ _ (by omega), hKp.at 3 j (by simp; omega) (.inl (.inr (.inr (.inr (.inl rfl))))), extAt HW1.out.2.1 _ _ (by omega), HW1.out.1.at 3 j htz (.inl (.inr (.inr (.inr (.inl rfl)))))]
        exact hty j hj
      have b5 := (Blk.new W4 #[.int .u32 y] 47)
      have s5 : (W4.alloc (.cells #[.int .u32 y] 47)).heap.size = W4.heap.size + 1 := by simp
      have k5 : Blk (W4.alloc (.cells #[.int .u32 y] 47)) wr.heap.size #[.int .i64 ((F : Int) + (k : Int))] 3 := (at_new HW4.out).ext (ext1 _ _)
      have y5 : Blk (W4.alloc (.cells #[.int .u32 y] 47)) W.heap.size #[.func (.yield l) #[] #[]] 53 := (show Blk wr W.heap.size _ _ from (hKp.same W.heap.size (by simp) (.inr rfl)).trans (Blk.new W _ _)).ext X5
      have M5 := hM.ext X5
      have K5 : KeepD (fun k => (k = bf ∨ k = bb ∨ k = bo ∨ k = 3 ∨ ∃ ad', (some ad : Option Addr) = some ad' ∧ 0 < n ∧ k = ad'.block) ∨ k = W.heap.size) (W.alloc (.cells #[.func (.yield l) #[] #[]] 53)) (W4.alloc (.cells #[.int .u32 y] 47)) := hKp.ext X5
      have hub := HB.out.1 _ _ _ hJk
      have J5 : J (plTo N ws f on (F + k)).length u (W4.alloc (.cells #[.int .u32 y] 47)) := H.out.1 _ _ _ _ hJk (X5.mono (by omega)) (fun b hb => X5.block b (hub b hb))
      have u4 : ¬ u W4.heap.size := fun h => by have := hub _ h; omega
      have uk : ¬ u wr.heap.size := fun h => by have := hub _ h; omega
      have hGet := fun j i (h : (ones y)[j]? = some i) => plTo_get N f on HR.out.2.lt (m := F + k) (i := i) (j := j) (by have := HR.out.2.len; omega) (show (ones (word N ws f on (F + k)))[j]? = some i from HYW.out ▸ h)
      clear hJk hM hKp ey hty hub
      generalize (W4.alloc (.cells #[.int .u32 y] 47)) = W5 at *
      refine range_outerU (D := fun k => k = W4.heap.size ∨ k = 3) (w0 := W5) rfl (enters_of Tryd.func64 (by kernel_rfl) rfl)
        (ones_iterU y hy W4.heap.size W5 (by omega) ht5 (by omega) (by rw [b5.cell]; rfl)) (by rintro k' (rfl | rfl) <;> omega) (Keep.refl _ _ _) (by intro x' hx'; obtain ⟨i', _, rfl⟩ := List.mem_map.1 hx'; rfl)
        (fun j u Wx => J ((plTo N ws f on (F + k)).length + j) u Wx ∧ KeepD (fun k => ((k = bf ∨ k = bb ∨ k = bo ∨ k = 3 ∨ ∃ ad', (some ad : Option Addr) = some ad' ∧ 0 < n ∧ k = ad'.block) ∨ k = W.heap.size) ∨ k = wr.heap.size ∨ k ∈ Ks) W5 Wx ∧ (∀ K ∈ Ks, ¬ u K) ∧ ¬ u W.heap.size ∧ ¬ u wr.heap.size ∧ ¬ u W4.heap.size)
        (fun c' j u Wx => c' = .exit 0 ∧ Jx ((plTo N ws f on (F + k)).length + j) u Wx ∧ KeepD (fun k => ((k = bf ∨ k = bb ∨ k = bo ∨ k = 3 ∨ ∃ ad', (some ad : Option Addr) = some ad' ∧ 0 < n ∧ k = ad'.block) ∨ k = W.heap.size) ∨ k = wr.heap.size ∨ k ∈ Ks) W5 Wx ∧ (∀ K ∈ Ks, ¬ u K) ∧ ¬ u W.heap.size ∧ ¬ u wr.heap.size ∧ ¬ u W4.heap.size) ?hI ?hIx ?hIb ?hIxb (u0 := u) ⟨J5, KeepD.refl _ _, hKu, hWu, uk, u4⟩ ?hround ?hdone ?hstop
      case hI =>
        rintro j u A B ⟨q1, q2, q3⟩ hb hu
        exact ⟨H.out.1 _ _ _ _ q1 (hb.mono (by omega)) hu, q2.under hb, q3⟩
      case hIx =>
        rintro c' j u A B ⟨rfl, q1, q2, q3⟩ hb hu
        exact ⟨rfl, H.out.2.1 _ _ _ _ q1 (hb.mono (by omega)) hu, q2.under hb, q3⟩
      case hIb => rintro j u A ⟨q1, _⟩; exact HB.out.1 _ _ _ q1
      case hIxb => rintro c' j u A ⟨_, q1, _⟩; exact HB.out.2 _ _ _ q1
      case hround =>
        rintro l' j u x' Wx hx' hl' hr' hul ⟨q1, q2, q3⟩
        obtain ⟨i', hi', rfl⟩ : ∃ i', (ones y)[j]? = some i' ∧ x' = #[.int .i64 (i' : Nat)] := by
          simp only [intXs, List.getElem?_map, Option.map_eq_some_iff] at hx'
          obtain ⟨i', h1, h2⟩ := hx'
          exact ⟨i', h1, h2.symm⟩
        have Q := Lib.hid (And.intro q1 (And.intro q2 q3))
        clear hx' q1 q2 q3
        gi_wp2
        refine to_bodyU hl' hul hr' ?_
        intro W' hW' hu' hof hr2
        obtain ⟨q1, q2, q3⟩ := Q.out
        have q2' := q2.under hW'
        have q1' := H.out.1 _ _ _ _ q1 (hW'.mono (by omega)) hu'
        have ey' : W'.cell? ⟨W.heap.size, 0, none⟩ = some (.func (.yield l) #[] #[]) := ((show Blk W' W.heap.size _ _ from (q2'.same _ y5.lt (.inl (.inr rfl))).trans y5).cell 0).trans rfl
        have ek' : W'.cell? ⟨wr.heap.size, 0, none⟩ = some (.int .i64 ((F : Int) + (k : Int))) := ((show Blk W' wr.heap.size _ _ from (q2'.same _ k5.lt (.inr (.inl rfl))).trans k5).cell 0).trans rfl
        obtain ⟨f1, t1, p1, w1, hy1, hR1⟩ := H.out.2.2 _ _ _ W' (intXs_get _ _ _ (hGet j i' hi')) q1'
        rw [show ((32 * (F + k) + i' : Nat) : Int) = 32 * ((F : Int) + (k : Int)) + (i' : Int) by push_cast; rfl] at hy1
        have hi32 : i' < 32 := by
          have := List.mem_of_getElem? hi'
          exact List.mem_range.1 (List.mem_filter.1 this).1
        have Q2 := Lib.hid (And.intro q1' (And.intro q2' q3))
        clear q1 q2 q1' q2' q3 hi'
        gi_wp2
        refine RoundIn.mono (show RoundIn (Fence.wide.inRound l') 0 _ _ _ _ _ _ _ _ from hR1) ?_
        rintro e W2 ⟨u', hu2, (⟨rfl, hJ2, hk2⟩ | ⟨rfl, hx2, hk2⟩)⟩
        · have Q3 := Lib.hid (And.intro hJ2 hk2)
          clear hJ2 hk2
          gi_wp2
          obtain ⟨hJ2, hk2⟩ := Q3.out
          obtain ⟨q1', q2', q3a, q3b, q3c, q3d⟩ := Q2.out
          have FK := fresh_keep (W5 := W5) (W := W) hk2 q2' q3a q3b q3c hu2 M5 (by omega) (by omega) (by omega)
          exact ⟨⟨hk2.size, fun i hi hd => hk2.same i hi (by
            rcases hd with (rfl | rfl) | ⟨hd, hd2⟩
            · exact .inr ⟨by omega, q3d⟩
            · exact .inl (.inr (.inr (.inr (.inl rfl))))
            · exact .inr ⟨by omega, hd2⟩)⟩, u', hu2, by rw [← Nat.add_assoc]; exact hJ2, FK.1, FK.2.1, FK.2.2.1, FK.2.2.2, fun h => by rcases hu2 _ h with h | h; exact q3d h; have := q2'.size; omega⟩
        · have Q3 := Lib.hid (And.intro hx2 hk2)
          clear hx2 hk2
          gi_wp2
          obtain ⟨hx2, hk2⟩ := Q3.out
          obtain ⟨q1', q2', q3a, q3b, q3c, q3d⟩ := Q2.out
          have FK := fresh_keep (W5 := W5) (W := W) hk2 q2' q3a q3b q3c hu2 M5 (by omega) (by omega) (by omega)
          exact ⟨⟨hk2.size, fun i hi hd => hk2.same i hi (by
            rcases hd with (rfl | rfl) | ⟨hd, hd2⟩
            · exact .inr ⟨by omega, q3d⟩
            · exact .inl (.inr (.inr (.inr (.inl rfl))))
            · exact .inr ⟨by omega, hd2⟩)⟩, u', hu2, rfl, by rw [← Nat.add_assoc]; exact hx2, FK.1, FK.2.1, FK.2.2.1, FK.2.2.2, fun h => by rcases hu2 _ h with h | h; exact q3d h; have := q2'.size; omega⟩
      case hdone =>
        rintro K u Wd hK hKu' ⟨q1, q2, q3a, q3b, q3c, q3d⟩ hKd
        have Q := Lib.hid (And.intro q1 (And.intro q2 hKd))
        clear q1 q2 hKd
        go_wp2
        obtain ⟨q1, q2, hKd⟩ := Q.out
        have hM' : Marks W.heap.size (K :: Ks) Wd := (M5.keep (fun K' hK' => q2.same K' (M5.lt hK') (.inr (.inr hK')))).cons (by omega) (fun h => by have := M5.lt h; omega) hKd
        have hlen : (plTo N ws f on (F + k + 1)).length = (plTo N ws f on (F + k)).length + (ones y).length := by rw [HPS.out.1, HPS.out.2, List.length_append, List.length_map]
        refine ⟨⟨k + 1, K :: Ks, u, _, _, _, _, _, _, _, _, _, _, _, _, _, _, _, _, _, _, _, _, _, _, _, _, _, _, _, _, _, _, _, rfl, by omega, ?_, hM', (fun K' hK' => by rcases List.mem_cons.1 hK' with rfl | h; exact hKu'; exact q3a _ h), q3b, K5.trans (q2.mono (fun b hb => .inl hb))⟩, ?_⟩
        · rw [← Nat.add_assoc, hlen]
          rw [show (intXs (ones y)).length = (ones y).length by simp [intXs]] at q1
          exact q1
        · simp [intOf]; omega
      case hstop =>
        rintro K c' j u Wd hK hKu' hj ⟨rfl, q1, q2, q3a, q3b, q3c, q3d⟩ hKd
        have Q := Lib.hid (And.intro q1 (And.intro q2 hKd))
        clear q1 q2 hKd
        go_wp2
        obtain ⟨q1, q2, hKd⟩ := Q.out
        have hM' : Marks W.heap.size (K :: Ks) Wd := (M5.keep (fun K' hK' => q2.same K' (M5.lt hK') (.inr (.inr hK')))).cons (by omega) (fun h => by have := M5.lt h; omega) hKd
        have hlen : (plTo N ws f on (F + k + 1)).length = (plTo N ws f on (F + k)).length + (ones y).length := by rw [HPS.out.1, HPS.out.2, List.length_append, List.length_map]
        have hl2 := HR.out.2.len
        obtain ⟨t, ht⟩ := plTo_prefix N f on HR.out.2.lt (F + k + 1) (ws.length - (F + k + 1))
        rw [show F + k + 1 + (ws.length - (F + k + 1)) = ws.length by omega] at ht
        have hle : (plTo N ws f on (F + k)).length + j ≤ (intXs (plist N ws f on)).length := by
          rw [show (intXs (ones y)).length = (ones y).length by simp [intXs]] at hj
          rw [show (intXs (plist N ws f on)).length = (plTo N ws f on ws.length).length by simp [intXs, plist], ht, List.length_append, hlen]
          omega
        exact leave_marks_endO (Ks := K :: Ks) hM' (fun W' hW' hO => ⟨_, results_none rfl _ _ _, ⟨_, rfl⟩, .inr ⟨_, u, hle, H.out.2.1 _ _ _ _ q1 hW' (fun b hb => hO b (fun hm => by rcases List.mem_cons.1 hm with rfl | h; exact hKu' hb; exact q3a _ h hb))⟩⟩)
    · have h5 : ¬ (k : Int) < (n : Int) - F := by omega
      have HH := Lib.hid (And.intro hJk (And.intro hM hKu))
      clear hJk hM hKp hKu
      go_wp2
      obtain ⟨hJk, hM, hKu⟩ := HH.out
      refine leave_marks_endO hM (fun W' hW' hO => ⟨_, results_none rfl _ _ _, ⟨_, rfl⟩, .inl ⟨u, ?_⟩⟩)
      have hl := HR.out.2.len
      have e : (intXs (plist N ws f on)).length = (plTo N ws f on (F + k)).length := by
        simp only [intXs, List.length_map]
        by_cases hFn : F ≤ n
        · rw [show F + k = ws.length by omega]; rfl
        · rw [plTo_low (by omega), show plist N ws f on = plTo N ws f on ws.length from rfl, plTo_low (by omega)]
      rw [e]
      exact H.out.1 _ _ _ _ hJk hW' (fun b hb => hO b (fun hm => hKu _ hm hb))
end
end Go.Proofs.YtichgkeglgagfaaDoor
