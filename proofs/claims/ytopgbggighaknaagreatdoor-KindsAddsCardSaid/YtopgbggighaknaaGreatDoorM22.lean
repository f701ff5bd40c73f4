/- Joined texts, in their order: KRead, KParse. -/
import Derived.Test.YtopgbggighaknaaGreatDoorM20
import Derived.Test.YtopgbggighaknaaGreatDoorM21
import Derived.Test.YtopgbggighaknaaGreatDoorM07
import Derived.Test.YtopgbggighaknaaGreatDoorM16
/- kinds: read. -/
namespace Go.Proofs.YtopgbggighaknaaGreatDoor
open Go.RowKit Go
attribute [local go_sem] Oper.semAt_some
/-- The blocks that a reader's rows lean on, and its own. -/
def Ur (b M : Nat) (v : Value) (ys : List DRow) : Nat → Prop := fun k => k = b ∨ k = M ∨ v.ownBlock = some k ∨ ∃ (i : Nat) (y : DRow), ys[i]? = some y ∧ ((0 < y.n ∧ ∃ ad : Addr, y.A = some ad ∧ ad.block = k) ∨ (0 < y.m ∧ ∃ ad : Addr, y.B = some ad ∧ ad.block = k))
theorem Kn.lt {W : World} {b M n c : Nat} {A : Option Addr} {ys : List DRow} {out : List DescR} {x2 x3 : Value} (h : Kn W b M A n c ys out x2 x3) : ∀ k, Ur b M (.slice A n c) ys k → k < W.heap.size := by
  have hb := h.blk.lt
  rintro k (rfl | rfl | hk | ⟨i, y, hy, hk⟩)
  · exact hb
  · have := h.mb; omega
  · exact (World.ownsRow.lt h.own k hk).2
  · have hi : i < out.length := by rw [h.cnt, ← h.len]; exact (List.getElem?_eq_some_iff.1 hy).1
    have hd := (h.rows i y _ hy (List.getElem?_eq_getElem hi)).1
    rcases hk with ⟨h0, ad, e, rfl⟩ | ⟨h0, ad, e, rfl⟩
    · obtain ⟨ad', e', hl, _⟩ := hd.p.2 h0
      rw [e] at e'; cases e'; exact hl
    · obtain ⟨ad', e', hl, _⟩ := hd.q.2 h0
      rw [e] at e'; cases e'; exact hl
/-- It stays while its own blocks stay. -/
theorem Kn.stay {W W' : World} {b M n c : Nat} {A : Option Addr} {ys : List DRow} {out : List DescR} {x2 x3 : Value} (h : Kn W b M A n c ys out x2 x3) (hz : W.heap.size ≤ W'.heap.size) (hu : ∀ k, Ur b M (.slice A n c) ys k → W'.heap[k]? = W.heap[k]?) : Kn W' b M A n c ys out x2 x3 := by
  refine ⟨(hu b (.inl rfl)).trans h.blk, h.cnt, ownN_keep h.own (fun g hg => hu g (.inr (.inr (.inl hg)))), h.len, fun i y d h1 h2 => ?_, h.far, h.small, h.mb, ?_⟩
  · obtain ⟨q1, q2⟩ := h.rows i y d h1 h2
    have il : ∀ (A : Option Addr) (n : Nat) (l : List Int), Il W A n l → (∀ ad, 0 < n → A = some ad → W'.heap[ad.block]? = W.heap[ad.block]?) → Il W' A n l := fun A n l hI hk => ⟨hI.1, fun h0 => by
      obtain ⟨ad, e, hb, hc⟩ := hI.2 h0
      exact ⟨ad, e, Nat.lt_of_lt_of_le hb hz, fun j hj => (World.cell?_of_block (w := W) (a := ad.add j) (by rw [block_of_add]; exact hk ad h0 e)).trans (hc j hj)⟩⟩
    exact ⟨⟨q1.s, q1.t, il _ _ _ q1.p (fun ad h0 e => hu _ (.inr (.inr (.inr ⟨i, y, h1, .inl ⟨h0, ad, e, rfl⟩⟩)))), il _ _ _ q1.q (fun ad h0 e => hu _ (.inr (.inr (.inr ⟨i, y, h1, .inr ⟨h0, ad, e, rfl⟩⟩)))), q1.pc, q1.qc, q1.pm, q1.qm⟩, q2⟩
  · obtain ⟨D, hm, hD⟩ := h.map
    obtain ⟨es, clock, hb, r⟩ := hm
    exact ⟨D, ⟨es, clock, (hu M (.inr (.inl rfl))).trans hb, r⟩, hD⟩
theorem cap_of_own {w : World} {base n c : Nat} {A : Option Addr} {e : TypeId} {size : Nat} {xs : List Value} (h : w.ownsRow base e size (.slice A n c) n xs) : n ≤ c := by
  rcases h.2 with ⟨e1, e2⟩ | ⟨g, cap, cur, e1, _, _, hn, _⟩
  · simp only [Value.slice.injEq] at e1; omega
  · simp only [Value.slice.injEq] at e1; obtain ⟨_, _, rfl⟩ := e1; exact hn
/-- Its rows, while its own blocks stay. -/
theorem Kn.dl {W : World} {b M n c : Nat} {A : Option Addr} {ys : List DRow} {out : List DescR} {x2 x3 : Value} (h : Kn W b M A n c ys out x2 x3) : Dl W A n ys out := by
  obtain ⟨A', c', e, _, hrow, _⟩ := rows_of_own h.own h.len
  cases e
  exact ⟨hrow, h.cnt, fun i y d h1 h2 => (h.rows i y d h1 h2).1⟩
/-- What read answers. -/
def ReadKR (w : World) (s : List UInt8) (e : Ending) (w' : World) : Prop := ∃ (A : Option Addr) (n c : Nat) (ys : List DRow) (M : Nat) (k : Int) (v : Value), e = .returned (.agg #[.slice A n c, .map (some M), .int .i64 k, v]) ∧ n ≤ c ∧ Ext w w' ∧
  match readK [] 0 s with
  | .done out => v = .nilIface ∧ n = out.length ∧ Dl w' A n ys out ∧ Small ys
  | .bad j er => k = (j : Nat) ∧ K.Code v er ∧ er ≠ 0
section
set_option maxHeartbeats 8000000 in
set_option maxRecDepth 100000 in
theorem readk_is (s : List UInt8) (hs : s.length ≤ 100000) (w : World) (hG : K.G w) :
    Calls Tryz.prog 44 #[.string ⟨s.toArray⟩] w (ReadKR w s) := by
  have hmm := @run_makeMap Tryz.prog
  have HG := Lib.hid (fun W (hW : Ext w W) => hG.ext hW)
  clear hG
  refine calls_of_marks Tryz.func44 rfl ?_
  simp only [Tryz.ntmps44, List.size_toArray, List.length_cons, List.length_nil, Nat.reduceAdd, Nat.reduceSub, Array.replicate_succ, Array.replicate_zero, List.push_toArray, List.append_toArray, List.nil_append, List.cons_append]
  go_wp2
  go_step3
  go_wp2
  go_step3
  go_wp2_with (go_at_call 57; refine (klines_mk _ _).mono ?_; rintro e w1 ⟨rfl, rfl⟩)
  have bR4 := Lib.hid (((Blk.new w #[.slice none 0 0, .map none, .int .i64 0, .nilIface] 70).ext (ext3 _ (.map #[] 0) (.cells #[.slice none 0 0, .map (some (w.heap.size + 1)), .int .i64 0, .nilIface] 70) (.cells #[.string ⟨s.toArray⟩] 9))))
  have hmap := World.ownsMap_made (H := Unit) (w.alloc (.cells #[.slice none 0 0, .map none, .int .i64 0, .nilIface] 70)) Tryz.prog 9 (plainElem Tryz.prog 3)
  have e1 : (w.alloc (.cells #[.slice none 0 0, .map none, .int .i64 0, .nilIface] 70)).heap.size = w.heap.size + 1 := by simp
  rw [e1] at hmap
  have bB := Blk.new ((w.alloc (.cells #[.slice none 0 0, .map none, .int .i64 0, .nilIface] 70)).alloc (.map #[] 0)) #[.slice none 0 0, .map (some (w.heap.size + 1)), .int .i64 0, .nilIface] 70
  have e2 : ((w.alloc (.cells #[.slice none 0 0, .map none, .int .i64 0, .nilIface] 70)).alloc (.map #[] 0)).heap.size = w.heap.size + 1 + 1 := by simp
  rw [e2] at bB
  have e3 : (((w.alloc (.cells #[.slice none 0 0, .map none, .int .i64 0, .nilIface] 70)).alloc (.map #[] 0)).alloc (.cells #[.slice none 0 0, .map (some (w.heap.size + 1)), .int .i64 0, .nilIface] 70)).heap.size = w.heap.size + 1 + 1 + 1 := by simp
  have bC := Blk.new (((w.alloc (.cells #[.slice none 0 0, .map none, .int .i64 0, .nilIface] 70)).alloc (.map #[] 0)).alloc (.cells #[.slice none 0 0, .map (some (w.heap.size + 1)), .int .i64 0, .nilIface] 70)) #[.string ⟨s.toArray⟩] 9
  rw [e3] at bC
  have K4 : Kn ((((w.alloc (.cells #[.slice none 0 0, .map none, .int .i64 0, .nilIface] 70)).alloc (.map #[] 0)).alloc (.cells #[.slice none 0 0, .map (some (w.heap.size + 1)), .int .i64 0, .nilIface] 70)).alloc (.cells #[.string ⟨s.toArray⟩] 9)) (w.heap.size + 1 + 1) (w.heap.size + 1) none 0 0 [] [] (.int .i64 0) .nilIface :=
    ⟨bB.ext (ext1 _ _), rfl, ⟨rfl, .inl ⟨rfl, rfl⟩⟩, rfl, fun i y d h => by simp at h, fun i y h => by simp at h, Small.nil, by omega, ⟨_, (hmap.alloc _).alloc _, fun t => by simp [Maps.has]⟩⟩
  have X4 := Ext.trans (ext3 w (.cells #[.slice none 0 0, .map none, .int .i64 0, .nilIface] 70) (.map #[] 0) (.cells #[.slice none 0 0, .map (some (w.heap.size + 1)), .int .i64 0, .nilIface] 70)) (ext1 _ (.cells #[.string ⟨s.toArray⟩] 9))
  have z4 : ((((w.alloc (.cells #[.slice none 0 0, .map none, .int .i64 0, .nilIface] 70)).alloc (.map #[] 0)).alloc (.cells #[.slice none 0 0, .map (some (w.heap.size + 1)), .int .i64 0, .nilIface] 70)).alloc (.cells #[.string ⟨s.toArray⟩] 9)).heap.size = w.heap.size + 4 := by simp
  clear hmap e1 bB e2 e3
  have bR := bR4.out
  clear bR4
  generalize ((((w.alloc (.cells #[.slice none 0 0, .map none, .int .i64 0, .nilIface] 70)).alloc (.map #[] 0)).alloc (.cells #[.slice none 0 0, .map (some (w.heap.size + 1)), .int .i64 0, .nilIface] 70)).alloc (.cells #[.string ⟨s.toArray⟩] 9)) = W4 at *
  refine range_outerU (D := fun k => k = w.heap.size + 1 + 1 + 1) (w0 := W4) rfl (enters_of Tryz.func69 (by kernel_rfl) rfl)
    (klines_iterU s (by omega) (w.heap.size + 1 + 1 + 1) 9 W4 bC) (by rintro k rfl; omega) (Keep.refl _ _ _) (by intro x' hx'; obtain ⟨i', hi', rfl⟩ := List.mem_iff_getElem.1 hx'; simp [numXs])
    (fun j u Wx => okS s j ∧ (∃ A n c ys x2, Kn Wx (w.heap.size + 1 + 1) (w.heap.size + 1) A n c ys (outS s j) (.int .i64 x2) .nilIface ∧ u = Ur (w.heap.size + 1 + 1) (w.heap.size + 1) (.slice A n c) ys) ∧ Ext w Wx ∧ Blk Wx w.heap.size #[.slice none 0 0, .map none, .int .i64 0, .nilIface] 70 ∧ W4.heap.size ≤ Wx.heap.size)
    (fun c' j u Wx => c' = .exit 0 ∧ (∃ (k : Nat) (t : List UInt8), j = k + 1 ∧ okS s k ∧ (linesS s)[k]? = some t ∧ takeE (outS s k) t ≠ 0 ∧ ∃ A n c ys v, Kn Wx (w.heap.size + 1 + 1) (w.heap.size + 1) A n c ys (outS s k) (.int .i64 ((k : Int) + 1)) v ∧ K.Code v (takeE (outS s k) t) ∧ u = Ur (w.heap.size + 1 + 1) (w.heap.size + 1) (.slice A n c) ys) ∧ Ext w Wx ∧ Blk Wx w.heap.size #[.slice none 0 0, .map none, .int .i64 0, .nilIface] 70)
    ?hI ?hIx ?hIb ?hIxb (u0 := Ur (w.heap.size + 1 + 1) (w.heap.size + 1) (.slice none 0 0) []) ⟨fun j t h => absurd h (by omega), ⟨none, 0, 0, [], 0, K4, rfl⟩, X4, bR, Nat.le_refl _⟩ ?hround ?hdone ?hstop
  case hI =>
    rintro j u A B ⟨q0, ⟨A1, n, c, ys, x2, q1, rfl⟩, q2, q3, q4⟩ hb hu
    exact ⟨q0, ⟨A1, n, c, ys, x2, q1.stay hb.size hu, rfl⟩, Below.trans q2 (hb.mono (by omega)), q3.below hb (by omega), Nat.le_trans q4 hb.size⟩
  case hIx =>
    rintro c' j u A B ⟨rfl, ⟨k, t, rfl, q0, q0', q0'', A1, n, c, ys, v, q1, q1', rfl⟩, q2, q3⟩ hb hu
    exact ⟨rfl, ⟨k, t, rfl, q0, q0', q0'', A1, n, c, ys, v, q1.stay hb.size hu, q1', rfl⟩, Below.trans q2 (hb.mono (by omega)), q3.below hb (by omega)⟩
  case hIb => rintro j u A ⟨_, ⟨A1, n, c, ys, x2, q1, rfl⟩, _⟩; exact q1.lt
  case hIxb => rintro c' j u A ⟨_, ⟨k, t, rfl, _, _, _, A1, n, c, ys, v, q1, _, rfl⟩, _⟩; exact q1.lt
  case hround =>
    rintro l' j u x' Wx hx' hl' hr' hul ⟨q0, ⟨A1, n, c, ys, x2, q1, rfl⟩, q2, q3, q4⟩
    obtain ⟨t, ht, rfl⟩ : ∃ t, (linesS s)[j]? = some t ∧ x' = #[.int .i64 ((j : Int) + 1), bt t] := by
      have hj : j < (linesS s).length := by rw [← numXs_len]; exact (List.getElem?_eq_some_iff.1 hx').1
      have h1 : (linesS s)[j]? = some (linesS s)[j] := List.getElem?_eq_getElem hj
      exact ⟨_, h1, (Option.some.inj ((numXs_get h1).symm.trans hx')).symm⟩
    have htl := lines_mem (List.mem_of_getElem? ht)
    obtain ⟨hall, h60⟩ := outS_right s j q0
    have hcn := q1.cnt
    have hS := q1.lt
    have Q := Lib.hid (And.intro q0 (And.intro q1 (And.intro q2 (And.intro q3 (And.intro q4 (And.intro ht hall))))))
    clear hx' q0 q1 q2 q3 q4 ht hall
    gi_wp2
    refine to_bodyU hl' hul hr' ?_
    intro W' hW' hu' hof hr2
    have hz' := hW'.size
    obtain ⟨q0, q1, q2, q3, q4, ht, hall⟩ := Q.out
    have hWW : W4.heap.size ≤ W'.heap.size := by
      obtain ⟨r, h⟩ := hr2
      have := (Array.getElem?_eq_some_iff.1 h).1
      omega
    have q1' := q1.stay (by omega) hu'
    have q2' := Below.trans q2 (hW'.mono (by omega))
    have q3' := q3.below hW' (by omega)
    have TK := Lib.hid (take_is (w.heap.size + 1 + 1) (w.heap.size + 1) A1 n c ys (outS s j) (.int .i64 x2) .nilIface t W' (HG.out W' q2') q1' (by omega) hall (by omega))
    have Q2 := Lib.hid (And.intro q1' (And.intro q2' (And.intro q3' hWW)))
    clear q0 q1 q2 q3 q4 q1' q2' q3' ht hall
    unfold LrnR at TK
    by_cases hE : takeE (outS s j) t = 0
    · rw [hE, if_pos rfl] at TK
      gi_wp2_with (gi_at_call 58; refine (CallsIn.inRound l' (callsIn_wide.2 TK.out)).mono ?_; rintro e W2 ⟨⟨v, rfl, hv⟩, ⟨A2, n2, c2, ys2, k2, o2, r2⟩, g2⟩; obtain rfl := K.code_nil hv rfl; have f2 := k2.blk.frozen 2; have f3 := k2.blk.frozen 3; have p2 := k2.blk.cell 2; have p3 := k2.blk.cell 3; simp only [List.getElem?_toArray, List.getElem?_cons_zero, List.getElem?_cons_succ] at p2 p3; have Q3 := Lib.hid (And.intro k2 (And.intro o2 (And.intro r2 g2))); clear hv k2 o2 r2 g2)
      have keep : KeepU (fun k => k = w.heap.size + 1 + 1 + 1) (Ur (w.heap.size + 1 + 1) (w.heap.size + 1) (.slice A1 n c) ys) W4.heap.size W' ((W2.setCell ⟨w.heap.size + 1 + 1, 2, none⟩ (.int .i64 ((j : Int) + 1))).setCell ⟨w.heap.size + 1 + 1, 3, none⟩ .nilIface) := by
        obtain ⟨k2, o2, r2, g2⟩ := Q3.out
        have hrow : ∀ g, (Value.slice A1 n c).ownBlock = some g → w.heap.size + 1 + 1 + 2 ≤ g := fun g hg => ownN_block Q2.out.1.own g hg
        refine ⟨by simpa using g2.size, fun k hk hd => ?_⟩
        have hkb : k ≠ w.heap.size + 1 + 1 := by
          rcases hd with rfl | ⟨_, hd⟩
          · omega
          · exact fun e => hd (.inl e)
        rw [Below.heap_setCell _ _ _ _ hkb, Below.heap_setCell _ _ _ _ hkb]
        refine g2.block k hk ?_
        rintro (e | e | e)
        · exact hkb e
        · rcases hd with rfl | ⟨_, hd⟩
          · omega
          · exact hd (.inr (.inl e))
        · rcases hd with rfl | ⟨_, hd⟩
          · have := hrow _ e; omega
          · exact hd (.inr (.inr (.inl e)))
      have hnew : ∀ k, Ur (w.heap.size + 1 + 1) (w.heap.size + 1) (.slice A2 n2 c2) ys2 k → Ur (w.heap.size + 1 + 1) (w.heap.size + 1) (.slice A1 n c) ys k ∨ W'.heap.size ≤ k := by
        obtain ⟨k2, o2, r2, g2⟩ := Q3.out
        rintro k (e | e | e | ⟨i, y, hy, hk⟩)
        · exact .inl (.inl e)
        · exact .inl (.inr (.inl e))
        · exact (o2 k e).imp (fun h => .inr (.inr (.inl h))) id
        · rcases r2 i y hy with h | ⟨h1, h2⟩
          · exact .inl (.inr (.inr (.inr ⟨i, y, h, hk⟩)))
          · rcases hk with ⟨_, ad, e, rfl⟩ | ⟨_, ad, e, rfl⟩
            · exact .inr (h1 ad e)
            · exact .inr (h2 ad e)
      have hext : Ext w ((W2.setCell ⟨w.heap.size + 1 + 1, 2, none⟩ (.int .i64 ((j : Int) + 1))).setCell ⟨w.heap.size + 1 + 1, 3, none⟩ .nilIface) := by
        have hrow : ∀ g, (Value.slice A1 n c).ownBlock = some g → w.heap.size + 1 + 1 + 2 ≤ g := fun g hg => ownN_block Q2.out.1.own g hg
        have h2 : Ext w W2 := ChgU.below Q2.out.2.1 Q3.out.2.2.2 (by rintro i (rfl | rfl | h); omega; omega; have := hrow i h; omega) (by omega)
        exact (h2.setCell (p := ⟨w.heap.size + 1 + 1, 2, none⟩) (by show w.heap.size ≤ w.heap.size + 1 + 1; omega) _).setCell (p := ⟨w.heap.size + 1 + 1, 3, none⟩) (by show w.heap.size ≤ w.heap.size + 1 + 1; omega) _
      have hbr : Blk ((W2.setCell ⟨w.heap.size + 1 + 1, 2, none⟩ (.int .i64 ((j : Int) + 1))).setCell ⟨w.heap.size + 1 + 1, 3, none⟩ .nilIface) w.heap.size #[.slice none 0 0, .map none, .int .i64 0, .nilIface] 70 := by
        have hrow : ∀ g, (Value.slice A1 n c).ownBlock = some g → w.heap.size + 1 + 1 + 2 ≤ g := fun g hg => ownN_block Q2.out.1.own g hg
        have h2 : Blk W2 w.heap.size _ _ := Q2.out.2.2.1.chgU Q3.out.2.2.2 (by rintro (h | h | h); omega; omega; have := hrow _ h; omega)
        exact (h2.other ⟨w.heap.size + 1 + 1, 2, none⟩ _ (by show w.heap.size ≠ w.heap.size + 1 + 1; omega)).other ⟨w.heap.size + 1 + 1, 3, none⟩ _ (by show w.heap.size ≠ w.heap.size + 1 + 1; omega)
      obtain ⟨q0, q1, q2, q3, q4, ht, hall⟩ := Q.out
      have eo : outS s (j + 1) = takeL (outS s j) t := by simp only [outS, ht]
      refine ⟨keep, _, hnew, okS_succ s j t q0 ht hE, ⟨A2, n2, c2, ys2, _, by rw [eo]; exact Q3.out.1.set23 _ _, rfl⟩, hext, hbr, ?_⟩
      have := keep.size; omega
    · rw [if_neg hE] at TK
      gi_wp2_with (gi_at_call 58; refine (CallsIn.inRound l' (callsIn_wide.2 TK.out)).mono ?_; rintro e W2 ⟨⟨v, rfl, hv⟩, ⟨A2, n2, c2, ys2, k2, o2, r2⟩, g2⟩; have HV := Lib.hid hv; obtain ⟨te, pe, rfl⟩ := K.code_err hv hE; have f2 := k2.blk.frozen 2; have f3 := k2.blk.frozen 3; have p2 := k2.blk.cell 2; have p3 := k2.blk.cell 3; simp only [List.getElem?_toArray, List.getElem?_cons_zero, List.getElem?_cons_succ] at p2 p3; have Q3 := Lib.hid (And.intro k2 (And.intro o2 (And.intro r2 g2))); clear hv k2 o2 r2 g2)
      have keep : KeepU (fun k => k = w.heap.size + 1 + 1 + 1) (Ur (w.heap.size + 1 + 1) (w.heap.size + 1) (.slice A1 n c) ys) W4.heap.size W' ((W2.setCell ⟨w.heap.size + 1 + 1, 2, none⟩ (.int .i64 ((j : Int) + 1))).setCell ⟨w.heap.size + 1 + 1, 3, none⟩ (.iface 75 (.agg #[.int .i64 (takeE (outS s j) t), .iface te pe]))) := by
        obtain ⟨k2, o2, r2, g2⟩ := Q3.out
        have hrow : ∀ g, (Value.slice A1 n c).ownBlock = some g → w.heap.size + 1 + 1 + 2 ≤ g := fun g hg => ownN_block Q2.out.1.own g hg
        refine ⟨by simpa using g2.size, fun k hk hd => ?_⟩
        have hkb : k ≠ w.heap.size + 1 + 1 := by
          rcases hd with rfl | ⟨_, hd⟩
          · omega
          · exact fun e => hd (.inl e)
        rw [Below.heap_setCell _ _ _ _ hkb, Below.heap_setCell _ _ _ _ hkb]
        refine g2.block k hk ?_
        rintro (e | e | e)
        · exact hkb e
        · rcases hd with rfl | ⟨_, hd⟩
          · omega
          · exact hd (.inr (.inl e))
        · rcases hd with rfl | ⟨_, hd⟩
          · have := hrow _ e; omega
          · exact hd (.inr (.inr (.inl e)))
      have hnew : ∀ k, Ur (w.heap.size + 1 + 1) (w.heap.size + 1) (.slice A2 n2 c2) ys2 k → Ur (w.heap.size + 1 + 1) (w.heap.size + 1) (.slice A1 n c) ys k ∨ W'.heap.size ≤ k := by
        obtain ⟨k2, o2, r2, g2⟩ := Q3.out
        rintro k (e | e | e | ⟨i, y, hy, hk⟩)
        · exact .inl (.inl e)
        · exact .inl (.inr (.inl e))
        · exact (o2 k e).imp (fun h => .inr (.inr (.inl h))) id
        · rcases r2 i y hy with h | ⟨h1, h2⟩
          · exact .inl (.inr (.inr (.inr ⟨i, y, h, hk⟩)))
          · rcases hk with ⟨_, ad, e, rfl⟩ | ⟨_, ad, e, rfl⟩
            · exact .inr (h1 ad e)
            · exact .inr (h2 ad e)
      have hext : Ext w ((W2.setCell ⟨w.heap.size + 1 + 1, 2, none⟩ (.int .i64 ((j : Int) + 1))).setCell ⟨w.heap.size + 1 + 1, 3, none⟩ (.iface 75 (.agg #[.int .i64 (takeE (outS s j) t), .iface te pe]))) := by
        have hrow : ∀ g, (Value.slice A1 n c).ownBlock = some g → w.heap.size + 1 + 1 + 2 ≤ g := fun g hg => ownN_block Q2.out.1.own g hg
        have h2 : Ext w W2 := ChgU.below Q2.out.2.1 Q3.out.2.2.2 (by rintro i (rfl | rfl | h); omega; omega; have := hrow i h; omega) (by omega)
        exact (h2.setCell (p := ⟨w.heap.size + 1 + 1, 2, none⟩) (by show w.heap.size ≤ w.heap.size + 1 + 1; omega) _).setCell (p := ⟨w.heap.size + 1 + 1, 3, none⟩) (by show w.heap.size ≤ w.heap.size + 1 + 1; omega) _
      have hbr : Blk ((W2.setCell ⟨w.heap.size + 1 + 1, 2, none⟩ (.int .i64 ((j : Int) + 1))).setCell ⟨w.heap.size + 1 + 1, 3, none⟩ (.iface 75 (.agg #[.int .i64 (takeE (outS s j) t), .iface te pe]))) w.heap.size #[.slice none 0 0, .map none, .int .i64 0, .nilIface] 70 := by
        have hrow : ∀ g, (Value.slice A1 n c).ownBlock = some g → w.heap.size + 1 + 1 + 2 ≤ g := fun g hg => ownN_block Q2.out.1.own g hg
        have h2 : Blk W2 w.heap.size _ _ := Q2.out.2.2.1.chgU Q3.out.2.2.2 (by rintro (h | h | h); omega; omega; have := hrow _ h; omega)
        exact (h2.other ⟨w.heap.size + 1 + 1, 2, none⟩ _ (by show w.heap.size ≠ w.heap.size + 1 + 1; omega)).other ⟨w.heap.size + 1 + 1, 3, none⟩ _ (by show w.heap.size ≠ w.heap.size + 1 + 1; omega)
      obtain ⟨q0, q1, q2, q3, q4, ht, hall⟩ := Q.out
      exact ⟨keep, _, hnew, rfl, ⟨j, t, rfl, q0, ht, hE, A2, n2, c2, ys2, _, Q3.out.1.set23 _ _, HV.out, rfl⟩, hext, hbr⟩
  case hdone =>
    rintro K' u Wd hK hKu ⟨q0, ⟨A1, n, c, ys, x2, q1, rfl⟩, q2, q3, q4⟩ hKd
    rw [numXs_len] at q0 q1
    have hlt := q1.lt
    have hKW : W4.heap.size ≤ K' := hK
    obtain ⟨⟨p0, p1, p2, p3⟩, _⟩ := cells4 q1.blk
    obtain ⟨⟨r0, r1, r2, r3⟩, f0, f1, f2, f3⟩ := cells4 q3
    have Q := Lib.hid (And.intro q0 (And.intro q1 (And.intro q2 (And.intro q3 hKd))))
    clear q0 q1 q2 q3 hKd hlt
    go_wp2
    have h4 := (((Q.out.2.2.2.1.set 0 (.slice A1 n c)).set 1 (.map (some (w.heap.size + 1)))).set 2 (.int .i64 x2)).set 3 .nilIface
    simp only [List.setIfInBounds_toArray, List.set_cons_zero, List.set_cons_succ] at h4
    have hE6 : Ext w ((((Wd.setCell ⟨w.heap.size, 0, none⟩ (.slice A1 n c)).setCell ⟨w.heap.size, 1, none⟩ (.map (some (w.heap.size + 1)))).setCell ⟨w.heap.size, 2, none⟩ (.int .i64 x2)).setCell ⟨w.heap.size, 3, none⟩ .nilIface) :=
      ((((Q.out.2.2.1.setCell (p := ⟨w.heap.size, 0, none⟩) (Nat.le_refl _) _).setCell (p := ⟨w.heap.size, 1, none⟩) (Nat.le_refl _) _).setCell (p := ⟨w.heap.size, 2, none⟩) (Nat.le_refl _) _).setCell (p := ⟨w.heap.size, 3, none⟩) (Nat.le_refl _) _)
    have hK6 : ((((Wd.setCell ⟨w.heap.size, 0, none⟩ (.slice A1 n c)).setCell ⟨w.heap.size, 1, none⟩ (.map (some (w.heap.size + 1)))).setCell ⟨w.heap.size, 2, none⟩ (.int .i64 x2)).setCell ⟨w.heap.size, 3, none⟩ .nilIface).heap[K']? = some (.deferred (some [])) := by
      have hne : K' ≠ w.heap.size := by omega
      rw [Below.heap_setCell _ _ _ _ hne, Below.heap_setCell _ _ _ _ hne, Below.heap_setCell _ _ _ _ hne, Below.heap_setCell _ _ _ _ hne]
      exact Q.out.2.2.2.2
    have hq1 := Q.out.2.1
    have c6 : ChgU (fun k => k = w.heap.size) Wd ((((Wd.setCell ⟨w.heap.size, 0, none⟩ (.slice A1 n c)).setCell ⟨w.heap.size, 1, none⟩ (.map (some (w.heap.size + 1)))).setCell ⟨w.heap.size, 2, none⟩ (.int .i64 x2)).setCell ⟨w.heap.size, 3, none⟩ .nilIface) :=
      (((ChgU.of_set Wd ⟨w.heap.size, 0, none⟩ _).trans (ChgU.of_set _ ⟨w.heap.size, 1, none⟩ _) (fun _ _ h => h)).trans (ChgU.of_set _ ⟨w.heap.size, 2, none⟩ _) (fun _ _ h => h)).trans (ChgU.of_set _ ⟨w.heap.size, 3, none⟩ _) (fun _ _ h => h)
    have C6 := Lib.hid c6
    clear c6
    generalize ((((Wd.setCell ⟨w.heap.size, 0, none⟩ (.slice A1 n c)).setCell ⟨w.heap.size, 1, none⟩ (.map (some (w.heap.size + 1)))).setCell ⟨w.heap.size, 2, none⟩ (.int .i64 x2)).setCell ⟨w.heap.size, 3, none⟩ .nilIface) = W6 at *
    have b7 : Blk (W6.putObj K' (.deferred none)) w.heap.size _ _ := h4.putObj K' (.deferred none) (by omega)
    obtain ⟨⟨s0, s1, s2, s3⟩, _⟩ := cells4 b7
    have hE7 : Ext w (W6.putObj K' (.deferred none)) := Below.trans hE6 (below_putObj _ _ _ _ (by omega))
    have hD7 : Dl (W6.putObj K' (.deferred none)) A1 n ys (outS s (linesS s).length) := by
      have hS : ∀ k, Ur (w.heap.size + 1 + 1) (w.heap.size + 1) (.slice A1 n c) ys k → w.heap.size < k := by
        rintro k (e | e | e | ⟨i, y, hy, hk⟩)
        · omega
        · omega
        · have := ownN_block hq1.own k e; omega
        · have f := hq1.far i y hy
          rcases hk with ⟨_, ad, e, rfl⟩ | ⟨_, ad, e, rfl⟩
          · have := f.1 ad e; omega
          · have := f.2 ad e; omega
      have hl := hq1.lt
      exact (hq1.stay (W' := W6.putObj K' (.deferred none)) (by have := C6.out.size; simpa using this) (fun k hk => by
        have h1 := hS k hk
        have h2 := hl k hk
        rw [World.putObj_heap_other (show k ≠ K' by rintro rfl; exact hKu hk)]
        exact C6.out.block k h2 (by show ¬ k = w.heap.size; omega))).dl
    refine leave_mark (v := .agg #[.slice A1 n c, .map (some (w.heap.size + 1)), .int .i64 x2, .nilIface]) hK6 (by simp [results, Tryz.results44, go_sem, s0, s1, s2, s3]) ?_
    refine ⟨A1, n, c, ys, w.heap.size + 1, x2, .nilIface, rfl, (cap_of_own Q.out.2.1.own), hE7, ?_⟩
    rw [read_all s Q.out.1]
    exact ⟨rfl, Q.out.2.1.cnt.symm, hD7, Q.out.2.1.small⟩
  case hstop =>
    rintro K' c' j u Wd hK hKu hj ⟨rfl, ⟨k, t, rfl, q0, q0', q0'', A1, n, c, ys, v, q1, q1', rfl⟩, q2, q3⟩ hKd
    have HV := Lib.hid (And.intro q1' (And.intro q0' q0''))
    obtain ⟨te, pe, rfl⟩ := K.code_err q1' q0''
    clear q0' q0'' q1'
    have hlt := q1.lt
    have hKW : W4.heap.size ≤ K' := hK
    obtain ⟨⟨p0, p1, p2, p3⟩, _⟩ := cells4 q1.blk
    obtain ⟨⟨r0, r1, r2, r3⟩, f0, f1, f2, f3⟩ := cells4 q3
    have Q := Lib.hid (And.intro q0 (And.intro q1 (And.intro q2 (And.intro q3 hKd))))
    clear q0 q1 q2 q3 hKd hlt
    go_wp2
    have h4 := (((Q.out.2.2.2.1.set 0 (.slice A1 n c)).set 1 (.map (some (w.heap.size + 1)))).set 2 (.int .i64 ((k : Int) + 1))).set 3 (.iface 75 (.agg #[.int .i64 (takeE (outS s k) t), .iface te pe]))
    simp only [List.setIfInBounds_toArray, List.set_cons_zero, List.set_cons_succ] at h4
    have hE6 : Ext w ((((Wd.setCell ⟨w.heap.size, 0, none⟩ (.slice A1 n c)).setCell ⟨w.heap.size, 1, none⟩ (.map (some (w.heap.size + 1)))).setCell ⟨w.heap.size, 2, none⟩ (.int .i64 ((k : Int) + 1))).setCell ⟨w.heap.size, 3, none⟩ (.iface 75 (.agg #[.int .i64 (takeE (outS s k) t), .iface te pe]))) :=
      ((((Q.out.2.2.1.setCell (p := ⟨w.heap.size, 0, none⟩) (Nat.le_refl _) _).setCell (p := ⟨w.heap.size, 1, none⟩) (Nat.le_refl _) _).setCell (p := ⟨w.heap.size, 2, none⟩) (Nat.le_refl _) _).setCell (p := ⟨w.heap.size, 3, none⟩) (Nat.le_refl _) _)
    have hK6 : ((((Wd.setCell ⟨w.heap.size, 0, none⟩ (.slice A1 n c)).setCell ⟨w.heap.size, 1, none⟩ (.map (some (w.heap.size + 1)))).setCell ⟨w.heap.size, 2, none⟩ (.int .i64 ((k : Int) + 1))).setCell ⟨w.heap.size, 3, none⟩ (.iface 75 (.agg #[.int .i64 (takeE (outS s k) t), .iface te pe]))).heap[K']? = some (.deferred (some [])) := by
      have hne : K' ≠ w.heap.size := by omega
      rw [Below.heap_setCell _ _ _ _ hne, Below.heap_setCell _ _ _ _ hne, Below.heap_setCell _ _ _ _ hne, Below.heap_setCell _ _ _ _ hne]
      exact Q.out.2.2.2.2
    generalize ((((Wd.setCell ⟨w.heap.size, 0, none⟩ (.slice A1 n c)).setCell ⟨w.heap.size, 1, none⟩ (.map (some (w.heap.size + 1)))).setCell ⟨w.heap.size, 2, none⟩ (.int .i64 ((k : Int) + 1))).setCell ⟨w.heap.size, 3, none⟩ (.iface 75 (.agg #[.int .i64 (takeE (outS s k) t), .iface te pe]))) = W6 at *
    have b7 : Blk (W6.putObj K' (.deferred none)) w.heap.size _ _ := h4.putObj K' (.deferred none) (by omega)
    obtain ⟨⟨s0, s1, s2, s3⟩, _⟩ := cells4 b7
    have hE7 : Ext w (W6.putObj K' (.deferred none)) := Below.trans hE6 (below_putObj _ _ _ _ (by omega))
    refine leave_mark (v := .agg #[.slice A1 n c, .map (some (w.heap.size + 1)), .int .i64 ((k : Int) + 1), (.iface 75 (.agg #[.int .i64 (takeE (outS s k) t), .iface te pe]))]) hK6 (by simp [results, Tryz.results44, go_sem, s0, s1, s2, s3]) ?_
    refine ⟨A1, n, c, ys, w.heap.size + 1, (k : Int) + 1, _, rfl, (cap_of_own Q.out.2.1.own), hE7, ?_⟩
    rw [read_stop s k t Q.out.1 HV.out.2.1 HV.out.2.2]
    exact ⟨rfl, HV.out.1, HV.out.2.2⟩
end
end Go.Proofs.YtopgbggighaknaaGreatDoor
/- kinds: Parse. -/
namespace Go.Proofs.YtopgbggighaknaaGreatDoor
open Go.RowKit Go
theorem par_done {s : List UInt8} {l : List DescR} (h : readK [] 0 s = .done l) : parE s = 0 ∧ parN s = 0 ∧ parL s = l := by simp [parE, parN, parL, h]
theorem par_bad {s : List UInt8} {k : Nat} {e : Int} (h : readK [] 0 s = .bad k e) : parE s = e ∧ parN s = k ∧ parL s = [] := by simp [parE, parN, parL, h]
section
set_option maxHeartbeats 8000000 in
set_option maxRecDepth 100000 in
theorem kparse_is (s : List UInt8) (hs : s.length ≤ 100000) (w : World) (hG : K.G w) :
    Calls Tryz.prog 24 #[.string ⟨s.toArray⟩] w (KParseR w s) := by
  have R := Lib.hid (readk_is s hs w hG)
  have HG := Lib.hid (fun W (hW : Ext w W) => hG.ext hW)
  clear hG
  unfold ReadKR at R
  unfold KParseR
  cases hr : readK [] 0 s with
  | done l =>
    obtain ⟨e1, e2, e3⟩ := par_done hr
    rw [hr] at R
    rw [e1, e2, e3]
    clear e1 e2 e3 hr
    go_enter Tryz.func24, Tryz.ntmps24
    go_wp2_with (first | (go_at_call 44; refine R.out.mono ?_; rintro e w1 ⟨A, n, c, ys, M, k, v, rfl, h1, h2, rfl, h3, h4, h5⟩; have HH := Lib.hid (And.intro h1 (And.intro h3 (And.intro h4 h5))); have E2 := Ext.trans h2 (ext1 w1 (.cells #[.slice A n c, .map (some M), .int .i64 k, .nilIface] 70)); have bX := Blk.new w1 #[.slice A n c, .map (some M), .int .i64 k, .nilIface] 70; have H2 := Lib.hid h2; clear h1 h2 h3 h4 h5) | (go_at_call 28; (refine (K.told_new 0 .nilIface _ w1 (HG.out _ H2.out) K.code_0).mono ?_); rintro e w2 ⟨rfl, k2⟩; have bX2 := (bX.ext (ext1 _ _)).ext k2; have q0 := bX2.cell 0; simp only [List.getElem?_toArray, List.getElem?_cons_zero] at q0))
    go_ret3
    exact ⟨A, n, c, ys, rfl, HH.out.2.1, HH.out.1, HH.out.2.2.1.ext (Ext.trans (ext1 _ _) (Ext.trans (ext1 _ _) k2)), HH.out.2.2.2, Ext.trans E2 (Ext.trans (ext1 _ _) k2)⟩
  | bad j er =>
    obtain ⟨e1, e2, e3⟩ := par_bad hr
    rw [hr] at R
    rw [e1, e2, e3]
    clear e1 e2 e3 hr
    go_enter Tryz.func24, Tryz.ntmps24
    go_wp2_with (first | (go_at_call 44; refine R.out.mono ?_; rintro e w1 ⟨A, n, c, ys, M, k, v, rfl, h1, h2, rfl, h3, h4⟩; have HV := Lib.hid h3; obtain ⟨te, pe, rfl⟩ := K.code_err h3 h4; have hb : (er != 0) = true := (by simpa using h4); have E2 := Ext.trans h2 (ext1 w1 (.cells #[.slice A n c, .map (some M), .int .i64 (j : Nat), .iface 75 (.agg #[.int .i64 er, .iface te pe])] 70)); have bX := Blk.new w1 #[.slice A n c, .map (some M), .int .i64 (j : Nat), .iface 75 (.agg #[.int .i64 er, .iface te pe])] 70; have H2 := Lib.hid h2; clear h1 h2 h3) | (go_at_call 28; (refine (K.told_new er _ _ w1 (HG.out _ H2.out) HV.out).mono ?_); rintro e w2 ⟨rfl, k2⟩; have bX2 := (bX.ext (ext1 _ _)).ext k2; have q2 := on_cell (bX2.cell 2)))
    refine wp_region_on (by kernel_rfl) (by kernel_rfl) ?_
    repeat (go_big_quiet_step (fail))
    refine wpQuiet_nil ?_
    intro W hW
    go_wp2
    go_ret3
    exact ⟨none, 0, 0, [], rfl, rfl, Nat.le_refl _, Dl.nil _, Small.nil, Ext.trans E2 (Ext.trans (ext1 _ _) (Ext.trans k2 hW))⟩
end
end Go.Proofs.YtopgbggighaknaaGreatDoor
