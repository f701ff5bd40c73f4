/- head: a coder's bytes, as an iterator: of which number, how far up. -/
import Derived.Test.YtfpefffgegphnaaDoorNumbersH
namespace Go.Proofs.YtfpefffgegphnaaDoor
open Go.RowKit Go
attribute [local go_sem] Oper.semAt_some
namespace H
def byXs (c : Nat) : List (Array Value) := [#[at_ c 0, .int .i64 0], #[at_ c 2, .int .i64 0], #[at_ c 3, .int .i64 0], #[at_ c 1, .int .i64 0], #[at_ c 1, .int .i64 8], #[at_ c 1, .int .i64 16]]
theorem byXs_len (c : Nat) : (byXs c).length = 6 := rfl
def cntF : Nat → Nat
  | 0 => 0
  | 1 => 1
  | 2 => 2
  | 3 => 3
  | _ => 6
structure Num (c k : Nat) (x : Array Value) : Prop where
  out : ∃ (a b : Int) (s q : Nat), x = #[fldV a b s, at_ c q] ∧ k < 4 ∧ 1 ≤ s ∧ s ≤ 3 ∧ cntF (k + 1) = cntF k + s ∧ ∀ i, i < s → (byXs c)[cntF k + i]? = some #[at_ c q, .int .i64 (8 * (i : Int))]
theorem num_of {c k : Nat} {x : Array Value} (h : (numXs c)[k]? = some x) : Num c k x := by
  rcases k with _ | _ | _ | _ | k
  · simp only [numXs, List.getElem?_cons_zero, Option.some.injEq] at h
    exact ⟨1, 60, 1, 0, h.symm, by omega, by omega, by omega, rfl, fun i hi => by rcases i with _ | i; rfl; exact absurd hi (by omega)⟩
  · simp only [numXs, List.getElem?_cons_zero, List.getElem?_cons_succ, Option.some.injEq] at h
    exact ⟨1, 3, 1, 2, h.symm, by omega, by omega, by omega, rfl, fun i hi => by rcases i with _ | i; rfl; exact absurd hi (by omega)⟩
  · simp only [numXs, List.getElem?_cons_zero, List.getElem?_cons_succ, Option.some.injEq] at h
    exact ⟨0, 255, 1, 3, h.symm, by omega, by omega, by omega, rfl, fun i hi => by rcases i with _ | i; rfl; exact absurd hi (by omega)⟩
  · simp only [numXs, List.getElem?_cons_zero, List.getElem?_cons_succ, Option.some.injEq] at h
    exact ⟨0, 40000, 3, 1, h.symm, by omega, by omega, by omega, rfl, fun i hi => by
      rcases i with _ | _ | _ | i
      · rfl
      · rfl
      · rfl
      · exact absurd hi (by omega)⟩
  · simp [numXs] at h
section
set_option maxHeartbeats 4000000 in
set_option maxRecDepth 100000 in
theorem bytes_iter (c : Nat) (w : World) (hT : FTab w) :
    IterV Tryd.prog (fun k => k = 6) 49 #[at_ c 0] #[] (byXs c) w := by
  intro l0 J Jx u0 W hW hJ hJx hB hBx hY hJ0
  have hTW := hT.keep hW rfl
  have E1 := ext1 W (.cells #[.func (.yield l0) #[] #[]] 97)
  have bY := Blk.new W #[.func (.yield l0) #[] #[]] 97
  have H := Lib.hid hY
  have HJ := Lib.hid (And.intro hJ (And.intro hJx (And.intro hB hBx)))
  have H0 := Lib.hid (hJ 0 u0 W _ hJ0 (E1.mono (Nat.le_refl _)) (fun b hb => E1.block b (hB _ _ _ hJ0 b hb)))
  have HT := Lib.hid (hTW.ext E1)
  have HY := Lib.hid bY
  have U0 := Lib.hid (hB _ _ _ hJ0)
  clear hJ hJx hB hBx hY hJ0 hT hW hTW bY
  refine callsIn_of_wp_marks Tryd.func49 rfl trivial ?_
  simp only [Tryd.ntmps49, List.size_toArray, List.length_cons, List.length_nil, Nat.reduceAdd, Nat.reduceSub, Array.replicate_succ, Array.replicate_zero, List.push_toArray, List.append_toArray, List.nil_append, List.cons_append]
  gi_wp2
  refine wpIn_world ?_
  intro w1 hw1
  rw [← hw1] at HT H0 HY E1
  have hz : w1.heap.size = W.heap.size + 1 := by rw [hw1]; simp
  clear hw1
  have hg : 6 < w1.heap.size := HT.out.lt
  refine range_outerInV (D := fun k => k = 6) (w0 := w1) rfl (enters_of Tryd.func56 (by kernel_rfl) rfl) (numbers_iter c w1 HT.out) (by rintro k rfl; exact hg) (Keep.refl _ _ _)
    (by intro x hx; obtain ⟨k, hk⟩ := List.getElem?_of_mem hx; obtain ⟨a, b, s, q, rfl, _⟩ := (num_of hk).out; rfl)
    (fun k u X => J (cntF k) u X ∧ (∀ b, u b → u0 b ∨ w1.heap.size ≤ b) ∧ KeepU (fun k => k = 6) u0 W.heap.size w1 X)
    (fun e k u X => e = .ret ∧ ∃ q, q ≤ 6 ∧ Jx q u X) ?hI ?hIx ?hIb ?hIxb (u0 := u0) ⟨H0.out, fun b hb => .inl hb, KeepU.refl _ _ _ _⟩ ?hround ?hdone ?hstop
  case hI =>
    rintro k u A B ⟨h1, h2, h3⟩ hb hu
    exact ⟨HJ.out.1 _ _ _ _ h1 (hb.mono (by omega)) hu, h2, h3.under hb⟩
  case hIx =>
    rintro e k u A B ⟨rfl, q, hq, h1⟩ hb hu
    exact ⟨rfl, q, hq, HJ.out.2.1 _ _ _ _ h1 (hb.mono (by omega)) hu⟩
  case hIb => rintro k u A ⟨h1, h2, h3⟩; exact HJ.out.2.2.1 _ _ _ h1
  case hIxb => rintro e k u A ⟨rfl, q, hq, h1⟩; exact HJ.out.2.2.2 _ _ _ h1
  case hround =>
    rintro l k u x X hx hl hr hul ⟨h1, h2, h3⟩
    obtain ⟨a, b, s, q, rfl, hk4, hs1, hs3, hcn, hget⟩ := (num_of hx).out
    clear hx
    have HX := Lib.hid (And.intro h1 (And.intro h2 h3))
    have HN := Lib.hid (And.intro hcn hget)
    clear h1 h2 h3 hcn hget
    gi_wp2
    have E2 := ext1 X (.cells #[.int .i64 a, .int .i64 b, .int .i64 (s : Nat)] 95)
    refine to_bodyU1 hl hul hr (KeepU.of_ext E2) ?_
    intro X1 hof hbl hub hlX hr1
    obtain ⟨h1, h2, h3⟩ := HX.out
    have hzX : X1.heap.size = X.heap.size + 1 := by rw [hof.size]; simp
    have hwX := h3.size
    have bF : Blk X1 X.heap.size #[.int .i64 a, .int .i64 b, .int .i64 (s : Nat)] 95 := (Blk.new X _ _).off hof (by omega)
    have hu1 : ∀ b, u b → b < X.heap.size := HJ.out.2.2.1 _ _ _ h1
    have hJ1 : J (cntF k) u X1 := HJ.out.1 _ _ _ _ h1 ((E2.mono (by omega)).trans (hbl.mono (by omega))) (fun b hb => (hub b hb).trans (E2.block b (hu1 b hb)))
    have hK1 : KeepU (fun k => k = 6) u0 W.heap.size w1 X1 := (h3.under (E2.mono (by omega))).under (hbl.mono (by omega))
    have bY1 : Blk X1 W.heap.size #[.func (.yield l0) #[] #[]] 97 := hK1.blk HY.out (.inr ⟨Nat.le_refl _, fun h => by have := U0.out _ h; omega⟩)
    have c2 := bF.cell 2
    simp only [List.getElem?_toArray, List.getElem?_cons_zero, List.getElem?_cons_succ] at c2
    have huF : ¬ u X.heap.size := fun h => by have := hu1 _ h; omega
    have huY : ¬ u W.heap.size := fun h => by rcases h2 _ h with h | h; have := U0.out _ h; omega; omega
    have HR := Lib.hid (And.intro hJ1 (And.intro bY1 (And.intro bF (And.intro huF (And.intro huY (And.intro h2 hK1))))))
    clear hJ1 bY1 bF huF huY h1 h2 h3 hof hbl hub hr1 hr hul HX hu1 hK1
    gi_wp2
    gi_loopw [6, 13] (fun v i wr => ∃ (j : Nat) (u' : Nat → Prop), i = .int .i64 j ∧ j ≤ s ∧ J (cntF k + j) u' wr ∧ (∀ b, u' b → u b ∨ X1.heap.size ≤ b) ∧ KeepU (fun k => k = 6) u W.heap.size X1 wr) (fun v i _ => s - (intOf i).toNat)
    case atStart => exact ⟨0, u, rfl, by omega, HR.out.1, fun b hb => .inl hb, KeepU.refl _ _ _ _⟩
    case round =>
      obtain ⟨j, u', rfl, hj, hJk, hu', hK⟩ := hrel
      obtain ⟨_, bY1, bF, huF, huY, h2, hK1⟩ := HR.out
      by_cases hlt : j < s
      · have cy := (hK.blk bY1 (.inr ⟨Nat.le_refl _, huY⟩)).cell 0
        simp only [List.getElem?_toArray, List.getElem?_cons_zero] at cy
        obtain ⟨f1, q1, p1, b1, hy1, hR1⟩ := H.out (cntF k + j) u' _ wr (HN.out.2 j hlt) hJk
        have h5 : (j : Int) < s := by omega
        have HK := Lib.hid (And.intro hu' (And.intro hK hj))
        clear hu' hK hJk hj bY1 bF huF huY h2 hK1
        gi_wp2
        refine RoundIn.mono (show RoundIn (Fence.wide.inRound l) 0 Tryd.prog l0 f1 q1 p1 b1 wr _ from hR1) ?_
        rintro e W2 ⟨u2, hu2, (⟨rfl, hJ2, hk2⟩ | ⟨rfl, hx2, hk2⟩)⟩
        · have HJ2 := Lib.hid (And.intro hJ2 (And.intro hk2 hu2))
          clear hJ2 hk2 hu2
          gi_wp2
          obtain ⟨hJ2, hk2, hu2⟩ := HJ2.out
          obtain ⟨hu', hK, hj⟩ := HK.out
          refine ⟨⟨j + 1, u2, by simp, by omega, by rw [← Nat.add_assoc]; exact hJ2, fun b hb => ?_, hK.trans hk2 hu'⟩, by simp [intOf]; omega⟩
          rcases hu2 b hb with h | h
          · exact hu' b h
          · have := hK.size; exact .inr (by omega)
        · have HJ2 := Lib.hid (And.intro hx2 (And.intro hk2 hu2))
          clear hx2 hk2 hu2
          gi_wp2
          obtain ⟨hx2, hk2, hu2⟩ := HJ2.out
          obtain ⟨hu', hK, hj⟩ := HK.out
          have hlen := (List.getElem?_eq_some_iff.1 (HN.out.2 j hlt)).1
          rw [byXs_len] at hlen
          refine ⟨(hK.trans hk2 hu').up (by omega), u2, fun b hb => ?_, rfl, cntF k + j + 1, by omega, hx2⟩
          rcases hu2 b hb with h | h
          · exact hu' b h
          · have := hK.size; exact .inr (by omega)
      · obtain rfl : j = s := by omega
        have h5 : ¬ (j : Int) < j := by omega
        have HK := Lib.hid (And.intro hu' (And.intro hK hJk))
        clear hu' hK hJk hj bY1 bF huF huY h2 hK1
        gi_wp2
        obtain ⟨hu', hK, hJk⟩ := HK.out
        obtain ⟨_, bY1, bF, huF, huY, h2, hK1⟩ := HR.out
        refine ⟨hK.up (by omega), u', hu', by rw [HN.out.1]; exact hJk, fun b hb => ?_, hK1.trans hK h2⟩
        rcases hu' b hb with h | h
        · exact (h2 b h).imp id (fun h => by omega)
        · exact .inr (by omega)
  case hdone =>
    rintro K u X hK hKu ⟨h1, h2, h3⟩ hKd
    have hJ2 := HJ.out.1 _ _ _ (X.putObj K (.deferred none)) h1 (below_putObj _ K _ _ (by omega)) (fun b hb => World.putObj_heap_other (fun e => hKu (e ▸ hb)))
    have HQ := Lib.hid (And.intro hJ2 hKd)
    clear h1 h2 h3 hJ2 hKd
    gi_wp2
    refine leave_mark_end (v := .tuple #[]) HQ.out.2 (by simp [results, Tryd.results49, go_sem]) ⟨⟨_, rfl⟩, .inl ⟨u, HQ.out.1⟩⟩
  case hstop =>
    rintro K e k u X hK hKu hk ⟨rfl, q, hq, h1⟩ hKd
    have hJ2 := HJ.out.2.1 _ _ _ (X.putObj K (.deferred none)) h1 (below_putObj _ K _ _ (by omega)) (fun b hb => World.putObj_heap_other (fun e => hKu (e ▸ hb)))
    have HQ := Lib.hid (And.intro hJ2 hKd)
    clear h1 hJ2 hKd
    gi_wp2
    refine leave_mark (v := .tuple #[]) HQ.out.2 (by simp [results, Tryd.results49, go_sem]) ⟨⟨_, rfl⟩, .inr ⟨q, u, hq, HQ.out.1⟩⟩
end
end H
end Go.Proofs.YtfpefffgegphnaaDoor
