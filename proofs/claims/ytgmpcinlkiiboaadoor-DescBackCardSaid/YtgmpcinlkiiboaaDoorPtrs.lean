/- desc: the places of a shape's pointers as an iterator. -/
import Derived.Test.YtgmpcinlkiiboaaDoorBytesD
import Derived.Test.YtgmpcinlkiiboaaDoorRU
import Derived.Test.YtgmpcinlkiiboaaDoorApp
namespace Go.Proofs.YtgmpcinlkiiboaaDoor
open Go.RowKit Go
attribute [local go_sem] Oper.semAt_some
theorem KeepU.trans {D u u' : Nat → Prop} {S : Nat} {A B C : World} (h : KeepU D u S A B) (k : KeepU D u' S B C) (hu : ∀ b, u' b → u b ∨ A.heap.size ≤ b) : KeepU D u S A C :=
  ⟨Nat.le_trans h.size k.size, fun i hi hd => (k.same i (Nat.lt_of_lt_of_le hi h.size) (hd.imp id (fun ⟨a, b⟩ => ⟨a, fun h' => by rcases hu i h' with h' | h'; exact b h'; omega⟩))).trans (h.same i hi hd)⟩
theorem KeepU.blk {D u : Nat → Prop} {S : Nat} {A B : World} (h : KeepU D u S A B) {b : Nat} {cs : Array Value} {t : TypeId} (hb : Blk A b cs t) (hd : D b ∨ (S ≤ b ∧ ¬ u b)) : Blk B b cs t := (h.same b hb.lt hd).trans hb
theorem KeepU.cell {D u : Nat → Prop} {S : Nat} {A B : World} (h : KeepU D u S A B) {p : Addr} (hp : p.block < A.heap.size) (hd : D p.block) : B.cell? p = A.cell? p := World.cell?_of_block (w := A) (h.same p.block hp (.inl hd))
section
set_option maxHeartbeats 4000000 in
theorem tell_is (D : Nat → Prop) (l0 S : Nat) (J Jx : Nat → (Nat → Prop) → World → Prop) (xs : List (Array Value))
    (hY : ∀ k u x W1, xs[k]? = some x → J k u W1 → YieldAt Fence.wide 0 Tryd.prog l0 x W1 fun e W' => ∃ u', (∀ b, u' b → u b ∨ W1.heap.size ≤ b) ∧
      ((e = .returned (.bool true) ∧ J (k + 1) u' W' ∧ KeepU D u S W1 W') ∨ (e = .returned (.bool false) ∧ Jx (k + 1) u' W' ∧ KeepU D u S W1 W')))
    (k0 : Nat) (base : Int) (A : Option Addr) (n c : Nat) (ls : List Int) (hn : n ≤ 1000000) (hbase : 0 ≤ base ∧ base ≤ 100000000) (hls : ∀ j, j < n → 0 ≤ ls.getD j 0 ∧ ls.getD j 0 ≤ 2000)
    (hget : ∀ j, j < n → xs[k0 + j]? = some #[.int .i64 (base + ls.getD j 0)]) (bY : Nat) (t : TypeId) (u : Nat → Prop) (W1 : World) (hJ : J k0 u W1) (hbY : Blk W1 bY #[.func (.yield l0) #[] #[]] t) (hS : S ≤ bY) (huY : ¬ u bY)
    (hA : 0 < n → ∃ ad, A = some ad ∧ D ad.block ∧ ad.block < W1.heap.size ∧ ∀ j, j < n → W1.cell? (ad.add j) = some (.int .i64 (ls.getD j 0))) :
    CallsIn Fence.wide 0 Tryd.prog 48 #[.int .i64 base, .slice A n c, .pointer (some ⟨bY, 0, none⟩)] W1 fun e W' =>
      ∃ u', (∀ b, u' b → u b ∨ W1.heap.size ≤ b) ∧ KeepU D u S W1 W' ∧ ((e = .returned (.bool true) ∧ J (k0 + n) u' W') ∨ (e = .returned (.bool false) ∧ ∃ k, k ≤ xs.length ∧ Jx k u' W')) := by
  have H := Lib.hid hY
  have H0 := Lib.hid (And.intro hJ (And.intro hbY (And.intro huY (And.intro hS (And.intro hA (And.intro hget hls))))))
  clear hY hJ hbY hS huY hA hget hls
  refine callsIn_of_wp Tryd.func48 rfl trivial ?_ rfl
  simp only [Tryd.ntmps48, List.size_toArray, List.length_cons, List.length_nil, Nat.reduceAdd, Nat.reduceSub, Array.replicate_succ, Array.replicate_zero, List.push_toArray, List.append_toArray, List.nil_append, List.cons_append]
  gi_wp2
  gi_loopw [7, 10] (fun v i wr => ∃ (k : Nat) (u' : Nat → Prop), i = .int .i64 k ∧ k ≤ n ∧ J (k0 + k) u' wr ∧ (∀ b, u' b → u b ∨ W1.heap.size ≤ b) ∧ KeepU D u S W1 wr) (fun v i _ => n - (intOf i).toNat)
  case atStart => exact ⟨0, u, rfl, by omega, H0.out.1, fun b hb => .inl hb, KeepU.refl _ _ _ _⟩
  case round =>
    obtain ⟨k, u', rfl, hk, hJk, hu', hK⟩ := hrel
    by_cases hlt : k < n
    · obtain ⟨_, hbY, huY, hS, hA, hget, hls⟩ := H0.out
      obtain ⟨ad, rfl, hD, hab, hcell⟩ := hA (by omega)
      have ck : wr.cell? (ad.add k) = some (.int .i64 (ls.getD k 0)) := (hK.cell (p := ad.add k) (by rw [block_of_add]; exact hab) (by rw [block_of_add]; exact hD)).trans (hcell k hlt)
      have cy := (hK.blk hbY (.inr ⟨hS, huY⟩)).cell 0
      simp only [List.getElem?_toArray, List.getElem?_cons_zero] at cy
      have h5 : (k : Int) < n := by omega
      have hl := hls k hlt
      have hg := hget k hlt
      obtain ⟨f1, t1, p1, q1, hy1, hR1⟩ := H.out (k0 + k) u' _ wr hg hJk
      have HK := Lib.hid (And.intro hu' (And.intro hK hk))
      clear hbY huY hS hA hget hls hcell hJk hu' hK hg hk hD hab
      generalize ls.getD k 0 = x at *
      gi_wp2
      refine hR1.mono ?_
      rintro e W2 ⟨u2, hu2, (⟨rfl, hJ2, hk2⟩ | ⟨rfl, hx2, hk2⟩)⟩
      · have HJ := Lib.hid (And.intro hJ2 (And.intro hk2 hu2))
        clear hJ2 hk2 hu2
        gi_wp2
        refine ⟨⟨k + 1, u2, by simp, by omega, HJ.out.1, fun b hb => ?_, HK.out.2.1.trans HJ.out.2.1 HK.out.1⟩, by simp [intOf]; omega⟩
        rcases HJ.out.2.2 b hb with h | h
        · exact HK.out.1 b h
        · have := HK.out.2.1.size; exact .inr (by omega)
      · have HJ := Lib.hid (And.intro hx2 (And.intro hk2 hu2))
        clear hx2 hk2 hu2
        have hlen : k0 + k + 1 ≤ xs.length := by
          have := H0.out.2.2.2.2.2.1 k hlt
          have := (List.getElem?_eq_some_iff.1 this).1
          omega
        gi_wp2
        refine bodyPost_ret (results_tmp rfl _ _ _) rfl ?_
        refine ⟨u2, fun b hb => ?_, HK.out.2.1.trans HJ.out.2.1 HK.out.1, .inr ⟨rfl, _, hlen, HJ.out.1⟩⟩
        rcases HJ.out.2.2 b hb with h | h
        · exact HK.out.1 b h
        · have := HK.out.2.1.size; exact .inr (by omega)
    · obtain rfl : k = n := by omega
      have h5 : ¬ (k : Int) < k := by omega
      have HJ := Lib.hid (And.intro hJk (And.intro hu' hK))
      clear hJk hu' hK
      gi_wp2
      refine bodyPost_ret (results_tmp rfl _ _ _) rfl ?_
      exact ⟨u', HJ.out.2.1, HJ.out.2.2, .inl ⟨rfl, HJ.out.1⟩⟩
end
end Go.Proofs.YtgmpcinlkiiboaaDoor
