/- desc: the places of a shape's pointers as an iterator. desc: the places of a shape's pointers as an iterator, whole. -/
import Derived.Test.YtgmpcinlkiiboaaGreatDoorBytesD
import Derived.Test.YtgmpcinlkiiboaaGreatDoorRU
import Derived.Test.YtgmpcinlkiiboaaGreatDoorApp
namespace Go.Proofs.YtgmpcinlkiiboaaGreatDoor
open Go.RowKit Go
attribute [local go_sem] Oper.semAt_some
theorem KeepU.trans {D u u' : Nat → Prop} {S : Nat} {A B C : World} (h : KeepU D u S A B) (k : KeepU D u' S B C) (hu : ∀ b, u' b → u b ∨ A.heap.size ≤ b) : KeepU D u S A C :=
  ⟨Nat.le_trans h.size k.size, fun i hi hd => (k.same i (Nat.lt_of_lt_of_le hi h.size) (hd.imp id (fun ⟨a, b⟩ => ⟨a, fun h' => by rcases hu i h' with h' | h'; exact b h'; omega⟩))).trans (h.same i hi hd)⟩
theorem KeepU.blk {D u : Nat → Prop} {S : Nat} {A B : World} (h : KeepU D u S A B) {b : Nat} {cs : Array Value} {t : TypeId} (hb : Blk A b cs t) (hd : D b ∨ (S ≤ b ∧ ¬ u b)) : Blk B b cs t := (h.same b hb.lt hd).trans hb
theorem KeepU.cell {D u : Nat → Prop} {S : Nat} {A B : World} (h : KeepU D u S A B) {p : Addr} (hp : p.block < A.heap.size) (hd : D p.block) : B.cell? p = A.cell? p := World.cell?_of_block (w := A) (h.same p.block hp (.inl hd))
section
set_option maxHeartbeats 4000000 in
theorem tell_is (D : Nat → Prop) (l0 S : Nat) (J Jx : Nat → (Nat → Prop) → World → Prop) (xs : List (Array Value))
    (hY : ∀ k u x W1, xs[k]? = some x → J k u W1 → YieldAt Fence.wide 0 Tryz.prog l0 x W1 fun e W' => ∃ u', (∀ b, u' b → u b ∨ W1.heap.size ≤ b) ∧
      ((e = .returned (.bool true) ∧ J (k + 1) u' W' ∧ KeepU D u S W1 W') ∨ (e = .returned (.bool false) ∧ Jx (k + 1) u' W' ∧ KeepU D u S W1 W')))
    (k0 : Nat) (base : Int) (A : Option Addr) (n c : Nat) (ls : List Int) (hn : n ≤ 1000000) (hbase : 0 ≤ base ∧ base ≤ 100000000) (hls : ∀ j, j < n → 0 ≤ ls.getD j 0 ∧ ls.getD j 0 ≤ 2000)
    (hget : ∀ j, j < n → xs[k0 + j]? = some #[.int .i64 (base + ls.getD j 0)]) (bY : Nat) (t : TypeId) (u : Nat → Prop) (W1 : World) (hJ : J k0 u W1) (hbY : Blk W1 bY #[.func (.yield l0) #[] #[]] t) (hS : S ≤ bY) (huY : ¬ u bY)
    (hA : 0 < n → ∃ ad, A = some ad ∧ D ad.block ∧ ad.block < W1.heap.size ∧ ∀ j, j < n → W1.cell? (ad.add j) = some (.int .i64 (ls.getD j 0))) :
    CallsIn Fence.wide 0 Tryz.prog 43 #[.int .i64 base, .slice A n c, .pointer (some ⟨bY, 0, none⟩)] W1 fun e W' =>
      ∃ u', (∀ b, u' b → u b ∨ W1.heap.size ≤ b) ∧ KeepU D u S W1 W' ∧ ((e = .returned (.bool true) ∧ J (k0 + n) u' W') ∨ (e = .returned (.bool false) ∧ ∃ k, k ≤ xs.length ∧ Jx k u' W')) := by
  have H := Lib.hid hY
  have H0 := Lib.hid (And.intro hJ (And.intro hbY (And.intro huY (And.intro hS (And.intro hA (And.intro hget hls))))))
  clear hY hJ hbY hS huY hA hget hls
  refine callsIn_of_wp Tryz.func43 rfl trivial ?_ rfl
  simp only [Tryz.ntmps43, List.size_toArray, List.length_cons, List.length_nil, Nat.reduceAdd, Nat.reduceSub, Array.replicate_succ, Array.replicate_zero, List.push_toArray, List.append_toArray, List.nil_append, List.cons_append]
  gi_wp2
  gi_loopw [7, 10] (fun v i wr => ∃ (k : Nat) (u' : Nat → Prop), i = .int .i64 k ∧ k ≤ n ∧ J (k0 + k) u' wr ∧ (∀ b, u' b → u b ∨ W1.heap.size ≤ b) ∧ KeepU D u S W1 wr) (fun v i _ => n - (intOf i).toNat)
  case atStart => exact ⟨0, u, rfl, by omega, H0.out.1, fun b hb => .inl hb, KeepU.refl _ _ _ _⟩
  case round =>
    obtain ⟨k, u', rfl, hk, hJk, hu', hK⟩ := hrel
    by_cases hlt : k < n
    · obtain ⟨_, hbY, huY, hS, hA, hget, hls⟩ := H0.out
      obtain ⟨ad, rfl, hD, hab, hcell⟩ := hA (by omega)
      have ck : wr.cell? (ad.add k) = some (.int .i64 (ls.getD k 0)) := (hK.cell (p := ad.add k) (by rw [block_of_add]; exact hab) (by rw [block_of_add]; exact hD)).trans (hcell k hlt)
      have cy := (hK.blk hbY (.inr ⟨hS, huY⟩)).cell 0
      simp only [List.getElem?_toArray, List.getElem?_cons_zero] at cy
      have h5 : (k : Int) < n := by omega
      have hl := hls k hlt
      have hg := hget k hlt
      obtain ⟨f1, t1, p1, q1, hy1, hR1⟩ := H.out (k0 + k) u' _ wr hg hJk
      have HK := Lib.hid (And.intro hu' (And.intro hK hk))
      clear hbY huY hS hA hget hls hcell hJk hu' hK hg hk hD hab
      generalize ls.getD k 0 = x at *
      gi_wp2
      refine hR1.mono ?_
      rintro e W2 ⟨u2, hu2, (⟨rfl, hJ2, hk2⟩ | ⟨rfl, hx2, hk2⟩)⟩
      · have HJ := Lib.hid (And.intro hJ2 (And.intro hk2 hu2))
        clear hJ2 hk2 hu2
        gi_wp2
        refine ⟨⟨k + 1, u2, by simp, by omega, HJ.out.1, fun b hb => ?_, HK.out.2.1.trans HJ.out.2.1 HK.out.1⟩, by simp [intOf]; omega⟩
        rcases HJ.out.2.2 b hb with h | h
        · exact HK.out.1 b h
        · have := HK.out.2.1.size; exact .inr (by omega)
      · have HJ := Lib.hid (And.intro hx2 (And.intro hk2 hu2))
        clear hx2 hk2 hu2
        have hlen : k0 + k + 1 ≤ xs.length := by
          have := H0.out.2.2.2.2.2.1 k hlt
          have := (List.getElem?_eq_some_iff.1 this).1
          omega
        gi_wp2
        refine bodyPost_ret (results_tmp rfl _ _ _) rfl ?_
        refine ⟨u2, fun b hb => ?_, HK.out.2.1.trans HJ.out.2.1 HK.out.1, .inr ⟨rfl, _, hlen, HJ.out.1⟩⟩
        rcases HJ.out.2.2 b hb with h | h
        · exact HK.out.1 b h
        · have := HK.out.2.1.size; exact .inr (by omega)
    · obtain rfl : k = n := by omega
      have h5 : ¬ (k : Int) < k := by omega
      have HJ := Lib.hid (And.intro hJk (And.intro hu' hK))
      clear hJk hu' hK
      gi_wp2
      refine bodyPost_ret (results_tmp rfl _ _ _) rfl ?_
      exact ⟨u', HJ.out.2.1, HJ.out.2.2, .inl ⟨rfl, HJ.out.1⟩⟩
end
attribute [local go_sem] Oper.semAt_some
def intsX (l : List Int) : List (Array Value) := l.map fun x => #[Value.int .i64 x]
theorem intsX_get {l : List Int} {k : Nat} {x : Int} (h : l[k]? = some x) : (intsX l)[k]? = some #[.int .i64 x] := by simp [intsX, h]
theorem slotsF_succ (d : DescR) (n : Nat) : slotsF d (n + 1) = slotsF d n ++ d.eptrs.map fun y => d.size + (n : Int) * d.elem + y := by
  unfold slotsF
  rw [List.range_succ, List.flatMap_append, List.append_assoc]
  simp
theorem slots_get0 (d : DescR) (N j : Nat) (hj : j < d.ptrs.length) : (slotsF d N)[0 + j]? = some (0 + d.ptrs.getD j 0) := by
  unfold slotsF
  rw [Nat.zero_add, List.getElem?_append_left hj, List.getElem?_eq_getElem hj, List.getD_eq_getElem?_getD, List.getElem?_eq_getElem hj]
  simp
theorem slots_get (d : DescR) (k j : Nat) (hj : j < d.eptrs.length) : ∀ N : Nat, k < N → (slotsF d N)[d.ptrs.length + k * d.eptrs.length + j]? = some (d.size + (k : Int) * d.elem + d.eptrs.getD j 0)
  | 0, h => absurd h (by omega)
  | N + 1, h => by
    rw [slotsF_succ]
    have hl := slots_len d N
    by_cases hk : k < N
    · have hm : (k + 1) * d.eptrs.length ≤ N * d.eptrs.length := Nat.mul_le_mul_right _ (by omega)
      rw [Nat.succ_mul] at hm
      rw [List.getElem?_append_left (by omega)]
      exact slots_get d k j hj N hk
    · obtain rfl : k = N := by omega
      rw [List.getElem?_append_right (by omega), hl, show d.ptrs.length + k * d.eptrs.length + j - (d.ptrs.length + k * d.eptrs.length) = j by omega, List.getElem?_map, List.getElem?_eq_getElem hj, List.getD_eq_getElem?_getD, List.getElem?_eq_getElem hj]
      simp
section
theorem pointers_mk (A B : Option Addr) (n m c c' : Nat) (s t y z N : Int) (w : World) :
    Calls Tryz.prog 25 #[.agg #[.int .i64 s, .slice A n c, .int .i64 t, .slice B m c', .int .i64 y, .int .i64 z], .int .i64 N] w fun e w' => e = .returned (.func (.func 42) #[] #[.pointer (some ⟨w.heap.size, 0, none⟩), .pointer (some ⟨w.heap.size + 1, 0, none⟩)]) ∧ w' = (w.alloc (.cells #[.int .i64 s, .slice A n c, .int .i64 t, .slice B m c', .int .i64 y, .int .i64 z] 52)).alloc (.cells #[.int .i64 N] 3) := by
  go_enter Tryz.func25, Tryz.ntmps25
  go_wp2
  go_ret
  exact ⟨rfl, rfl⟩
set_option maxHeartbeats 8000000 in
theorem ptrs_iterU (A B : Option Addr) (n m c c' : Nat) (s t y z : Int) (l r : List Int) (hn : n ≤ 1000000) (hm : m ≤ 1000000) (N : Nat) (hN : N ≤ 131072) (bs be : Nat) (ts te : TypeId) (w : World) (hR : RightP ⟨s, l, t, r⟩)
    (h : Il w A n l) (h' : Il w B m r) (hbs : Blk w bs #[.int .i64 s, .slice A n c, .int .i64 t, .slice B m c', .int .i64 y, .int .i64 z] ts) (hbe : Blk w be #[.int .i64 N] te) :
    IterU Tryz.prog (fun k => k = bs ∨ k = be ∨ (∃ ad, A = some ad ∧ 0 < n ∧ k = ad.block) ∨ (∃ ad, B = some ad ∧ 0 < m ∧ k = ad.block)) 42 #[.pointer (some ⟨bs, 0, none⟩), .pointer (some ⟨be, 0, none⟩)] (intsX (slotsF ⟨s, l, t, r⟩ N)) w := by
  intro l0 J Jx u0 W hW hJ hJx hB hBx hY hJ0
  have E1 := ext1 W (.cells #[.func (.yield l0) #[] #[]] 84)
  have bY := Blk.new W #[.func (.yield l0) #[] #[]] 84
  have hbsW := (hbs.keep hW (.inl (.inl rfl))).ext E1
  have hbeW := (hbe.keep hW (.inl (.inr (.inl rfl)))).ext E1
  have hJ1 := hJ 0 u0 W _ hJ0 (E1.mono (Nat.le_refl _)) (fun b hb => E1.block b (hB _ _ _ hJ0 b hb))
  have hu1 : ¬ u0 W.heap.size := fun h => by have := hB _ _ _ hJ0 _ h; omega
  have hA1 : 0 < n → ∃ ad, A = some ad ∧ (fun k => k = bs ∨ k = be ∨ (∃ ad, A = some ad ∧ 0 < n ∧ k = ad.block) ∨ (∃ ad, B = some ad ∧ 0 < m ∧ k = ad.block)) ad.block ∧ ad.block < (W.alloc (.cells #[.func (.yield l0) #[] #[]] 84)).heap.size ∧ ∀ j, j < n → (W.alloc (.cells #[.func (.yield l0) #[] #[]] 84)).cell? (ad.add j) = some (.int .i64 (l.getD j 0)) := fun h0 => by
    obtain ⟨ad, rfl, hab, hc⟩ := h.at_ h0
    have := hW.size
    exact ⟨ad, rfl, .inr (.inr (.inl ⟨ad, rfl, h0, rfl⟩)), by simp; omega, fun j hj => by
      rw [E1.cell (p := ad.add j) (by rw [block_of_add]; omega), hW.cell (p := ad.add j) (by rw [block_of_add]; exact hab) (.inl (.inr (.inr (.inl ⟨ad, rfl, h0, block_of_add _ _⟩))))]
      exact hc j hj⟩
  have hB1 : 0 < m → ∃ ad, B = some ad ∧ (fun k => k = bs ∨ k = be ∨ (∃ ad, A = some ad ∧ 0 < n ∧ k = ad.block) ∨ (∃ ad, B = some ad ∧ 0 < m ∧ k = ad.block)) ad.block ∧ ad.block < (W.alloc (.cells #[.func (.yield l0) #[] #[]] 84)).heap.size ∧ ∀ j, j < m → (W.alloc (.cells #[.func (.yield l0) #[] #[]] 84)).cell? (ad.add j) = some (.int .i64 (r.getD j 0)) := fun h0 => by
    obtain ⟨ad, rfl, hab, hc⟩ := h'.at_ h0
    have := hW.size
    exact ⟨ad, rfl, .inr (.inr (.inr ⟨ad, rfl, h0, rfl⟩)), by simp; omega, fun j hj => by
      rw [E1.cell (p := ad.add j) (by rw [block_of_add]; omega), hW.cell (p := ad.add j) (by rw [block_of_add]; exact hab) (.inl (.inr (.inr (.inr ⟨ad, rfl, h0, block_of_add _ _⟩))))]
      exact hc j hj⟩
  have hl : l.length = n := h.1
  have hr : r.length = m := h'.1
  have hs0 := hR.s0
  have hs1 := hR.s1
  have ht0 := hR.e0
  have ht1 := hR.e1
  have hlen : (intsX (slotsF ⟨s, l, t, r⟩ N)).length = n + N * m := by
    unfold intsX; rw [List.length_map, slots_len]; simp only [hl, hr]
  have hl2 : ∀ j, j < n → 0 ≤ l.getD j 0 ∧ l.getD j 0 ≤ 2000 := fun j hj => by
    have := hR.pp (l.getD j 0) (by rw [List.getD_eq_getElem?_getD, List.getElem?_eq_getElem (by omega)]; exact List.getElem_mem _)
    simp only at this hs1; omega
  have hr2 : ∀ j, j < m → 0 ≤ r.getD j 0 ∧ r.getD j 0 ≤ 2000 := fun j hj => by
    have := hR.qq (r.getD j 0) (by rw [List.getD_eq_getElem?_getD, List.getElem?_eq_getElem (by omega)]; exact List.getElem_mem _)
    simp only at this ht1; omega
  have hg0 : ∀ j, j < n → (intsX (slotsF ⟨s, l, t, r⟩ N))[0 + j]? = some #[.int .i64 (0 + l.getD j 0)] := fun j hj => intsX_get (slots_get0 ⟨s, l, t, r⟩ N j (by show j < l.length; omega))
  have hg1 : ∀ k, k < N → ∀ j, j < m → (intsX (slotsF ⟨s, l, t, r⟩ N))[n + k * m + j]? = some #[.int .i64 (s + (k : Int) * t + r.getD j 0)] := fun k hk j hj => by
    have := slots_get ⟨s, l, t, r⟩ k j (by show j < r.length; omega) N hk
    simp only [hl, hr] at this
    exact intsX_get this
  simp only at hs0 hs1 ht0 ht1
  have T0 := tell_is _ l0 W.heap.size J Jx _ hY 0 0 A n c l hn (by omega) hl2 hg0 W.heap.size _ u0 _ hJ1 bY (Nat.le_refl _) hu1 hA1
  have T1 := fun (k : Nat) (hk : k < N) (u : Nat → Prop) (W1 : World) (hJk : J (n + k * m) u W1) (hbY : Blk W1 W.heap.size #[.func (.yield l0) #[] #[]] 84) (huY : ¬ u W.heap.size) hA => tell_is (fun k => k = bs ∨ k = be ∨ (∃ ad, A = some ad ∧ 0 < n ∧ k = ad.block) ∨ (∃ ad, B = some ad ∧ 0 < m ∧ k = ad.block)) l0 W.heap.size J Jx _ hY (n + k * m) (s + (k : Int) * t) B m c' r hm
    (by
      have u0 : (0 : Int) ≤ (k : Int) * t := Int.mul_nonneg (by omega) ht0
      have u1 : (k : Int) * t ≤ 33554432 := by have := Int.mul_le_mul (show (k : Int) ≤ 131072 by omega) ht1 ht0 (by omega); omega
      omega) hr2 (hg1 k hk) W.heap.size 84 u W1 hJk hbY (Nat.le_refl _) huY hA
  have hent := enters_of Tryz.func43 (by kernel_rfl) rfl
  have HT := Lib.hid (And.intro T0 T1)
  have HH := Lib.hid (And.intro hbsW (And.intro hbeW (And.intro bY (And.intro hu1 (And.intro hB1 (And.intro hlen hW.size))))))
  obtain ⟨⟨p0, p1, p2, p3, p4, p5⟩, _⟩ := cells6 hbsW
  clear hJ hJx hB hBx hY hJ0 hJ1 hbsW hbeW hA1 hB1 hl2 hr2 hg0 hg1 T0 T1 hW E1 hbs hbe h h' hR bY hu1 hlen
  refine callsIn_of_wp Tryz.func42 rfl trivial ?_ rfl
  simp only [Tryz.ntmps42, List.size_toArray, List.length_cons, List.length_nil, Nat.reduceAdd, Nat.reduceSub, Array.replicate_succ, Array.replicate_zero, List.push_toArray, List.append_toArray, List.nil_append, List.cons_append]
  gi_wp2_with (gi_at_call 43; refine HT.out.1.mono ?_; rintro e w1 ⟨u1, hu1, hk1, hc⟩; obtain ⟨b1, rfl, hc1⟩ : ∃ b : Bool, e = .returned (.bool b) ∧ ((b = true ∧ J (0 + n) u1 w1) ∨ (b = false ∧ ∃ k, k ≤ (intsX (slotsF ⟨s, l, t, r⟩ N)).length ∧ Jx k u1 w1)) := (by rcases hc with ⟨h1, h2⟩ | ⟨h1, h2⟩; exact ⟨true, h1, .inl ⟨rfl, h2⟩⟩; exact ⟨false, h1, .inr ⟨rfl, h2⟩⟩); have HC := Lib.hid (And.intro hu1 (And.intro hk1 hc1)); clear hu1 hk1 hc hc1)
  obtain ⟨W1, hW1⟩ : ∃ W1, W.alloc (.cells #[.func (.yield l0) #[] #[]] 84) = W1 := ⟨_, rfl⟩
  rw [hW1] at HT HH HC
  clear p0 p1 p2 p3 p4 p5
  have hz : W1.heap.size = W.heap.size + 1 := by rw [← hW1]; simp
  gi_loopw [5, 6] (fun v i wr => ∃ (b : Bool) (k : Nat) (u' : Nat → Prop), v = .bool b ∧ i = .int .i64 k ∧ k ≤ N ∧ ((b = true ∧ J (n + k * m) u' wr) ∨ (b = false ∧ ∃ k, k ≤ (intsX (slotsF ⟨s, l, t, r⟩ N)).length ∧ Jx k u' wr)) ∧ (∀ b, u' b → u0 b ∨ W1.heap.size ≤ b) ∧ KeepU (fun k => k = bs ∨ k = be ∨ (∃ ad, A = some ad ∧ 0 < n ∧ k = ad.block) ∨ (∃ ad, B = some ad ∧ 0 < m ∧ k = ad.block)) u0 W.heap.size W1 wr) (fun v i _ => match v with | .bool true => N + 1 - (intOf i).toNat | _ => 0)
  case atStart =>
    obtain ⟨q1, q2, q3⟩ := HC.out
    exact ⟨b1, 0, u1, rfl, rfl, by omega, by simpa using q3, q1, q2⟩
  case round =>
    obtain ⟨b, k, u', rfl, rfl, hk, hst, hu', hK⟩ := hrel
    obtain ⟨hbs, hbe, hbY, huY, hB, hlen, hWs⟩ := HH.out
    obtain ⟨⟨p0, p1, p2, p3, p4, p5⟩, _⟩ := cells6 (hK.blk hbs (.inl (.inl rfl)))
    have pe := (hK.blk hbe (.inl (.inr (.inl rfl)))).cell 0
    have hbY' := hK.blk hbY (.inr ⟨Nat.le_refl _, huY⟩)
    have huY' : ¬ u' W.heap.size := fun h => by rcases hu' _ h with h | h; exact huY h; omega
    have hB' : 0 < m → ∃ ad, B = some ad ∧ (fun k => k = bs ∨ k = be ∨ (∃ ad, A = some ad ∧ 0 < n ∧ k = ad.block) ∨ (∃ ad, B = some ad ∧ 0 < m ∧ k = ad.block)) ad.block ∧ ad.block < wr.heap.size ∧ ∀ j, j < m → wr.cell? (ad.add j) = some (.int .i64 (r.getD j 0)) := fun h0 => by
      obtain ⟨ad, e, hD, hab, hc⟩ := hB h0
      exact ⟨ad, e, hD, by have := hK.size; omega, fun j hj => by rw [hK.cell (p := ad.add j) (by rw [block_of_add]; exact hab) (by rw [block_of_add]; exact hD)]; exact hc j hj⟩
    simp only [List.getElem?_toArray, List.getElem?_cons_zero] at pe
    rcases hst with ⟨rfl, hJk⟩ | ⟨rfl, hx⟩
    · by_cases hlt : k < N
      · have C := Lib.hid (HT.out.2 k hlt u' wr hJk hbY' huY' hB')
        have hle : (k : Int) < N := by omega
        have v0 : (0 : Int) ≤ (k : Int) * t := Int.mul_nonneg (by omega) ht0
        have v1 : (k : Int) * t ≤ 33554432 := by have := Int.mul_le_mul (show (k : Int) ≤ 131072 by omega) ht1 ht0 (by omega); omega
        have HK := Lib.hid (And.intro hu' (And.intro hK hk))
        clear hJk hbs hbe hbY huY hB hlen hWs hbY' huY' hB' hu' hK
        generalize hM : (k : Int) * t = M at *
        gi_wp2_with (gi_at_call 43; refine C.out.mono ?_; rintro e w2 ⟨u2, hu2, hk2, hc⟩; obtain ⟨b2, rfl, hc2⟩ : ∃ b : Bool, e = .returned (.bool b) ∧ ((b = true ∧ J (n + k * m + m) u2 w2) ∨ (b = false ∧ ∃ k, k ≤ (intsX (slotsF ⟨s, l, t, r⟩ N)).length ∧ Jx k u2 w2)) := (by rcases hc with ⟨h1, h2⟩ | ⟨h1, h2⟩; exact ⟨true, h1, .inl ⟨rfl, h2⟩⟩; exact ⟨false, h1, .inr ⟨rfl, h2⟩⟩); have HC2 := Lib.hid (And.intro hu2 (And.intro hk2 hc2)); clear hu2 hk2 hc hc2)
        obtain ⟨r1, r2, r3⟩ := HC2.out
        obtain ⟨t1, t2, t3⟩ := HK.out
        refine ⟨⟨b2, k + 1, u2, rfl, by simp, by omega, ?_, fun b hb => ?_, t2.trans r2 t1⟩, ?_⟩
        · rw [Nat.succ_mul, ← Nat.add_assoc]; exact r3
        · rcases r1 b hb with h | h
          · exact t1 b h
          · have := t2.size; exact .inr (by omega)
        · cases b2
          · show 0 < _; simp [intOf]; omega
          · simp [intOf]; omega
      · obtain rfl : k = N := by omega
        have hle : ¬ (k : Int) < k := by omega
        have HK := Lib.hid (show J (intsX (slotsF ⟨s, l, t, r⟩ k)).length u' wr by rw [hlen]; exact hJk)
        clear hJk hbs hbe hbY huY hB hlen hWs hbY' huY' hB' hu' hK
        gi_wp2
        go_end0
        exact ⟨⟨_, rfl⟩, .inl ⟨_, HK.out⟩⟩
    · have HK := Lib.hid hx
      clear hx hbs hbe hbY huY hB hlen hWs hbY' huY' hB' hu' hK
      gi_wp2
      go_end0
      obtain ⟨q, hq, hx⟩ := HK.out
      exact ⟨⟨_, rfl⟩, .inr ⟨q, _, hq, hx⟩⟩
end
end Go.Proofs.YtgmpcinlkiiboaaGreatDoor
