/- selionlaw03.Cut: the first twenty calls, their texts cut. -/
import Derived.Test.YtmehoieijelncaaDoorAny
import Derived.Test.YtmehoieijelncaaDoorApp
import Derived.Deep.LoopGhost
namespace Go.Proofs.YtmehoieijelncaaDoor
open Go.RowKit Go
instance : Inhabited OpR := ⟨⟨0, 0, 0, 0, []⟩⟩
def cutR (x : OpR) : OpR := { x with s := x.s.take 200 }
/-- The slice (A, n) holds the calls xs. -/
def OpsAt (W : World) (A : Option Addr) (n : Nat) (xs : List OpR) : Prop :=
  xs.length = n ∧ (∀ x ∈ xs, x.v < 4294967296) ∧ (0 < n → ∃ ad, A = some ad ∧ ad.block < W.heap.size ∧ ∀ i j, i < n → j < 5 → W.cell? (ad.add (i * 5 + j)) = (xs.getD i default).cells[j]?)
theorem OpsAt.ext {W W' : World} {A : Option Addr} {n : Nat} {xs : List OpR} (h : OpsAt W A n xs) (k : Ext W W') : OpsAt W' A n xs :=
  ⟨h.1, h.2.1, fun hn => by
    obtain ⟨ad, e, hb, hc⟩ := h.2.2 hn
    exact ⟨ad, e, Nat.lt_of_lt_of_le hb k.size, fun i j hi hj => (k.cell (p := ad.add _) (by rw [block_of_add]; exact hb)).trans (hc i j hi hj)⟩⟩
theorem OpsAt.get {W : World} {A : Option Addr} {n : Nat} {xs : List OpR} (h : OpsAt W A n xs) {i : Nat} (hi : i < n) : ∃ x, xs[i]? = some x ∧ x.v < 4294967296 := by
  have hl : i < xs.length := by rw [h.1]; exact hi
  exact ⟨xs[i], List.getElem?_eq_getElem hl, h.2.1 _ (List.getElem_mem hl)⟩
theorem add_pos (P : Addr) (j : Nat) (h : j ≠ 0) : P.add j = ⟨P.block, P.off + j, none⟩ := by unfold Addr.add; rw [if_neg h]
def flat (xs : List OpR) : List Value := xs.flatMap fun x => x.cells.toList
theorem flat_len (xs : List OpR) : (flat xs).length = xs.length * 5 := by
  induction xs with
  | nil => rfl
  | cons x r ih => simp only [flat, List.flatMap_cons, List.length_append, List.length_cons] at *; rw [ih]; simp [OpR.cells]; omega
theorem flat_snoc (xs : List OpR) (x : OpR) : flat (xs ++ [x]) = flat xs ++ x.cells.toList := by simp [flat]
theorem flat_get (xs : List OpR) : ∀ i j, i < xs.length → j < 5 → (flat xs)[i * 5 + j]? = (xs.getD i default).cells[j]? := by
  induction xs with
  | nil => intro i j hi; simp at hi
  | cons x r ih =>
    intro i j hi hj
    have hx : x.cells.toList.length = 5 := rfl
    simp only [flat, List.flatMap_cons]
    rcases i with _ | i
    · rw [List.getElem?_append_left (by rw [hx]; omega)]
      simp
    · rw [List.getElem?_append_right (by rw [hx]; omega), hx, show (i + 1) * 5 + j - 5 = i * 5 + j by omega]
      exact ih i j (by simpa using hi) hj
theorem ops_of_own {W : World} {S : Nat} {v : Value} {n : Nat} {xs : List OpR} (h : W.ownsRow S 39 5 v n (flat xs)) (hl : xs.length = n) (hv : ∀ x ∈ xs, x.v < 4294967296) : ∃ A c, v = .slice A n c ∧ OpsAt W A n xs ∧ ∀ ad, A = some ad → S ≤ ad.block := by
  rcases h.2 with ⟨rfl, rfl⟩ | ⟨g, cap, cur, rfl, hb, hg, hn, hm, hs, ht⟩
  · exact ⟨none, 0, rfl, ⟨hl, hv, fun h => absurd h (by omega)⟩, fun _ h => by cases h⟩
  · refine ⟨_, cap, rfl, ⟨hl, hv, fun h0 => ⟨_, rfl, (show Blk W g cur _ from hg).lt, fun i j hi hj => ?_⟩⟩, fun ad h => by cases h; exact hb⟩
    have e : (⟨g, 0, none⟩ : Addr).add (i * 5 + j) = ⟨g, i * 5 + j, none⟩ := by
      unfold Addr.add
      split
      · rename_i h0; rw [h0]
      · simp
    rw [e, (show Blk W g cur _ from hg).cell, ← flat_get xs i j (by omega) hj, ← ht, List.getElem?_take, if_pos (by omega)]
    simp
theorem ownN_ext {w w' : World} {base : Nat} {e : TypeId} {size : Nat} {v : Value} {n : Nat} {xs : List Value} (h : w.ownsRow base e size v n xs) (k : Ext w w') : w'.ownsRow base e size v n xs := by
  obtain ⟨hl, h⟩ := h
  refine ⟨hl, ?_⟩
  rcases h with ⟨rfl, rfl⟩ | ⟨g, cap, cur, rfl, hb, hg, hn, hm, hs, ht⟩
  · exact .inl ⟨rfl, rfl⟩
  · exact .inr ⟨g, cap, cur, rfl, hb, (k.block g (Array.getElem?_eq_some_iff.1 hg).1).trans hg, hn, hm, hs, ht⟩
theorem ownN_block {w : World} {base : Nat} {e : TypeId} {size : Nat} {v : Value} {n : Nat} {xs : List Value} (h : w.ownsRow base e size v n xs) : ∀ g, v.ownBlock = some g → base ≤ g := by
  intro g hg
  rcases h.2 with ⟨rfl, rfl⟩ | ⟨g', cap, cur, rfl, hb, _⟩
  · cases hg
  · simp [Value.ownBlock] at hg; omega
theorem extract_take (l : List UInt8) (m : Nat) : ByteArray.extract ⟨l.toArray⟩ 0 m = ⟨(l.take m).toArray⟩ := by
  apply ByteArray.ext
  rw [ByteArray.data_extract]
  simp
theorem extract_all (l : List UInt8) (h : l.length ≤ 200) : ByteArray.extract ⟨l.toArray⟩ 0 l.length = ⟨(l.take 200).toArray⟩ := by
  rw [extract_take, List.take_length, List.take_of_length_le h]
theorem new_cells (w : World) (o : Obj) (cs : Array Value) (j : Nat) (u : Value) (h : cs[j]? = some u) : ((w.alloc o).alloc (.cells cs 39)).cell? ((⟨w.heap.size + 1, 0, none⟩ : Addr).add j) = some u := by
  have e : (⟨w.heap.size + 1, 0, none⟩ : Addr).add j = ⟨w.heap.size + 1, j, none⟩ := by unfold Addr.add; by_cases h0 : j = 0 <;> simp [h0]
  have := Blk.new (w.alloc o) cs 39
  rw [World.size_alloc] at this
  rw [e, this.cell, h]
theorem op_one (x : OpR) : ∀ u ∈ x.cells.toList, u.oneCell' = true := by
  intro u hu
  simp [OpR.cells] at hu
  rcases hu with rfl | rfl | rfl | rfl | rfl <;> rfl
section
variable {a : Nat → Addr}
theorem info_op : ∃ i, Tryd.prog.info? 39 = some i ∧ i.zero = some (.agg #[.int .i64 0, .int .i64 0, .int .i64 0, .int .u32 0, .string ⟨#[]⟩]) ∧ i.size = 5 ∧ i.bytes = 48 := by
  have h : (Tryd.prog.info? 39).map (fun i => (i.zero, i.size, i.bytes)) = some (some (.agg #[.int .i64 0, .int .i64 0, .int .i64 0, .int .u32 0, .string ⟨#[]⟩]), 5, 48) := by kernel_rfl
  obtain ⟨i, hi, hh⟩ := Option.map_eq_some_iff.1 h
  simp only [Prod.mk.injEq] at hh
  exact ⟨i, hi, hh.1, hh.2.1, hh.2.2⟩
/-- An own row of m calls. -/
def CutP (w : World) (m : Nat) (ys : List OpR) (e : Ending) (w' : World) : Prop := ∃ A' c', e = .returned (.slice A' m c') ∧ Ext w w' ∧ OpsAt w' A' m ys ∧ ∀ ad, A' = some ad → w.heap.size ≤ ad.block
set_option maxHeartbeats 4000000 in
set_option maxRecDepth 100000 in
theorem cut_any' (A : Option Addr) (n c : Nat) (xs : List OpR) (m : Nat) (ys : List OpR) (hm : min n 20 = m) (hys : (xs.take 20).map cutR = ys) (w : World) (h : OpsAt w A n xs) :
    Calls Tryd.prog 11 #[.slice A n c] w (CutP w m ys) := by
  have HM := Lib.hid (And.intro hm hys)
  clear hm hys
  obtain ⟨i0, hi0⟩ := info_op
  have HI := Lib.hid hi0
  clear hi0
  have HO := Lib.hid h
  clear h
  go_enter Tryd.func11, Tryd.ntmps11
  go_wp2
  go_loopg [3, 4] (min n 20) (fun m v i wr => ∃ k : Nat, k + m = min n 20 ∧ i = .int .i64 k ∧ Ext w wr ∧ wr.ownsRow w.heap.size 39 5 v k (flat ((xs.take k).map cutR)))
  case atStart => exact ⟨0, by omega, rfl, Ext.refl _, rfl, .inl ⟨rfl, rfl⟩⟩
  case round =>
    obtain ⟨k, hk, rfl, hE, hown⟩ := hrel
    by_cases hlt : k < min n 20
    · obtain ⟨ad, rfl, hb, hc⟩ := HO.out.2.2 (by omega)
      obtain ⟨x, hx, hxv⟩ := HO.out.get (show k < n by omega)
      have hxd : xs.getD k default = x := by rw [List.getD, hx]; rfl
      have e0 := ((hE.cell (p := ad.add (k * 5 + 0)) (by rw [block_of_add]; exact hb))).trans (hc k 0 (by omega) (by omega))
      have e1 := ((hE.cell (p := ad.add (k * 5 + 1)) (by rw [block_of_add]; exact hb))).trans (hc k 1 (by omega) (by omega))
      have e2 := ((hE.cell (p := ad.add (k * 5 + 2)) (by rw [block_of_add]; exact hb))).trans (hc k 2 (by omega) (by omega))
      have e3 := ((hE.cell (p := ad.add (k * 5 + 3)) (by rw [block_of_add]; exact hb))).trans (hc k 3 (by omega) (by omega))
      have e4 := ((hE.cell (p := ad.add (k * 5 + 4)) (by rw [block_of_add]; exact hb))).trans (hc k 4 (by omega) (by omega))
      rw [hxd] at e0 e1 e2 e3 e4
      rw [← add_of_add ad (k * 5)] at e1 e2 e3 e4
      rw [Nat.add_zero] at e0
      simp only [OpR.cells, List.getElem?_toArray, List.getElem?_cons_zero, List.getElem?_cons_succ] at e0 e1 e2 e3 e4
      rw [add_pos _ 1 (by decide)] at e1
      rw [add_pos _ 2 (by decide)] at e2
      rw [add_pos _ 3 (by decide)] at e3
      rw [add_pos _ 4 (by decide)] at e4

      have h1 : (k : Int) < n := by omega
      have h2 : (k : Int) < 20 := by omega
      have HH := Lib.hid (And.intro hE (And.intro hown (And.intro hx hk)))
      clear hE hown hx hk hc hxd hlt
      by_cases hs : x.s.length ≤ 200
      · have hs' : (x.s.length : Int) ≤ 200 := by omega
        have hex := extract_all x.s hs
        clear hs
        go_wp2_with (first | (at_builtin; go_loud (refine wpList_append_own _ rfl _ _ 22 rfl w.heap.size 39 i0 (.agg #[.int .i64 0, .int .i64 0, .int .i64 0, .int .u32 0, .string ⟨#[]⟩]) 5 48 Tryd.underlying22 HI.out.1 HI.out.2.1 HI.out.2.2.1 HI.out.2.2.2 rfl (by decide) _ _ _ rfl (ownN_ext HH.out.2.1 (ext2 _ _ _)) ⟨wr.heap.size + 1, 0, none⟩ 1 1 (cutR x).cells.toList rfl rfl (fun j u hj => new_cells _ _ _ j u (by simpa [cutR, OpR.cells] using hj)) (op_one _) (by have := HH.out.2.2.2; unfold maxLen; omega) (by have := HH.out.2.2.2; omega) (by have := HH.out.1.size; simp; omega) ?_; intro v' w3 hown3 hgrow _)))
        go_roundg (gk - 1)
        case measure => have := HH.out.2.2.2; omega
        case rel =>
          refine ⟨k + 1, by have := HH.out.2.2.2; omega, by go_num, ?_, ?_⟩
          · exact Below.grown (Ext.trans HH.out.1 (ext2 _ _ _)) hgrow (by have := HH.out.1.size; simp; omega) (fun g hg => ownN_block HH.out.2.1 g hg)
          · rw [List.take_add_one, HH.out.2.2.1]
            simp only [Option.toList_some, List.map_append, List.map_cons, List.map_nil, flat_snoc]
            exact hown3
      · have hs' : ¬ (x.s.length : Int) ≤ 200 := by omega
        have hex := extract_take x.s 200
        clear hs
        go_wp2_with (first | (at_builtin; go_loud (refine wpList_append_own _ rfl _ _ 22 rfl w.heap.size 39 i0 (.agg #[.int .i64 0, .int .i64 0, .int .i64 0, .int .u32 0, .string ⟨#[]⟩]) 5 48 Tryd.underlying22 HI.out.1 HI.out.2.1 HI.out.2.2.1 HI.out.2.2.2 rfl (by decide) _ _ _ rfl (ownN_ext HH.out.2.1 (ext2 _ _ _)) ⟨wr.heap.size + 1, 0, none⟩ 1 1 (cutR x).cells.toList rfl rfl (fun j u hj => new_cells _ _ _ j u (by simpa [cutR, OpR.cells] using hj)) (op_one _) (by have := HH.out.2.2.2; unfold maxLen; omega) (by have := HH.out.2.2.2; omega) (by have := HH.out.1.size; simp; omega) ?_; intro v' w3 hown3 hgrow _)))
        go_roundg (gk - 1)
        case measure => have := HH.out.2.2.2; omega
        case rel =>
          refine ⟨k + 1, by have := HH.out.2.2.2; omega, by go_num, ?_, ?_⟩
          · exact Below.grown (Ext.trans HH.out.1 (ext2 _ _ _)) hgrow (by have := HH.out.1.size; simp; omega) (fun g hg => ownN_block HH.out.2.1 g hg)
          · rw [List.take_add_one, HH.out.2.2.1]
            simp only [Option.toList_some, List.map_append, List.map_cons, List.map_nil, flat_snoc]
            exact hown3
    · obtain rfl : k = min n 20 := by omega
      have hX : List.take (min n 20) xs = List.take 20 xs := by
        rcases Nat.le_total n 20 with h | h
        · rw [Nat.min_eq_left h, List.take_of_length_le (by rw [HO.out.1]; exact Nat.le_refl _), List.take_of_length_le (by rw [HO.out.1]; exact h)]
        · rw [Nat.min_eq_right h]
      rw [hX] at hown
      obtain ⟨A', c', rfl, hops, hbk⟩ := ops_of_own hown (by rw [List.length_map, List.length_take, HO.out.1]; omega) (fun y hy => by
        obtain ⟨z, hz, rfl⟩ := List.mem_map.1 hy
        exact HO.out.2.1 z (List.mem_of_mem_take hz))
      rw [HM.out.1, HM.out.2] at hops
      have HH := Lib.hid (And.intro hE (And.intro hops hbk))
      clear hE hops hbk hown hX hk
      by_cases h1 : n ≤ 20
      · have h3 : min n 20 = n := by omega
        have h2 : ¬ ((n : Nat) : Int) < n := by omega
        have h4 := Lib.hid (h3.symm.trans HM.out.1)
        rw [h3] at *
        clear h3
        go_wp2
        go_ret
        exact ⟨A', c', ret_val (by show Value.slice A' n c' = _; rw [h4.out]), HH.out⟩
      · have h3 : min n 20 = 20 := by omega
        have h2 : ((20 : Nat) : Int) < n := by omega
        have h4 := Lib.hid (h3.symm.trans HM.out.1)
        rw [h3] at *
        clear h3
        go_wp2
        go_ret
        exact ⟨A', c', ret_val (by show Value.slice A' 20 c' = _; rw [h4.out]), HH.out⟩
theorem cut_any (A : Option Addr) (n c : Nat) (xs : List OpR) (w : World) (h : OpsAt w A n xs) :
    Calls Tryd.prog 11 #[.slice A n c] w (CutP w (min n 20) ((xs.take 20).map cutR)) := cut_any' A n c xs _ _ rfl rfl w h
end
end Go.Proofs.YtmehoieijelncaaDoor
