/- The reference's arena: within, New, Byte, Put, Read, Zero, Count. -/
import Derived.Test.YtfpefffgegphnaaDoorAny
import Derived.Deep.LoopGhost
namespace Go.Proofs.YtfpefffgegphnaaDoor
open Go.RowKit Go
/-- At ⟨p, 0⟩ lies an arena of the reference whose bytes are L, in the block g. -/
structure Rr (w : World) (p g : Nat) (L : List UInt8) : Prop where
  p : Blk w p #[.slice (some ⟨g, 0, none⟩) L.length L.length] 49
  b : Blk w g (bts L) 5
  n0 : 0 < L.length
  le : L.length ≤ 131072
theorem Rr.ne {w : World} {p g : Nat} {L : List UInt8} (h : Rr w p g L) : p ≠ g := by
  rintro rfl
  have := (show w.heap[p]? = _ from h.p).symm.trans h.b
  simp at this
theorem Rr.ext {w w' : World} {p g : Nat} {L : List UInt8} (h : Rr w p g L) (k : Ext w w') : Rr w' p g L := ⟨h.p.ext k, h.b.ext k, h.n0, h.le⟩
theorem Rr.chg {w w' : World} {p g : Nat} {L L' : List UInt8} (h : Rr w p g L) (k : Chg g w w') (hb : Blk w' g (bts L') 5) (hl : L'.length = L.length) : Rr w' p g L' :=
  ⟨by rw [hl]; exact h.p.chg k h.ne, hb, by rw [hl]; exact h.n0, by rw [hl]; exact h.le⟩
theorem Rr.other {w w' : World} {p g q : Nat} {L : List UInt8} (h : Rr w p g L) (k : Chg q w w') (h1 : p ≠ q) (h2 : g ≠ q) : Rr w' p g L := ⟨h.p.chg k h1, h.b.chg k h2, h.n0, h.le⟩
theorem Rr.setNew {w : World} {p g : Nat} {L : List UInt8} (h : Rr w p g L) (q o : Nat) (v : Value) (h1 : p ≠ q) (h2 : g ≠ q) : Rr (w.setCell ⟨q, o, none⟩ v) p g L :=
  ⟨h.p.other _ _ h1, h.b.other _ _ h2, h.n0, h.le⟩
theorem Rr.set {w : World} {p g : Nat} {L : List UInt8} (h : Rr w p g L) (i : Nat) (b : UInt8) : Rr (w.setCell ⟨g, i, none⟩ (.int .u8 (b.toNat : Int))) p g (L.set i b) :=
  h.chg ((Chg.refl g w).setCell i _) (by have := h.b.set i (.int .u8 (b.toNat : Int)); rwa [bts_set] at this) (by simp)
theorem lay_snoc (L : List UInt8) (x : Nat) (S : List UInt8) (b : UInt8) (h : x + S.length + 1 ≤ L.length) : (lay L x S).set (x + S.length) b = lay L x (S ++ [b]) := by
  have l1 := lay_len L x S (by omega)
  have l2 := lay_len L x (S ++ [b]) (by simp; omega)
  apply List.ext_getElem (by rw [List.length_set]; omega)
  intro i hi1 hi2
  have e1 := lay_get L x S (by omega) i
  have e2 := lay_get L x (S ++ [b]) (by simp; omega) i
  have hi3 : i < (lay L x S).length := by rw [List.length_set] at hi1; exact hi1
  rw [List.getD, List.getElem?_eq_getElem hi3] at e1
  rw [List.getD, List.getElem?_eq_getElem hi2] at e2
  simp only [Option.getD_some] at e1 e2
  rw [List.getElem_set, e1, e2]
  by_cases hb : x + S.length = i
  · rw [if_pos hb, if_pos (by simp; omega), show i - x = S.length by omega, List.getD, List.getElem?_append_right (Nat.le_refl _)]
    simp
  · rw [if_neg hb]
    by_cases h3 : x ≤ i ∧ i < x + S.length
    · rw [if_pos h3, if_pos (by simp; omega), List.getD, List.getD, List.getElem?_append_left (by omega)]
    · rw [if_neg h3, if_neg (by simp; omega)]
section
variable {a : Nat → Addr}
abbrev RDoes (g p : Nat) (w : World) (v : Value) (L' : List UInt8) (e : Ending) (w' : World) : Prop := e = .returned v ∧ Chg g w w' ∧ Rr w' p g L'

set_option maxHeartbeats 2000000 in
set_option maxRecDepth 100000 in
theorem within_is (p g : Nat) (L : List UInt8) (x y : Int) (q : Bool) (hq : inB L.length x y = q) (w : World) (hA : Rr w p g L) :
    Calls Tryd.prog 43 #[ptr p, .int .i64 x, .int .i64 y] w fun e w' => e = .returned (.bool q) ∧ w = w' := by
  have c0 : w.cell? ⟨p, 0, none⟩ = some (.slice (some ⟨g, 0, none⟩) L.length L.length) := hA.p.cell 0
  have hle := hA.le
  have n1 : (L.length : Int) ≤ 131072 := by omega
  clear hA
  by_cases h1 : x < 0
  · obtain rfl : q = false := hq.symm.trans (inB_no (by omega))
    clear hq
    go_enter Tryd.func43, Tryd.ntmps43
    go_wp2
    go_ret
    exact ⟨rfl, rfl⟩
  · by_cases h2 : y < 0
    · obtain rfl : q = false := hq.symm.trans (inB_no (by omega))
      clear hq
      go_enter Tryd.func43, Tryd.ntmps43
      go_wp2
      go_ret
      exact ⟨rfl, rfl⟩
    · by_cases h3 : (L.length : Int) < x
      · obtain rfl : q = false := hq.symm.trans (inB_no (by omega))
        clear hq
        go_enter Tryd.func43, Tryd.ntmps43
        go_wp2
        go_ret
        exact ⟨rfl, rfl⟩
      · by_cases h4 : (L.length : Int) - x < y
        · obtain rfl : q = false := hq.symm.trans (inB_no (by omega))
          have h5 : decide (y ≤ (L.length : Int) - x) = false := decide_eq_false (by omega)
          clear hq
          go_enter Tryd.func43, Tryd.ntmps43
          go_wp2
          go_ret
          exact ⟨rfl, rfl⟩
        · obtain rfl : q = true := hq.symm.trans (inB_yes (by omega))
          clear hq
          go_enter Tryd.func43, Tryd.ntmps43
          go_wp2
          go_ret
          exact ⟨rfl, rfl⟩
theorem within_ok (p g : Nat) (L : List UInt8) (x y : Int) (h : okA L x y) (w : World) (hA : Rr w p g L) : Calls Tryd.prog 43 #[ptr p, .int .i64 x, .int .i64 y] w fun e w' => e = .returned (.bool true) ∧ w = w' := within_is p g L x y true (inB_yes h) w hA
theorem within_no (p g : Nat) (L : List UInt8) (x y : Int) (h : ¬ okA L x y) (w : World) (hA : Rr w p g L) : Calls Tryd.prog 43 #[ptr p, .int .i64 x, .int .i64 y] w fun e w' => e = .returned (.bool false) ∧ w = w' := within_is p g L x y false (inB_no h) w hA

def RNewR (w : World) (n : Nat) (e : Ending) (w' : World) : Prop :=
  ∃ p g, e = .returned (.tuple #[ptr p, .int .i64 0]) ∧ w.heap.size ≤ p ∧ w.heap.size ≤ g ∧ Ext w w' ∧ Rr w' p g (List.replicate (4096 * n) 0)
set_option maxHeartbeats 1000000 in
theorem rnew_ok (n : Nat) (h1 : 1 ≤ n) (h2 : n ≤ 32) (w : World) : Calls Tryd.prog 20 #[.int .i64 (n : Nat)] w (RNewR w n) := by
  obtain ⟨N, hN⟩ : ∃ N, 4096 * n = N := ⟨_, rfl⟩
  have hmk := fun w => make_bytes N (by omega) w
  have e1 : (n : Int) * 4096 = (N : Nat) := by omega
  have i1 : ¬ (n : Int) < 1 := by omega
  have i2 : ¬ (32 : Int) < n := by omega
  have i3 : (N : Int) ≤ 131072 := by omega
  have HN := Lib.hid (And.intro hN (And.intro h1 h2))
  clear h1 h2 hN
  go_enter Tryd.func20, Tryd.ntmps20
  go_wp2
  go_ret2
  refine ⟨w.heap.size + 1, w.heap.size, rfl, ?_, ?_, ext2 _ _ _, ⟨?_, ?_, ?_, ?_⟩⟩
  · omega
  · omega
  · have := Blk.new (w.alloc (.cells (bts (List.replicate N 0)) 5)) #[.slice (some ⟨w.heap.size, 0, none⟩) N N] 49
    rw [HN.out.1, List.length_replicate]
    simpa using this
  · rw [HN.out.1]
    exact (Blk.new w (bts (List.replicate N 0)) 5).alloc _
  · have := HN.out; simp; omega
  · have := HN.out; simp; omega
theorem rnew_no (x : Int) (h : ¬ (1 ≤ x ∧ x ≤ 32)) (w : World) : Calls Tryd.prog 20 #[.int .i64 x] w fun e w' => e = .returned (.tuple #[.pointer none, .int .i64 2]) ∧ w = w' := by
  by_cases h1 : x < 1
  · go_enter Tryd.func20, Tryd.ntmps20
    go_wp2
    go_ret2
    exact ⟨rfl, rfl⟩
  · have h2 : 32 < x := by omega
    clear h
    go_enter Tryd.func20, Tryd.ntmps20
    go_wp2
    go_ret2
    exact ⟨rfl, rfl⟩

theorem rdoes_same {f : FuncId} {args : Array Value} {w : World} {p g : Nat} {L : List UInt8} {v v' : Value} (hA : Rr w p g L) (hv : v = v') (h : Calls Tryd.prog f args w fun e w' => e = .returned v ∧ w = w') : Calls Tryd.prog f args w (RDoes g p w v' L) :=
  h.mono fun e w' ⟨he, hw⟩ => by subst hw; exact ⟨by rw [he, hv], Chg.refl _ _, hA⟩

set_option maxHeartbeats 1000000 in
theorem rread_any (p g : Nat) (L : List UInt8) (x y : Int) (w : World) (hA : Rr w p g L) :
    Calls Tryd.prog 44 #[ptr p, .int .i64 x, .int .i64 y] w (RDoes g p w (.tuple #[.string ⟨(rdS L x y).toArray⟩, .int .i64 (rdE L x y)]) L) := by
  refine rdoes_same hA rfl ?_
  by_cases h : okA L x y
  · rw [rdS, rdE, if_pos h, if_pos h]
    have W := Lib.hid (within_ok p g L x y h w hA)
    unfold okA at h
    obtain ⟨x, rfl⟩ : ∃ k : Nat, x = k := ⟨x.toNat, by omega⟩
    obtain ⟨y, rfl⟩ : ∃ k : Nat, y = k := ⟨y.toNat, by omega⟩
    have c0 : w.cell? ⟨p, 0, none⟩ = some (.slice (some ⟨g, 0, none⟩) L.length L.length) := hA.p.cell 0
    have hl := hA.le
    have h1 : (x : Int) + y ≤ 131072 := by omega
    by_cases hq : L.length = x
    · obtain rfl : y = 0 := by omega
      have kc := fun q c => run_text_of (P := Tryd.prog) w 47 9 5 q c 0 x g L 5 Tryd.underlying47 Tryd.underlying5 Tryd.underlying9 hA.b (fun h => absurd h (Nat.lt_irrefl 0)) (by omega)
      clear hA
      go_enter Tryd.func44, Tryd.ntmps44
      go_wp2_with (go_at_call 43; refine W.out.mono ?_; rintro e w1 ⟨rfl, rfl⟩)
      go_ret2
      exact ⟨rfl, rfl⟩
    · have h2 : x + y - x = y := by omega
      have kc := run_text_of (P := Tryd.prog) w 47 9 5 (some ⟨g, x, none⟩) (L.length - x) y x g L 5 Tryd.underlying47 Tryd.underlying5 Tryd.underlying9 hA.b (fun _ => rfl) (by omega)
      clear hA
      go_enter Tryd.func44, Tryd.ntmps44
      go_wp2_with (go_at_call 43; refine W.out.mono ?_; rintro e w1 ⟨rfl, rfl⟩)
      go_ret2
      exact ⟨rfl, rfl⟩
  · rw [rdS, rdE, if_neg h, if_neg h]
    have W := Lib.hid (within_no p g L x y h w hA)
    clear hA h
    go_enter Tryd.func44, Tryd.ntmps44
    go_wp2_with (go_at_call 43; refine W.out.mono ?_; rintro e w1 ⟨rfl, rfl⟩)
    go_ret2
    exact ⟨rfl, rfl⟩

end
end Go.Proofs.YtfpefffgegphnaaDoor
