/- Joined texts, in their order: PartD, EnvD, Shape, Shaped, BytesD, SlotsD, Scan, Read1. -/
import Derived.Test.YtopgbggighaknaaGreatDoorM05
import Derived.Deep.LoopGhost
import Derived.Deep.RegionWith
import Derived.Deep.RegionHeld3
import Derived.BigQuiet
import Derived.Deep.QuietTactic
import Derived.Test.YtopgbggighaknaaGreatDoorM04
/- desc: isPart. -/
namespace Go.Proofs.YtopgbggighaknaaGreatDoor
open Go.RowKit Go
def partB (most size : Int) (l : List Int) : Bool := decide (0 ≤ size) && decide (size ≤ most) && decide (size % 4 = 0) && risB l size
theorem right_parts (d : DescR) : rightB d = (partB 1024 d.size d.ptrs && partB 256 d.elem d.eptrs) := by
  rw [Bool.eq_iff_iff]; simp [rightB, partB]
  constructor
  · rintro ⟨⟨⟨⟨⟨⟨⟨a, b⟩, c⟩, d⟩, e⟩, f⟩, g⟩, h⟩; exact ⟨⟨⟨⟨a, b⟩, c⟩, g⟩, ⟨⟨⟨d, e⟩, f⟩, h⟩⟩
  · rintro ⟨⟨⟨⟨a, b⟩, c⟩, g⟩, ⟨⟨⟨d, e⟩, f⟩, h⟩⟩; exact ⟨⟨⟨⟨⟨⟨⟨a, b⟩, c⟩, d⟩, e⟩, f⟩, g⟩, h⟩
/-- what the k-th place must be at least -/
def leastL (l : List Int) : Nat → Int
  | 0 => 0
  | k + 1 => l.getD k 0 + 4
theorem least_prev (l : List Int) (k : Nat) (h : 0 < k → prevL l k % 4 = 0) (x : Int) (h4 : x % 4 = 0) : (prevL l k < x ∧ 0 ≤ x) → leastL l k ≤ x := by
  cases k with
  | zero => simp [leastL]
  | succ k => simp only [prevL, leastL] at *; have := h (by omega); omega
theorem prev_least (l : List Int) (k : Nat) (h : 0 < k → 0 ≤ prevL l k) (x : Int) : leastL l k ≤ x → prevL l k < x ∧ 0 ≤ x := by
  cases k with
  | zero => simp only [leastL, prevL]; omega
  | succ k => simp only [prevL, leastL] at *; have := h (by omega); omega
section
set_option maxHeartbeats 4000000 in
set_option maxRecDepth 100000 in
theorem isPart_is (A : Option Addr) (n c : Nat) (l : List Int) (most size : Int) (hn : n ≤ 1000000) (hmost : most ≤ 2000) (w : World) (h : Il w A n l) :
    Calls Tryz.prog 64 #[.int .i64 most, .int .i64 size, .slice A n c] w fun e w' => e = .returned (.bool (partB most size l)) ∧ Ext w w' := by
  have H := Lib.hid h
  clear h
  by_cases h0 : size < 0
  · have HN := Lib.hid (show false = partB most size l by unfold partB; rw [show decide (0 ≤ size) = false from decide_eq_false (by omega)]; rfl)
    have d0 : decide (size < 0) = true := decide_eq_true h0
    go_enter Tryz.func64, Tryz.ntmps64
    go_wp2
    go_ret
    exact ⟨rb HN.out, Ext.refl _⟩
  obtain ⟨S, rfl⟩ : ∃ y : Nat, size = y := ⟨size.toNat, by omega⟩
  have h0' : (0 : Int) ≤ S := by omega
  by_cases h1 : most < (S : Int)
  · have HN := Lib.hid (show false = partB most S l by unfold partB; rw [show decide ((S : Int) ≤ most) = false from decide_eq_false (by omega)]; simp)
    have d0 : decide (most < (S : Int)) = true := decide_eq_true h1
    go_enter Tryz.func64, Tryz.ntmps64
    go_wp2
    go_ret
    exact ⟨rb HN.out, Ext.refl _⟩
  have h1' : (S : Int) ≤ most := by omega
  have d1 : decide (most < (S : Int)) = false := decide_eq_false h1
  have hS : (S : Int) ≤ 2000 := by omega
  by_cases h2 : (S : Int) % 4 = 0
  · have hb1 : ((S : Int) % 4 != 0) = false := by simp [h2]
    have hb2 : ((S : Int).tmod 4 != 0) = false := by rw [Int.tmod_eq_emod_of_nonneg h0']; exact hb1
    have HP := Lib.hid (show partB most S l = risB l S by unfold partB; simp [h1', h2])
    clear h2
    go_enter Tryz.func64, Tryz.ntmps64
    go_wp2
    go_loopg [7, 9, 24] n (fun m u v i wr => ∃ k : Nat, k + m = n ∧ i = .int .i64 k ∧ u = .int .i64 (leastL l k) ∧ (0 < k → prevL l k % 4 = 0 ∧ 0 ≤ prevL l k ∧ prevL l k < 2000) ∧ risB l S = risF S (prevL l k) (l.drop k) ∧ Ext w wr)
    case atStart => exact ⟨0, by omega, rfl, rfl, fun h => absurd h (by decide), rfl, Ext.refl _⟩
    case round =>
      obtain ⟨k, hk, rfl, rfl, hp, ht, hE⟩ := hrel
      by_cases hlt : k < n
      · obtain ⟨ad, rfl, hb, hcell⟩ := (H.out.ext hE).at_ hlt
        have ck := hcell k hlt
        have h5 : (k : Int) < n := by omega
        have h6 : (k : Int) + 1 ≤ 1000000 := by omega
        rw [ris_step l S k (by rw [H.out.1]; exact hlt)] at ht
        have a1 := least_prev l k (fun h => (hp h).1) (l.getD k 0)
        have a2 := prev_least l k (fun h => (hp h).2.1) (l.getD k 0)
        have a3 : -4 ≤ leastL l k ∧ leastL l k ≤ 2004 := by
          cases k with
          | zero => simp [leastL]
          | succ k => have := hp (by omega); simp only [prevL] at this; simp only [leastL]; omega
        have hpn : prevL l (k + 1) = l.getD k 0 := rfl
        have hln : leastL l (k + 1) = l.getD k 0 + 4 := rfl
        have HE := Lib.hid (And.intro hE (And.intro hk (And.intro hpn hln)))
        clear hE hcell hk hp hpn hln
        generalize l.getD k 0 = x at *
        generalize leastL l k = y at *
        by_cases c1 : x < y
        · have d2 : decide (x < y) = true := decide_eq_true c1
          have HN := Lib.hid (show false = partB most S l by
            rw [HP.out, ht]
            rcases Classical.em (x % 4 = 0) with q | q
            · have : ¬ (prevL l k < x ∧ 0 ≤ x) := fun h => by have := a1 q h; omega
              rcases Classical.em (0 ≤ x) with r | r
              · rw [show decide (prevL l k < x) = false from decide_eq_false (fun h => this ⟨h, r⟩)]; simp
              · rw [show decide (0 ≤ x) = false from decide_eq_false r]; simp
            · rw [show decide (x % 4 = 0) = false from decide_eq_false q]; simp)
          clear ht a1 a2
          go_wp2
          go_ret
          exact ⟨rb HN.out, HE.out.1⟩
        · have d2 : decide (x < y) = false := decide_eq_false c1
          obtain ⟨b1, b2⟩ := a2 (by omega)
          clear a1 a2
          by_cases c2 : (S : Int) ≤ x
          · have d3 : decide ((S : Int) ≤ x) = true := decide_eq_true c2
            have HN := Lib.hid (show false = partB most S l by rw [HP.out, ht, show decide (x < (S : Int)) = false from decide_eq_false (by omega)]; simp)
            clear ht b1
            go_wp2
            go_ret
            exact ⟨rb HN.out, HE.out.1⟩
          · have d3 : decide ((S : Int) ≤ x) = false := decide_eq_false c2
            obtain ⟨X, rfl⟩ : ∃ z : Nat, x = z := ⟨x.toNat, by omega⟩
            by_cases c3 : (X : Int) % 4 = 0
            · have e1 : ((X : Int) % 4 != 0) = false := by simp [c3]
              have e2 : ((X : Int).tmod 4 != 0) = false := by rw [Int.tmod_eq_emod_of_nonneg b2]; exact e1
              have HN := Lib.hid (show risB l S = risF S (prevL l (k + 1)) (l.drop (k + 1)) by rw [ht, show decide ((X : Int) < (S : Int)) = true from decide_eq_true (by omega), show decide (prevL l k < X) = true from decide_eq_true b1, show decide (0 ≤ (X : Int)) = true from decide_eq_true b2, c3]; rfl)
              have HC := Lib.hid c3
              clear ht b1 c3
              have hX : (X : Int) ≤ 2000 := by omega
              go_wp2
              go_roundg (gk - 1)
              case measure => have := HE.out.2.1; omega
              case rel => exact ⟨k + 1, by have := HE.out.2.1; omega, by go_num, by rw [HE.out.2.2.2], fun _ => by rw [HE.out.2.2.1]; exact ⟨HC.out, by omega, by omega⟩, HN.out, HE.out.1⟩
            · have e1 : ((X : Int) % 4 != 0) = true := by simpa using c3
              have e2 : ((X : Int).tmod 4 != 0) = true := by rw [Int.tmod_eq_emod_of_nonneg b2]; exact e1
              have HN := Lib.hid (show false = partB most S l by rw [HP.out, ht, show decide ((X : Int) % 4 = 0) = false from decide_eq_false c3]; simp)
              clear ht b1 c3
              go_wp2
              go_ret
              exact ⟨rb HN.out, HE.out.1⟩
      · obtain rfl : k = n := by omega
        have h5 : ¬ (k : Int) < k := by omega
        rw [ris_end l S k (by rw [H.out.1]; exact Nat.le_refl _)] at ht
        have HN := Lib.hid (show true = partB most S l by rw [HP.out, ht])
        have HE := Lib.hid hE
        clear hE ht hk hp
        go_wp2
        go_ret
        exact ⟨rb HN.out, HE.out⟩
  · have hb1 : ((S : Int) % 4 != 0) = true := by simpa using h2
    have hb2 : ((S : Int).tmod 4 != 0) = true := by rw [Int.tmod_eq_emod_of_nonneg h0']; exact hb1
    have HN := Lib.hid (show false = partB most S l by unfold partB; rw [show decide ((S : Int) % 4 = 0) = false from decide_eq_false h2]; simp)
    clear h2
    go_enter Tryz.func64, Tryz.ntmps64
    go_wp2
    go_ret
    exact ⟨rb HN.out, Ext.refl _⟩
set_option maxHeartbeats 4000000 in
set_option maxRecDepth 100000 in
theorem dright_is (A B : Option Addr) (n m c c' : Nat) (s t : Int) (l r : List Int) (hn : n ≤ 1000000) (hm : m ≤ 1000000) (w : World) (h : Il w A n l) (h' : Il w B m r) :
    Calls Tryz.prog 49 #[.agg #[.int .i64 s, .slice A n c, .int .i64 t, .slice B m c']] w fun e w' => e = .returned (.bool (rightB ⟨s, l, t, r⟩)) ∧ Ext w w' := by
  have E1 := ext1 w (.cells #[.int .i64 s, .slice A n c, .int .i64 t, .slice B m c'] 25)
  have R1 := Lib.hid (fun W (hW : Ext (w.alloc (.cells #[.int .i64 s, .slice A n c, .int .i64 t, .slice B m c'] 25)) W) => isPart_is A n c l 1024 s hn (by omega) W (h.ext (Ext.trans E1 hW)))
  have R2 := Lib.hid (fun W (hW : Ext (w.alloc (.cells #[.int .i64 s, .slice A n c, .int .i64 t, .slice B m c'] 25)) W) => isPart_is B m c' r 256 t hm (by omega) W (h'.ext (Ext.trans E1 hW)))
  have HE := Lib.hid E1
  have HR := Lib.hid (right_parts ⟨s, l, t, r⟩)
  clear h h' E1
  cases q1 : partB 1024 s l
  · rw [q1] at R1
    have HN := Lib.hid (show false = rightB ⟨s, l, t, r⟩ by rw [HR.out]; simp [q1])
    clear q1
    go_enter Tryz.func49, Tryz.ntmps49
    go_wp2_with (first | (go_at_call 64; with_reducible refine (R1.out _ (Ext.refl _)).mono ?_; rintro e w1 ⟨rfl, k1⟩; have p2 := (at_new k1).cell 2; have p3 := (at_new k1).cell 3; simp at p2 p3))
    go_ret
    exact ⟨rb HN.out, Ext.trans HE.out k1⟩
  · rw [q1] at R1
    cases q2 : partB 256 t r
    · rw [q2] at R2
      have HN := Lib.hid (show false = rightB ⟨s, l, t, r⟩ by rw [HR.out]; simp [q2])
      clear q1 q2
      go_enter Tryz.func49, Tryz.ntmps49
      go_wp2_with (first | (go_at_call 64; with_reducible refine (R1.out _ (Ext.refl _)).mono ?_; rintro e w1 ⟨rfl, k1⟩; have p2 := (at_new k1).cell 2; have p3 := (at_new k1).cell 3; simp at p2 p3) | (go_at_call 64; with_reducible refine (R2.out _ k1).mono ?_; rintro e w2 ⟨rfl, k2⟩))
      go_ret
      exact ⟨rb HN.out, Ext.trans HE.out (Ext.trans k1 k2)⟩
    · rw [q2] at R2
      have HN := Lib.hid (show true = rightB ⟨s, l, t, r⟩ by rw [HR.out]; simp [q1, q2])
      clear q1 q2
      go_enter Tryz.func49, Tryz.ntmps49
      go_wp2_with (first | (go_at_call 64; with_reducible refine (R1.out _ (Ext.refl _)).mono ?_; rintro e w1 ⟨rfl, k1⟩; have p2 := (at_new k1).cell 2; have p3 := (at_new k1).cell 3; simp at p2 p3) | (go_at_call 64; with_reducible refine (R2.out _ k1).mono ?_; rintro e w2 ⟨rfl, k2⟩))
      go_ret
      exact ⟨rb HN.out, Ext.trans HE.out (Ext.trans k1 k2)⟩
end
end Go.Proofs.YtopgbggighaknaaGreatDoor
/- desc: what the package variables hold; what is wrong, and its number (made by gen_desc.py out of layer 4's). -/
namespace Go.Proofs.YtopgbggighaknaaGreatDoor
open Go.RowKit Go
structure G (w : World) : Prop where
  sz : 8 ≤ w.heap.size
  d0 : ∃ te pe, w.cell? ⟨5, 0, none⟩ = some (.iface te pe)
  d2 : ∃ te pe, w.cell? ⟨7, 0, none⟩ = some (.iface te pe)
  ty : w.cell? ⟨4, 0, none⟩ = some (.iface 117 (.agg #[.pointer (some ⟨12, 48, none⟩)]))
theorem G.ext {w w' : World} (h : G w) (k : Ext w w') : G w' := by
  have hs := h.sz
  have e : ∀ b o, b < 8 → w'.cell? ⟨b, o, none⟩ = w.cell? ⟨b, o, none⟩ := fun b o hb => k.cell (p := ⟨b, o, none⟩) (by show b < w.heap.size; omega)
  have sz := k.size
  refine ⟨by omega, ?_, ?_, ?_⟩
  · obtain ⟨t, p, h⟩ := h.d0; exact ⟨t, p, by rw [e _ _ (by decide)]; exact h⟩
  · obtain ⟨t, p, h⟩ := h.d2; exact ⟨t, p, by rw [e _ _ (by decide)]; exact h⟩
  · rw [e _ _ (by decide)]; exact h.ty
/-- What is wrong, with its number. -/
def errW (k : Int) (te : TypeId) (pe : Value) : Value := .iface 103 (.agg #[.int .i64 k, .iface te pe])
/-- Nothing, or what is wrong. -/
def unlessV (b : Bool) (v : Value) : Value := if b then .nilIface else v
/-- An error's value, and its number. -/
def Code (v : Value) (k : Int) : Prop := (v = .nilIface ∧ k = 0) ∨ (k ≠ 0 ∧ ∃ te pe, v = errW k te pe)
def codeI (b : Bool) (k : Int) : Int := if b then 0 else k
theorem code_unless (b : Bool) (k : Int) (hk : k ≠ 0) (te : TypeId) (pe : Value) : Code (unlessV b (errW k te pe)) (codeI b k) := by
  cases b
  · exact .inr ⟨hk, te, pe, rfl⟩
  · exact .inl ⟨rfl, rfl⟩
theorem ri {a b : Int} (h : a = b) : Ending.returned (.int .i64 a) = .returned (.int .i64 b) := by rw [h]
def firstI : List Int → Int
  | [] => 0
  | x :: r => if x = 0 then firstI r else x
section
theorem unless_is (b : Bool) (k : Int) (te : TypeId) (pe : Value) (w : World) :
    Calls Tryz.prog 65 #[.bool b, .agg #[.int .i64 k, .iface te pe]] w fun e w' => e = .returned (unlessV b (errW k te pe)) ∧ Ext w w' := by
  cases b
  · go_enter Tryz.func65, Tryz.ntmps65
    go_wp2
    go_ret
    exact ⟨rfl, ext1 _ _⟩
  · go_enter Tryz.func65, Tryz.ntmps65
    go_wp2
    go_ret
    exact ⟨rfl, ext1 _ _⟩
set_option maxHeartbeats 4000000 in
theorem noDesc_is (A B : Option Addr) (n m c c' : Nat) (s t : Int) (l r : List Int) (hn : n ≤ 1000000) (hm : m ≤ 1000000) (w : World) (hG : G w) (h : Il w A n l) (h' : Il w B m r) :
    Calls Tryz.prog 53 #[.agg #[.int .i64 s, .slice A n c, .int .i64 t, .slice B m c']] w fun e w' => (∃ v, e = .returned v ∧ Code v (codeI (rightB ⟨s, l, t, r⟩) 40)) ∧ Ext w w' := by
  obtain ⟨te, pe, hc⟩ := hG.d0
  have hsz := hG.sz
  have hc1 : (w.alloc (.cells #[.int .i64 s, .slice A n c, .int .i64 t, .slice B m c'] 25)).cell? ⟨5, 0, none⟩ = some (.iface te pe) := ((ext1 w _).cell (p := ⟨5, 0, none⟩) (by show 5 < w.heap.size; omega)).trans hc
  have E1 := ext1 w (.cells #[.int .i64 s, .slice A n c, .int .i64 t, .slice B m c'] 25)
  have RR := Lib.hid (fun W (hW : Ext (w.alloc (.cells #[.int .i64 s, .slice A n c, .int .i64 t, .slice B m c'] 25)) W) => dright_is A B n m c c' s t l r hn hm W (h.ext (Ext.trans E1 hW)) (h'.ext (Ext.trans E1 hW)))
  have HE := Lib.hid E1
  have HC := Lib.hid (code_unless (rightB ⟨s, l, t, r⟩) 40 (by decide) te pe)
  clear h h' E1 hG hc
  generalize rightB ⟨s, l, t, r⟩ = b at *
  have hx := fun (o : From (w.alloc (.cells #[.int .i64 s, .slice A n c, .int .i64 t, .slice B m c'] 25))) p h => From.cell o p h
  go_enter Tryz.func53, Tryz.ntmps53
  go_wp2
  refine wp_region_on (by kernel_rfl) (by kernel_rfl) ?_
  repeat (go_big_quiet_step ((first | (go_at_call 49; exact on_call RR.out _) | (go_at_call 65; exact on_call (fun W _ => unless_is _ _ _ _ W) _))))
  refine wpQuiet_nil ?_
  intro W hW
  go_wp2
  go_ret
  exact ⟨⟨_, rfl, HC.out⟩, Ext.trans HE.out hW⟩
set_option maxHeartbeats 4000000 in
theorem told_any (ks : List Int) (b : Nat) (cap : Nat) (w : World) (hG : G w) (hm : ks.length ≤ 100) (hb : b < w.heap.size)
    (hc : ∀ i, i < ks.length → ∃ v, w.cell? ⟨b, i, none⟩ = some v ∧ Code v (ks.getD i 0)) :
    Calls Tryz.prog 52 #[.slice (some ⟨b, 0, none⟩) ks.length cap] w fun e w' => e = .returned (.int .i64 (firstI ks)) ∧ Ext w w' := by
  have H := Lib.hid (And.intro hG (And.intro hb hc))
  clear hG hc
  go_enter Tryz.func52, Tryz.ntmps52
  go_wp2
  go_loopg [4, 5, 8] ks.length (fun m u v i wr => ∃ k : Nat, k + m = ks.length ∧ i = .int .i64 k ∧ firstI ks = firstI (ks.drop k) ∧ Ext w wr)
  case atStart => exact ⟨0, by omega, rfl, rfl, Ext.refl _⟩
  case round =>
    obtain ⟨k, hk, rfl, hf, hE⟩ := hrel
    by_cases hlt : k < ks.length
    · have hd : ks.drop k = ks.getD k 0 :: ks.drop (k + 1) := by
        rw [List.drop_eq_getElem_cons hlt]; simp [List.getD, hlt]
      obtain ⟨v0, c0, hv⟩ := H.out.2.2 k hlt
      have c : wr.cell? ⟨b, k, none⟩ = some v0 := (extAt hE b k H.out.2.1).trans c0
      have gE := (H.out.1.ext hE)
      rw [hd] at hf
      generalize ks.getD k 0 = q at *
      have h5 : (k : Int) < ks.length := by omega
      clear hd c0
      rcases hv with ⟨rfl, rfl⟩ | ⟨hq, te, pe, rfl⟩
      · have HF := Lib.hid (show firstI ks = firstI (ks.drop (k + 1)) from hf)
        have HE := Lib.hid hE
        clear hf hE gE
        go_wp2_with (go_at_call 47; ((with_reducible refine (as_nil _ _).mono ?_); rintro e w1 ⟨rfl, rfl⟩))
        go_roundg (gk - 1)
        case measure => omega
        case rel => exact ⟨k + 1, by omega, by go_num, HF.out, Ext.trans HE.out (ext1 _ _)⟩
      · have HF := Lib.hid (show firstI ks = q by rw [hf]; simp [firstI, hq])
        have gt := (gE.ext (ext1 wr (.cells #[.int .i64 0, .nilIface] 103))).ty
        have C := Lib.hid (as_hit2 q te pe wr.heap.size _ _ _ _ gt (Blk.new wr #[.int .i64 0, .nilIface] 103))
        have HE := Lib.hid hE
        clear hf hE gE gt hq
        unfold errW at *
        go_wp2_with (go_at_call 47; ((with_reducible refine C.out.mono ?_); rintro e w1 ⟨rfl, h1, h2⟩; have p0 := h1.cell 0; have H2 := Lib.hid h2; clear h2))
        go_ret
        exact ⟨ri HF.out.symm, Ext.trans HE.out (Below.trans (ext1 _ _) H2.out)⟩
    · have hd : ks.drop k = [] := List.drop_eq_nil_of_le (by omega)
      have hz : firstI ks = 0 := by rw [hf, hd]; rfl
      have hZ := Lib.hid hz
      have HE := Lib.hid hE
      have h5 : ¬ (k : Int) < ks.length := by omega
      clear hz hd hf hE
      go_wp2
      go_ret
      exact ⟨ri hZ.out.symm, HE.out⟩
end
end Go.Proofs.YtopgbggighaknaaGreatDoor
/- desc: errors and their numbers (cut by gen_desc.py). -/
namespace Go.Proofs.YtopgbggighaknaaGreatDoor
open Go.RowKit Go
theorem code_nil {v : Value} {k : Int} (h : Code v k) (h0 : k = 0) : v = .nilIface := by
  rcases h with ⟨rfl, _⟩ | ⟨h, _⟩
  · rfl
  · exact absurd h0 h
theorem code_err {v : Value} {k : Int} (h : Code v k) (h0 : k ≠ 0) : ∃ te pe, v = .iface 103 (.agg #[.int .i64 k, .iface te pe]) := by
  rcases h with ⟨_, h⟩ | ⟨_, te, pe, rfl⟩
  · exact absurd h h0
  · exact ⟨te, pe, rfl⟩
end Go.Proofs.YtopgbggighaknaaGreatDoor
/- cells of a block of four (cut by gen_desc.py). -/
namespace Go.Proofs.YtopgbggighaknaaGreatDoor
open Go.RowKit Go
theorem cells4 {w : World} {R : Nat} {x0 x1 x2 x3 : Value} {t : TypeId} (hB : Blk w R #[x0, x1, x2, x3] t) :
    (w.cell? ⟨R, 0, none⟩ = some x0 ∧ w.cell? ⟨R, 1, none⟩ = some x1 ∧ w.cell? ⟨R, 2, none⟩ = some x2 ∧ w.cell? ⟨R, 3, none⟩ = some x3) ∧
    (w.frozen? ⟨R, 0, none⟩ = false ∧ w.frozen? ⟨R, 1, none⟩ = false ∧ w.frozen? ⟨R, 2, none⟩ = false ∧ w.frozen? ⟨R, 3, none⟩ = false) :=
  ⟨⟨by rw [hB.cell]; rfl, by rw [hB.cell]; rfl, by rw [hB.cell]; rfl, by rw [hB.cell]; rfl⟩, hB.frozen 0, hB.frozen 1, hB.frozen 2, hB.frozen 3⟩
end Go.Proofs.YtopgbggighaknaaGreatDoor
/- desc: told at one and at two (cut by gen_desc.py). -/
namespace Go.Proofs.YtopgbggighaknaaGreatDoor
open Go.RowKit Go
theorem told1_is (k : Int) (v : Value) (b : Nat) (t : TypeId) (w : World) (hG : G w) (hB : Blk w b #[v] t) (hv : Code v k) :
    Calls Tryz.prog 52 #[.slice (some ⟨b, 0, none⟩) 1 1] w fun e w' => e = .returned (.int .i64 k) ∧ Ext w w' := by
  have h := told_any [k] b 1 w hG (by simp) hB.lt (fun i hi => by
    obtain rfl : i = 0 := by simp at hi; exact hi
    exact ⟨v, by rw [hB.cell]; rfl, hv⟩)
  have e : firstI [k] = k := by simp [firstI]; intro h; exact h.symm
  rwa [e] at h
theorem told_new (k : Int) (v : Value) (o : Obj) (w : World) (hG : G w) (hv : Code v k) :
    Calls Tryz.prog 52 #[.slice (some ⟨w.heap.size + 1, 0, none⟩) 1 1] ((w.alloc o).alloc (.cells #[v] 48)) fun e w' => e = .returned (.int .i64 k) ∧ Ext ((w.alloc o).alloc (.cells #[v] 48)) w' :=
  told1_is k v _ 48 _ (hG.ext (ext2 _ _ _)) (at_new2 (Ext.refl _)) hv
def first2 (j k : Int) : Int := if j = 0 then k else j
theorem told2_is (j k : Int) (u v : Value) (b : Nat) (t : TypeId) (w : World) (hG : G w) (hB : Blk w b #[u, v] t) (hu : Code u j) (hv : Code v k) :
    Calls Tryz.prog 52 #[.slice (some ⟨b, 0, none⟩) 2 2] w fun e w' => e = .returned (.int .i64 (first2 j k)) ∧ Ext w w' := by
  have h := told_any [j, k] b 2 w hG (by simp) hB.lt (fun i hi => by
    have hi' : i = 0 ∨ i = 1 := by simp at hi; omega
    rcases hi' with rfl | rfl
    · exact ⟨u, by rw [hB.cell]; rfl, hu⟩
    · exact ⟨v, by rw [hB.cell]; rfl, hv⟩)
  have e : firstI [j, k] = first2 j k := by
    simp only [firstI, first2]
    split
    · split
      · rename_i h; exact h.symm
      · rfl
    · rfl
  rwa [e] at h
theorem code_0 : Code .nilIface 0 := .inl ⟨rfl, rfl⟩
end Go.Proofs.YtopgbggighaknaaGreatDoor
/- desc: how many places a right descriptor has (cut by gen_desc.py). -/
namespace Go.Proofs.YtopgbggighaknaaGreatDoor
open Go.RowKit Go
theorem ris_len {S : Int} (hS : S % 4 = 0) : ∀ (l : List Int) (a : Int), l.Pairwise (· < ·) → (∀ x ∈ l, a ≤ x ∧ x < S ∧ x % 4 = 0) → a % 4 = 0 → a ≤ S → 4 * (l.length : Int) ≤ S - a
  | [], a, _, _, _, h => by simp; omega
  | y :: r, a, hp, h, ha, hle => by
    obtain ⟨h1, h2⟩ := List.pairwise_cons.1 hp
    have hy := h y (by simp)
    have := ris_len hS r (y + 4) h2 (fun x hx => by have := h x (by simp [hx]); have := h1 x hx; omega) (by omega) (by omega)
    simp only [List.length_cons, Int.natCast_add]
    omega
theorem lens_of {d : DescR} (h : RightP d) : 4 * (d.ptrs.length : Int) ≤ d.size ∧ 4 * (d.eptrs.length : Int) ≤ d.elem := by
  have h1 := ris_len h.s4 d.ptrs 0 h.p (fun x hx => h.pp x hx) (by decide) h.s0
  have h2 := ris_len h.e4 d.eptrs 0 h.q (fun x hx => h.qq x hx) (by decide) h.e0
  omega
end Go.Proofs.YtopgbggighaknaaGreatDoor
/- desc: what its reader reads, pure: numbers, signs, parts; it reads just descriptors' texts. -/
namespace Go.Proofs.YtopgbggighaknaaGreatDoor
open Go
def scan : Nat → Nat → List UInt8 → Option (Nat × List UInt8)
  | N, k, [] => if k = 0 then none else some (N, [])
  | N, k, c :: r => if isDig c then (if (0 < k ∧ N = 0) ∨ 1024 < N then none else scan (10 * N + (c.toNat - 48)) (k + 1) r) else (if k = 0 then none else some (N, c :: r))
abbrev St := List UInt8 × Bool
def numberQ (st : St) : Nat × St := match scan 0 0 st.1 with | some (n, r) => (n, (r, st.2)) | none => (0, ([], true))
def hasQ (g s : List UInt8) : Bool := g.isPrefixOf s
def mustQ (g : List UInt8) (st : St) : St := if hasQ g st.1 then (st.1.drop g.length, st.2) else ([], true)
def loopQ : Nat → List Nat → St → List Nat × St
  | 0, l, st => (l, st)
  | f + 1, l, st => if hasQ [32] st.1 then loopQ f (l ++ [(numberQ (st.1.drop 1, st.2)).1]) (numberQ (st.1.drop 1, st.2)).2 else (l, st)
def partQ (st : St) : Nat × List Nat × St := ((numberQ st).1, loopQ (numberQ st).1 [] (mustQ [58] (numberQ st).2))
def readQ1 (s : List UInt8) : Nat × List Nat × St := partQ (s, false)
def readQ2 (s : List UInt8) : Nat × List Nat × St := partQ (mustQ [59, 32] (readQ1 s).2.2)
def readD (s : List UInt8) : DescR := ⟨(readQ1 s).1, (readQ1 s).2.1.map Int.ofNat, (readQ2 s).1, (readQ2 s).2.1.map Int.ofNat⟩
def readF (s : List UInt8) : Bool := (readQ2 s).2.2.2 || !(readQ2 s).2.2.1.isEmpty

theorem dig_byte {c : UInt8} (h : isDig c = true) : ∃ k, k < 10 ∧ c = dg k ∧ c.toNat - 48 = k ∧ c.toNat = 48 + k := by
  simp only [isDig, Bool.and_eq_true, decide_eq_true_eq] at h
  refine ⟨c.toNat - 48, by omega, ?_, rfl, by omega⟩
  unfold dg
  rw [show 48 + (c.toNat - 48) = c.toNat by omega]
  exact (UInt8.ofNat_toNat).symm
theorem numS_lt {n : Nat} (h : n < 10) : numS n = [dg n] := by rw [numS, dif_pos h]
theorem numS_ge {n : Nat} (h : ¬ n < 10) : numS n = numS (n / 10) ++ [dg (n % 10)] := by rw [numS, dif_neg h]
theorem scan_sound : ∀ (s : List UInt8) (N k : Nat) (p : List UInt8) (n : Nat) (r : List UInt8), (k = 0 → p = [] ∧ N = 0) → (0 < k → p = numS N) → scan N k s = some (n, r) → p ++ s = numS n ++ r
  | [], N, k, p, n, r, h0, h1, h => by
    simp only [scan] at h
    split at h
    · cases h
    · rename_i hk
      cases h
      rw [h1 (by omega)]
  | c :: s, N, k, p, n, r, h0, h1, h => by
    simp only [scan] at h
    split at h
    · rename_i hd
      split at h
      · cases h
      · rename_i hc
        obtain ⟨q, hq, rfl, hq2, _⟩ := dig_byte hd
        rw [hq2] at h
        have := scan_sound s (10 * N + q) (k + 1) (p ++ [dg q]) n r (fun h => by omega) (fun _ => ?_) h
        · simpa using this
        · rcases Nat.eq_zero_or_pos k with hk | hk
          · obtain ⟨rfl, rfl⟩ := h0 hk
            rw [show 10 * 0 + q = q by omega, numS_lt hq]; rfl
          · have hN : N ≠ 0 := fun e => hc (.inl ⟨hk, e⟩)
            rw [numS_ge (by omega : ¬ 10 * N + q < 10), show (10 * N + q) / 10 = N by omega, show (10 * N + q) % 10 = q by omega, h1 hk]
    · split at h
      · cases h
      · rename_i hk
        cases h
        rw [h1 (by omega)]
theorem scan_num (t : List UInt8) : ∀ n, n ≤ 10249 → ∃ k, 0 < k ∧ scan 0 0 (numS n ++ t) = scan n k t := by
  intro n
  induction n using Nat.strongRecOn generalizing t with
  | _ n ih =>
    intro hn
    by_cases h : n < 10
    · obtain ⟨d1, d2⟩ := dig_of n h
      refine ⟨1, by decide, ?_⟩
      rw [numS_lt h]
      simp [scan, d1, d2]
    · obtain ⟨d1, d2⟩ := dig_of (n % 10) (by omega)
      obtain ⟨k, hk, e⟩ := ih (n / 10) (by omega) ([dg (n % 10)] ++ t) (by omega)
      refine ⟨k + 1, by omega, ?_⟩
      rw [numS_ge h, List.append_assoc, e]
      simp only [List.singleton_append, scan, d1, d2, if_true]
      rw [if_neg (by omega), show 10 * (n / 10) + n % 10 = n by omega]
/-- No digit is next. -/
def NoDig (r : List UInt8) : Prop := ∀ c t, r = c :: t → isDig c = false
theorem num_c {n : Nat} {r : List UInt8} (hn : n ≤ 1024) (hr : NoDig r) (f : Bool) : numberQ (numS n ++ r, f) = (n, (r, f)) := by
  obtain ⟨k, hk, e⟩ := scan_num r n (by omega)
  have : scan 0 0 (numS n ++ r) = some (n, r) := by
    rw [e]
    cases r with
    | nil => simp only [scan]; rw [if_neg (by omega)]
    | cons c t =>
      simp only [scan, hr c t rfl]
      rw [if_neg (by simp), if_neg (by omega)]
  unfold numberQ
  simp only [this]
theorem has_app (g r : List UInt8) : hasQ g (g ++ r) = true := by unfold hasQ; simp
theorem has_of {g s : List UInt8} (h : hasQ g s = true) : s = g ++ s.drop g.length := by
  unfold hasQ at h
  obtain ⟨t, rfl⟩ := List.isPrefixOf_iff_prefix.1 h
  simp
theorem must_c (g r : List UInt8) (f : Bool) : mustQ g (g ++ r, f) = (r, f) := by
  unfold mustQ
  simp only [has_app, if_true]
  simp
theorem has32_no {r : List UInt8} (h : ∀ t, r ≠ 32 :: t) : hasQ [32] r = false := by
  cases hh : hasQ [32] r
  · rfl
  · have := has_of hh
    exact absurd this (h _)
theorem loop_c {r : List UInt8} (hd : NoDig r) (hr : ∀ t, r ≠ 32 :: t) : ∀ (e : List Nat) (f : Nat) (l : List Nat), e.length ≤ f → (∀ x ∈ e, x ≤ 1024) → loopQ f l ((e.flatMap fun x => 32 :: numS x) ++ r, false) = (l ++ e, (r, false))
  | [], 0, l, _, _ => by simp [loopQ]
  | [], f + 1, l, _, _ => by simp [loopQ, has32_no hr]
  | x :: e, 0, l, h, _ => by simp at h
  | x :: e, f + 1, l, h, hx => by
    have hn : NoDig ((e.flatMap fun x => 32 :: numS x) ++ r) := by
      cases e with
      | nil => simpa using hd
      | cons y e => intro c t hc; simp at hc; rw [← hc.1]; decide
    have e1 : hasQ [32] (((x :: e).flatMap fun x => 32 :: numS x) ++ r) = true := by
      rw [List.flatMap_cons, List.cons_append, List.cons_append]; exact has_app [32] _
    have e2 : (((x :: e).flatMap fun x => 32 :: numS x) ++ r).drop 1 = numS x ++ ((e.flatMap fun x => 32 :: numS x) ++ r) := by simp
    simp only [loopQ, e1, if_true, e2]
    rw [num_c (hx x (by simp)) hn]
    rw [loop_c hd hr e f (l ++ [x]) (by simpa using h) (fun y hy => hx y (by simp [hy]))]
    simp
theorem part_c {r : List UInt8} (hd : NoDig r) (hr : ∀ t, r ≠ 32 :: t) (size : Nat) (l : List Nat) (hs : size ≤ 1024) (hl : l.length ≤ size) (hx : ∀ x ∈ l, x ≤ 1024) : partQ (partS size l ++ r, false) = (size, l, (r, false)) := by
  unfold partQ partS
  have e : numberQ ((numS size ++ 58 :: l.flatMap fun x => 32 :: numS x) ++ r, false) = (size, ([58] ++ ((l.flatMap fun x => 32 :: numS x) ++ r), false)) := by
    rw [List.append_assoc, num_c hs (fun c t h => by simp at h; rw [← h.1]; decide)]
    rfl
  rw [e]
  simp only
  rw [must_c, loop_c hd hr l size [] hl hx]
  rfl
theorem num_s {st : St} (h : (numberQ st).2.2 = false) : st.2 = false ∧ st.1 = numS (numberQ st).1 ++ (numberQ st).2.1 := by
  unfold numberQ at h ⊢
  split at h
  · rename_i n r hs
    have := scan_sound st.1 0 0 [] n r (fun _ => ⟨rfl, rfl⟩) (fun h => absurd h (by decide)) hs
    simp only [List.nil_append] at this
    exact ⟨h, this⟩
  · cases h
theorem must_s {g : List UInt8} {st : St} (h : (mustQ g st).2 = false) : st.2 = false ∧ st.1 = g ++ (mustQ g st).1 := by
  unfold mustQ at h ⊢
  split at h
  · rename_i hh
    rw [if_pos hh]
    exact ⟨h, has_of hh⟩
  · cases h
theorem loop_s : ∀ (f : Nat) (l : List Nat) (st : St), (loopQ f l st).2.2 = false → st.2 = false ∧ ∃ e, (loopQ f l st).1 = l ++ e ∧ st.1 = (e.flatMap fun x => 32 :: numS x) ++ (loopQ f l st).2.1
  | 0, l, st, h => ⟨h, [], by simp [loopQ]⟩
  | f + 1, l, st, h => by
    by_cases hh : hasQ [32] st.1 = true
    · simp only [loopQ, hh, if_true] at h ⊢
      obtain ⟨h1, e, h2, h3⟩ := loop_s f _ _ h
      obtain ⟨h4, h5⟩ := num_s h1
      have h6 := has_of hh
      refine ⟨h4, (numberQ (st.1.drop 1, st.2)).1 :: e, by rw [h2]; simp, ?_⟩
      have h7 : [32] ++ st.1.drop 1 = [32] ++ (numS (numberQ (st.1.drop 1, st.2)).1 ++ ((e.flatMap fun x => 32 :: numS x) ++ (loopQ f (l ++ [(numberQ (st.1.drop 1, st.2)).1]) (numberQ (st.1.drop 1, st.2)).2).2.1)) := congrArg ([32] ++ ·) (h5.trans (congrArg (numS (numberQ (st.1.drop 1, st.2)).1 ++ ·) h3))
      exact h6.trans (h7.trans (by rw [List.flatMap_cons]; simp))
    · simp only [loopQ, hh] at h ⊢
      exact ⟨h, [], by simp⟩
theorem part_s {st : St} (h : (partQ st).2.2.2 = false) : st.2 = false ∧ st.1 = partS (partQ st).1 (partQ st).2.1 ++ (partQ st).2.2.1 := by
  unfold partQ at h ⊢
  simp only at h ⊢
  obtain ⟨h1, e, h2, h3⟩ := loop_s _ _ _ h
  obtain ⟨h4, h5⟩ := must_s h1
  obtain ⟨h6, h7⟩ := num_s h4
  refine ⟨h6, ?_⟩
  rw [h2, List.nil_append]
  unfold partS
  rw [h7, h5, h3]
  simp
theorem text_of {s : List UInt8} (h : readF s = false) : textS (readD s) = s := by
  unfold readF at h
  rw [Bool.or_eq_false_iff] at h
  obtain ⟨h1, h2⟩ := part_s h.1
  obtain ⟨h3, h4⟩ := must_s h1
  obtain ⟨h5, h6⟩ := part_s h3
  have he : (readQ2 s).2.2.1 = [] := by simpa using h.2
  have e1 : ∀ l : List Nat, (l.map Int.ofNat).map Int.toNat = l := fun l => by
    rw [List.map_map]
    conv => rhs; rw [← List.map_id l]
    exact List.map_congr_left fun x _ => rfl
  have e2 : s = partS (readQ1 s).1 (readQ1 s).2.1 ++ (readQ1 s).2.2.1 := h6
  have e3 : (readQ1 s).2.2.1 = [59, 32] ++ (mustQ [59, 32] (readQ1 s).2.2).1 := h4
  have e4 : (mustQ [59, 32] (readQ1 s).2.2).1 = partS (readQ2 s).1 (readQ2 s).2.1 ++ (readQ2 s).2.2.1 := h2
  conv => rhs; rw [e2, e3, e4, he]
  unfold textS readD
  simp only [e1, Int.toNat_natCast]
  simp
theorem read_of {d : DescR} (h : rightB d = true) (hl : d.ptrs.length ≤ d.size.toNat) (hl2 : d.eptrs.length ≤ d.elem.toNat) : readF (textS d) = false ∧ readD (textS d) = d := by
  have hr := h
  simp only [rightB, Bool.and_eq_true, decide_eq_true_eq] at hr
  obtain ⟨⟨⟨⟨⟨⟨⟨h1, h2⟩, h3⟩, h4⟩, h5⟩, h6⟩, h7⟩, h8⟩ := hr
  have g1 := risF_le h7
  have g2 := risF_le h8
  have q1 : readQ1 (textS d) = (d.size.toNat, d.ptrs.map Int.toNat, (59 :: 32 :: partS d.elem.toNat (d.eptrs.map Int.toNat), false)) := by
    unfold readQ1 textS
    exact part_c (fun c t hc => by simp at hc; rw [← hc.1]; decide) (fun t hc => by injection hc with h0; exact absurd h0 (by decide)) _ _ (by omega) (by simpa using hl) (fun x hx => by obtain ⟨y, hy, rfl⟩ := List.mem_map.1 hx; have := g1 y hy; omega)
  have q2 : readQ2 (textS d) = (d.elem.toNat, d.eptrs.map Int.toNat, ([], false)) := by
    unfold readQ2
    rw [q1]
    simp only
    rw [show (59 :: 32 :: partS d.elem.toNat (d.eptrs.map Int.toNat)) = [59, 32] ++ partS d.elem.toNat (d.eptrs.map Int.toNat) from rfl, must_c]
    have := part_c (r := []) (fun c t hc => by cases hc) (fun t hc => by cases hc) d.elem.toNat (d.eptrs.map Int.toNat) (by omega) (by simpa using hl2) (fun x hx => by obtain ⟨y, hy, rfl⟩ := List.mem_map.1 hx; have := g2 y hy; omega)
    rwa [List.append_nil] at this
  constructor
  · unfold readF; rw [q2]; rfl
  · unfold readD
    rw [q1, q2]
    simp only
    rw [map_back (fun x hx => (g1 x hx).1), map_back (fun x hx => (g2 x hx).1), Int.toNat_of_nonneg h1, Int.toNat_of_nonneg h4]
end Go.Proofs.YtopgbggighaknaaGreatDoor
/- desc: its reader's small calls: fail, has, must. desc: its reader's small calls, in memory: fail, has, must. -/
namespace Go.Proofs.YtopgbggighaknaaGreatDoor
open Go.RowKit Go
abbrev tv (l : List UInt8) : Value := .string ⟨l.toArray⟩
/-- In block b lies a reader. -/
def Rdr (w : World) (b : Nat) (st : St) : Prop := ∃ ev, Blk w b #[tv st.1, ev] 137 ∧ Code ev (codeI (!st.2) 40)
theorem bx_size (s : List UInt8) : (ByteArray.mk s.toArray).size = s.length := by show s.toArray.size = _; simp
theorem bx_list (s : List UInt8) : (ByteArray.mk s.toArray).toList = s := by rw [ByteArray.toList_eq]
theorem bx_take (s : List UInt8) (k : Nat) : (ByteArray.mk s.toArray).extract 0 k = ⟨(s.take k).toArray⟩ := by apply ByteArray.ext; rw [ByteArray.data_extract]; simp
theorem bx_drop (s : List UInt8) (k : Nat) : (ByteArray.mk s.toArray).extract k (ByteArray.mk s.toArray).size = ⟨(s.drop k).toArray⟩ := by
  apply ByteArray.ext; rw [ByteArray.data_extract, bx_size]
  simp
  exact List.take_of_length_le (by simp)
theorem bx_drop' (s : List UInt8) (k : Nat) : (ByteArray.mk s.toArray).extract k s.length = ⟨(s.drop k).toArray⟩ := by rw [← bx_drop, bx_size]
theorem hasQ_eq (g s : List UInt8) : hasQ g s = (decide (g.length ≤ s.length) && (s.take g.length == g)) := by
  rw [Bool.eq_iff_iff]
  unfold hasQ
  rw [List.isPrefixOf_iff_prefix, Bool.and_eq_true, decide_eq_true_eq, beq_iff_eq, List.prefix_iff_eq_take]
  constructor
  · intro h; exact ⟨by have := congrArg List.length h; simp at this; omega, h.symm⟩
  · rintro ⟨_, h⟩; exact h.symm
section
set_option maxHeartbeats 1000000 in
theorem hasPrefix_is (g s : List UInt8) (hg : g.length ≤ 100000) (hs : s.length ≤ 100000) (w : World) :
    Calls Tryz.prog 104 #[tv s, tv g] w fun e w' => e = .returned (.bool (hasQ g s)) ∧ Ext w w' := by
  have HQ := Lib.hid (hasQ_eq g s)
  have x0 := bx_size s
  have x1 := bx_size g
  have HT := Lib.hid (show ((ByteArray.mk s.toArray).extract 0 (ByteArray.mk g.toArray).size).toList = s.take g.length by rw [bx_size, bx_take, bx_list])
  have HG := Lib.hid (bx_list g)
  unfold tv
  generalize ByteArray.mk s.toArray = X at *
  generalize ByteArray.mk g.toArray = Y at *
  have hX : X.size ≤ 100000 := by omega
  have hY : Y.size ≤ 100000 := by omega
  have X01 := Lib.hid (And.intro x0 x1)
  clear x0 x1
  by_cases h1 : (Y.size : Int) ≤ X.size
  · have h2 : Y.size ≤ X.size := by omega
    have HN := Lib.hid (show ((X.extract 0 Y.size).toList == Y.toList) = hasQ g s by rw [HQ.out, HT.out, HG.out, show decide (g.length ≤ s.length) = true from decide_eq_true (by have := X01.out; omega)]; rfl)
    go_enter Tryz.func104, Tryz.ntmps104
    go_wp2
    go_ret
    exact ⟨rb HN.out, Ext.refl _⟩
  · have HN := Lib.hid (show false = hasQ g s by rw [HQ.out, show decide (g.length ≤ s.length) = false from decide_eq_false (by have := X01.out; omega)]; rfl)
    go_enter Tryz.func104, Tryz.ntmps104
    go_wp2
    go_ret
    exact ⟨rb HN.out, Ext.refl _⟩
def cutQ (g s : List UInt8) : List UInt8 := if hasQ g s then s.drop g.length else s
set_option maxHeartbeats 1000000 in
theorem cutPrefix_is (g s : List UInt8) (hg : g.length ≤ 100000) (hs : s.length ≤ 100000) (w : World) :
    Calls Tryz.prog 100 #[tv s, tv g] w fun e w' => e = .returned (.tuple #[tv (cutQ g s), .bool (hasQ g s)]) ∧ Ext w w' := by
  have C : ∀ w, Calls Tryz.prog 103 #[tv s, tv g] w fun e w' => e = .returned (.tuple #[tv (cutQ g s), .bool (hasQ g s)]) ∧ Ext w w' := fun w => by
    have R := Lib.hid (hasPrefix_is g s hg hs w)
    have x0 := bx_size s
    have x1 := bx_size g
    cases hq : hasQ g s
    · rw [hq] at R
      have HC := Lib.hid (show tv s = tv (cutQ g s) by rw [cutQ, hq]; rfl)
      clear hq
      unfold tv at *
      generalize ByteArray.mk s.toArray = X at *
      generalize ByteArray.mk g.toArray = Y at *
      clear x0 x1
      go_enter Tryz.func103, Tryz.ntmps103
      go_wp2_with (go_at_call 104; (with_reducible refine R.out.mono ?_); rintro e w1 ⟨rfl, k1⟩)
      go_ret2
      exact ⟨by rw [← HC.out]; rfl, k1⟩
    · rw [hq] at R
      have hle : g.length ≤ s.length := by
        rw [hasQ_eq, Bool.and_eq_true] at hq
        exact of_decide_eq_true hq.1
      have HC := Lib.hid (show Value.string ((ByteArray.mk s.toArray).extract (ByteArray.mk g.toArray).size (ByteArray.mk s.toArray).size) = tv (cutQ g s) by rw [cutQ, hq, bx_size, bx_drop]; rfl)
      clear hq
      unfold tv at *
      generalize ByteArray.mk s.toArray = X at *
      generalize ByteArray.mk g.toArray = Y at *
      have h1 : (Y.size : Int) ≤ X.size := by omega
      have hX : X.size ≤ 100000 := by omega
      clear x0 x1
      go_enter Tryz.func103, Tryz.ntmps103
      go_wp2_with (go_at_call 104; (with_reducible refine R.out.mono ?_); rintro e w1 ⟨rfl, k1⟩)
      go_ret2
      exact ⟨by rw [← HC.out]; rfl, k1⟩
  have C' := Lib.hid (C w)
  clear C
  generalize hasQ g s = b at *
  go_enter Tryz.func100, Tryz.ntmps100
  go_wp2_with (go_at_call 103; (refine C'.out.mono ?_); rintro e w1 ⟨rfl, k1⟩)
  go_ret2
  exact ⟨rfl, k1⟩
end
theorem Rdr.ext {w w' : World} {b : Nat} {st : St} (h : Rdr w b st) (k : Ext w w') : Rdr w' b st := by
  obtain ⟨ev, h1, h2⟩ := h
  exact ⟨ev, h1.ext k, h2⟩
theorem Rdr.lt {w : World} {b : Nat} {st : St} (h : Rdr w b st) : b < w.heap.size := by obtain ⟨ev, h1, _⟩ := h; exact h1.lt
section
set_option maxHeartbeats 1000000 in
theorem fail_is (b : Nat) (st : St) (w : World) (hG : G w) (hb : 8 ≤ b) (h : Rdr w b st) :
    Calls Tryz.prog 87 #[.pointer (some ⟨b, 0, none⟩)] w fun e w' => (∃ v, e = .returned v) ∧ Rdr w' b ([], true) ∧ Chg b w w' := by
  obtain ⟨ev, hB, _⟩ := h
  obtain ⟨te, pe, hc⟩ := hG.d2
  have p0 := hB.cell 0
  have p1 := hB.cell 1
  have q0 := hB.frozen 0
  have q1 := hB.frozen 1
  simp only [List.getElem?_toArray, List.getElem?_cons_zero, List.getElem?_cons_succ] at p0 p1
  have hne : 7 ≠ b := by omega
  have H := Lib.hid hB
  clear hB hG
  unfold tv at *
  generalize ByteArray.mk st.1.toArray = X at *
  go_enter Tryz.func87, Tryz.ntmps87
  go_wp2
  go_end0
  refine ⟨⟨_, rfl⟩, ⟨_, ?_, code_unless false 40 (by decide) te pe⟩, ((Chg.refl b w).setCell 0 _).setCell 1 _⟩
  have h3 := (H.out.set 0 (.string ⟨#[]⟩)).set 1 (.iface 103 (.agg #[.int .i64 40, .iface te pe]))
  simp only [List.setIfInBounds_toArray, List.set_cons_zero, List.set_cons_succ] at h3
  exact h3
set_option maxHeartbeats 1000000 in
theorem has_is (b : Nat) (st : St) (g : List UInt8) (hl : st.1.length ≤ 100000) (hg : g.length ≤ 100) (w : World) (h : Rdr w b st) :
    Calls Tryz.prog 94 #[.pointer (some ⟨b, 0, none⟩), tv g] w fun e w' => e = .returned (.bool (hasQ g st.1)) ∧ Rdr w' b (cutQ g st.1, st.2) ∧ Chg b w w' := by
  obtain ⟨ev, hB, hv⟩ := h
  have p0 := hB.cell 0
  have p1 := hB.cell 1
  have q0 := hB.frozen 0
  have q1 := hB.frozen 1
  simp only [List.getElem?_toArray, List.getElem?_cons_zero, List.getElem?_cons_succ] at p0 p1
  have C := Lib.hid (fun w => cutPrefix_is g st.1 (by omega) hl w)
  have H := Lib.hid (And.intro hB hv)
  have HS := Lib.hid (rfl : tv (cutQ g st.1) = tv (cutQ g st.1))
  clear hB hv
  obtain ⟨Z, hZ⟩ : ∃ Z, hasQ g st.1 = Z := ⟨_, rfl⟩
  rw [hZ] at C
  rw [hZ]
  clear hZ
  unfold tv at *
  generalize ByteArray.mk st.1.toArray = X at *
  generalize ByteArray.mk g.toArray = Y at *
  generalize hU : ByteArray.mk (cutQ g st.1).toArray = U at *
  go_enter Tryz.func94, Tryz.ntmps94
  go_wp2_with (go_at_call 100; (refine (C.out _).mono ?_); rintro e w1 ⟨rfl, k1⟩; have b1 := H.out.1.ext k1; have p0' := b1.cell 0; have q0' := b1.frozen 0; simp only [List.getElem?_toArray, List.getElem?_cons_zero] at p0'; have K1 := Lib.hid (And.intro k1 b1); clear k1 b1)
  go_ret
  refine ⟨rfl, ⟨ev, ?_, H.out.2⟩, ((Chg.of_ext K1.out.1).setCell 0 _)⟩
  have h3 := K1.out.2.set 0 (.string U)
  simp only [List.setIfInBounds_toArray, List.set_cons_zero] at h3
  unfold tv
  rw [hU]
  exact h3
set_option maxHeartbeats 1000000 in
theorem must_is (b : Nat) (st : St) (g : List UInt8) (hl : st.1.length ≤ 100000) (hg : g.length ≤ 100) (w0 w : World) (hG : G w0) (hE : Ext w0 w) (hb : w0.heap.size ≤ b) (h : Rdr w b st) :
    Calls Tryz.prog 86 #[.pointer (some ⟨b, 0, none⟩), tv g] w fun e w' => (∃ v, e = .returned v) ∧ Rdr w' b (mustQ g st) ∧ Chg b w w' := by
  have C := Lib.hid (has_is b st g hl hg w h)
  have hz := hG.sz
  have F := Lib.hid (fun (w1 : World) (h1 : Rdr w1 b (cutQ g st.1, st.2)) (k1 : Chg b w w1) => fail_is b _ w1 (hG.ext (Chg.below hE k1 hE.size hb)) (by omega) h1)
  cases hq : hasQ g st.1
  · rw [hq] at C
    have HM := Lib.hid (show mustQ g st = ([], true) by unfold mustQ; rw [hq]; rfl)
    clear hq h hG hE
    unfold tv at *
    generalize ByteArray.mk g.toArray = Y at *
    go_enter Tryz.func86, Tryz.ntmps86
    go_wp2_with (first | (go_at_call 94; (with_reducible refine C.out.mono ?_); rintro e w1 ⟨rfl, h1, k1⟩) | (go_at_call 87; (with_reducible refine (F.out _ h1 k1).mono ?_); rintro e w2 ⟨⟨v, rfl⟩, h2, k2⟩))
    go_end0
    exact ⟨⟨_, rfl⟩, by rw [HM.out]; exact h2, k1.trans k2⟩
  · rw [hq] at C
    have HM := Lib.hid (show mustQ g st = (cutQ g st.1, st.2) by unfold mustQ cutQ; rw [hq]; rfl)
    clear hq h hG hE
    unfold tv at *
    generalize ByteArray.mk g.toArray = Y at *
    go_enter Tryz.func86, Tryz.ntmps86
    go_wp2_with (go_at_call 94; (with_reducible refine C.out.mono ?_); rintro e w1 ⟨rfl, h1, k1⟩)
    go_end0
    exact ⟨⟨_, rfl⟩, by rw [HM.out]; exact h1, k1⟩
end
end Go.Proofs.YtopgbggighaknaaGreatDoor
