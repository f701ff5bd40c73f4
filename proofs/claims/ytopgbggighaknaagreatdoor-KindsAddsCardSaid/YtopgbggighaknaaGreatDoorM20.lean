/- Joined texts, in their order: KPrint, KKn, KLearn, KTake. -/
import Derived.Test.YtopgbggighaknaaGreatDoorM17
import Derived.Test.YtopgbggighaknaaGreatDoorM14
import Derived.Test.YtopgbggighaknaaGreatDoorM10
import Derived.Test.YtopgbggighaknaaGreatDoorM15
import Derived.Test.YtopgbggighaknaaGreatDoorM13
import Derived.Maps.OwnSet
import Derived.Test.YtopgbggighaknaaGreatDoorM18
import Derived.Test.YtopgbggighaknaaGreatDoorM03
import Derived.Test.YtopgbggighaknaaGreatDoorM04
import Derived.Maps.Own
import Derived.Maps.OwnOps
import Derived.Test.YtopgbggighaknaaGreatDoorM09
import Derived.Test.YtopgbggighaknaaGreatDoorShelf
/- kinds: Print. -/
namespace Go.Proofs.YtopgbggighaknaaGreatDoor
open Go.RowKit Go
theorem textK_take : ∀ (L : List DescR) (k : Nat), (textK (L.take k)).length ≤ (textK L).length
  | [], k => by simp
  | d :: L, 0 => by simp [textK]
  | d :: L, k + 1 => by
    have ih := textK_take L k
    have e1 : textK (d :: L) = textS d ++ [10] ++ textK L := by simp [textK]
    have e2 : textK ((d :: L).take (k + 1)) = textS d ++ [10] ++ textK (L.take k) := by simp [textK]
    rw [e1, e2]
    simp only [List.length_append]
    omega
section
set_option maxHeartbeats 8000000 in
set_option maxRecDepth 100000 in
theorem kprint_is (A : Option Addr) (n c : Nat) (xs : List DRow) (L : List DescR) (hn : n ≤ 1000) (hc : n ≤ c) (hs : Small xs) (hT : rightK L = true → (textK L).length ≤ 900000) (w : World) (hG : K.G w) (hTab : HTab w) (h : Dl w A n xs L) :
    Calls Tryz.prog 22 #[.slice A n c] w fun e w' => e = .returned (.tuple #[.string ⟨(textKV L).toArray⟩, .int .i64 (textKE L)]) ∧ Ext w w' := by
  have R := Lib.hid (noKinds_is A n c xs L (by omega) hc hs w hG h)
  have HG := Lib.hid (fun W (hW : Ext w W) => hG.ext hW)
  have HB := Lib.hid (fun W (hW : Ext w W) => hTab.ext hW)
  have H := Lib.hid (And.intro h hs)
  clear h hs hG hTab
  by_cases hr : rightK L = true
  · have hall := ((rightK_iff L).1 hr).1
    have HL := Lib.hid (And.intro hall (fun k => Nat.le_trans (textK_take L k) (hT hr)))
    have HV := Lib.hid (show Value.tuple #[.string ⟨(textK L).toArray⟩, .int .i64 0] = .tuple #[.string ⟨(textKV L).toArray⟩, .int .i64 (textKE L)] by rw [textKV, textKE, if_pos hr, if_pos hr])
    rw [hr] at R
    clear hall hT hr
    go_enter Tryz.func22, Tryz.ntmps22
    go_wp2_with (first | (go_at_call 29; refine R.out.mono ?_; rintro e w1 ⟨⟨v, rfl, hv⟩, k1⟩; obtain rfl := K.code_nil hv rfl; clear hv) | (go_at_call 28; (refine (K.told1_is 0 .nilIface _ 48 _ (HG.out _ (Ext.trans k1 (ext1 _ _))) (Blk.new _ _ _) K.code_0).mono ?_); rintro e w2 ⟨rfl, k2⟩))
    have k3 := Ext.trans k1 (Ext.trans (ext1 _ _) k2)
    have hB0 := Lib.fresh_isBuilder 61 5 w2
    have hle := k3.size
    go_loopg [7, 8, 9, 19] n (fun m v7 v8 v9 i wr => ∃ k : Nat, k + m = n ∧ i = .int .i64 k ∧ IsB w2.heap.size w2.heap.size (textK (L.take k)) wr ∧ Ext w wr ∧ w2.heap.size ≤ wr.heap.size)
    case atStart => exact ⟨0, by omega, rfl, hB0, Ext.trans k3 (ext1 _ _), by simp⟩
    case round =>
      obtain ⟨k, hk, rfl, hIB, hE, hz⟩ := hrel
      by_cases hlt : k < n
      · obtain ⟨ad, x, d, rfl, hb, hx, hd, hdn, e0, e1, e2, e3⟩ := (H.out.1.ext hE).at_ hlt
        have hsm := H.out.2 k x hx
        have hrd := HL.out.1 d (List.mem_of_getElem? hd)
        have EX := Lib.hid (ext1 wr (.cells #[.int .i64 x.s, .slice x.A x.n x.c, .int .i64 x.t, .slice x.B x.m x.e] 25))
        have RP := Lib.hid (dprint_is x.A x.B x.n x.m x.c x.e x.s x.t d.ptrs d.eptrs hsm.1 hsm.2 _ (HG.out _ (Ext.trans hE EX.out)).g (HB.out _ (Ext.trans hE EX.out)) (hdn.p.ext EX.out) (hdn.q.ext EX.out))
        rw [hdn.eq, textV, textE, if_pos hrd, if_pos hrd] at RP
        simp only [tvv] at RP
        have h5 : (k : Int) < n := by omega
        have h6 : (k : Int) + 1 ≤ 1000 := by omega
        have z2 : (textS d).length ≤ 20000 := textS_len d hrd (by rw [hdn.p.1]; exact hsm.1) (by rw [hdn.q.1]; exact hsm.2)
        have z3 : (⟨(textS d).toArray⟩ : ByteArray).size ≤ 20000 := by show (textS d).toArray.size ≤ _; simpa using z2
        have hst := textK_step L k d hd
        have W := Lib.hid (fun (W : World) (hE' : Ext wr W) => writeString_is w2.heap.size w2.heap.size (textK (L.take k)) (textS d ++ [10]) W (hIB.ext hE') (by have := HL.out.2 k; simp only [List.length_append, List.length_singleton]; omega) (Nat.le_trans hz hE'.size))
        have hcat : (⟨(textS d).toArray⟩ : ByteArray) ++ ⟨#[10]⟩ = ⟨(textS d ++ [10]).toArray⟩ := by rw [show ByteArray.mk #[10] = ⟨[10].toArray⟩ from rfl, cat_tv]
        have HK := Lib.hid (And.intro hk (And.intro hE (And.intro hst hcat)))
        clear hk hE hx hd hdn hsm hrd hb hst hIB hcat z2
        generalize (⟨(textS d).toArray⟩ : ByteArray) = X at *
        go_wp2_with (first | (go_at_call 40; refine RP.out.mono ?_; rintro e w4 ⟨rfl, k4⟩) | (go_at_call 41; rw [HK.out.2.2.2]; refine (W.out _ (Ext.trans EX.out k4)).mono ?_; rintro e w5 ⟨rfl, b5, k5⟩))
        go_roundg (gk - 1)
        case measure => have := HK.out.1; omega
        case rel =>
          refine ⟨k + 1, by have := HK.out.1; omega, by go_num, ?_, Below.trans (Ext.trans HK.out.2.1 (Ext.trans EX.out k4)) (k5.mono hle), Nat.le_trans hz (Nat.le_trans (Ext.trans EX.out k4).size k5.size)⟩
          rw [HK.out.2.2.1, List.append_assoc]; exact b5
      · obtain rfl : k = n := by omega
        have h5 : ¬ (k : Int) < k := by omega
        rw [List.take_of_length_le (by rw [H.out.1.2.1]; exact Nat.le_refl _)] at hIB
        have S := Lib.hid (Tryz.Builder_String_any w2.heap.size w2.heap.size (textK L) wr hIB hz)
        have HX := Lib.hid hE
        clear hE hk hIB
        go_wp2_with (go_at_call 42; (refine S.out.mono ?_); rintro e w4 ⟨rfl, k4⟩)
        go_ret2
        exact ⟨ret_val HV.out, Below.trans HX.out (k4.mono hle)⟩
  · have hr' : rightK L = false := by simpa using hr
    have HV := Lib.hid (show Value.tuple #[.string ⟨#[]⟩, .int .i64 50] = .tuple #[.string ⟨(textKV L).toArray⟩, .int .i64 (textKE L)] by rw [textKV, textKE, if_neg hr, if_neg hr])
    rw [hr'] at R
    clear hr hr' hT
    go_enter Tryz.func22, Tryz.ntmps22
    go_wp2_with (first | (go_at_call 29; refine R.out.mono ?_; rintro e w1 ⟨⟨v, rfl, hv⟩, k1⟩; have HC := Lib.hid (show K.Code v 50 from hv); obtain ⟨te, pe, rfl⟩ := K.code_err HC.out (by decide); clear hv) | (go_at_call 28; (refine (K.told1_is 50 _ _ 48 _ (HG.out _ (Ext.trans k1 (ext1 _ _))) (Blk.new _ _ _) HC.out).mono ?_); rintro e w2 ⟨rfl, k2⟩))
    go_ret2
    exact ⟨ret_val HV.out, Ext.trans k1 (Ext.trans (ext1 _ _) k2)⟩
end
end Go.Proofs.YtopgbggighaknaaGreatDoor
/- kinds: what a reader has read, in memory; a change of some blocks. -/
namespace Go.Proofs.YtopgbggighaknaaGreatDoor
open Go.RowKit Go
/-- Of the blocks that were there all but u's lie as they lay. -/
structure ChgU (u : Nat → Prop) (w w' : World) : Prop where
  os : w'.os = w.os
  tape : w'.tape = w.tape
  output : w'.output = w.output
  size : w.heap.size ≤ w'.heap.size
  block : ∀ k, k < w.heap.size → ¬ u k → w'.heap[k]? = w.heap[k]?
theorem ChgU.of_ext {u : Nat → Prop} {a b : World} (h : Ext a b) : ChgU u a b := ⟨h.os, h.tape, h.output, h.size, fun i hi _ => h.block i hi⟩
theorem ChgU.trans {u v : Nat → Prop} {a b c : World} (h : ChgU u a b) (k : ChgU v b c) (hv : ∀ i, i < a.heap.size → v i → u i) : ChgU u a c :=
  ⟨k.os.trans h.os, k.tape.trans h.tape, k.output.trans h.output, Nat.le_trans h.size k.size, fun i hi hn => (k.block i (Nat.lt_of_lt_of_le hi h.size) (fun hvi => hn (hv i hi hvi))).trans (h.block i hi hn)⟩
theorem ChgU.ext {u : Nat → Prop} {a b c : World} (h : ChgU u a b) (k : Ext b c) : ChgU u a c := h.trans (ChgU.of_ext (u := u) k) (fun _ _ h => h)
theorem ChgU.of_grown {a b : World} {o : Option Nat} (h : a.grownBy b o) : ChgU (fun k => o = some k) a b := ⟨h.os, h.tape, h.output, h.size, fun i hi hn => h.block i hi (fun e => hn e.symm)⟩
theorem ChgU.of_set (a : World) (p : Addr) (v : Value) : ChgU (fun k => k = p.block) a (a.setCell p v) := ⟨rfl, rfl, rfl, by simp, fun i _ hn => Below.heap_setCell _ _ _ _ hn⟩
theorem ChgU.below {u : Nat → Prop} {B : Nat} {a b c : World} (h : Below B a b) (k : ChgU u b c) (hu : ∀ i, u i → B ≤ i) (hB : B ≤ b.heap.size) : Below B a c :=
  h.trans ⟨k.os, k.tape, k.output, k.size, fun i hi => k.block i (by omega) (fun hui => by have := hu i hui; omega)⟩
theorem Blk.chgU {u : Nat → Prop} {W W' : World} {B : Nat} {cs : Array Value} {t : TypeId} (h : Blk W B cs t) (k : ChgU u W W') (hn : ¬ u B) : Blk W' B cs t := (k.block B h.lt hn).trans h
theorem Il.chgU {u : Nat → Prop} {W W' : World} {A : Option Addr} {n : Nat} {l : List Int} (h : Il W A n l) (k : ChgU u W W') (hn : 0 < n → ∀ ad, A = some ad → ¬ u ad.block) : Il W' A n l :=
  ⟨h.1, fun h0 => by
    obtain ⟨ad, e, hb, hc⟩ := h.2 h0
    exact ⟨ad, e, Nat.lt_of_lt_of_le hb k.size, fun j hj => (World.cell?_of_block (w := W) (a := ad.add j) (by rw [block_of_add]; exact k.block _ hb (hn h0 ad e))).trans (hc j hj)⟩⟩
theorem Dn.chgU {u : Nat → Prop} {W W' : World} {x : DRow} {d : DescR} (h : Dn W x d) (k : ChgU u W W') (hA : 0 < x.n → ∀ ad, x.A = some ad → ¬ u ad.block) (hB : 0 < x.m → ∀ ad, x.B = some ad → ¬ u ad.block) : Dn W' x d :=
  ⟨h.s, h.t, h.p.chgU k hA, h.q.chgU k hB, h.pc, h.qc, h.pm, h.qm⟩
theorem ownN_keep {w w' : World} {base : Nat} {e : TypeId} {size : Nat} {v : Value} {n : Nat} {xs : List Value} (h : w.ownsRow base e size v n xs) (k : ∀ g, v.ownBlock = some g → w'.heap[g]? = w.heap[g]?) : w'.ownsRow base e size v n xs := by
  obtain ⟨hl, h⟩ := h
  refine ⟨hl, ?_⟩
  rcases h with ⟨rfl, rfl⟩ | ⟨g, cap, cur, rfl, hb, hg, r⟩
  · exact .inl ⟨rfl, rfl⟩
  · exact .inr ⟨g, cap, cur, rfl, hb, (k g rfl).trans hg, r⟩
/-- What a reader at block b has read: its row, its map (block M). -/
structure Kn (W : World) (b M : Nat) (A : Option Addr) (n c : Nat) (ys : List DRow) (out : List DescR) (x2 x3 : Value) : Prop where
  blk : Blk W b #[.slice A n c, .map (some M), x2, x3] 70
  cnt : out.length = n
  own : W.ownsRow (b + 2) 25 4 (.slice A n c) n (flatD ys)
  len : ys.length = n
  rows : Ys W (.slice A n c) ys out
  far : ∀ (i : Nat) (y : DRow), ys[i]? = some y → (∀ ad, y.A = some ad → b < ad.block) ∧ (∀ ad, y.B = some ad → b < ad.block)
  small : Small ys
  mb : M < b
  map : ∃ D : DataW Unit, W.ownsMap Tryz.prog 9 (plainElem Tryz.prog 3) M n D ∧ ∀ t : List UInt8, Maps.has D (.string t) = decide (∃ d ∈ out, textS d = t)
theorem Kn.ext {W W' : World} {b M n c : Nat} {A : Option Addr} {ys : List DRow} {out : List DescR} {x2 x3 : Value} (h : Kn W b M A n c ys out x2 x3) (k : Ext W W') : Kn W' b M A n c ys out x2 x3 := by
  refine ⟨h.blk.ext k, h.cnt, ownN_ext h.own k, h.len, h.rows.ext k, h.far, h.small, h.mb, ?_⟩
  obtain ⟨D, hm, hD⟩ := h.map
  have hlt := hm.lt
  obtain ⟨es, clock, hb, r⟩ := hm
  exact ⟨D, ⟨es, clock, (k.block M hlt).trans hb, r⟩, hD⟩
/-- The reader's other two cells, set. -/
theorem Kn.set23 {W : World} {b M n c : Nat} {A : Option Addr} {ys : List DRow} {out : List DescR} {x2 x3 : Value} (h : Kn W b M A n c ys out x2 x3) (u2 u3 : Value) : Kn ((W.setCell ⟨b, 2, none⟩ u2).setCell ⟨b, 3, none⟩ u3) b M A n c ys out u2 u3 := by
  have hB := (h.blk.set 2 u2).set 3 u3
  simp only [List.setIfInBounds_toArray, List.set_cons_zero, List.set_cons_succ] at hB
  have hk : ChgU (fun k => k = b) W ((W.setCell ⟨b, 2, none⟩ u2).setCell ⟨b, 3, none⟩ u3) := (ChgU.of_set W ⟨b, 2, none⟩ u2).trans (ChgU.of_set _ ⟨b, 3, none⟩ u3) (fun _ _ h => h)
  have hown : ∀ g, (Value.slice A n c).ownBlock = some g → b + 2 ≤ g := fun g hg => ownN_block h.own g hg
  refine ⟨hB, h.cnt, ownN_keep h.own (fun g hg => hk.block g (World.ownsRow.lt h.own g hg).2 (by have := hown g hg; show ¬ g = b; omega)), h.len, fun i y d h1 h2 => ?_, h.far, h.small, h.mb, ?_⟩
  · obtain ⟨q1, q2⟩ := h.rows i y d h1 h2
    have f := h.far i y h1
    exact ⟨q1.chgU hk (fun _ ad e => by have := f.1 ad e; show ¬ ad.block = b; omega) (fun _ ad e => by have := f.2 ad e; show ¬ ad.block = b; omega), q2⟩
  · obtain ⟨D, hm, hD⟩ := h.map
    have := h.mb
    exact ⟨D, (hm.setCell (a := ⟨b, 2, none⟩) (by show M ≠ b; omega) u2).setCell (a := ⟨b, 3, none⟩) (by show M ≠ b; omega) u3, hD⟩
/-- The blocks that reading may turn. -/
def Ub (b M : Nat) (v : Value) : Nat → Prop := fun k => k = b ∨ k = M ∨ v.ownBlock = some k
theorem text_inj {d d' : DescR} (h : rightB d = true) (h' : rightB d' = true) (e : textS d = textS d') : d = d' := by
  have h1 := parse_text d h
  rw [e, parse_text d' h'] at h1
  exact (Option.some.inj h1).symm
theorem has_text {out : List DescR} {d : DescR} (hd : rightB d = true) (hall : ∀ x ∈ out, rightB x = true) : decide (∃ x ∈ out, textS x = textS d) = decide (d ∈ out) := by
  rw [decide_eq_decide]
  constructor
  · rintro ⟨x, hx, e⟩
    rw [← text_inj (hall x hx) hd e]; exact hx
  · intro h; exact ⟨d, h, rfl⟩
end Go.Proofs.YtopgbggighaknaaGreatDoor
/- kinds: learn. -/
namespace Go.Proofs.YtopgbggighaknaaGreatDoor
open Go.RowKit Go Go.Maps Go.WideMaps
theorem strKeyed : Keyed Tryz.prog 9 := string_keyed Tryz.underlying9
theorem zeroI (w : World) : (zeroValue 3).run Tryz.prog w = .ok (.int .i64 0) w := by kernel_rfl
theorem keyT (t : List UInt8) (h : t.length ≤ 1000000) : keyOf Tryz.prog 9 (.string ⟨t.toArray⟩) = some (.string t) :=
  keyOf_string_mk Tryz.underlying9 (by show t.toArray.size ≤ _; simp [maxLen]; omega)
section
variable (b M : Nat) (A : Option Addr) (n c : Nat) (ys : List DRow) (out : List DescR) (x2 x3 : Value) (x : DRow) (d : DescR) (t : List UInt8)
set_option maxHeartbeats 8000000 in
set_option maxRecDepth 100000 in
theorem learn_twice (w : World) (hG : K.G w) (h : Kn w b M A n c ys out x2 x3) (ht : t.length ≤ 1000000) (hh : decide (∃ d ∈ out, textS d = t) = true) :
    Calls Tryz.prog 73 #[.pointer (some ⟨b, 0, none⟩), .string ⟨t.toArray⟩, .agg x.cells] w fun e w' => (∃ v, e = .returned v ∧ K.Code v 52) ∧ Ext w w' := by
  obtain ⟨te, pe, g0⟩ := hG.k2
  obtain ⟨D, hown, hD⟩ := h.map
  have hhas := (hD t).trans hh
  have E1 := ext1 w (.cells x.cells 25)
  have c1 := (h.blk.ext E1).cell 1
  have gT := hG.glob (by decide) g0 E1
  have HE := Lib.hid E1
  have HK := Lib.hid (keyT t ht)
  have HO := Lib.hid (hown.alloc (.cells x.cells 25))
  simp only [List.getElem?_toArray, List.getElem?_cons_zero, List.getElem?_cons_succ] at c1
  simp only [DRow.cells] at *
  clear h hD hh hown hG g0 E1
  go_enter Tryz.func73, Tryz.ntmps73
  go_wp2_with (at_lookup; refine wpList_lookup_own_ok_int _ rfl _ _ 66 rfl 9 3 .i64 strKeyed Tryz.underlying66 Tryz.underlying3 (zeroI _) M n D rfl HO.out _ _ rfl HK.out ?_; intro cc hat hwc; clear hat hwc)
  go_ret
  exact ⟨⟨_, rfl, K.code_errW 52 (by decide) _ _⟩, HE.out⟩
set_option maxHeartbeats 8000000 in
set_option maxRecDepth 100000 in
theorem learn_many (w : World) (hG : K.G w) (h : Kn w b M A n c ys out x2 x3) (hn : n = 60) (ht : t.length ≤ 1000000) (hh : decide (∃ d ∈ out, textS d = t) = false) :
    Calls Tryz.prog 73 #[.pointer (some ⟨b, 0, none⟩), .string ⟨t.toArray⟩, .agg x.cells] w fun e w' => (∃ v, e = .returned v ∧ K.Code v 53) ∧ Ext w w' := by
  obtain ⟨D, hown, hD⟩ := h.map
  have hhas := (hD t).trans hh
  have E1 := ext1 w (.cells x.cells 25)
  have c1 := (h.blk.ext E1).cell 1
  have c0 := (h.blk.ext E1).cell 0
  have HE := Lib.hid E1
  have HN := Lib.hid hn
  have HK := Lib.hid (keyT t ht)
  have HO := Lib.hid (hown.alloc (.cells x.cells 25))
  have HG := Lib.hid (hG.ext E1)
  simp only [List.getElem?_toArray, List.getElem?_cons_zero, List.getElem?_cons_succ] at c0 c1
  simp only [DRow.cells] at *
  clear h hD hh hown hG hn E1
  go_enter Tryz.func73, Tryz.ntmps73
  go_wp2_with (first | (at_lookup; refine wpList_lookup_own_ok_int _ rfl _ _ 66 rfl 9 3 .i64 strKeyed Tryz.underlying66 Tryz.underlying3 (zeroI _) M n D rfl HO.out _ _ rfl HK.out ?_; intro cc hat hwc; clear hat hwc) | (go_at_call 32; refine (noRoom_is n _ HG.out).mono ?_; rintro e w4 ⟨⟨v4, rfl, hv4⟩, k4⟩; rw [decide_eq_false (by have := HN.out; omega)] at hv4; have C4 := Lib.hid (show K.Code v4 53 from hv4); obtain ⟨te4, pe4, rfl⟩ := K.code_err C4.out (by decide); clear hv4))
  go_ret
  exact ⟨⟨_, rfl, C4.out⟩, Ext.trans HE.out k4⟩
set_option maxHeartbeats 8000000 in
set_option maxRecDepth 100000 in
theorem learn_new (w : World) (hG : K.G w) (h : Kn w b M A n c ys out x2 x3) (hn : n < 60) (hx : Dn w x d) (hx1 : x.n ≤ 1000) (hx2 : x.m ≤ 1000) (hA : ∀ ad, x.A = some ad → b < ad.block ∧ (Value.slice A n c).ownBlock ≠ some ad.block) (hB : ∀ ad, x.B = some ad → b < ad.block ∧ (Value.slice A n c).ownBlock ≠ some ad.block)
    (ht : (textS d).length ≤ 1000000) (hh : decide (∃ e ∈ out, textS e = textS d) = false) :
    Calls Tryz.prog 73 #[.pointer (some ⟨b, 0, none⟩), .string ⟨(textS d).toArray⟩, .agg x.cells] w fun e w' => e = .returned .nilIface ∧
      (∃ A' c', Kn w' b M A' (n + 1) c' (ys ++ [x]) (out ++ [d]) x2 x3 ∧ (∀ g, (Value.slice A' (n + 1) c').ownBlock = some g → (Value.slice A n c).ownBlock = some g ∨ w.heap.size ≤ g)) ∧ ChgU (Ub b M (.slice A n c)) w w' := by
  obtain ⟨D, hown, hD⟩ := h.map
  obtain ⟨i0, hi0⟩ := info_desc
  have HI := Lib.hid hi0
  have hhas := (hD (textS d)).trans hh
  have HDT := Lib.hid hD
  have E1 := ext1 w (.cells x.cells 25)
  have hK1 := h.ext E1
  have bX := Blk.new w x.cells 25
  have c1 := hK1.blk.cell 1
  have c0 := hK1.blk.cell 0
  have HE := Lib.hid E1
  have HN := Lib.hid hn
  have HK := Lib.hid (keyT (textS d) ht)
  have HO := Lib.hid (hown.alloc (.cells x.cells 25))
  have HG := Lib.hid (hG.ext E1)
  have HS := Lib.hid (And.intro h (And.intro hK1 (And.intro bX (And.intro hx (And.intro hx1 (And.intro hx2 (And.intro hA hB)))))))
  have hlb : b < w.heap.size := h.blk.lt
  simp only [List.getElem?_toArray, List.getElem?_cons_zero, List.getElem?_cons_succ] at c0 c1
  obtain ⟨xs, xA, xn, xc, xt, xB, xm, xe⟩ := x
  simp only [DRow.cells] at HE HO HG c0 c1 HS ⊢
  have hn61 : (n : Int) < 60 := by omega
  clear h hD hh hown hG hn E1 hK1 bX hx hx1 hx2 hA hB hi0
  go_enter Tryz.func73, Tryz.ntmps73
  go_wp2_with (first | (at_lookup; refine wpList_lookup_own_ok_int _ rfl _ _ 66 rfl 9 3 .i64 strKeyed Tryz.underlying66 Tryz.underlying3 (zeroI _) M n D rfl HO.out _ _ rfl HK.out ?_; intro cc hat hwc; clear hat hwc) | (go_at_call 32; refine (noRoom_is n _ HG.out).mono ?_; rintro e w4 ⟨⟨v4, rfl, hv4⟩, k4⟩; rw [decide_eq_true HN.out] at hv4; obtain rfl := K.code_nil hv4 rfl; clear hv4))
  have hK4 := HS.out.2.1.ext k4
  have bX4 := HS.out.2.2.1.ext k4
  have hz4 : w.heap.size < w4.heap.size := by have := k4.size; simp at this; omega
  letI : F.Free := ⟨fun j => (Value.slice A n c).ownBlock = some j⟩
  have hob : (Value.slice A n c).ownBlock ≠ some b := fun e => by have := ownN_block hK4.own b e; omega
  have hoM : (Value.slice A n c).ownBlock ≠ some M := fun e => by have := ownN_block hK4.own M e; have := hK4.mb; omega
  have hox : (Value.slice A n c).ownBlock ≠ some w.heap.size := fun e => by have := (World.ownsRow.lt HS.out.1.own _ e).2; omega
  refine F.wp_region_XT2 11 8 rfl (by kernel_rfl) (by kernel_rfl) ?_
  intro HDD
  refine F.wpH2_segL HDD 0 6 2 rfl rfl (F.ExtF.refl _) (by kernel_rfl) ?_
  apply Exists.intro
  refine ⟨fun cw => ?_, ?_⟩
  · have p0 := on_cell ((show Blk cw.w b _ _ from (cw.h.block b hK4.blk.lt hob).trans hK4.blk).cell 0)
    have q0 := on_cell ((show Blk cw.w w.heap.size _ _ from (cw.h.block _ bX4.lt hox).trans bX4).cell 0)
    have q1 := on_cell ((show Blk cw.w w.heap.size _ _ from (cw.h.block _ bX4.lt hox).trans bX4).cell 1)
    have q2 := on_cell ((show Blk cw.w w.heap.size _ _ from (cw.h.block _ bX4.lt hox).trans bX4).cell 2)
    have q3 := on_cell ((show Blk cw.w w.heap.size _ _ from (cw.h.block _ bX4.lt hox).trans bX4).cell 3)
    simp only [List.take_succ_cons, List.take_zero, List.drop_zero]
    repeat (go_big_quiet_step (fail))
    exact wpQuiet_nil rfl
  refine F.wpH2_stepL 6 1 rfl rfl rfl (by kernel_rfl) ?_
  intro V5 hV5 KK hK
  go_simp
  have X5 := Ext.trans hV5 (ext1 V5 (.cells (DRow.mk xs xA xn xc xt xB xm xe).cells 25))
  refine hK.out _ _ (F.ExtF.of_ext X5) ?_
  clear hK KK
  refine F.wpH2_stepL 7 0 rfl rfl rfl (by kernel_rfl) ?_
  intro V6 hV6 KK hK
  rw [if_pos (show Region.wanted _ _ = true from rfl)]
  refine wp_append_row (.tmp 36) (.tmp 38) 22 ?_ (b + 2) 25 i0 (.agg #[.int .i64 0, .slice none 0 0, .int .i64 0, .slice none 0 0]) 4 64 Tryz.underlying22 HI.out.1 HI.out.2.1 HI.out.2.2.1 HI.out.2.2.2 rfl (by decide) (.slice A n c) n (flatD ys) ?_ (hK4.ext (Ext.trans X5 hV6)).own ⟨V5.heap.size, 0, none⟩ 1 (DRow.mk xs xA xn xc xt xB xm xe).cells.toList ?_ rfl (fun j u hj => ?_) (row_one _) (by unfold maxLen; omega) (by omega) (by have := (Ext.trans X5 hV6).size; omega) ?_
  · rfl
  · rfl
  · rfl
  · have h0 := new_cells1 V5 (DRow.mk xs xA xn xc xt xB xm xe).cells 25 j u (by simpa [DRow.cells] using hj)
    exact (hV6.cell (by rw [block_of_add]; show V5.heap.size < (V5.alloc _).heap.size; rw [World.size_alloc]; omega)).trans h0
  intro v' V7 hown7 hgrow hnew
  have X6 := Ext.trans X5 hV6
  have hK6 := hK4.ext X6
  have hYs6 : Ys V6 (.slice A n c) (ys ++ [DRow.mk xs xA xn xc xt xB xm xe]) (out ++ [d]) :=
    (hK6.rows.appL (by rw [hK6.len, hK6.cnt]; exact Nat.le_refl _)).snoc (k := n) hK6.len (by rw [List.getElem?_append_right (by rw [hK6.cnt]; exact Nat.le_refl _), hK6.cnt]; simp) (HS.out.2.2.2.1.ext (Ext.trans HE.out (Ext.trans k4 X6))) (fun a1 e1 => (HS.out.2.2.2.2.2.2.1 a1 e1).2) (fun a1 e1 => (HS.out.2.2.2.2.2.2.2 a1 e1).2)
  have hYs7 := hYs6.grown hgrow hnew
  have bK7 : Blk V7 b #[.slice A n c, .map (some M), x2, x3] 70 := (hgrow.block b hK6.blk.lt (fun e => hob e.symm)).trans hK6.blk
  have hM7 : V7.ownsMap Tryz.prog 9 (plainElem Tryz.prog 3) M n D := by
    have hMl := HO.out.lt
    have h4 : w4.ownsMap Tryz.prog 9 (plainElem Tryz.prog 3) M n D := by
      obtain ⟨es, clock, hb, r⟩ := HO.out
      exact ⟨es, clock, (k4.block M hMl).trans hb, r⟩
    have hMl4 := h4.lt
    have h6 : V6.ownsMap Tryz.prog 9 (plainElem Tryz.prog 3) M n D := by
      obtain ⟨es, clock, hb, r⟩ := h4
      exact ⟨es, clock, (X6.block M hMl4).trans hb, r⟩
    exact h6.kept hgrow (fun e => hoM e.symm)
  obtain ⟨A7, c7, rfl, hmc, hrow, _⟩ := rows_of_own (xs := ys ++ [DRow.mk xs xA xn xc xt xB xm xe]) (by rw [flatD_snoc]; exact hown7) (by rw [List.length_append, hK6.len]; rfl)
  simp only [Act.put, List.setIfInBounds_toArray, List.set_cons_succ, List.set_cons_zero]
  refine hK.out _ _ ((F.ExtF.of_ext X6).trans ⟨hgrow.os, hgrow.tape, hgrow.output, hgrow.size, fun i hi hn => hgrow.block i hi (fun e => hn e.symm)⟩) ?_
  clear hK KK
  have CH7 := Lib.hid ((ChgU.of_ext (u := Ub b M (.slice A n c)) (Ext.trans HE.out (Ext.trans k4 X6))).trans (ChgU.of_grown hgrow) (fun _ _ h => .inr (.inr h)))
  have HF7 := Lib.hid (And.intro hown7 (And.intro hYs7 (And.intro bK7 (And.intro hM7 hnew))))
  have hz7 : w.heap.size < V7.heap.size := by have := hgrow.size; have := X6.size; omega
  have hz6 : w.heap.size ≤ V6.heap.size := by have := X6.size; omega
  clear hown7 hYs7 bK7 hM7 hnew hgrow X5 X6 hK6 hYs6 hV5 hV6 hmc hrow
  refine F.wpH2_end (fun V8 hV8 => ⟨by kernel_rfl, ?_⟩)
  have b8 := HF7.out.2.2.1.ext hV8
  have q0 := b8.cell 0
  have q1 := b8.cell 1
  have f0 := b8.frozen 0
  simp only [List.getElem?_toArray, List.getElem?_cons_zero, List.getElem?_cons_succ] at q0 q1
  simp only [List.drop_succ_cons, List.drop_zero]
  clear HDD
  go_wp2
  clear q0 q1 f0
  have g7 : ∀ g, (Value.slice A7 (n + 1) c7).ownBlock = some g → b + 2 ≤ g := fun g hg => ownN_block HF7.out.1 g hg
  have nb : (Value.slice A7 (n + 1) c7).ownBlock ≠ some b := fun e => by have := g7 b e; omega
  have b9 := b8.set 0 (.slice A7 (n + 1) c7)
  simp only [List.setIfInBounds_toArray, List.set_cons_zero] at b9
  have C9 := (ChgU.of_ext (u := fun k => k = b) hV8).trans (ChgU.of_set V8 ⟨b, 0, none⟩ (.slice A7 (n + 1) c7)) (fun _ _ h => h)
  have CH9 := Lib.hid (CH7.out.trans C9 (fun _ _ h => .inl h))
  have hfar : ∀ (i : Nat) (y : DRow), (ys ++ [DRow.mk xs xA xn xc xt xB xm xe])[i]? = some y → (∀ ad, y.A = some ad → b < ad.block) ∧ (∀ ad, y.B = some ad → b < ad.block) := fun i y hy => by
    rcases Nat.lt_or_ge i ys.length with hi | hi
    · rw [List.getElem?_append_left hi] at hy; exact HS.out.1.far i y hy
    · rw [List.getElem?_append_right hi] at hy
      have hm := List.mem_of_getElem? hy
      obtain rfl : y = DRow.mk xs xA xn xc xt xB xm xe := by simpa using hm
      exact ⟨fun ad e => (HS.out.2.2.2.2.2.2.1 ad e).1, fun ad e => (HS.out.2.2.2.2.2.2.2 ad e).1⟩
  have hY9 : Ys (V8.setCell ⟨b, 0, none⟩ (.slice A7 (n + 1) c7)) (.slice A7 (n + 1) c7) (ys ++ [DRow.mk xs xA xn xc xt xB xm xe]) (out ++ [d]) := fun i y d' h1 h2 => by
    obtain ⟨r1, r2⟩ := HF7.out.2.1 i y d' h1 h2
    have f := hfar i y h1
    exact ⟨r1.chgU C9 (fun _ ad e => by have := f.1 ad e; show ¬ ad.block = b; omega) (fun _ ad e => by have := f.2 ad e; show ¬ ad.block = b; omega), r2⟩
  have own9 := ownN_keep HF7.out.1 (fun g hg => C9.block g (World.ownsRow.lt HF7.out.1 g hg).2 (by have := g7 g hg; show ¬ g = b; omega))
  have M9 : (V8.setCell ⟨b, 0, none⟩ (.slice A7 (n + 1) c7)).ownsMap Tryz.prog 9 (plainElem Tryz.prog 3) M n D := by
    have hMb := HS.out.1.mb
    have hm := HF7.out.2.2.2.1
    have hl := hm.lt
    obtain ⟨es, clock, hb, r⟩ := hm
    exact ⟨es, clock, (C9.block M hl (by show ¬ M = b; omega)).trans hb, r⟩
  have H9 := Lib.hid (And.intro own9 (And.intro hY9 (And.intro hfar (And.intro b9 M9))))
  have hz9 : w.heap.size < (V8.setCell ⟨b, 0, none⟩ (.slice A7 (n + 1) c7)).heap.size := by have := C9.size; omega
  clear g7 b8 b9 C9 hfar hY9 own9 M9 CH7 hV8
  generalize V8.setCell ⟨b, 0, none⟩ (.slice A7 (n + 1) c7) = V9 at *
  refine wp_region_XT2 11 10 rfl (by kernel_rfl) (by kernel_rfl) ?_
  intro HDD
  refine wpH2_segL HDD 0 10 0 rfl rfl (Ext.refl _) (by kernel_rfl) ?_
  apply Exists.intro
  refine ⟨fun cw => ?_, ?_⟩
  · have p0 := on_cell ((H9.out.2.2.2.1.ext cw.h).cell 0)
    have p1 := on_cell ((H9.out.2.2.2.1.ext cw.h).cell 1)
    simp only [List.take_succ_cons, List.take_zero, List.drop_zero]
    repeat (go_big_quiet_step (fail))
    exact wpQuiet_nil rfl
  refine wpH2_end (fun V10 hV10 => ⟨by kernel_rfl, ?_⟩)
  have M10 : V10.ownsMap Tryz.prog 9 (plainElem Tryz.prog 3) M n D := by
    have hm := H9.out.2.2.2.2
    have hl := hm.lt
    obtain ⟨es, clock, hb, r⟩ := hm
    exact ⟨es, clock, (hV10.block M hl).trans hb, r⟩
  have H10 := Lib.hid (And.intro M10 hV10)
  simp only [List.drop_succ_cons, List.drop_zero]
  clear HDD M10 hV10
  go_wp2_with (at_mapUpdate; refine wpList_mapUpdate_own _ rfl _ _ _ 66 rfl 9 3 strKeyed Tryz.underlying66 _ M n D rfl H10.out.1 (by have := HN.out; unfold maxLen; omega) _ _ _ rfl rfl HK.out _ [] (plainElem_int Tryz.underlying3 (WalkArith.wf_i64 (by omega))) ?_; intro w1 hown1 hgrow1)
  go_ret
  have CM := (ChgU.of_ext (u := fun k => k = M) H10.out.2).trans (ChgU.of_grown hgrow1) (fun _ _ h => (Option.some.inj h).symm)
  have hMb := HS.out.1.mb
  have g9 : ∀ g, (Value.slice A7 (n + 1) c7).ownBlock = some g → b + 2 ≤ g := fun g hg => ownN_block H9.out.1 g hg
  refine ⟨rfl, ⟨A7, c7, ⟨H9.out.2.2.2.1.chgU CM (by show ¬ b = M; omega), by rw [List.length_append, HS.out.1.cnt]; rfl, ?_, by rw [List.length_append, HS.out.1.len]; rfl, fun i y d' h1 h2 => ?_, H9.out.2.2.1, ?_, hMb, ?_⟩, fun g hg => ?_⟩, CH9.out.trans CM (fun _ _ h => .inr (.inl h))⟩
  · have := ownN_keep H9.out.1 (fun g hg => CM.block g (World.ownsRow.lt H9.out.1 g hg).2 (by have := g9 g hg; show ¬ g = M; omega))
    rw [flatD_snoc]; exact this
  · obtain ⟨r1, r2⟩ := H9.out.2.1 i y d' h1 h2
    have f := H9.out.2.2.1 i y h1
    exact ⟨r1.chgU CM (fun _ ad e => by have := f.1 ad e; show ¬ ad.block = M; omega) (fun _ ad e => by have := f.2 ad e; show ¬ ad.block = M; omega), r2⟩
  · exact HS.out.1.small.snoc _ HS.out.2.2.2.2.1 HS.out.2.2.2.2.2.1
  · refine ⟨_, hown1, fun t => ?_⟩
    by_cases e : t = textS d
    · subst e
      rw [has_put_same H10.out.1.isMap (show WideAt.IsKeyLit (.string (textS d)) from trivial)]
      exact (decide_eq_true ⟨d, by simp, rfl⟩).symm
    · rw [has_put_other (fun h => e (Lit.string.inj h)), HDT.out t, decide_eq_decide]
      constructor
      · rintro ⟨x, hx, hxe⟩; exact ⟨x, by simp [hx], hxe⟩
      · rintro ⟨x, hx, hxe⟩
        rcases List.mem_append.1 hx with hx | hx
        · exact ⟨x, hx, hxe⟩
        · obtain rfl : x = d := by simpa using hx
          exact absurd hxe.symm e
  · rcases HF7.out.2.2.2.2 g hg with h | h
    · exact .inl h
    · exact .inr (by omega)
end
end Go.Proofs.YtopgbggighaknaaGreatDoor
/- kinds: take: a line. -/
namespace Go.Proofs.YtopgbggighaknaaGreatDoor
open Go.RowKit Go
def lnE (out : List DescR) (d : DescR) : Int := if d ∈ out then 52 else if out.length = 60 then 53 else 0
def lnL (out : List DescR) (d : DescR) : List DescR := if lnE out d = 0 then out ++ [d] else out
/-- Rows that were there, and new ones whose lists lie from B0 on. -/
def NewR (B0 : Nat) (ys ys' : List DRow) : Prop := ∀ (i : Nat) (y : DRow), ys'[i]? = some y → ys[i]? = some y ∨ ((∀ ad, y.A = some ad → B0 ≤ ad.block) ∧ (∀ ad, y.B = some ad → B0 ≤ ad.block))
theorem NewR.refl (B0 : Nat) (ys : List DRow) : NewR B0 ys ys := fun _ _ h => .inl h
/-- What learn, take leave. -/
def LrnR (b M : Nat) (A : Option Addr) (n c : Nat) (ys : List DRow) (B0 : Nat) (out' : List DescR) (k : Int) (x2 x3 : Value) (w : World) (e : Ending) (w' : World) : Prop :=
  (∃ v, e = .returned v ∧ K.Code v k) ∧ (∃ A' n' c' ys', Kn w' b M A' n' c' ys' out' x2 x3 ∧ (∀ g, (Value.slice A' n' c').ownBlock = some g → (Value.slice A n c).ownBlock = some g ∨ w.heap.size ≤ g) ∧ NewR B0 ys ys') ∧ ChgU (Ub b M (.slice A n c)) w w'
section
variable (b M : Nat) (A : Option Addr) (n c : Nat) (ys : List DRow) (out : List DescR) (x2 x3 : Value)
theorem learn_any (x : DRow) (d : DescR) (w : World) (hG : K.G w) (h : Kn w b M A n c ys out x2 x3) (hn : n ≤ 60) (hall : ∀ e ∈ out, rightB e = true) (hd : rightB d = true) (hx : Dn w x d) (hx1 : x.n ≤ 1000) (hx2 : x.m ≤ 1000)
    (hA : ∀ ad, x.A = some ad → b < ad.block ∧ (Value.slice A n c).ownBlock ≠ some ad.block) (hB : ∀ ad, x.B = some ad → b < ad.block ∧ (Value.slice A n c).ownBlock ≠ some ad.block) (ht : (textS d).length ≤ 1000000) (B0 : Nat) (hb0 : (∀ ad, x.A = some ad → B0 ≤ ad.block) ∧ (∀ ad, x.B = some ad → B0 ≤ ad.block)) :
    Calls Tryz.prog 73 #[.pointer (some ⟨b, 0, none⟩), .string ⟨(textS d).toArray⟩, .agg x.cells] w (LrnR b M A n c ys B0 (lnL out d) (lnE out d) x2 x3 w) := by
  have hh := has_text hd hall
  have hc := h.cnt
  unfold lnL lnE
  by_cases h1 : d ∈ out
  · rw [decide_eq_true h1] at hh
    rw [if_pos h1, if_neg (by decide)]
    exact (learn_twice b M A n c ys out x2 x3 x (textS d) w hG h ht hh).mono fun e w' ⟨h2, h3⟩ => ⟨h2, ⟨A, n, c, ys, h.ext h3, fun g hg => .inl hg, NewR.refl _ _⟩, ChgU.of_ext h3⟩
  · rw [decide_eq_false h1] at hh
    rw [if_neg h1]
    by_cases h6 : out.length = 60
    · rw [if_pos h6, if_neg (by decide)]
      exact (learn_many b M A n c ys out x2 x3 x (textS d) w hG h (by omega) ht hh).mono fun e w' ⟨h2, h3⟩ => ⟨h2, ⟨A, n, c, ys, h.ext h3, fun g hg => .inl hg, NewR.refl _ _⟩, ChgU.of_ext h3⟩
    · rw [if_neg h6, if_pos rfl]
      refine (learn_new b M A n c ys out x2 x3 x d w hG h (by omega) hx hx1 hx2 hA hB ht hh).mono ?_
      rintro e w' ⟨rfl, ⟨A', c', h2, h3⟩, h4⟩
      exact ⟨⟨_, rfl, K.code_0⟩, ⟨A', n + 1, c', _, h2, h3, fun i y hy => by
        rcases Nat.lt_or_ge i ys.length with hi | hi
        · rw [List.getElem?_append_left hi] at hy; exact .inl hy
        · rw [List.getElem?_append_right hi] at hy
          have hm := List.mem_of_getElem? hy
          obtain rfl : y = x := by simpa using hm
          exact .inr hb0⟩, h4⟩
set_option maxHeartbeats 8000000 in
set_option maxRecDepth 100000 in
theorem take_40a (t : List UInt8) (w : World) (hG : K.G w) (ht : t.length ≤ 100000) (h10 : t.getLast? ≠ some 10) :
    Calls Tryz.prog 58 #[.pointer (some ⟨b, 0, none⟩), .string ⟨t.toArray⟩] w fun e w' => (∃ v, e = .returned v ∧ K.Code v 40) ∧ Ext w w' := by
  obtain ⟨te, pe, g0⟩ := hG.k1
  have CS : ∀ w, Calls Tryz.prog 71 #[.string ⟨t.toArray⟩, .string ⟨#[10]⟩] w fun e w' => e = .returned (.tuple #[.string ⟨(Lib.trimSuffix t [10]).toArray⟩, .bool (Lib.hasSuffix t [10])]) ∧ w' = w := fun w => Tryz.strings_CutSuffix ⟨t.toArray⟩ ⟨#[10]⟩ w (by show t.toArray.size ≤ _; simp; omega)
  rw [suf_eq, decide_eq_false h10] at CS
  have HC := Lib.hid CS
  clear CS hG h10
  go_enter Tryz.func58, Tryz.ntmps58
  go_wp2_with (go_at_call 71; refine (HC.out _).mono ?_; rintro e w1 ⟨rfl, rfl⟩)
  go_ret
  exact ⟨⟨_, rfl, K.code_errW 40 (by decide) _ _⟩, Ext.refl _⟩
set_option maxHeartbeats 8000000 in
set_option maxRecDepth 100000 in
theorem take_40b (t : List UInt8) (w : World) (hG : K.G w) (ht : t.length ≤ 100000) (h10 : t.getLast? = some 10) (hp : parseP t.dropLast = none) :
    Calls Tryz.prog 58 #[.pointer (some ⟨b, 0, none⟩), .string ⟨t.toArray⟩] w fun e w' => (∃ v, e = .returned v ∧ K.Code v 40) ∧ Ext w w' := by
  obtain ⟨te, pe, g0⟩ := hG.k0
  have CS : ∀ w, Calls Tryz.prog 71 #[.string ⟨t.toArray⟩, .string ⟨#[10]⟩] w fun e w' => e = .returned (.tuple #[.string ⟨(Lib.trimSuffix t [10]).toArray⟩, .bool (Lib.hasSuffix t [10])]) ∧ w' = w := fun w => Tryz.strings_CutSuffix ⟨t.toArray⟩ ⟨#[10]⟩ w (by show t.toArray.size ≤ _; simp; omega)
  rw [suf_eq, decide_eq_true h10, trim_eq t h10] at CS
  have HC := Lib.hid CS
  have HP := Lib.hid (dparse_is t.dropLast (by simp; omega) w hG.g)
  have HG := Lib.hid (fun W (hW : Ext w W) => hG.glob (b := 2) (by decide) g0 hW)
  unfold DParseR at HP
  rw [hp] at HP
  clear CS hG h10 hp g0
  go_enter Tryz.func58, Tryz.ntmps58
  go_wp2_with (first | (go_at_call 71; refine (HC.out _).mono ?_; rintro e w1 ⟨rfl, rfl⟩) | (go_at_call 72; refine HP.out.mono ?_; rintro e w2 ⟨rfl, k2⟩; have g5 := HG.out _ (Ext.trans k2 (ext1 _ (.cells #[.int .i64 0, .slice none 0 0, .int .i64 0, .slice none 0 0] 25)))))
  go_ret
  exact ⟨⟨_, rfl, K.code_errW 40 (by decide) _ _⟩, Ext.trans k2 (ext1 _ _)⟩
set_option maxHeartbeats 8000000 in
set_option maxRecDepth 100000 in
theorem take_some (t : List UInt8) (d : DescR) (w : World) (hG : K.G w) (h : Kn w b M A n c ys out x2 x3) (hn : n ≤ 60) (hall : ∀ e ∈ out, rightB e = true) (ht : t.length ≤ 100000) (h10 : t.getLast? = some 10) (hp : parseP t.dropLast = some d) :
    Calls Tryz.prog 58 #[.pointer (some ⟨b, 0, none⟩), .string ⟨t.toArray⟩] w (LrnR b M A n c ys w.heap.size (lnL out d) (lnE out d) x2 x3 w) := by
  have CS : ∀ w, Calls Tryz.prog 71 #[.string ⟨t.toArray⟩, .string ⟨#[10]⟩] w fun e w' => e = .returned (.tuple #[.string ⟨(Lib.trimSuffix t [10]).toArray⟩, .bool (Lib.hasSuffix t [10])]) ∧ w' = w := fun w => Tryz.strings_CutSuffix ⟨t.toArray⟩ ⟨#[10]⟩ w (by show t.toArray.size ≤ _; simp; omega)
  rw [suf_eq, decide_eq_true h10, trim_eq t h10] at CS
  obtain ⟨hd, htx⟩ := parse_some hp
  have hR := right_of hd
  have hl := lens_of hR
  have s1 := hR.s1
  have s2 := hR.e1
  have hdl : t.dropLast.length ≤ 100000 := by simp; omega
  have HC := Lib.hid CS
  have HP := Lib.hid (dparse_is t.dropLast hdl w hG.g)
  unfold DParseR at HP
  rw [hp] at HP
  have HG := Lib.hid (fun W (hW : Ext w W) => hG.ext hW)
  have HS := Lib.hid (And.intro h (And.intro hall (And.intro hd (And.intro (show (textS d).length ≤ 1000000 by rw [htx]; omega) (show d.ptrs.length ≤ 1000 ∧ d.eptrs.length ≤ 1000 by omega)))))
  have hlb := h.blk.lt
  rw [← htx] at HP HC
  clear CS hG h10 hp h hall hd hR hl s1 s2 hdl htx
  go_enter Tryz.func58, Tryz.ntmps58
  go_wp2_with (first | (go_at_call 71; refine (HC.out _).mono ?_; rintro e w1 ⟨rfl, rfl⟩) | (go_at_call 72; refine HP.out.mono ?_; rintro e w2 ⟨A2, c2, B2, c2', rfl, h1, h2, h3, h4, i1, i2, n1, n2, k2⟩; have HH := Lib.hid (And.intro h1 (And.intro h2 (And.intro h3 (And.intro h4 (And.intro i1 (And.intro i2 (And.intro n1 n2))))))); clear h1 h2 h3 h4 i1 i2 n1 n2))
  have bX := Blk.new w2 #[.int .i64 d.size, .slice A2 d.ptrs.length c2, .int .i64 d.elem, .slice B2 d.eptrs.length c2'] 25
  have X3 := Ext.trans k2 (ext1 w2 (.cells #[.int .i64 d.size, .slice A2 d.ptrs.length c2, .int .i64 d.elem, .slice B2 d.eptrs.length c2'] 25))
  have hob : ∀ g, (Value.slice A n c).ownBlock = some g → g < w1.heap.size := fun g hg => (World.ownsRow.lt HS.out.1.own g hg).2
  have hMb := HS.out.1.mb
  have hz2 := k2.size
  have hnx : ¬ Ub b M (.slice A n c) w2.heap.size := by
    rintro (h | h | h)
    · omega
    · omega
    · have := hob _ h; omega
  have RL := Lib.hid (fun W (hW : Ext w1 W) (k : Ext w2 W) => learn_any b M A n c ys out x2 x3 ⟨d.size, A2, d.ptrs.length, c2, d.elem, B2, d.eptrs.length, c2'⟩ d W (HG.out W hW) (HS.out.1.ext hW) hn HS.out.2.1 HS.out.2.2.1
    ⟨rfl, rfl, HH.out.2.2.2.2.1.ext k, HH.out.2.2.2.2.2.1.ext k, HH.out.1, HH.out.2.1, HH.out.2.2.1, HH.out.2.2.2.1⟩ HS.out.2.2.2.2.1 HS.out.2.2.2.2.2
    (fun ad e => ⟨by have := HH.out.2.2.2.2.2.2.1 ad e; omega, fun h => by have := HH.out.2.2.2.2.2.2.1 ad e; have := hob _ h; omega⟩) (fun ad e => ⟨by have := HH.out.2.2.2.2.2.2.2 ad e; omega, fun h => by have := HH.out.2.2.2.2.2.2.2 ad e; have := hob _ h; omega⟩) HS.out.2.2.2.1 w1.heap.size ⟨HH.out.2.2.2.2.2.2.1, HH.out.2.2.2.2.2.2.2⟩)
  letI : F.Free := ⟨Ub b M (.slice A n c)⟩
  refine F.wp_region_XT2 7 6 rfl (by kernel_rfl) (by kernel_rfl) ?_
  intro HDD
  refine F.wpH2_segL HDD 0 5 1 rfl rfl (F.ExtF.refl _) (by kernel_rfl) ?_
  apply Exists.intro
  refine ⟨fun cw => ?_, ?_⟩
  · have q0 := on_cell ((show Blk cw.w w2.heap.size _ _ from (cw.h.block _ bX.lt hnx).trans bX).cell 0)
    have q1 := on_cell ((show Blk cw.w w2.heap.size _ _ from (cw.h.block _ bX.lt hnx).trans bX).cell 1)
    have q2 := on_cell ((show Blk cw.w w2.heap.size _ _ from (cw.h.block _ bX.lt hnx).trans bX).cell 2)
    have q3 := on_cell ((show Blk cw.w w2.heap.size _ _ from (cw.h.block _ bX.lt hnx).trans bX).cell 3)
    simp only [List.take_succ_cons, List.take_zero, List.drop_zero]
    repeat (go_big_quiet_step (fail))
    exact wpQuiet_nil rfl
  refine F.wpH2_stepL 5 0 rfl rfl rfl (by kernel_rfl) ?_
  intro V hV KK hK
  go_simp
  refine (RL.out V (Ext.trans X3 hV) (Ext.trans (ext1 w2 _) hV)).mono ?_
  unfold LrnR
  rintro e V2 ⟨⟨v, rfl, hv⟩, ⟨A', n', c', ys', hk', ho', hn'⟩, hc'⟩
  refine hK.out _ _ ((F.ExtF.of_ext hV).trans ⟨hc'.os, hc'.tape, hc'.output, hc'.size, hc'.block⟩) ?_
  clear hK KK
  refine F.wpH2_end (fun V3 hV3 => ⟨by kernel_rfl, ?_⟩)
  have HF := Lib.hid (And.intro hv (And.intro hk' (And.intro ho' (And.intro hc' (And.intro hV (And.intro hV3 hn'))))))
  simp only [List.drop_succ_cons, List.drop_zero]
  clear HDD hv hk' ho' hc' hV3 hn'
  go_wp2
  go_ret
  refine ⟨⟨_, rfl, HF.out.1⟩, ⟨A', n', c', ys', HF.out.2.1.ext HF.out.2.2.2.2.2.1, fun g hg => ?_, HF.out.2.2.2.2.2.2⟩, ?_⟩
  · rcases HF.out.2.2.1 g hg with h | h
    · exact .inl h
    · exact .inr (by have := (Ext.trans X3 hV).size; omega)
  · exact ((ChgU.of_ext (Ext.trans X3 HF.out.2.2.2.2.1)).trans HF.out.2.2.2.1 (fun _ _ h => h)).ext HF.out.2.2.2.2.2.1
end
theorem take_is (b M : Nat) (A : Option Addr) (n c : Nat) (ys : List DRow) (out : List DescR) (x2 x3 : Value) (t : List UInt8) (w : World) (hG : K.G w) (h : Kn w b M A n c ys out x2 x3) (hn : n ≤ 60) (hall : ∀ e ∈ out, rightB e = true) (ht : t.length ≤ 100000) :
    Calls Tryz.prog 58 #[.pointer (some ⟨b, 0, none⟩), .string ⟨t.toArray⟩] w (LrnR b M A n c ys w.heap.size (if takeE out t = 0 then takeL out t else out) (takeE out t) x2 x3 w) := by
  by_cases h10 : t.getLast? = some 10
  · cases hp : parseP t.dropLast with
    | none =>
      have e : takeE out t = 40 := by unfold takeE; rw [if_pos h10, hp]
      rw [e, if_neg (by decide)]
      exact (take_40b b t w hG ht h10 hp).mono fun e w' ⟨h2, h3⟩ => ⟨h2, ⟨A, n, c, ys, h.ext h3, fun g hg => .inl hg, NewR.refl _ _⟩, ChgU.of_ext h3⟩
    | some d =>
      have e : takeE out t = lnE out d := by unfold takeE lnE; rw [if_pos h10, hp]
      have e2 : takeL out t = out ++ [d] := by unfold takeL; rw [hp]
      rw [e, e2]
      exact take_some b M A n c ys out x2 x3 t d w hG h hn hall ht h10 hp
  · have e : takeE out t = 40 := by unfold takeE; rw [if_neg h10]
    rw [e, if_neg (by decide)]
    exact (take_40a b t w hG ht h10).mono fun e w' ⟨h2, h3⟩ => ⟨h2, ⟨A, n, c, ys, h.ext h3, fun g hg => .inl hg, NewR.refl _ _⟩, ChgU.of_ext h3⟩
end Go.Proofs.YtopgbggighaknaaGreatDoor
