/- Joined texts, in their order: RSame, Few, RPrint, Clone, ROf, AppRow. -/
import Derived.Test.YtopgbggighaknaaGreatDoorM13
import Derived.Test.YtopgbggighaknaaGreatDoorM06
import Derived.Test.YtopgbggighaknaaGreatDoorM03
import Derived.Deep.LoopGhost
import Derived.Test.YtopgbggighaknaaGreatDoorM10
import Derived.Test.YtopgbggighaknaaGreatDoorM05
import Derived.Laws.OwnMore
/- selionref05: Same. -/
namespace Go.Proofs.YtopgbggighaknaaGreatDoor
open Go.RowKit Go
theorem take_eq_step {L L' : List DescR} {k : Nat} {d : DescR} (h : L.take k = L'.take k) (h1 : L[k]? = some d) (h2 : L'[k]? = some d) : L.take (k + 1) = L'.take (k + 1) := by
  rw [List.take_add_one, List.take_add_one, h, h1, h2]
section
set_option maxHeartbeats 4000000 in
set_option maxRecDepth 100000 in
theorem rsame5_is (A A' : Option Addr) (n n' c c' : Nat) (xs xs' : List DRow) (L L' : List DescR) (hn : n ≤ 1000000) (hs : Small xs) (hs' : Small xs') (w : World) (h : Dl w A n xs L) (h' : Dl w A' n' xs' L') :
    Calls Tryz.prog 19 #[.slice A n c, .slice A' n' c'] w fun e w' => e = .returned (.bool (decide (L = L'))) ∧ Ext w w' := by
  by_cases hnn : n = n'
  · subst hnn
    have hb1 : ((n : Int) != (n : Int)) = false := by simp
    have H := Lib.hid (And.intro h (And.intro h' (And.intro hs hs')))
    clear h h' hs hs'
    go_enter Tryz.func19, Tryz.ntmps19
    go_wp2
    go_loopg [5] n (fun m i wr => ∃ k : Nat, k + m = n ∧ i = .int .i64 k ∧ L.take k = L'.take k ∧ Ext w wr)
    case atStart => exact ⟨0, by omega, rfl, rfl, Ext.refl _⟩
    case round =>
      obtain ⟨k, hk, rfl, hf, hE⟩ := hrel
      by_cases hlt : k < n
      · obtain ⟨ad, x, d, rfl, hb, hx, hd, hdn, e0, e1, e2, e3⟩ := (H.out.1.ext hE).at_ hlt
        obtain ⟨ad', x', d', rfl, hb', hx', hd', hdn', e0', e1', e2', e3'⟩ := (H.out.2.1.ext hE).at_ hlt
        have hsm := H.out.2.2.1 k x hx
        have hsm' := H.out.2.2.2 k x' hx'
        have RS := Lib.hid (fun W (hW : Ext wr W) => same_is x.A x.B x.n x.m x.c x.e x.s x.t d.ptrs d.eptrs (by omega) (by omega) x'.A x'.B x'.n x'.m x'.c x'.e x'.s x'.t d'.ptrs d'.eptrs W (hdn.p.ext hW) (hdn.q.ext hW) (hdn'.p.ext hW) (hdn'.q.ext hW))
        rw [hdn.eq, hdn'.eq] at RS
        have h5 : (k : Int) < n := by omega
        have h6 : (k : Int) + 1 ≤ 1000000 := by omega
        have a0 := on_cell e0
        have a1 := on_cell e1
        have a2 := on_cell e2
        have a3 := on_cell e3
        have b0 := on_cell e0'
        have b1 := on_cell e1'
        have b2 := on_cell e2'
        have b3 := on_cell e3'
        have HK := Lib.hid (And.intro hk (And.intro hE (And.intro hf (And.intro hd hd'))))
        clear hk hE hf hd hd' hsm hsm' hdn hdn' hx hx' hb hb'
        by_cases hdD : d = d'
        · have HN := Lib.hid (take_eq_step HK.out.2.2.1 HK.out.2.2.2.1 (hdD ▸ HK.out.2.2.2.2))
          rw [decide_eq_true hdD] at RS
          clear hdD
          go_wp2
          refine wp_region_on (by kernel_rfl) (by kernel_rfl) ?_
          repeat (go_big_quiet_step (first | (go_at_call 20; with_reducible exact on_call (fun W hW => RS.out W hW) _)))
          refine wpQuiet_nil ?_
          intro W hW
          go_wp2
          go_roundg (gk - 1)
          case measure => have := HK.out.1; omega
          case rel => exact ⟨k + 1, by have := HK.out.1; omega, by go_num, HN.out, Ext.trans HK.out.2.1 hW⟩
        · have HN := Lib.hid (show false = decide (L = L') by
            rw [decide_eq_false]
            intro e
            have h1 := HK.out.2.2.2.1
            rw [e, HK.out.2.2.2.2] at h1
            exact hdD (Option.some.inj h1).symm)
          rw [decide_eq_false hdD] at RS
          clear hdD
          go_wp2
          refine wp_region_on (by kernel_rfl) (by kernel_rfl) ?_
          repeat (go_big_quiet_step (first | (go_at_call 20; with_reducible exact on_call (fun W hW => RS.out W hW) _)))
          refine wpQuiet_nil ?_
          intro W hW
          go_wp2
          go_ret
          exact ⟨rb HN.out, Ext.trans HK.out.2.1 hW⟩
      · obtain rfl : k = n := by omega
        have h5 : ¬ (k : Int) < k := by omega
        rw [List.take_of_length_le (by rw [H.out.1.2.1]; exact Nat.le_refl _), List.take_of_length_le (by rw [H.out.2.1.2.1]; exact Nat.le_refl _)] at hf
        have HN := Lib.hid (show true = decide (L = L') by rw [decide_eq_true hf])
        have HX := Lib.hid hE
        clear hE hf hk
        go_wp2
        go_ret
        exact ⟨rb HN.out, HX.out⟩
  · have hb1 : ((n : Int) != (n' : Int)) = true := by rw [bne_iff_ne]; omega
    have HN := Lib.hid (show false = decide (L = L') by rw [decide_eq_false (fun e => hnn (by rw [← h.2.1, ← h'.2.1, e]))])
    clear h h' hs hs'
    go_enter Tryz.func19, Tryz.ntmps19
    go_wp2
    go_ret
    exact ⟨rb HN.out, Ext.refl _⟩
end
end Go.Proofs.YtopgbggighaknaaGreatDoor
/- selionlaw05: Few: the first sixty-two descriptors, cut. -/
namespace Go.Proofs.YtopgbggighaknaaGreatDoor
open Go.RowKit Go
def cutX (x : DRow) : DRow := { x with n := min x.n 20, m := min x.m 20 }
def cutD (d : DescR) : DescR := { d with ptrs := d.ptrs.take 20, eptrs := d.eptrs.take 20 }
def fewD (L : List DescR) : List DescR := (L.take 62).map cutD
theorem Il.take {w : World} {A : Option Addr} {n : Nat} {l : List Int} (h : Il w A n l) (k : Nat) : Il w A (min n k) (l.take k) := by
  refine ⟨by rw [List.length_take, h.1]; omega, fun hn => ?_⟩
  obtain ⟨ad, e, hb, hc⟩ := h.2 (by omega)
  refine ⟨ad, e, hb, fun j hj => ?_⟩
  rw [hc j (by omega)]
  have h2 : j < k := by omega
  simp [List.getD_eq_getElem?_getD, h2]
theorem Dn.cut {W : World} {x : DRow} {d : DescR} (h : Dn W x d) : Dn W (cutX x) (cutD d) :=
  ⟨h.s, h.t, h.p.take 20, h.q.take 20, Nat.le_trans (Nat.min_le_left _ _) h.pc, Nat.le_trans (Nat.min_le_left _ _) h.qc, h.pm, h.qm⟩
theorem Dz.cut {x : DRow} (h : Dz x) : Dz (cutX x) :=
  ⟨fun e => ⟨by have := (h.1 e).1; show min x.n 20 = 0; omega, (h.1 e).2⟩, fun e => ⟨by have := (h.2 e).1; show min x.m 20 = 0; omega, (h.2 e).2⟩⟩
theorem ownN_ext {w w' : World} {base : Nat} {e : TypeId} {size : Nat} {v : Value} {n : Nat} {xs : List Value} (h : w.ownsRow base e size v n xs) (k : Ext w w') : w'.ownsRow base e size v n xs := by
  obtain ⟨hl, h⟩ := h
  refine ⟨hl, ?_⟩
  rcases h with ⟨rfl, rfl⟩ | ⟨g, cap, cur, rfl, hb, hg, hn, hm, hs, ht⟩
  · exact .inl ⟨rfl, rfl⟩
  · exact .inr ⟨g, cap, cur, rfl, hb, (k.block g (Array.getElem?_eq_some_iff.1 hg).1).trans hg, hn, hm, hs, ht⟩
theorem ownN_block {w : World} {base : Nat} {e : TypeId} {size : Nat} {v : Value} {n : Nat} {xs : List Value} (h : w.ownsRow base e size v n xs) : ∀ g, v.ownBlock = some g → base ≤ g := by
  intro g hg
  rcases h.2 with ⟨rfl, rfl⟩ | ⟨g', cap, cur, rfl, hb, _⟩
  · cases hg
  · simp [Value.ownBlock] at hg; omega
theorem new_cells1 (w : World) (cs : Array Value) (t : TypeId) (j : Nat) (u : Value) (h : cs[j]? = some u) : (w.alloc (.cells cs t)).cell? ((⟨w.heap.size, 0, none⟩ : Addr).add j) = some u := by
  have e : (⟨w.heap.size, 0, none⟩ : Addr).add j = ⟨w.heap.size, j, none⟩ := by unfold Addr.add; by_cases h0 : j = 0 <;> simp [h0]
  rw [e, (Blk.new w cs t).cell, h]
theorem row_one (x : DRow) : ∀ u ∈ x.cells.toList, u.oneCell' = true := by
  intro u hu
  simp [DRow.cells] at hu
  rcases hu with rfl | rfl | rfl | rfl <;> rfl
theorem info_desc : ∃ i, Tryz.prog.info? 25 = some i ∧ i.zero = some (.agg #[.int .i64 0, .slice none 0 0, .int .i64 0, .slice none 0 0]) ∧ i.size = 4 ∧ i.bytes = 64 := by
  have h : (Tryz.prog.info? 25).map (fun i => (i.zero, i.size, i.bytes)) = some (some (.agg #[.int .i64 0, .slice none 0 0, .int .i64 0, .slice none 0 0]), 4, 64) := by kernel_rfl
  obtain ⟨i, hi, hh⟩ := Option.map_eq_some_iff.1 h
  simp only [Prod.mk.injEq] at hh
  exact ⟨i, hi, hh.1, hh.2.1, hh.2.2⟩
/-- An own row of m descriptors. -/
def RowP (w : World) (m : Nat) (L : List DescR) (e : Ending) (w' : World) : Prop := ∃ A' c' xs', e = .returned (.slice A' m c') ∧ m ≤ c' ∧ Dl w' A' m xs' L ∧ Small xs' ∧ Zs xs' ∧ Ext w w'
theorem small_cut (xs : List DRow) : Small (xs.map cutX) := fun i x hx => by
  rw [List.getElem?_map] at hx
  obtain ⟨y, _, rfl⟩ := Option.map_eq_some_iff.1 hx
  show min y.n 20 ≤ 1000 ∧ min y.m 20 ≤ 1000
  omega
section
set_option maxHeartbeats 4000000 in
set_option maxRecDepth 100000 in
theorem few_is (A : Option Addr) (n c : Nat) (xs : List DRow) (L : List DescR) (w : World) (h : Dl w A n xs L) (hz : Zs xs) :
    Calls Tryz.prog 9 #[.slice A n c] w (RowP w (min n 62) (fewD L)) := by
  obtain ⟨i0, hi0⟩ := info_desc
  have HI := Lib.hid hi0
  clear hi0
  have HO := Lib.hid h
  have HZ := Lib.hid hz
  clear h hz
  go_enter Tryz.func9, Tryz.ntmps9
  go_wp2
  go_loopg [3, 4] (min n 62) (fun m v i wr => ∃ k : Nat, k + m = min n 62 ∧ i = .int .i64 k ∧ Ext w wr ∧ wr.ownsRow w.heap.size 25 4 v k (flatD ((xs.take k).map cutX)))
  case atStart => exact ⟨0, by omega, rfl, Ext.refl _, rfl, .inl ⟨rfl, rfl⟩⟩
  case round =>
    obtain ⟨k, hk, rfl, hE, hown⟩ := hrel
    by_cases hlt : k < min n 62
    · obtain ⟨ad, x, d, rfl, hb, hx, hd, hdn, e0, e1, e2, e3⟩ := (HO.out.ext hE).at_ (show k < n by omega)
      have RC := Lib.hid (fun W => cutd_is x.A x.B x.n x.m x.c x.e x.s x.t (HZ.out k x hx).1 (HZ.out k x hx).2 hdn.pc hdn.qc hdn.pm hdn.qm W)
      have h1 : (k : Int) < n := by omega
      have h2 : (k : Int) < 62 := by omega
      have HH := Lib.hid (And.intro hE (And.intro hown (And.intro hx hk)))
      clear hE hown hx hk hd hdn hb hlt
      go_wp2_with (first | (go_at_call 10; refine (RC.out _).mono ?_; rintro e w2 ⟨rfl, k2⟩) | (at_builtin; go_loud (refine wpList_append_own _ rfl _ _ 22 rfl w.heap.size 25 i0 (.agg #[.int .i64 0, .slice none 0 0, .int .i64 0, .slice none 0 0]) 4 64 Tryz.underlying22 HI.out.1 HI.out.2.1 HI.out.2.2.1 HI.out.2.2.2 rfl (by decide) _ _ _ rfl (ownN_ext HH.out.2.1 (Ext.trans k2 (ext1 _ _))) ⟨w2.heap.size, 0, none⟩ 1 1 (cutX x).cells.toList rfl rfl (fun j u hj => new_cells1 _ _ _ j u (by simpa [cutX, DRow.cells] using hj)) (row_one _) (by have := HH.out.2.2.2; unfold maxLen; omega) (by have := HH.out.2.2.2; omega) (by have := HH.out.1.size; have := k2.size; simp; omega) ?_; intro v' w3 hown3 hgrow _)))
      go_roundg (gk - 1)
      case measure => have := HH.out.2.2.2; omega
      case rel =>
        refine ⟨k + 1, by have := HH.out.2.2.2; omega, by go_num, ?_, ?_⟩
        · exact Below.grown (Ext.trans HH.out.1 (Ext.trans k2 (ext1 _ _))) hgrow (by have := HH.out.1.size; have := k2.size; simp; omega) (fun g hg => ownN_block HH.out.2.1 g hg)
        · rw [List.take_add_one, HH.out.2.2.1]
          simp only [Option.toList_some, List.map_append, List.map_cons, List.map_nil, flatD_snoc]
          exact hown3
    · obtain rfl : k = min n 62 := by omega
      have hX : List.take (min n 62) xs = List.take 62 xs := by
        rcases Nat.le_total n 62 with h | h
        · rw [Nat.min_eq_left h, List.take_of_length_le (by rw [HO.out.1.1]; exact Nat.le_refl _), List.take_of_length_le (by rw [HO.out.1.1]; exact h)]
        · rw [Nat.min_eq_right h]
      rw [hX] at hown
      obtain ⟨A', c', rfl, hmc, hrow, hbk⟩ := rows_of_own hown (by rw [List.length_map, List.length_take, HO.out.1.1]; omega)
      have hdl : Dl wr A' (min n 62) ((xs.take 62).map cutX) (fewD L) := ⟨hrow, by rw [fewD, List.length_map, List.length_take, HO.out.2.1]; omega, fun i x d h1 h2 => by
        rw [fewD] at h2
        rw [List.getElem?_map] at h1 h2
        obtain ⟨x0, g1, rfl⟩ := Option.map_eq_some_iff.1 h1
        obtain ⟨d0, g2, rfl⟩ := Option.map_eq_some_iff.1 h2
        rw [List.getElem?_take] at g1 g2
        split at g1
        · rename_i hi
          rw [if_pos hi] at g2
          exact ((HO.out.2.2 i x0 d0 g1 g2).ext hE).cut
        · cases g1⟩
      have hzs : Zs ((xs.take 62).map cutX) := fun i x hx => by
        rw [List.getElem?_map] at hx
        obtain ⟨y, g1, rfl⟩ := Option.map_eq_some_iff.1 hx
        rw [List.getElem?_take] at g1
        split at g1
        · exact (HZ.out i y g1).cut
        · cases g1
      have HH := Lib.hid (And.intro hmc (And.intro hdl (And.intro (small_cut (xs.take 62)) (And.intro hzs hE))))
      clear hE hrow hbk hown hX hk hdl hmc hzs
      generalize hK : min n 62 = K at *
      by_cases h1 : n ≤ 62
      · have h3 : K = n := by omega
        have h2 : ¬ (K : Int) < n := by omega
        have h4 := Lib.hid hK
        clear hK h1 h3
        go_wp2
        go_ret
        exact ⟨A', c', _, rfl, HH.out.1, HH.out.2.1, HH.out.2.2.1, HH.out.2.2.2.1, HH.out.2.2.2.2⟩
      · have h3 : K = 62 := by omega
        have h2 : (K : Int) < n := by omega
        have h5 : ¬ (K : Int) < 62 := by omega
        have h4 := Lib.hid hK
        clear hK h1 h3
        go_wp2
        go_ret
        exact ⟨A', c', _, rfl, HH.out.1, HH.out.2.1, HH.out.2.2.1, HH.out.2.2.2.1, HH.out.2.2.2.2⟩
end
end Go.Proofs.YtopgbggighaknaaGreatDoor
/- selionref05: Print. -/
namespace Go.Proofs.YtopgbggighaknaaGreatDoor
open Go.RowKit Go
def textKV (L : List DescR) : List UInt8 := if rightK L then textK L else []
def textKE (L : List DescR) : Int := if rightK L then 0 else 50
theorem textS_len (d : DescR) (hr : rightB d = true) (hp : d.ptrs.length ≤ 1000) (hq : d.eptrs.length ≤ 1000) : (textS d).length ≤ 20000 := by
  have hR := right_of hr
  have h1 := preT_len d.size.toNat d.ptrs (by have := hR.s0; have := hR.s1; omega) (fun x hx => by have := hR.pp x hx; have h2 : x < d.size := this.2.1; have := hR.s1; omega) d.ptrs.length
  have h2 := preT_len d.elem.toNat d.eptrs (by have := hR.e0; have := hR.e1; omega) (fun x hx => by have := hR.qq x hx; have h2 : x < d.elem := this.2.1; have := hR.e1; omega) d.eptrs.length
  rw [preT_end _ _ _ (Nat.le_refl _)] at h1 h2
  rw [textS, List.length_append, List.length_cons, List.length_cons]
  omega
theorem textK_len : ∀ (L : List DescR), (∀ d ∈ L, (textS d).length ≤ 20000) → (textK L).length ≤ 20001 * L.length
  | [], _ => by simp [textK]
  | d :: L, h => by
    have h1 := h d (by simp)
    have h2 := textK_len L (fun x hx => h x (by simp [hx]))
    have e : textK (d :: L) = textS d ++ [10] ++ textK L := by simp [textK]
    rw [e]
    simp only [List.length_append, List.length_cons, List.length_nil]
    omega
theorem textK_step (L : List DescR) (k : Nat) (d : DescR) (hd : L[k]? = some d) : textK (L.take (k + 1)) = textK (L.take k) ++ textS d ++ [10] := by
  rw [List.take_add_one, hd]
  simp [textK]
section
set_option maxHeartbeats 4000000 in
set_option maxRecDepth 100000 in
theorem rprint5_is (A : Option Addr) (n c : Nat) (xs : List DRow) (L : List DescR) (hn : n ≤ 1000) (hc : n ≤ c) (hs : Small xs) (w : World) (h : Dl w A n xs L) :
    Calls Tryz.prog 23 #[.slice A n c] w fun e w' => e = .returned (.tuple #[.string ⟨(textKV L).toArray⟩, .int .i64 (textKE L)]) ∧ Ext w w' := by
  have R := Lib.hid (rright5_is A n c xs L (by omega) hc hs w h)
  have H := Lib.hid (And.intro h hs)
  clear h hs
  by_cases hr : rightK L = true
  · have hall := ((rightK_iff L).1 hr).1
    have hlen : ∀ k, (textK (L.take k)).length ≤ 20001 * 1000 := fun k => by
      have h1 := textK_len (L.take k) (fun d hd => by
        obtain ⟨i, hi⟩ := List.getElem?_of_mem (List.mem_of_mem_take hd)
        have hil : i < n := by
          rw [← H.out.1.2.1]
          exact (List.getElem?_eq_some_iff.1 hi).1
        obtain ⟨ad, x, d', _, _, hx, hd', hdn, _⟩ := H.out.1.at_ hil
        obtain rfl : d' = d := Option.some.inj (hd'.symm.trans hi)
        have hsm := H.out.2 i x hx
        exact textS_len d' (hall d' (List.mem_of_getElem? hi)) (by rw [hdn.p.1]; exact hsm.1) (by rw [hdn.q.1]; exact hsm.2))
      have h2 : (L.take k).length ≤ 1000 := by rw [List.length_take, H.out.1.2.1]; omega
      have h3 := Nat.mul_le_mul_left 20001 h2
      omega
    have HL := Lib.hid (And.intro hall hlen)
    have HV := Lib.hid (show Value.tuple #[.string ⟨(textK L).toArray⟩, .int .i64 0] = .tuple #[.string ⟨(textKV L).toArray⟩, .int .i64 (textKE L)] by rw [textKV, textKE, if_pos hr, if_pos hr])
    rw [hr] at R
    clear hall hlen hr
    go_enter Tryz.func23, Tryz.ntmps23
    go_wp2_with (go_at_call 18; refine R.out.mono ?_; rintro e w1 ⟨rfl, k1⟩)
    go_loopg [4, 5, 6, 7] n (fun m s i u v wr => ∃ k : Nat, k + m = n ∧ i = .int .i64 k ∧ s = .string ⟨(textK (L.take k)).toArray⟩ ∧ Ext w wr)
    case atStart => exact ⟨0, by omega, rfl, rfl, k1⟩
    case round =>
      obtain ⟨k, hk, rfl, rfl, hE⟩ := hrel
      by_cases hlt : k < n
      · obtain ⟨ad, x, d, rfl, hb, hx, hd, hdn, e0, e1, e2, e3⟩ := (H.out.1.ext hE).at_ hlt
        have hsm := H.out.2 k x hx
        have hrd := HL.out.1 d (List.mem_of_getElem? hd)
        have RP := Lib.hid (print_is x.A x.B x.n x.m x.c x.e x.s x.t d.ptrs d.eptrs hsm.1 hsm.2 wr hdn.p hdn.q)
        rw [hdn.eq, textV, textE, if_pos hrd, if_pos hrd] at RP
        simp only [sv] at RP
        have h5 : (k : Int) < n := by omega
        have h6 : (k : Int) + 1 ≤ 1000000 := by omega
        have z1 : (⟨(textK (L.take k)).toArray⟩ : ByteArray).size ≤ 20001000 := by show (textK (L.take k)).toArray.size ≤ _; have := HL.out.2 k; simp; omega
        have z2 : (⟨(textS d).toArray⟩ : ByteArray).size ≤ 20000 := by
          show (textS d).toArray.size ≤ _
          have := textS_len d hrd (by rw [hdn.p.1]; exact hsm.1) (by rw [hdn.q.1]; exact hsm.2)
          simpa using this
        have HN := Lib.hid (show Value.string (⟨(textK (L.take k)).toArray⟩ ++ ⟨(textS d).toArray⟩ ++ ⟨#[10]⟩) = .string ⟨(textK (L.take (k + 1))).toArray⟩ by
          rw [show ByteArray.mk #[10] = ⟨[10].toArray⟩ from rfl, cat_sv, cat_sv, textK_step L k d hd])
        have HK := Lib.hid (And.intro hk hE)
        clear hk hE hx hd hdn hsm hrd hb
        generalize (⟨(textK (L.take k)).toArray⟩ : ByteArray) = X at *
        generalize (⟨(textS d).toArray⟩ : ByteArray) = Y at *
        have z3 : (X ++ Y).size ≤ 20021000 := by rw [ByteArray.size_append]; omega
        go_wp2_with (go_at_call 43; refine RP.out.mono ?_; rintro e w2 ⟨rfl, k2⟩)
        go_roundg (gk - 1)
        case measure => have := HK.out.1; omega
        case rel => exact ⟨k + 1, by have := HK.out.1; omega, by go_num, HN.out, Ext.trans HK.out.2 k2⟩
      · obtain rfl : k = n := by omega
        have h5 : ¬ (k : Int) < k := by omega
        rw [List.take_of_length_le (by rw [H.out.1.2.1]; exact Nat.le_refl _)]
        have HX := Lib.hid hE
        clear hE hk
        go_wp2
        go_ret2
        exact ⟨ret_val HV.out, HX.out⟩
  · have hr' : rightK L = false := by simpa using hr
    have HV := Lib.hid (show Value.tuple #[.string ⟨#[]⟩, .int .i64 50] = .tuple #[.string ⟨(textKV L).toArray⟩, .int .i64 (textKE L)] by rw [textKV, textKE, if_neg hr, if_neg hr])
    rw [hr'] at R
    clear hr hr'
    go_enter Tryz.func23, Tryz.ntmps23
    go_wp2_with (go_at_call 18; refine R.out.mono ?_; rintro e w1 ⟨rfl, k1⟩)
    go_ret2
    exact ⟨ret_val HV.out, k1⟩
end
end Go.Proofs.YtopgbggighaknaaGreatDoor
/- selionref05: clone: a descriptor of its own. -/
namespace Go.Proofs.YtopgbggighaknaaGreatDoor
open Go.RowKit Go
theorem own_parts {w : World} {base : Nat} {l : List Int} {n : Nat} {v : Value} (h : w.ownsRow base 3 1 v n (encZ l)) (hl : l.length = n) : ∃ A c, v = .slice A n c ∧ Il w A n l ∧ n ≤ c ∧ c ≤ 9223372036854775807 ∧ (A = none → n = 0 ∧ c = 0) ∧ ∀ ad, A = some ad → base ≤ ad.block := by
  subst hl
  obtain ⟨A, c, rfl, hi⟩ := il_of_own h (Ext.refl w)
  refine ⟨A, c, rfl, hi, ?_⟩
  rcases h.2 with ⟨e, e2⟩ | ⟨g, cap, cur, e, hb, hg, hn, hm, hs, ht⟩
  · simp only [Value.slice.injEq] at e
    obtain ⟨rfl, hl0, rfl⟩ := e
    exact ⟨by omega, by decide, fun _ => ⟨hl0, rfl⟩, fun _ h => (by cases h)⟩
  · simp only [Value.slice.injEq] at e
    obtain ⟨rfl, _, rfl⟩ := e
    exact ⟨hn, by simpa [maxLen] using hm, fun h => (by cases h), fun ad h => by cases h; exact hb⟩
theorem one_int (l : List Int) : ∀ u ∈ encZ l, u.oneCell' = true := by
  intro u hu
  obtain ⟨z, _, rfl⟩ := List.mem_map.1 hu
  rfl
/-- append([]int(nil), x...). -/
theorem app_ints {o : Oper} {a : Act} {V : World} {K : Act → World → Prop} {Q : Exit → Act → World → Prop} (x : Operand) (ho : o.op = .call { callee := .builtin .append, args := #[.const (.slice none 0 0), x], argTypes := #[23, 23] })
    (A : Option Addr) (n c : Nat) (l : List Int) (hx : a.eval x = .slice A n c) (hn : n ≤ 1000000) (hz : A = none → n = 0 ∧ c = 0) (hI : Il V A n l)
    (h : ∀ A' c' V', Il V' A' n l → n ≤ c' → c' ≤ 9223372036854775807 → (A' = none → n = 0 ∧ c' = 0) → (∀ ad, A' = some ad → V.heap.size ≤ ad.block) → Ext V V' → K (a.put o.dst (.slice A' n c')) V') : o.wp Tryz.prog a V K Q := by
  obtain ⟨i0, hi, hz0⟩ := Option.map_eq_some_iff.1 infoZ
  simp only [Prod.mk.injEq] at hz0
  obtain ⟨z1, z2, z3⟩ := hz0
  rcases A with _ | ad
  · obtain ⟨rfl, rfl⟩ := hz rfl
    have hrun := run_append_owned_none (P := Tryz.prog) (w := V) V.heap.size 23 o.type 3 i0 1 Tryz.underlying23 hi (.slice none 0 0) 0 [] ⟨rfl, .inl ⟨rfl, rfl⟩⟩
    have hs : a.eval (.const (.slice none 0 0)) = .slice none 0 0 := rfl
    unfold Oper.wp
    simp [execOp, ho, resolve, invoke, builtin, hs, hx, hrun, Result.andThen]
    exact h none 0 V hI (Nat.le_refl _) (by decide) (fun _ => ⟨rfl, rfl⟩) (fun _ h => (by cases h)) (Ext.refl _)
  · refine wp_append_own V (.const (.slice none 0 0)) x 23 ho V.heap.size 3 i0 (.int .i64 0) 1 8 Tryz.underlying23 hi z1 z2 z3 rfl (by decide) (.slice none 0 0) 0 [] rfl ⟨rfl, .inl ⟨rfl, rfl⟩⟩ ad n c (encZ l) hx (by simp [encZ, hI.1]) (fun j u hj => ?_) (one_int l) (by unfold maxLen; omega) (by omega) (Nat.le_refl _) ?_
    · have hjn : j < l.length := by
        have := (List.getElem?_eq_some_iff.1 hj).1
        simpa [encZ] using this
      obtain ⟨ad', e, _, hc⟩ := hI.2 (by have := hI.1; omega)
      cases e
      rw [hc j (by rw [← hI.1]; exact hjn)]
      simp [encZ, hjn] at hj
      rw [← hj]
      show some (Value.int .i64 (l.getD j 0)) = _
      rw [List.getD_eq_getElem?_getD, List.getElem?_eq_getElem hjn]; rfl
    · intro v' w' hown hgrow _
      rw [Nat.zero_add, List.nil_append] at hown
      obtain ⟨A', c', rfl, hi', p1, p2, p3, p4⟩ := own_parts hown hI.1
      exact h A' c' w' hi' p1 p2 p3 p4 (Below.grown (Ext.refl V) hgrow (Nat.le_refl _) (fun g hg => by cases hg))
theorem Il.other' {w : World} {A : Option Addr} {n : Nat} {l : List Int} (h : Il w A n l) (p : Addr) (v : Value) (hne : ∀ ad, A = some ad → ad.block ≠ p.block) : Il (w.setCell p v) A n l :=
  ⟨h.1, h.2.keep (by simp) (fun ad e hb => Below.heap_setCell _ _ _ _ (hne ad e))⟩
theorem clone_store {w w2 : World} {R : Nat} {x0 x1 x2 x3 u0 u1 u2 u3 : Value} {t : TypeId} (hB : Blk w2 R #[x0, x1, x2, x3] t) (hE : Ext w w2) (hR : w.heap.size ≤ R) :
    let W := (((w2.setCell ⟨R, 0, none⟩ u0).setCell ⟨R, 1, none⟩ u1).setCell ⟨R, 2, none⟩ u2).setCell ⟨R, 3, none⟩ u3
    W.cell? ⟨R, 0, none⟩ = some u0 ∧ W.cell? ⟨R, 1, none⟩ = some u1 ∧ W.cell? ⟨R, 2, none⟩ = some u2 ∧ W.cell? ⟨R, 3, none⟩ = some u3 ∧ Ext w W := by
  have h3 := (((hB.set 0 u0).set 1 u1).set 2 u2).set 3 u3
  simp only [List.setIfInBounds_toArray, List.set_cons_zero, List.set_cons_succ] at h3
  exact ⟨by rw [h3.cell]; rfl, by rw [h3.cell]; rfl, by rw [h3.cell]; rfl, by rw [h3.cell]; rfl, (((hE.setCell (p := ⟨R, 0, none⟩) hR _).setCell (p := ⟨R, 1, none⟩) hR _).setCell (p := ⟨R, 2, none⟩) hR _).setCell (p := ⟨R, 3, none⟩) hR _⟩
/-- What clone answers. -/
def CloneR (w : World) (x : DRow) (d : DescR) (e : Ending) (w' : World) : Prop := ∃ y : DRow, e = .returned (.agg y.cells) ∧ (Dn w' y d ∧ Dz y) ∧ y.n = x.n ∧ y.m = x.m ∧ (∀ ad, y.A = some ad → w.heap.size ≤ ad.block) ∧ (∀ ad, y.B = some ad → w.heap.size ≤ ad.block) ∧ Ext w w'
section
set_option maxHeartbeats 8000000 in
set_option maxRecDepth 100000 in
theorem clone_is (x : DRow) (d : DescR) (h1 : x.n ≤ 1000000) (h2 : x.m ≤ 1000000) (hz : Dz x) (w : World) (h : Dn w x d) :
    Calls Tryz.prog 36 #[.agg x.cells] w (CloneR w x d) := by
  have E2 := ext2 w (.cells x.cells 25) (.cells #[.int .i64 0, .slice none 0 0, .int .i64 0, .slice none 0 0] 25)
  have H := Lib.hid (And.intro h (And.intro h1 (And.intro h2 E2)))
  have HZ := Lib.hid hz
  have HB := Lib.hid ((Blk.new w x.cells 25).alloc (.cells #[.int .i64 0, .slice none 0 0, .int .i64 0, .slice none 0 0] 25))
  have HR := Lib.hid (at_new2 (Ext.refl ((w.alloc (.cells x.cells 25)).alloc (.cells #[.int .i64 0, .slice none 0 0, .int .i64 0, .slice none 0 0] 25))))
  clear h h1 h2 E2 hz
  obtain ⟨s, A, n, c, t, B, m, e⟩ := x
  simp only [DRow.cells] at HB HR H ⊢
  go_enter Tryz.func36, Tryz.ntmps36
  go_wp2
  refine wp_region_XT2 12 10 rfl (by kernel_rfl) (by kernel_rfl) ?_
  intro HD
  refine wpH2_segL HD 0 4 6 rfl rfl (Ext.refl _) (by kernel_rfl) ?_
  apply Exists.intro
  refine ⟨fun cw => ?_, ?_⟩
  · have p0 := on_cell ((HB.out.ext cw.h).cell 0)
    have p1 := on_cell ((HB.out.ext cw.h).cell 1)
    have p2 := on_cell ((HB.out.ext cw.h).cell 2)
    have p3 := on_cell ((HB.out.ext cw.h).cell 3)
    simp only [List.take_succ_cons, List.take_zero, List.drop_zero]
    repeat (go_big_quiet_step (fail))
    exact wpQuiet_nil rfl
  refine wpH2_segL HD 5 4 2 rfl rfl (Ext.refl _) (by kernel_rfl) ?_
  apply Exists.intro
  refine ⟨fun cw => ?_, ?_⟩
  · have p0 := on_cell ((HB.out.ext cw.h).cell 0)
    have p1 := on_cell ((HB.out.ext cw.h).cell 1)
    have p2 := on_cell ((HB.out.ext cw.h).cell 2)
    have p3 := on_cell ((HB.out.ext cw.h).cell 3)
    simp only [List.take_succ_cons, List.take_zero, List.drop_succ_cons, List.drop_zero]
    repeat (go_big_quiet_step (fail))
    exact wpQuiet_nil rfl
  refine wpH2_stepL 4 1 rfl rfl rfl (by kernel_rfl) ?_
  intro V hV K hK
  rw [if_pos (show Region.wanted _ _ = true from rfl)]
  refine app_ints (.tmp 6) ?_ A n c d.ptrs ?_ H.out.2.1 HZ.out.1 (H.out.1.p.ext (Ext.trans H.out.2.2.2 hV)) ?_
  · rfl
  · rfl
  intro A' c' V2 i1 p1 p2 p3 p4 k2
  have X2 := Ext.trans hV k2
  refine hK.out _ _ X2 ?_
  clear hK K
  refine wpH2_stepL 9 0 rfl rfl rfl (by kernel_rfl) ?_
  intro V3 hV3 K hK
  rw [if_pos (show Region.wanted _ _ = true from rfl)]
  refine app_ints (.tmp 11) ?_ B m e d.eptrs ?_ H.out.2.2.1 HZ.out.2 (H.out.1.q.ext (Ext.trans H.out.2.2.2 (Ext.trans X2 hV3))) ?_
  · rfl
  · rfl
  intro B' e' V4 i2 r1 r2 r3 r4 k4
  have X4 := Ext.trans X2 (Ext.trans hV3 k4)
  refine hK.out _ _ X4 ?_
  clear hK K
  refine wpH2_end (fun V5 hV5 => ⟨by kernel_rfl, ?_⟩)
  have bR := HR.out.ext (Ext.trans X4 hV5)
  have hsz : w.heap.size + 1 < V.heap.size := by have := hV.size; simp at this; omega
  have hsz2 := hV3.size
  have hsz3 := k2.size
  have nA : ∀ ad, A' = some ad → ad.block ≠ w.heap.size + 1 := fun ad e => by have := p4 ad e; omega
  have nB : ∀ ad, B' = some ad → ad.block ≠ w.heap.size + 1 := fun ad e => by have := r4 ad e; omega
  have mA : ∀ ad, A' = some ad → w.heap.size ≤ ad.block := fun ad e => by have := p4 ad e; omega
  have mB : ∀ ad, B' = some ad → w.heap.size ≤ ad.block := fun ad e => by have := r4 ad e; omega
  have HM := Lib.hid (And.intro mA mB)
  have hEw := Ext.trans H.out.2.2.2 (Ext.trans X4 hV5)
  have j1 := i1.ext (Ext.trans hV3 (Ext.trans k4 hV5))
  have j2 := i2.ext hV5
  have GG := Lib.hid (And.intro bR (And.intro hEw (And.intro j1 (And.intro j2 (And.intro nA nB)))))
  have HP := Lib.hid (And.intro p1 (And.intro p2 (And.intro p3 (And.intro r1 (And.intro r2 r3)))))
  have q0 := bR.cell 0
  have q1 := bR.cell 1
  have q2 := bR.cell 2
  have q3 := bR.cell 3
  have f0 := bR.frozen 0
  have f1 := bR.frozen 1
  have f2 := bR.frozen 2
  have f3 := bR.frozen 3
  simp only [List.getElem?_toArray, List.getElem?_cons_zero, List.getElem?_cons_succ] at q0 q1 q2 q3
  clear bR hsz hsz2 hsz3 nA nB mA mB hEw j1 j2 i1 i2 p1 p2 p3 p4 r1 r2 r3 r4 k2 k4 X2 X4 hV hV3 hV5 HD
  simp only [List.drop_succ_cons, List.drop_zero]
  go_wp2
  obtain ⟨s0, s1, s2, s3, hE⟩ := clone_store (u0 := .int .i64 s) (u1 := .slice A' n c') (u2 := .int .i64 t) (u3 := .slice B' m e') GG.out.1 GG.out.2.1 (by omega)
  refine bodyPost_ret (v := .agg #[.int .i64 s, .slice A' n c', .int .i64 t, .slice B' m e']) (by simp [results, Tryz.results36, go_sem, s0, s1, s2, s3]) rfl ?_
  have jA := (((GG.out.2.2.1.other' ⟨w.heap.size + 1, 0, none⟩ (.int .i64 s) GG.out.2.2.2.2.1).other' ⟨w.heap.size + 1, 1, none⟩ (.slice A' n c') GG.out.2.2.2.2.1).other' ⟨w.heap.size + 1, 2, none⟩ (.int .i64 t) GG.out.2.2.2.2.1).other' ⟨w.heap.size + 1, 3, none⟩ (.slice B' m e') GG.out.2.2.2.2.1
  have jB := (((GG.out.2.2.2.1.other' ⟨w.heap.size + 1, 0, none⟩ (.int .i64 s) GG.out.2.2.2.2.2).other' ⟨w.heap.size + 1, 1, none⟩ (.slice A' n c') GG.out.2.2.2.2.2).other' ⟨w.heap.size + 1, 2, none⟩ (.int .i64 t) GG.out.2.2.2.2.2).other' ⟨w.heap.size + 1, 3, none⟩ (.slice B' m e') GG.out.2.2.2.2.2
  exact ⟨⟨s, A', n, c', t, B', m, e'⟩, rfl, ⟨⟨H.out.1.s, H.out.1.t, jA, jB, HP.out.1, HP.out.2.2.2.1, HP.out.2.1, HP.out.2.2.2.2.1⟩, ⟨HP.out.2.2.1, HP.out.2.2.2.2.2⟩⟩, rfl, rfl, HM.out.1, HM.out.2, hE⟩
end
end Go.Proofs.YtopgbggighaknaaGreatDoor
/- selionref05: Of. -/
namespace Go.Proofs.YtopgbggighaknaaGreatDoor
open Go.RowKit Go
section
set_option maxHeartbeats 4000000 in
set_option maxRecDepth 100000 in
theorem of5_no (A : Option Addr) (n c : Nat) (xs : List DRow) (L : List DescR) (y : Int) (hn : n ≤ 1000000) (hc : n ≤ c) (hs : Small xs) (w : World) (h : Dl w A n xs L) (hr : rightK L = false) :
    Calls Tryz.prog 14 #[.slice A n c, .int .i64 y] w fun e w' => e = .returned (.tuple #[.agg #[.int .i64 0, .slice none 0 0, .int .i64 0, .slice none 0 0], .int .i64 50]) ∧ Ext w w' := by
  have HE := Lib.hid (ext1 w (.cells #[.int .i64 0, .slice none 0 0, .int .i64 0, .slice none 0 0] 25))
  have R := Lib.hid (rright5_is A n c xs L hn hc hs _ (h.ext HE.out))
  rw [hr] at R
  clear h hs hr
  go_enter Tryz.func14, Tryz.ntmps14
  go_wp2_with (go_at_call 18; refine R.out.mono ?_; rintro e w1 ⟨rfl, k1⟩; have bR := at_new k1; have q0 := bR.cell 0; have q1 := bR.cell 1; have q2 := bR.cell 2; have q3 := bR.cell 3; have f0 := bR.frozen 0; have f1 := bR.frozen 1; have f2 := bR.frozen 2; have f3 := bR.frozen 3; simp only [List.getElem?_toArray, List.getElem?_cons_zero, List.getElem?_cons_succ] at q0 q1 q2 q3; have GG := Lib.hid (And.intro bR k1); clear bR k1)
  obtain ⟨s0, s1, s2, s3, hE⟩ := clone_store (u0 := .int .i64 0) (u1 := .slice none 0 0) (u2 := .int .i64 0) (u3 := .slice none 0 0) GG.out.1 (Ext.trans HE.out GG.out.2) (Nat.le_refl _)
  exact bodyPost_ret (v := .tuple #[.agg #[.int .i64 0, .slice none 0 0, .int .i64 0, .slice none 0 0], .int .i64 50]) (by simp [results, Tryz.results14, go_sem, s0, s1, s2, s3]) rfl ⟨rfl, hE⟩
set_option maxHeartbeats 4000000 in
set_option maxRecDepth 100000 in
theorem of5_out (A : Option Addr) (n c : Nat) (xs : List DRow) (L : List DescR) (y : Int) (hn : n ≤ 1000000) (hc : n ≤ c) (hs : Small xs) (w : World) (h : Dl w A n xs L) (hr : rightK L = true) (hy : y < 1 ∨ (n : Int) < y) :
    Calls Tryz.prog 14 #[.slice A n c, .int .i64 y] w fun e w' => e = .returned (.tuple #[.agg #[.int .i64 0, .slice none 0 0, .int .i64 0, .slice none 0 0], .int .i64 51]) ∧ Ext w w' := by
  have HE := Lib.hid (ext1 w (.cells #[.int .i64 0, .slice none 0 0, .int .i64 0, .slice none 0 0] 25))
  have R := Lib.hid (rright5_is A n c xs L hn hc hs _ (h.ext HE.out))
  rw [hr] at R
  clear h hs hr
  by_cases h1 : y < 1
  · clear hy
    go_enter Tryz.func14, Tryz.ntmps14
    go_wp2_with (go_at_call 18; refine R.out.mono ?_; rintro e w1 ⟨rfl, k1⟩; have bR := at_new k1; have q0 := bR.cell 0; have q1 := bR.cell 1; have q2 := bR.cell 2; have q3 := bR.cell 3; have f0 := bR.frozen 0; have f1 := bR.frozen 1; have f2 := bR.frozen 2; have f3 := bR.frozen 3; simp only [List.getElem?_toArray, List.getElem?_cons_zero, List.getElem?_cons_succ] at q0 q1 q2 q3; have GG := Lib.hid (And.intro bR k1); clear bR k1)
    obtain ⟨s0, s1, s2, s3, hE⟩ := clone_store (u0 := .int .i64 0) (u1 := .slice none 0 0) (u2 := .int .i64 0) (u3 := .slice none 0 0) GG.out.1 (Ext.trans HE.out GG.out.2) (Nat.le_refl _)
    exact bodyPost_ret (v := .tuple #[.agg #[.int .i64 0, .slice none 0 0, .int .i64 0, .slice none 0 0], .int .i64 51]) (by simp [results, Tryz.results14, go_sem, s0, s1, s2, s3]) rfl ⟨rfl, hE⟩
  · have h2 : (n : Int) < y := by omega
    clear hy
    go_enter Tryz.func14, Tryz.ntmps14
    go_wp2_with (go_at_call 18; refine R.out.mono ?_; rintro e w1 ⟨rfl, k1⟩; have bR := at_new k1; have q0 := bR.cell 0; have q1 := bR.cell 1; have q2 := bR.cell 2; have q3 := bR.cell 3; have f0 := bR.frozen 0; have f1 := bR.frozen 1; have f2 := bR.frozen 2; have f3 := bR.frozen 3; simp only [List.getElem?_toArray, List.getElem?_cons_zero, List.getElem?_cons_succ] at q0 q1 q2 q3; have GG := Lib.hid (And.intro bR k1); clear bR k1)
    obtain ⟨s0, s1, s2, s3, hE⟩ := clone_store (u0 := .int .i64 0) (u1 := .slice none 0 0) (u2 := .int .i64 0) (u3 := .slice none 0 0) GG.out.1 (Ext.trans HE.out GG.out.2) (Nat.le_refl _)
    exact bodyPost_ret (v := .tuple #[.agg #[.int .i64 0, .slice none 0 0, .int .i64 0, .slice none 0 0], .int .i64 51]) (by simp [results, Tryz.results14, go_sem, s0, s1, s2, s3]) rfl ⟨rfl, hE⟩
set_option maxHeartbeats 4000000 in
set_option maxRecDepth 100000 in
theorem of5_ok (A : Option Addr) (n c : Nat) (xs : List DRow) (L : List DescR) (k : Nat) (d : DescR) (hn : n ≤ 1000000) (hc : n ≤ c) (hs : Small xs) (hz : Zs xs) (w : World) (h : Dl w A n xs L) (hr : rightK L = true) (hk : k < n) (hd : L[k]? = some d) :
    Calls Tryz.prog 14 #[.slice A n c, .int .i64 ((k : Int) + 1)] w fun e w' => ∃ y : DRow, e = .returned (.tuple #[.agg y.cells, .int .i64 0]) ∧ Dn w' y d ∧ y.n ≤ 1000 ∧ y.m ≤ 1000 ∧ Ext w w' := by
  have HE := Lib.hid (ext1 w (.cells #[.int .i64 0, .slice none 0 0, .int .i64 0, .slice none 0 0] 25))
  have R := Lib.hid (rright5_is A n c xs L hn hc hs _ (h.ext HE.out))
  rw [hr] at R
  have h1 : ¬ (k : Int) + 1 < 1 := by omega
  have h2 : ¬ (n : Int) < (k : Int) + 1 := by omega
  have h3 : (k : Int) < n := by omega
  obtain ⟨ad, x, d', rfl, hb, hx, hd', hdn, e0, e1, e2, e3⟩ := h.at_ hk
  obtain rfl : d' = d := Option.some.inj (hd'.symm.trans hd)
  have hsm := hs k x hx
  have HC := Lib.hid (fun W (hW : Ext w W) => clone_is x d' (by omega) (by omega) (hz k x hx) W (hdn.ext hW))
  have cells := Lib.hid (And.intro e0 (And.intro e1 (And.intro e2 e3)))
  have hsz : (ad.add (k * 4)).block < w.heap.size := by rw [block_of_add]; exact hb
  have HX := Lib.hid (And.intro hsz hsm)
  clear h hs hr hd hd' hdn e0 e1 e2 e3 hx hb hsz hsm
  go_enter Tryz.func14, Tryz.ntmps14
  go_wp2_with (first | (go_at_call 18; refine R.out.mono ?_; rintro e w1 ⟨rfl, k1⟩; have kw := Ext.trans HE.out k1; have e0 := (kw.cell (p := ad.add (k * 4)) HX.out.1).trans cells.out.1; have e1 := (kw.cell (p := ⟨(ad.add (k * 4)).block, (ad.add (k * 4)).off + 1, none⟩) HX.out.1).trans cells.out.2.1; have e2 := (kw.cell (p := ⟨(ad.add (k * 4)).block, (ad.add (k * 4)).off + 2, none⟩) HX.out.1).trans cells.out.2.2.1; have e3 := (kw.cell (p := ⟨(ad.add (k * 4)).block, (ad.add (k * 4)).off + 3, none⟩) HX.out.1).trans cells.out.2.2.2) | (go_at_call 36; refine (HC.out _ kw).mono ?_; rintro e w2 ⟨y, rfl, ⟨y1, _⟩, y2, y3, y4, y5, k2⟩; have bR := at_new (Ext.trans k1 k2); obtain ⟨ys, yA, yn, yc, yt, yB, ym, ye⟩ := y; simp only [DRow.cells] at *; have q0 := bR.cell 0; have q1 := bR.cell 1; have q2 := bR.cell 2; have q3 := bR.cell 3; have f0 := bR.frozen 0; have f1 := bR.frozen 1; have f2 := bR.frozen 2; have f3 := bR.frozen 3; simp only [List.getElem?_toArray, List.getElem?_cons_zero, List.getElem?_cons_succ] at q0 q1 q2 q3; have GG := Lib.hid (And.intro bR (And.intro (Ext.trans k1 k2) (And.intro y1 (And.intro y2 (And.intro y3 (And.intro y4 y5)))))); clear bR y1 y2 y3 y4 y5))
  have hz1 : w.heap.size < w1.heap.size := by have := k1.size; simp at this; omega
  have nA : ∀ ad, yA = some ad → ad.block ≠ w.heap.size := fun ad e => by have := GG.out.2.2.2.2.2.1 ad e; omega
  have nB : ∀ ad, yB = some ad → ad.block ≠ w.heap.size := fun ad e => by have := GG.out.2.2.2.2.2.2 ad e; omega
  obtain ⟨s0, s1, s2, s3, hE⟩ := clone_store (u0 := .int .i64 ys) (u1 := .slice yA yn yc) (u2 := .int .i64 yt) (u3 := .slice yB ym ye) GG.out.1 (Ext.trans HE.out GG.out.2.1) (Nat.le_refl _)
  refine bodyPost_ret (v := .tuple #[.agg #[.int .i64 ys, .slice yA yn yc, .int .i64 yt, .slice yB ym ye], .int .i64 0]) (by simp [results, Tryz.results14, go_sem, s0, s1, s2, s3]) rfl ?_
  have hD := GG.out.2.2.1
  have jA := (((hD.p.other' ⟨w.heap.size, 0, none⟩ (.int .i64 ys) nA).other' ⟨w.heap.size, 1, none⟩ (.slice yA yn yc) nA).other' ⟨w.heap.size, 2, none⟩ (.int .i64 yt) nA).other' ⟨w.heap.size, 3, none⟩ (.slice yB ym ye) nA
  have jB := (((hD.q.other' ⟨w.heap.size, 0, none⟩ (.int .i64 ys) nB).other' ⟨w.heap.size, 1, none⟩ (.slice yA yn yc) nB).other' ⟨w.heap.size, 2, none⟩ (.int .i64 yt) nB).other' ⟨w.heap.size, 3, none⟩ (.slice yB ym ye) nB
  have m1 : yn = x.n := GG.out.2.2.2.1
  have m2 : ym = x.m := GG.out.2.2.2.2.1
  exact ⟨⟨ys, yA, yn, yc, yt, yB, ym, ye⟩, rfl, ⟨hD.s, hD.t, jA, jB, hD.pc, hD.qc, hD.pm, hD.qm⟩, by show yn ≤ 1000; rw [m1]; exact HX.out.2.1, by show ym ≤ 1000; rw [m2]; exact HX.out.2.2, hE⟩
end
end Go.Proofs.YtopgbggighaknaaGreatDoor
/- append of one element (of whatever size) to a row of one's own: the new row is the old one's block, or a new block. -/
namespace Go.Proofs.YtopgbggighaknaaGreatDoor
open Go Go.RowKit
section
variable {P : Program}
theorem own_resultN {w : World} (base : Nat) (t ty e : TypeId) (i : TypeInfo) (z : Value) (size bytes : Nat) (ht : P.underlying t = some (.slice e)) (hi : P.info? e = some i) (hz : i.zero = some z)
    (hsize : i.size = size) (hby : i.bytes = bytes) (hsz : 0 < size) (v : Value) (n : Nat) (xs : List Value) (hown : w.ownsRow base e size v n xs)
    (a : Addr) (c : Nat) (news : List Value) (hl : news.length = 1 * size) (hnews : ∀ j u, news[j]? = some u → w.cell? (a.add j) = some u) (h1 : ∀ u ∈ news, u.oneCell' = true) (h63 : n + 1 ≤ maxLen) (hbytes : (n + 1) * bytes ≤ 140737488355328)
    {v' : Value} {w' : World} (hr : (Builtin.append_ #[t, t] ty #[v, .slice (some a) 1 c]).run P w = .ok v' w') : ∀ b, v'.ownBlock = some b → v.ownBlock = some b ∨ w.heap.size ≤ b := by
  subst hsize
  have hsmall : n + 1 ≤ 9223372036854775807 := by simp only [maxLen] at h63; omega
  intro b hb
  rcases hown.2 with ⟨rfl, rfl⟩ | ⟨g, cap, cur, rfl, hbg, hg, hnc, hcm, hcs, htake⟩
  · have h2 := run_append_nil (P := P) w t ty e i z ht hi hz a 1 c news hl hnews (by omega) (by omega) (by rw [hby]; have hb := hbytes; simp only [Nat.zero_add] at hb; omega)
    rw [h2] at hr
    cases hr
    simp [Value.ownBlock] at hb
    exact .inr (by omega)
  · by_cases hroom : n + 1 ≤ cap
    · have hfit : n * i.size + news.length ≤ cur.size := by
        rw [hcs, hl, ← Nat.add_mul]
        exact Nat.mul_le_mul_right _ hroom
      have h2 := run_append_room (P := P) w t ty e i ht hi g n cap cur hg a 1 c news hl hnews h1 hroom hfit
      rw [h2] at hr
      cases hr
      exact .inl hb
    · have h2 := run_append_grow (P := P) w t ty e i z ht hi hz ⟨g, 0, none⟩ n cap xs hown.1 (hown.cells (g := g) rfl) a 1 c news hl hnews (by omega) (by omega) (growslice_fits (by omega) (by rw [hby]; exact hbytes))
      rw [h2] at hr
      cases hr
      simp [Value.ownBlock] at hb
      exact .inr (by omega)
theorem wp_append_row {w : World} {o : Oper} {a : Act} {K : Act → World → Prop} {Q : Exit → Act → World → Prop} (s x : Operand) (t : TypeId)
    (ho : o.op = .call { callee := .builtin .append, args := #[s, x], argTypes := #[t, t] })
    (base : Nat) (e : TypeId) (i : TypeInfo) (z : Value) (size bytes : Nat) (ht : P.underlying t = some (.slice e)) (hi : P.info? e = some i) (hz : i.zero = some z)
    (hsize : i.size = size) (hby : i.bytes = bytes) (hzs : z.cells.size = size) (hsz : 0 < size)
    (v : Value) (n : Nat) (xs : List Value) (hs : a.eval s = v) (hown : w.ownsRow base e size v n xs)
    (ad : Addr) (c : Nat) (news : List Value) (hx : a.eval x = .slice (some ad) 1 c) (hl : news.length = 1 * size) (hnews : ∀ j u, news[j]? = some u → w.cell? (ad.add j) = some u) (h1 : ∀ u ∈ news, u.oneCell' = true)
    (h63 : n + 1 ≤ maxLen) (hbytes : (n + 1) * bytes ≤ 140737488355328) (hbase : base ≤ w.heap.size)
    (h : ∀ v' w', w'.ownsRow base e size v' (n + 1) (xs ++ news) → w.grownBy w' v.ownBlock → (∀ b, v'.ownBlock = some b → v.ownBlock = some b ∨ w.heap.size ≤ b) → K (a.put o.dst v') w') : o.wp P a w K Q := by
  obtain ⟨v', w', hrun, r1, r2, _⟩ := run_append_own (P := P) w base t o.type e i z size bytes ht hi hz hsize hby hzs hsz v n xs hown ad 1 c news hl hnews h1 h63 hbytes hbase
  have r3 := own_resultN (P := P) base t o.type e i z size bytes ht hi hz hsize hby hsz v n xs hown ad c news hl hnews h1 h63 hbytes hrun
  unfold Oper.wp
  simp [execOp, ho, resolve, invoke, builtin, hs, hx, hrun, Result.andThen]
  exact h v' w' r1 r2 r3
theorem wpList_append_row {w : World} {ops : Array Oper} {rest : List Oper} {o : Oper} {a : Act} {Q : Exit → Act → World → Prop} (hgd : o.guard = none) (s x : Operand) (t : TypeId)
    (ho : o.op = .call { callee := .builtin .append, args := #[s, x], argTypes := #[t, t] })
    (base : Nat) (e : TypeId) (i : TypeInfo) (z : Value) (size bytes : Nat) (ht : P.underlying t = some (.slice e)) (hi : P.info? e = some i) (hz : i.zero = some z)
    (hsize : i.size = size) (hby : i.bytes = bytes) (hzs : z.cells.size = size) (hsz : 0 < size)
    (v : Value) (n : Nat) (xs : List Value) (hs : a.eval s = v) (hown : w.ownsRow base e size v n xs)
    (ad : Addr) (c : Nat) (news : List Value) (hx : a.eval x = .slice (some ad) 1 c) (hl : news.length = 1 * size) (hnews : ∀ j u, news[j]? = some u → w.cell? (ad.add j) = some u) (h1 : ∀ u ∈ news, u.oneCell' = true)
    (h63 : n + 1 ≤ maxLen) (hbytes : (n + 1) * bytes ≤ 140737488355328) (hbase : base ≤ w.heap.size)
    (h : ∀ v' w', w'.ownsRow base e size v' (n + 1) (xs ++ news) → w.grownBy w' v.ownBlock → (∀ b, v'.ownBlock = some b → v.ownBlock = some b ∨ w.heap.size ≤ b) → wpList P ops Q rest (a.put o.dst v') w') : wpList P ops Q (o :: rest) a w := by
  refine wpList_plain hgd fun K hK => ?_
  obtain ⟨v', w', hrun, r1, r2, _⟩ := run_append_own (P := P) w base t o.type e i z size bytes ht hi hz hsize hby hzs hsz v n xs hown ad 1 c news hl hnews h1 h63 hbytes hbase
  have r3 := own_resultN (P := P) base t o.type e i z size bytes ht hi hz hsize hby hsz v n xs hown ad c news hl hnews h1 h63 hbytes hrun
  unfold Oper.wp
  simp [execOp, ho, resolve, invoke, builtin, hs, hx, hrun, Result.andThen]
  exact hK _ _ (h v' w' r1 r2 r3)
end
end Go.Proofs.YtopgbggighaknaaGreatDoor
