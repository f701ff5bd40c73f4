/- Joined texts, in their order: Shown5, FewQ, Laid. -/
import Derived.Test.YtopgbggighaknaaDoorM16
import Derived.Test.YtopgbggighaknaaDoorM14
import Derived.Test.YtopgbggighaknaaDoorM12
import Derived.Test.YtopgbggighaknaaDoorM10
import Derived.Test.YtopgbggighaknaaDoorM01
import Derived.ProofKit
import Derived.LaidMore
import Derived.OpenShut
import Derived.Stop.LaidErr
import Derived.Stop.Joined
/- selionlaw05: cut, shown. -/
namespace Go.Proofs.YtopgbggighaknaaDoor
open Go.RowKit Go
theorem num_low (n : Nat) (h : n < 10) : numS n = [dg n] := by rw [numS, dif_pos h]
abbrev dA : DescR := ⟨8, [4], 0, []⟩
abbrev dB : DescR := ⟨8, [], 0, []⟩
theorem text_dA : textS dA = [56, 58, 32, 52, 59, 32, 48, 58] := by
  show (numS 8 ++ 58 :: ((32 :: numS 4) ++ [])) ++ 59 :: 32 :: (numS 0 ++ 58 :: []) = _
  rw [num_low 8 (by decide), num_low 4 (by decide), num_low 0 (by decide)]
  rfl
theorem text_dB : textS dB = [56, 58, 59, 32, 48, 58] := by
  show (numS 8 ++ 58 :: []) ++ 59 :: 32 :: (numS 0 ++ 58 :: []) = _
  rw [num_low 8 (by decide), num_low 0 (by decide)]
  rfl
theorem right_AB : rightK [dA, dB] = true := by decide
theorem text_AB : textKV [dA, dB] = [56, 58, 32, 52, 59, 32, 48, 58, 10, 56, 58, 59, 32, 48, 58, 10] := by
  rw [textKV, if_pos right_AB]
  show textS dA ++ [10] ++ (textS dB ++ [10] ++ []) = _
  rw [text_dA, text_dB]; rfl
theorem read_AA : readK [] 0 [56, 58, 32, 52, 59, 32, 48, 58, 10, 56, 58, 32, 52, 59, 32, 48, 58, 10] = .bad 2 52 := by
  have e : ([56, 58, 32, 52, 59, 32, 48, 58, 10, 56, 58, 32, 52, 59, 32, 48, 58, 10] : List UInt8) = textS dA ++ 10 :: (textS dA ++ 10 :: []) := by rw [text_dA]; rfl
  rw [e, readK_step [] 0 dA _ (by decide) (by decide) (by decide)]
  have hl := lineK_of (textS dA) [] (text_no10 dA)
  rw [readK, if_neg (by simp)]
  split
  · rename_i r' d' e1 e2
    rw [hl] at e1 e2
    rw [parse_text dA (by decide)] at e2
    obtain rfl : dA = d' := by simpa using e2
    rw [if_pos (by simp)]
  · rename_i h
    exact absurd (by rw [hl]; exact parse_text dA (by decide)) (h [] dA (by rw [hl]))
theorem il_lit5 (l : List Int) (w : World) (ty : TypeId) : Il (w.alloc (.cells (l.map (Value.int .i64)).toArray ty)) (some ⟨w.heap.size, 0, none⟩) l.length l := by
  refine ⟨rfl, fun hn => ⟨_, rfl, by show w.heap.size < (w.alloc _).heap.size; rw [World.size_alloc]; omega, fun j hj => ?_⟩⟩
  have h0 := (Blk.new w (l.map (Value.int .i64)).toArray ty).cell j
  have e : (⟨w.heap.size, 0, none⟩ : Addr).add j = ⟨w.heap.size, j, none⟩ := by unfold Addr.add; split <;> simp_all
  rw [e, h0]
  simp [hj]
theorem cut5_list (l : List UInt8) : (⟨l.toArray⟩ : ByteArray).extract 0 (min (⟨l.toArray⟩ : ByteArray).size 800) = ⟨(l.take 800).toArray⟩ := by
  apply ByteArray.ext
  rw [ByteArray.data_extract]
  apply Array.toList_inj.1
  have e : (⟨l.toArray⟩ : ByteArray).size = l.length := by show l.toArray.size = _; simp
  rw [e]
  simp
  omega
section
set_option maxHeartbeats 8000000 in
set_option maxRecDepth 100000 in
theorem shown5_is (w : World) (hG : K.G w) (hT : HTab w) :
    Calls Tryd.prog 4 #[] w fun e w' => e = .returned (.bool true) ∧ Ext w w' := by
  have E2 := ext2 w (.cells #[.int .i64 4] 3) (.cells #[.int .i64 8, .slice (some ⟨w.heap.size, 0, none⟩) 1 1, .int .i64 0, .slice none 0 0] 27)
  have hI := (il_lit5 [4] w 3).ext (ext1 _ (.cells #[.int .i64 8, .slice (some ⟨w.heap.size, 0, none⟩) 1 1, .int .i64 0, .slice none 0 0] 27))
  have bX := Blk.new (w.alloc (.cells #[.int .i64 4] 3)) #[.int .i64 8, .slice (some ⟨w.heap.size, 0, none⟩) 1 1, .int .i64 0, .slice none 0 0] 27
  have e1 : (w.alloc (.cells #[.int .i64 4] 3)).heap.size = w.heap.size + 1 := by simp
  rw [e1] at bX
  have hDA : ∀ W, Ext ((w.alloc (.cells #[.int .i64 4] 3)).alloc (.cells #[.int .i64 8, .slice (some ⟨w.heap.size, 0, none⟩) 1 1, .int .i64 0, .slice none 0 0] 27)) W → Dn W ⟨8, some ⟨w.heap.size, 0, none⟩, 1, 1, 0, none, 0, 0⟩ dA := fun W hW => ⟨rfl, rfl, hI.ext hW, ⟨rfl, fun h => absurd h (by simp)⟩, by simp, by simp, by simp, by simp⟩
  have hDB : ∀ W, Dn W ⟨8, none, 0, 0, 0, none, 0, 0⟩ dB := fun W => ⟨rfl, rfl, ⟨rfl, fun h => absurd h (by decide)⟩, ⟨rfl, fun h => absurd h (by decide)⟩, by decide, by decide, by decide, by decide⟩
  have HG := Lib.hid (fun W (hW : Ext ((w.alloc (.cells #[.int .i64 4] 3)).alloc (.cells #[.int .i64 8, .slice (some ⟨w.heap.size, 0, none⟩) 1 1, .int .i64 0, .slice none 0 0] 27)) W) => hG.ext (Ext.trans E2 hW))
  have HT := Lib.hid (fun W (hW : Ext ((w.alloc (.cells #[.int .i64 4] 3)).alloc (.cells #[.int .i64 8, .slice (some ⟨w.heap.size, 0, none⟩) 1 1, .int .i64 0, .slice none 0 0] 27)) W) => hT.ext (Ext.trans E2 hW))
  have HX := Lib.hid (And.intro bX (And.intro hDA (And.intro hDB E2)))
  have A1 := Lib.hid (fun W hG hx => kadd_is none 0 0 [] [] ⟨8, some ⟨w.heap.size, 0, none⟩, 1, 1, 0, none, 0, 0⟩ dA (by decide) (by decide) Small.nil (by simp) (by simp) W hG (Dl.nil W) hx)
  have A2 := Lib.hid (fun A c xs W hc hs hG h hx => kadd_is A 1 c xs [dA] ⟨8, none, 0, 0, 0, none, 0, 0⟩ dB (by decide) hc hs (by decide) (by decide) W hG h hx)
  have A3 := Lib.hid (fun A c xs W hc hs hG h hx => kadd_is A 2 c xs [dA, dB] ⟨8, some ⟨w.heap.size, 0, none⟩, 1, 1, 0, none, 0, 0⟩ dA (by decide) hc hs (by simp) (by simp) W hG h hx)
  have AP := Lib.hid (fun A c xs W hc hs hG hT h => kprint_is A 2 c xs [dA, dB] (by decide) hc hs (fun _ => by have := text_AB; rw [textKV, if_pos right_AB] at this; rw [this]; decide) W hG hT h)
  have AR := Lib.hid (fun W hG => kparse_is [56, 58, 32, 52, 59, 32, 48, 58, 10, 56, 58, 32, 52, 59, 32, 48, 58, 10] (by decide) W hG)
  have AO := Lib.hid (fun A c xs W hc hs hG h => kof_is A 2 c xs [dA, dB] 1 (by decide) hc hs W hG h)
  unfold AddR at A1 A2 A3
  unfold KParseR at AR
  unfold OfR at AO
  obtain ⟨p1, p2, p3⟩ := par_bad read_AA
  rw [p1, p2, p3] at AR
  simp only [show addE [] dA = 0 by decide, show addK [] dA = 1 by decide, show addL [] dA = [dA] by decide] at A1
  simp only [show addE [dA] dB = 0 by decide, show addK [dA] dB = 2 by decide, show addL [dA] dB = [dA, dB] by decide] at A2
  simp only [show addE [dA, dB] dA = 0 by decide, show addK [dA, dB] dA = 1 by decide, show addL [dA, dB] dA = [dA, dB] by decide] at A3
  rw [text_AB, show textKE [dA, dB] = 0 by rw [textKE, if_pos right_AB]] at AP
  simp only [show ofE [dA, dB] 1 = 0 by decide, show ofD [dA, dB] 1 = dA by decide] at AO
  clear hG hT E2 hI bX e1 hDA hDB p1 p2 p3
  go_enter Tryd.func4, Tryd.ntmps4
  go_wp2_with (first | (go_at_call 10; refine (A1.out _ (HG.out _ (Ext.refl _)) (HX.out.2.1 _ (Ext.refl _))).mono ?_; rintro e w1 ⟨L1, n1, c1, xs1, rfl, rfl, h1, h2, h3, k1⟩; have H1 := Lib.hid (And.intro h1 (And.intro h2 h3)); clear h1 h2 h3 A1) | (go_at_call 10; refine (A2.out L1 c1 xs1 _ H1.out.1 H1.out.2.2 (HG.out _ k1) H1.out.2.1 (HX.out.2.2.1 _)).mono ?_; rintro e w2 ⟨L2, n2, c2, xs2, rfl, rfl, h1, h2, h3, k2⟩; have H2 := Lib.hid (And.intro h1 (And.intro h2 h3)); replace k2 := Ext.trans k1 k2; obtain ⟨⟨q0, q1, q2, q3⟩, _⟩ := cells4 (HX.out.1.ext k2); clear h1 h2 h3 A2) | (go_at_call 10; refine (A3.out L2 c2 xs2 _ H2.out.1 H2.out.2.2 (HG.out _ k2) H2.out.2.1 (HX.out.2.1 _ k2)).mono ?_; rintro e w3 ⟨L3, n3, c3, xs3, rfl, rfl, h1, h2, h3, k3⟩; have D2 := Lib.hid (H2.out.2.1.ext k3); replace k3 := Ext.trans k2 k3; clear h1 h2 h3 A3 q0 q1 q2 q3) | (go_at_call 11; refine (AP.out L2 c2 xs2 _ H2.out.1 H2.out.2.2 (HG.out _ k3) (HT.out _ k3) D2.out).mono ?_; rintro e w4 ⟨rfl, k4⟩; replace D2 := Lib.hid (D2.out.ext k4); replace k4 := Ext.trans k3 k4; clear AP) | (go_at_call 12; refine (AR.out _ (HG.out _ k4)).mono ?_; rintro e w5 ⟨L5, n5, c5, xs5, rfl, rfl, h1, h2, h3, k5⟩; replace D2 := Lib.hid (D2.out.ext k5); replace k5 := Ext.trans k4 k5; clear h1 h2 h3 AR) | (go_at_call 6; refine (AO.out L2 c2 xs2 _ H2.out.1 H2.out.2.2 (HG.out _ k5) D2.out).mono ?_; rintro e w6 ⟨⟨rs, rA, rn, rc, rt, rB, rm, re⟩, rfl, h1, h2, h3, k6⟩; simp only [DRow.cells]; have H6 := Lib.hid (And.intro h1 (And.intro h2 h3)); replace k6 := Ext.trans k5 k6; have kB := ext1 w6 (.cells #[.int .i64 rs, .slice rA rn rc, .int .i64 rt, .slice rB rm re] 27); obtain ⟨⟨q0, q1, q2, q3⟩, _⟩ := cells4 (HX.out.1.ext (Ext.trans k6 kB)); clear h1 h2 h3 AO) | (go_at_call 13; have DS := dsame_is rA rB rn rm rc re rs rt [4] [] (Nat.le_trans H6.out.2.1 (by decide)) (Nat.le_trans H6.out.2.2 (by decide)) (some ⟨w.heap.size, 0, none⟩) none 1 0 1 0 8 0 [4] [] _ (H6.out.1.p.ext kB) (H6.out.1.q.ext kB) (HX.out.2.1 _ (Ext.trans k6 kB)).p (HX.out.2.1 _ (Ext.trans k6 kB)).q; rw [show decide ((⟨rs, [4], rt, []⟩ : DescR) = ⟨8, [4], 0, []⟩) = true from decide_eq_true (by have a1 : rs = 8 := H6.out.1.s; have a2 : rt = 0 := H6.out.1.t; rw [a1, a2])] at DS; refine DS.mono ?_; rintro e w7 ⟨rfl, k7⟩; clear DS))
  go_ret
  exact ⟨rfl, Ext.trans HX.out.2.2.2 (Ext.trans k6 (Ext.trans kB k7))⟩
end
end Go.Proofs.YtopgbggighaknaaDoor
/- selionlaw05: Few, and where its answer lies; a list of descriptors while other blocks turn. -/
namespace Go.Proofs.YtopgbggighaknaaDoor
open Go.RowKit Go
def Pz (P : Nat → Prop) (xs : List DRow) : Prop := ∀ (i : Nat) (x : DRow), xs[i]? = some x → (0 < x.n → ∀ ad, x.A = some ad → P ad.block) ∧ (0 < x.m → ∀ ad, x.B = some ad → P ad.block)
theorem Pz.cut {P : Nat → Prop} {xs : List DRow} (h : Pz P xs) : Pz P ((xs.take 62).map cutX) := fun i x hx => by
  rw [List.getElem?_map] at hx
  obtain ⟨y, g1, rfl⟩ := Option.map_eq_some_iff.1 hx
  rw [List.getElem?_take] at g1
  split at g1
  · obtain ⟨p1, p2⟩ := h i y g1
    exact ⟨fun h0 => p1 (by have h1 : 0 < min y.n 20 := h0; omega), fun h0 => p2 (by have h1 : 0 < min y.m 20 := h0; omega)⟩
  · cases g1
theorem Pz.of_dl {W : World} {A : Option Addr} {n : Nat} {xs : List DRow} {L : List DescR} (h : Dl W A n xs L) : Pz (fun k => k < W.heap.size) xs := fun i x hx => by
  have hi : i < L.length := by rw [h.2.1, ← h.1.1]; exact (List.getElem?_eq_some_iff.1 hx).1
  have hd := h.2.2 i x _ hx (List.getElem?_eq_getElem hi)
  refine ⟨fun h0 ad e => ?_, fun h0 ad e => ?_⟩
  · obtain ⟨ad', e', hl, _⟩ := hd.p.2 h0
    rw [e] at e'; cases e'; exact hl
  · obtain ⟨ad', e', hl, _⟩ := hd.q.2 h0
    rw [e] at e'; cases e'; exact hl
theorem Dl.chgU {u : Nat → Prop} {W W' : World} {A : Option Addr} {n : Nat} {xs : List DRow} {L : List DescR} (h : Dl W A n xs L) (k : ChgU u W W') (hA : ∀ ad, A = some ad → ¬ u ad.block) (hx : Pz (fun b => ¬ u b) xs) : Dl W' A n xs L :=
  ⟨⟨h.1.1, fun hn => by
    obtain ⟨ad, e, hb, hc⟩ := h.1.2 hn
    exact ⟨ad, e, Nat.lt_of_lt_of_le hb k.size, fun i j hi hj => (World.cell?_of_block (w := W) (a := ad.add (i * 4 + j)) (by rw [block_of_add]; exact k.block _ hb (hA ad e))).trans (hc i j hi hj)⟩⟩, h.2.1,
    fun i x d h1 h2 => (h.2.2 i x d h1 h2).chgU k (hx i x h1).1 (hx i x h1).2⟩
/-- An own row of m descriptors, of its own block; its lists lie at P's blocks. -/
def RowQ (P : Nat → Prop) (w : World) (m : Nat) (L : List DescR) (e : Ending) (w' : World) : Prop := ∃ A' c' xs', e = .returned (.slice A' m c') ∧ m ≤ c' ∧ Dl w' A' m xs' L ∧ Small xs' ∧ Zs xs' ∧ ((∀ ad, A' = some ad → w.heap.size ≤ ad.block) ∧ Pz P xs') ∧ Ext w w'
section
set_option maxHeartbeats 4000000 in
set_option maxRecDepth 100000 in
theorem few_q (P : Nat → Prop) (A : Option Addr) (n c : Nat) (xs : List DRow) (L : List DescR) (w : World) (h : Dl w A n xs L) (hz : Zs xs) (hp : Pz P xs) :
    Calls Tryd.prog 5 #[.slice A n c] w (RowQ P w (min n 62) (fewD L)) := by
  obtain ⟨i0, hi0⟩ := info_desc
  have HI := Lib.hid hi0
  clear hi0
  have HO := Lib.hid h
  have HZ := Lib.hid hz
  have HPz := Lib.hid hp.cut
  clear h hz hp
  go_enter Tryd.func5, Tryd.ntmps5
  go_wp2
  go_loopg [3, 4] (min n 62) (fun m v i wr => ∃ k : Nat, k + m = min n 62 ∧ i = .int .i64 k ∧ Ext w wr ∧ wr.ownsRow w.heap.size 27 4 v k (flatD ((xs.take k).map cutX)))
  case atStart => exact ⟨0, by omega, rfl, Ext.refl _, rfl, .inl ⟨rfl, rfl⟩⟩
  case round =>
    obtain ⟨k, hk, rfl, hE, hown⟩ := hrel
    by_cases hlt : k < min n 62
    · obtain ⟨ad, x, d, rfl, hb, hx, hd, hdn, e0, e1, e2, e3⟩ := (HO.out.ext hE).at_ (show k < n by omega)
      have RC := Lib.hid (fun W => cutd_is x.A x.B x.n x.m x.c x.e x.s x.t (HZ.out k x hx).1 (HZ.out k x hx).2 hdn.pc hdn.qc hdn.pm hdn.qm W)
      have h1 : (k : Int) < n := by omega
      have h2 : (k : Int) < 62 := by omega
      have HH := Lib.hid (And.intro hE (And.intro hown (And.intro hx hk)))
      clear hE hown hx hk hd hdn hb hlt
      go_wp2_with (first | (go_at_call 14; refine (RC.out _).mono ?_; rintro e w2 ⟨rfl, k2⟩) | (at_builtin; go_loud (refine wpList_append_own _ rfl _ _ 22 rfl w.heap.size 27 i0 (.agg #[.int .i64 0, .slice none 0 0, .int .i64 0, .slice none 0 0]) 4 64 Tryd.underlying22 HI.out.1 HI.out.2.1 HI.out.2.2.1 HI.out.2.2.2 rfl (by decide) _ _ _ rfl (ownN_ext HH.out.2.1 (Ext.trans k2 (ext1 _ _))) ⟨w2.heap.size, 0, none⟩ 1 1 (cutX x).cells.toList rfl rfl (fun j u hj => new_cells1 _ _ _ j u (by simpa [cutX, DRow.cells] using hj)) (row_one _) (by have := HH.out.2.2.2; unfold maxLen; omega) (by have := HH.out.2.2.2; omega) (by have := HH.out.1.size; have := k2.size; simp; omega) ?_; intro v' w3 hown3 hgrow _)))
      go_roundg (gk - 1)
      case measure => have := HH.out.2.2.2; omega
      case rel =>
        refine ⟨k + 1, by have := HH.out.2.2.2; omega, by go_num, ?_, ?_⟩
        · exact Below.grown (Ext.trans HH.out.1 (Ext.trans k2 (ext1 _ _))) hgrow (by have := HH.out.1.size; have := k2.size; simp; omega) (fun g hg => ownN_block HH.out.2.1 g hg)
        · rw [List.take_add_one, HH.out.2.2.1]
          simp only [Option.toList_some, List.map_append, List.map_cons, List.map_nil, flatD_snoc]
          exact hown3
    · obtain rfl : k = min n 62 := by omega
      have hX : List.take (min n 62) xs = List.take 62 xs := by
        rcases Nat.le_total n 62 with h | h
        · rw [Nat.min_eq_left h, List.take_of_length_le (by rw [HO.out.1.1]; exact Nat.le_refl _), List.take_of_length_le (by rw [HO.out.1.1]; exact h)]
        · rw [Nat.min_eq_right h]
      rw [hX] at hown
      obtain ⟨A', c', rfl, hmc, hrow, hbk⟩ := rows_of_own hown (by rw [List.length_map, List.length_take, HO.out.1.1]; omega)
      have hdl : Dl wr A' (min n 62) ((xs.take 62).map cutX) (fewD L) := ⟨hrow, by rw [fewD, List.length_map, List.length_take, HO.out.2.1]; omega, fun i x d h1 h2 => by
        rw [fewD] at h2
        rw [List.getElem?_map] at h1 h2
        obtain ⟨x0, g1, rfl⟩ := Option.map_eq_some_iff.1 h1
        obtain ⟨d0, g2, rfl⟩ := Option.map_eq_some_iff.1 h2
        rw [List.getElem?_take] at g1 g2
        split at g1
        · rename_i hi
          rw [if_pos hi] at g2
          exact ((HO.out.2.2 i x0 d0 g1 g2).ext hE).cut
        · cases g1⟩
      have hzs : Zs ((xs.take 62).map cutX) := fun i x hx => by
        rw [List.getElem?_map] at hx
        obtain ⟨y, g1, rfl⟩ := Option.map_eq_some_iff.1 hx
        rw [List.getElem?_take] at g1
        split at g1
        · exact (HZ.out i y g1).cut
        · cases g1
      have HBK := Lib.hid hbk
      have HH := Lib.hid (And.intro hmc (And.intro hdl (And.intro (small_cut (xs.take 62)) (And.intro hzs hE))))
      clear hE hrow hbk hown hX hk hdl hmc hzs
      generalize hK : min n 62 = K at *
      by_cases h1 : n ≤ 62
      · have h3 : K = n := by omega
        have h2 : ¬ (K : Int) < n := by omega
        have h4 := Lib.hid hK
        clear hK h1 h3
        go_wp2
        go_ret
        exact ⟨A', c', _, rfl, HH.out.1, HH.out.2.1, HH.out.2.2.1, HH.out.2.2.2.1, ⟨HBK.out, HPz.out⟩, HH.out.2.2.2.2⟩
      · have h3 : K = 62 := by omega
        have h2 : (K : Int) < n := by omega
        have h5 : ¬ (K : Int) < 62 := by omega
        have h4 := Lib.hid hK
        clear hK h1 h3
        go_wp2
        go_ret
        exact ⟨A', c', _, rfl, HH.out.1, HH.out.2.1, HH.out.2.2.1, HH.out.2.2.2.1, ⟨HBK.out, HPz.out⟩, HH.out.2.2.2.2⟩
end
end Go.Proofs.YtopgbggighaknaaDoor
/- What listed package variables hold, cell by cell: plain data decoded, sentinel errors, pairwise apart. -/
namespace Go.Proofs.YtopgbggighaknaaDoor
open Go Go.RowKit

/-- The fields one behind the other, from off on. -/
def decF (P : Program) (g : TypeId → DataW Unit → Option (List Value)) : Nat → List Field → List (DataW Unit) → Option (List Value)
  | _, [], [] => some []
  | off, f :: fs, d :: ds =>
    match g f.type d with
    | some v => if f.offset = off ∧ v.length = P.cellsOf f.type then
        match decF P g (off + v.length) fs ds with
        | some r => some (v ++ r)
        | none => none
      else none
    | none => none
  | _, _, _ => none
def decA (g : DataW Unit → Option (List Value)) (c : Nat) : List (DataW Unit) → Option (List Value)
  | [] => some []
  | d :: ds =>
    match g d with
    | some v => if v.length = c then
        match decA g c ds with
        | some r => some (v ++ r)
        | none => none
      else none
    | none => none
/-- The cells of a plain datum. -/
def dec (P : Program) : Nat → TypeId → DataW Unit → Option (List Value)
  | 0, _, _ => none
  | n + 1, t, d =>
    match P.underlying t, d with
    | some (.int k), .lit (.int k' a) => if k' = k then some [.int k a] else none
    | some .bool, .lit (.bool b) => some [.bool b]
    | some .string, .lit (.string s) => some [.string ⟨s.toArray⟩]
    | some (.array m e), .agg ds =>
      match decA (dec P n e) (P.cellsOf e) ds with
      | some r => if ds.length = m ∧ r.length = P.cellsOf t then some r else none
      | none => none
    | some (.struct fs), .agg ds =>
      match decF P (dec P n) 0 fs.toList ds with
      | some r => if r.length = P.cellsOf t then some r else none
      | none => none
    | _, _ => none

theorem take_drop_append (cs v r : List Value) (off : Nat) (h1 : (cs.drop off).take v.length = v) (h2 : (cs.drop (off + v.length)).take r.length = r) : (cs.drop off).take (v ++ r).length = v ++ r := by
  rw [List.length_append, List.take_add, h1, List.drop_drop, h2]

theorem decF_sound {P : Program} {g : TypeId → DataW Unit → Option (List Value)} {w : World} {sp : Nat → Bool} {held : Bool} {base fuel : Nat} {cs : List Value}
    (hg : ∀ t d vs cs' p, g t d = some vs → DataW.trod (fun _ => ()) P w base sp held fuel t cs' = some (d, p) → cs' = vs) :
    ∀ (fs : List Field) (ds : List (DataW Unit)) (ps : List (List MemPlace)) (off : Nat) (r : List Value), decF P g off fs ds = some r → ds.length = ps.length →
      (∀ (i : Nat) (f : Field), fs[i]? = some f → DataW.trod (fun _ => ()) P w base sp held fuel f.type ((cs.drop f.offset).take (P.cellsOf f.type)) = (ds.zip ps)[i]?) → (cs.drop off).take r.length = r
  | [], [], _, _, _, h, _, _ => by simp [decF] at h; subst h; simp
  | [], _ :: _, _, _, _, h, _, _ => by simp [decF] at h
  | _ :: _, [], _, _, _, h, _, _ => by simp [decF] at h
  | f :: fs, d :: ds, [], _, _, _, hl, _ => by simp at hl
  | f :: fs, d :: ds, p :: ps, off, r, h, hl, ht => by
    simp only [decF] at h
    split at h
    · rename_i v hv
      split at h
      · rename_i hof
        split at h
        · rename_i r' hr'
          cases h
          have h0 := ht 0 f rfl
          simp at h0
          have e0 := hg _ _ _ _ _ hv h0
          rw [hof.1, ← hof.2] at e0
          exact take_drop_append cs v r' off e0 (decF_sound hg fs ds ps (off + v.length) r' hr' (by simpa using hl) (fun i f' hf' => by simpa using ht (i + 1) f' (by simpa using hf')))
        · cases h
      · cases h
    · cases h

theorem decA_sound {P : Program} {g : DataW Unit → Option (List Value)} {w : World} {sp : Nat → Bool} {held : Bool} {base fuel : Nat} {cs : List Value} {e : TypeId}
    (hg : ∀ d vs cs' p, g d = some vs → DataW.trod (fun _ => ()) P w base sp held fuel e cs' = some (d, p) → cs' = vs) :
    ∀ (ds : List (DataW Unit)) (ps : List (List MemPlace)) (k : Nat) (r : List Value), decA g (P.cellsOf e) ds = some r → ds.length = ps.length →
      (∀ i, i < ds.length → DataW.trod (fun _ => ()) P w base sp held fuel e ((cs.drop ((k + i) * P.cellsOf e)).take (P.cellsOf e)) = (ds.zip ps)[i]?) → (cs.drop (k * P.cellsOf e)).take r.length = r
  | [], _, _, _, h, _, _ => by simp [decA] at h; subst h; simp
  | d :: ds, [], _, _, _, hl, _ => by simp at hl
  | d :: ds, p :: ps, k, r, h, hl, ht => by
    simp only [decA] at h
    split at h
    · rename_i v hv
      split at h
      · rename_i hof
        split at h
        · rename_i r' hr'
          cases h
          have h0 := ht 0 (by simp)
          simp at h0
          have e0 := hg _ _ _ _ hv h0
          rw [← hof] at e0
          refine take_drop_append cs v r' _ (by rw [hof] at e0 ⊢; exact e0) ?_
          have := decA_sound hg ds ps (k + 1) r' hr' (by simpa using hl) (fun i hi => by
            have := ht (i + 1) (by simpa using hi)
            simpa [Nat.add_assoc, Nat.add_comm 1 i] using this)
          rw [hof, show k * P.cellsOf e + P.cellsOf e = (k + 1) * P.cellsOf e by rw [Nat.add_mul, Nat.one_mul]]
          exact this
        · cases h
      · cases h
    · cases h

theorem zip_fst_snd {α β : Type} : ∀ (xs : List (α × β)), (xs.map (·.1)).zip (xs.map (·.2)) = xs
  | [] => rfl
  | x :: xs => by simp [zip_fst_snd xs]

theorem dec_sound {P : Program} {w : World} {sp : Nat → Bool} {held : Bool} {base : Nat} : ∀ (n : Nat) (t : TypeId) (d : DataW Unit) (vs : List Value) (fuel : Nat) (cs : List Value) (p : List MemPlace),
    dec P n t d = some vs → DataW.trod (fun _ => ()) P w base sp held fuel t cs = some (d, p) → cs = vs
  | 0, _, _, _, _, _, _, h, _ => by simp [dec] at h
  | n + 1, t, d, vs, fuel, cs, p, h, ht => by
    simp only [dec] at h
    split at h
    · rename_i k k' a hu
      obtain ⟨m, rfl, hx, _⟩ := DataW.trod_int hu ht
      simp only [Prod.mk.injEq, DataW.lit.injEq, Lit.int.injEq] at hx
      split at h
      · cases h; rw [hx.1.2]
      · cases h
    · rename_i b hu
      obtain ⟨m, rfl, hx⟩ := DataW.trod_bool hu ht
      simp only [Prod.mk.injEq, DataW.lit.injEq, Lit.bool.injEq] at hx
      cases h; rw [hx.1]
    · rename_i s hu
      obtain ⟨m, rfl, hx, _⟩ := DataW.trod_string hu ht
      simp only [Prod.mk.injEq, DataW.lit.injEq, Lit.string.injEq] at hx
      cases h; rw [hx.1]
    · rename_i m e ds hu
      split at h
      · rename_i r hr
        split at h
        · rename_i hl
          cases h
          obtain ⟨xs, f, rfl, hx, hcl, hxl, hel⟩ := DataW.trod_array hu ht
          simp only [Prod.mk.injEq, DataW.agg.injEq] at hx
          obtain ⟨rfl, _⟩ := hx
          have := decA_sound (cs := cs) (fun d' vs' cs' p' h1 h2 => dec_sound n e d' vs' f cs' p' h1 h2) _ (xs.map (·.2)) 0 vs hr (by simp) (fun i hi => by
            rw [zip_fst_snd, Nat.zero_add]; exact hel i (by simp at hi; omega))
          simp only [Nat.zero_mul, List.drop_zero] at this
          rw [← this, List.take_of_length_le (by omega)]
        · cases h
      · cases h
    · rename_i fs ds hu
      split at h
      · rename_i r hr
        split at h
        · rename_i hl
          cases h
          obtain ⟨xs, f, rfl, hx, hcl, hxl, hel⟩ := DataW.trod_struct hu ht
          simp only [Prod.mk.injEq, DataW.agg.injEq] at hx
          obtain ⟨rfl, _⟩ := hx
          have := decF_sound (cs := cs) (fun t' d' vs' cs' p' h1 h2 => dec_sound n t' d' vs' f cs' p' h1 h2) _ _ (xs.map (·.2)) 0 vs hr (by simp) (fun i f' hf' => by
            rw [zip_fst_snd]; exact hel i f' (by simpa using hf'))
          simp only [List.drop_zero] at this
          rw [← this, List.take_of_length_le (by omega)]
        · cases h
      · cases h
    · cases h

/-- A variable of the list, with the places that it and its datum take. -/
structure At (P : Program) (W : World) (nm : String) (d : DataW Unit) (qs : List MemPlace) : Prop where
  got : ∃ g t cs fuel p, P.globalNamed nm = some g ∧ (P.globals[g]?).map (·.type) = some t ∧ W.var? P nm = some cs ∧
    DataW.trod (fun _ => ()) P W 0 (fun _ => true) false fuel t cs.toList = some (d, p) ∧ qs = MemPlace.row ⟨g, 0, none⟩ cs.size ++ p

theorem laidVars_at {P : Program} {W : World} : ∀ (laid : List (String × DataW Unit)) (ps : List MemPlace), DataW.LaidVars P W laid ps → ∀ (i : Nat) (nm : String) (d : DataW Unit), laid[i]? = some (nm, d) → ∃ qs, At P W nm d qs ∧ qs.Sublist ps
  | [], _, _, i, _, _, h => by simp at h
  | (n, d0) :: r, ps, hl, i, nm, d, h => by
    obtain ⟨g, t, cs, fuel, p, q, h1, h2, h3, h4, h5, rfl⟩ := hl
    rcases i with _ | i
    · simp only [List.getElem?_cons_zero, Option.some.injEq, Prod.mk.injEq] at h
      obtain ⟨rfl, rfl⟩ := h
      exact ⟨_, ⟨g, t, cs, fuel, p, h1, h2, h3, h4, rfl⟩, List.sublist_append_left _ _⟩
    · obtain ⟨qs, ha, hs⟩ := laidVars_at r q h5 i nm d (by simpa using h)
      exact ⟨qs, ha, hs.trans (List.sublist_append_right _ _)⟩

theorem laidVars_two {P : Program} {W : World} : ∀ (laid : List (String × DataW Unit)) (ps : List MemPlace), DataW.LaidVars P W laid ps → ∀ (i j : Nat) (nm nm' : String) (d d' : DataW Unit), i < j → laid[i]? = some (nm, d) → laid[j]? = some (nm', d') →
    ∃ qs qs', At P W nm d qs ∧ At P W nm' d' qs' ∧ (qs ++ qs').Sublist ps
  | [], _, _, i, _, _, _, _, _, _, h, _ => by simp at h
  | (n, d0) :: r, ps, hl, i, j, nm, nm', d, d', hij, h, h' => by
    obtain ⟨g, t, cs, fuel, p, q, h1, h2, h3, h4, h5, rfl⟩ := hl
    rcases j with _ | j
    · omega
    · rcases i with _ | i
      · simp only [List.getElem?_cons_zero, Option.some.injEq, Prod.mk.injEq] at h
        obtain ⟨rfl, rfl⟩ := h
        obtain ⟨qs, ha, hs⟩ := laidVars_at r q h5 j nm' d' (by simpa using h')
        exact ⟨_, qs, ⟨g, t, cs, fuel, p, h1, h2, h3, h4, rfl⟩, ha, (List.Sublist.refl _).append hs⟩
      · obtain ⟨qs, qs', ha, ha', hs⟩ := laidVars_two r q h5 i j nm nm' d d' (by omega) (by simpa using h) (by simpa using h')
        exact ⟨qs, qs', ha, ha', hs.trans (List.sublist_append_right _ _)⟩

/-- The cells of a listed variable of plain data. -/
theorem laid_cells {P : Program} {W : World} {laid : List (String × DataW Unit)} (h : laidMet P laid W) (i : Nat) {nm : String} {d : DataW Unit} (hi : laid[i]? = some (nm, d)) {g : Nat} {t : TypeId} (n : Nat) {vs : List Value}
    (hg : P.globalNamed nm = some g) (ht : (P.globals[g]?).map (·.type) = some t) (hd : dec P n t d = some vs) (o : Nat) : W.cell? ⟨g, o, none⟩ = vs[o]? := by
  obtain ⟨ps, hl, _, _⟩ := h
  obtain ⟨qs, ⟨g', t', cs, fuel, p, h1, h2, h3, h4, _⟩, _⟩ := laidVars_at _ _ hl i nm d hi
  obtain rfl := Option.some.inj (hg.symm.trans h1)
  obtain rfl := Option.some.inj (ht.symm.trans h2)
  have := dec_sound n t d vs fuel _ p hd h4
  rw [World.var?_cell h1 h3 o, ← this]
  simp

/-- What is asked of the types of an error made by errors.New. -/
structure ErrTypes (P : Program) (ti tp : TypeId) : Prop where
  i : ∃ ms, P.underlying ti = some (.interface ms)
  row : ∀ u, P.typeName? 3 u = some "*errors.errorString" → u = tp
  rest : ∃ te ts f, P.underlying tp = some (.pointer te) ∧ P.underlying te = some (.struct #[f]) ∧ f.type = ts ∧ f.offset = 0 ∧ P.underlying ts = some .string ∧ P.cellsOf te = 1 ∧ P.cellsOf ts = 1

theorem at_sentinel {P : Program} {W : World} {ps : List MemPlace} {nm : String} {text : List UInt8} {qs : List MemPlace} {g : Nat} {ti tp : TypeId} (hT : ErrTypes P ti tp)
    (hrows : ∀ b off, MemPlace.cell b off ∈ ps → (∃ c t, W.heap[b]? = some (.cells c t (0, 0))) ∧ ∀ u v, W.cell? ⟨b, off, none⟩ = some (.iface u v) → Value.okWide P W .any 0 u v)
    (ha : At P W nm (.iface "*errors.errorString" (.ptr (.agg [.lit (.string text)]))) qs) (hs : qs.Sublist ps) (hg : P.globalNamed nm = some g) (ht : (P.globals[g]?).map (·.type) = some ti) :
    ∃ a c t, W.cell? ⟨g, 0, none⟩ = some (.iface tp (.pointer (some a))) ∧ W.heap[a.block]? = some (.cells c t (0, 0)) ∧ MemPlace.cell a.block a.off ∈ qs := by
  obtain ⟨ms, hi⟩ := hT.i
  obtain ⟨te, ts, f, hp, he, hft, hfo, hst, hc, hcs⟩ := hT.rest
  obtain ⟨g', t', cs, fuel, p, h1, h2, h3, h4, rfl⟩ := ha
  obtain rfl := Option.some.inj (hg.symm.trans h1)
  obtain rfl := Option.some.inj (ht.symm.trans h2)
  obtain ⟨l⟩ := cs
  have ok : ∀ u v, l = [.iface u v] → Value.okWide P W .any 0 u v := fun u v e => by
    subst e
    exact (hrows g 0 (hs.subset (by simp [MemPlace.row]))).2 u v (by simpa using World.var?_cell h1 h3 0)
  obtain ⟨a, s, rfl, hca, _, _, rfl⟩ := errorString_of_trod hi hT.row hp he hft hfo hst hc hcs h4 ok
  have hm : MemPlace.cell a.block a.off ∈ MemPlace.row ⟨g, 0, none⟩ (⟨[Value.iface tp (.pointer (some a))]⟩ : Array Value).size ++ MemPlace.row a 1 := by simp [MemPlace.row]
  obtain ⟨c, t, hb⟩ := (hrows a.block a.off (hs.subset hm)).1
  exact ⟨a, c, t, by simpa using World.var?_cell h1 h3 0, hb, hm⟩

/-- A listed sentinel. -/
theorem laid_err {P : Program} {W : World} {laid : List (String × DataW Unit)} (h : laidMet P laid W) (i : Nat) {nm : String} {text : List UInt8} (hi : laid[i]? = some (nm, .iface "*errors.errorString" (.ptr (.agg [.lit (.string text)])))) {g : Nat} {ti tp : TypeId} (hT : ErrTypes P ti tp)
    (hg : P.globalNamed nm = some g) (ht : (P.globals[g]?).map (·.type) = some ti) : ∃ a c t, W.cell? ⟨g, 0, none⟩ = some (.iface tp (.pointer (some a))) ∧ W.heap[a.block]? = some (.cells c t (0, 0)) := by
  obtain ⟨ps, hl, _, hrows⟩ := h
  obtain ⟨qs, ha, hs⟩ := laidVars_at _ _ hl i nm _ hi
  obtain ⟨a, c, t, h1, h2, _⟩ := at_sentinel hT hrows ha hs hg ht
  exact ⟨a, c, t, h1, h2⟩

/-- Two listed sentinels are two pointers. -/
theorem laid_errs_ne {P : Program} {W : World} {laid : List (String × DataW Unit)} (h : laidMet P laid W) (i j : Nat) (hij : i < j) {nm nm' : String} {text text' : List UInt8} (hi : laid[i]? = some (nm, .iface "*errors.errorString" (.ptr (.agg [.lit (.string text)])))) (hj : laid[j]? = some (nm', .iface "*errors.errorString" (.ptr (.agg [.lit (.string text')]))))
    {g g' : Nat} {ti tp : TypeId} (hT : ErrTypes P ti tp) (hg : P.globalNamed nm = some g) (ht : (P.globals[g]?).map (·.type) = some ti) (hg' : P.globalNamed nm' = some g') (ht' : (P.globals[g']?).map (·.type) = some ti)
    {a a' : Addr} (ha : W.cell? ⟨g, 0, none⟩ = some (.iface tp (.pointer (some a)))) (ha' : W.cell? ⟨g', 0, none⟩ = some (.iface tp (.pointer (some a')))) : a ≠ a' := by
  obtain ⟨ps, hl, hnd, hrows⟩ := h
  obtain ⟨qs, qs', h1, h2, hs⟩ := laidVars_two _ _ hl i j nm nm' _ _ hij hi hj
  obtain ⟨b, c, t, e1, _, m1⟩ := at_sentinel hT hrows h1 ((List.sublist_append_left _ _).trans hs) hg ht
  obtain ⟨b', c', t', e2, _, m2⟩ := at_sentinel hT hrows h2 ((List.sublist_append_right _ _).trans hs) hg' ht'
  rw [ha] at e1
  rw [ha'] at e2
  cases e1
  cases e2
  rintro rfl
  have := hnd.sublist hs
  rw [List.nodup_append] at this
  exact this.2.2 _ m1 _ m2 rfl
end Go.Proofs.YtopgbggighaknaaDoor
