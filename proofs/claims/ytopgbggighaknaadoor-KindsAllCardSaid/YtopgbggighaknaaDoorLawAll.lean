/- selionlaw05: the walk of a law (made by gen_laws.py): LawAll. -/
import Derived.Test.YtopgbggighaknaaDoorLaw5
import Derived.Test.YtopgbggighaknaaDoorM17
import Derived.Test.YtopgbggighaknaaDoorM12
namespace Go.Proofs.YtopgbggighaknaaDoor
open Go.RowKit Go
theorem kfind_dn (A : Option Addr) (n c : Nat) (xs : List DRow) (L : List DescR) (hn : n ≤ 1000000) (hs : Small xs) (x : DRow) (d : DescR) (w : World) (h : Dl w A n xs L) (hx : Dn w x d) :
    Calls Tryd.prog 8 #[.slice A n c, .agg x.cells] w fun e w' => e = .returned (.tuple #[.int .i64 ((findK L d : Nat) : Int), .bool (decide (d ∈ L))]) ∧ Ext w w' := by
  obtain ⟨s1, A1, n1, c1, t1, B1, m1, z1⟩ := x
  obtain ⟨ds, dl, dt, dr⟩ := d
  obtain rfl : s1 = ds := hx.s
  obtain rfl : t1 = dt := hx.t
  exact kfind_is A n c xs L hn hs A1 B1 n1 m1 c1 z1 s1 t1 dl dr w h hx.p hx.q
theorem dright_dn (x : DRow) (d : DescR) (hn : x.n ≤ 1000000) (hm : x.m ≤ 1000000) (w : World) (hx : Dn w x d) :
    Calls Tryd.prog 9 #[.agg x.cells] w fun e w' => e = .returned (.bool (rightB d)) ∧ Ext w w' := by
  obtain ⟨s1, A1, n1, c1, t1, B1, m1, z1⟩ := x
  obtain ⟨ds, dl, dt, dr⟩ := d
  obtain rfl : s1 = ds := hx.s
  obtain rfl : t1 = dt := hx.t
  exact dright_is A1 B1 n1 m1 c1 z1 s1 t1 dl dr hn hm w hx.p hx.q
theorem all_facts (L : List DescR) (y : Int) : (ofE L y = 50 ∧ rightK L = false) ∨ (ofE L y = 51 ∧ rightK L = true) ∨
    (ofE L y = 0 ∧ rightB (ofD L y) = true ∧ ((findK L (ofD L y) : Nat) : Int) = y ∧ ofD L y ∈ L ∧ 1 ≤ y ∧ y ≤ L.length) := by
  cases hr : rightK L with
  | false => exact .inl ⟨by unfold ofE; rw [hr]; rfl, rfl⟩
  | true =>
    by_cases h : 1 ≤ y ∧ y ≤ L.length
    · have e : ofE L y = 0 := by unfold ofE; rw [if_pos hr, if_pos h]
      have hk : y.toNat - 1 < L.length := by omega
      have ed : ofD L y = L[y.toNat - 1] := by unfold ofD; rw [if_pos e, List.getElem?_eq_getElem hk]; rfl
      obtain ⟨h1, h2, h3⟩ := (rightK_iff _).1 hr
      have hm : ofD L y ∈ L := by rw [ed]; exact List.getElem_mem hk
      have hf := findK_get L h2 (y.toNat - 1) (ofD L y) (by rw [ed]; exact List.getElem?_eq_getElem hk)
      exact .inr (.inr ⟨e, h1 _ hm, by rw [hf]; omega, hm, h.1, h.2⟩)
    · exact .inr (.inl ⟨by unfold ofE; rw [if_pos hr, if_neg h], rfl⟩)
theorem few_len5a (n : Nat) (xs : List DRow) (L : List DescR) (w : World) (A : Option Addr) (h : Dl w A n xs L) : (fewD L).length = min n 62 := by
  rw [fewD, List.length_map, List.length_take, h.2.1]; omega
set_option maxHeartbeats 8000000 in
set_option maxRecDepth 100000 in
theorem all_walk (A : Option Addr) (n c : Nat) (xs : List DRow) (L : List DescR) (y : Int) (w : World) (h : Dl w A n xs L) (hz : Zs xs) (hG : K.G w) (hTab : HTab w) :
    Calls Tryd.prog 3 #[.slice A n c, .int .i64 y] w fun e w' => e = .returned (.bool true) ∧ Ext w w' := by
  have SH := Lib.hid (shown5_is w hG hTab)
  have HG := Lib.hid (fun W (hW : Ext w W) => hG.ext hW)
  have HB := Lib.hid (fun W (hW : Ext w W) => hTab.ext hW)
  obtain ⟨N, hN⟩ : ∃ N, min n 62 = N := ⟨_, rfl⟩
  have h62 : N ≤ 62 := by omega
  have HN := Lib.hid hN
  have HI := Lib.hid (And.intro h hz)
  clear h hz hG hTab hN
  have hlen := few_len5a n xs L w A HI.out.1
  rw [HN.out] at hlen
  have ha := all_facts (fewD L) y
  rw [hlen] at ha
  have OF := Lib.hid (fun A c xs W hc hs hG h => kof_is A N c xs (fewD L) y (by omega) hc hs W hG h)
  have RK := Lib.hid (fun A c xs W hc hs hG h => kright_is A N c xs (fewD L) (by omega) hc hs W hG h)
  have FK := Lib.hid (fun A c xs x d W hs h hx => kfind_dn A N c xs (fewD L) (by omega) hs x d W h hx)
  unfold OfR at OF
  clear hlen
  rcases ha with ⟨e1, e2⟩ | ⟨e1, e2⟩ | ⟨e1, e2, e3, e4, e5, e6⟩
  · rw [e1] at OF
    rw [e2] at RK
    clear e1 e2
    go_enter Tryd.func3, Tryd.ntmps3
    go_wp2_with (first | (go_at_call 4; refine SH.out.mono ?_; rintro e w1 ⟨rfl, kx⟩; clear SH) | (go_at_call 5; have FW := few_is A n c xs L _ (HI.out.1.ext kx) HI.out.2; rw [HN.out] at FW; refine FW.mono ?_; clear FW; unfold RowP; rintro e w2 ⟨A1, c1, xs1, rfl, h1, h2, h3, h4, k2⟩; have D1 := Lib.hid h2; have F1 := Lib.hid (And.intro h1 (And.intro h3 h4)); replace kx := Ext.trans kx k2; clear h1 h2 h3 h4 k2) | (go_at_call 6; refine (OF.out A1 c1 xs1 _ F1.out.1 F1.out.2.1 (HG.out _ kx) D1.out).mono ?_; clear OF; rintro e w6 ⟨⟨s5, A5, n5, c5, t5, B5, m5, z5⟩, rfl, h1, h2, h3, k6⟩; simp only [DRow.cells]; have kB := ext1 w6 (.cells #[.int .i64 s5, .slice A5 n5 c5, .int .i64 t5, .slice B5 m5 z5] 27); replace kx := Ext.trans kx (Ext.trans k6 kB); replace D1 := Lib.hid (D1.out.ext (Ext.trans k6 kB)); clear h1 h2 h3 k6 kB) | (go_at_call 7; refine (RK.out A1 c1 xs1 _ F1.out.1 F1.out.2.1 (HG.out _ kx) D1.out).mono ?_; rintro e w9 ⟨rfl, k9⟩))
    go_ret
    exact ⟨rfl, Ext.trans kx k9⟩
  · rw [e1] at OF
    rw [e2] at RK
    clear e1 e2
    go_enter Tryd.func3, Tryd.ntmps3
    go_wp2_with (first | (go_at_call 4; refine SH.out.mono ?_; rintro e w1 ⟨rfl, kx⟩; clear SH) | (go_at_call 5; have FW := few_is A n c xs L _ (HI.out.1.ext kx) HI.out.2; rw [HN.out] at FW; refine FW.mono ?_; clear FW; unfold RowP; rintro e w2 ⟨A1, c1, xs1, rfl, h1, h2, h3, h4, k2⟩; have D1 := Lib.hid h2; have F1 := Lib.hid (And.intro h1 (And.intro h3 h4)); replace kx := Ext.trans kx k2; clear h1 h2 h3 h4 k2) | (go_at_call 6; refine (OF.out A1 c1 xs1 _ F1.out.1 F1.out.2.1 (HG.out _ kx) D1.out).mono ?_; clear OF; rintro e w6 ⟨⟨s5, A5, n5, c5, t5, B5, m5, z5⟩, rfl, h1, h2, h3, k6⟩; simp only [DRow.cells]; have kB := ext1 w6 (.cells #[.int .i64 s5, .slice A5 n5 c5, .int .i64 t5, .slice B5 m5 z5] 27); replace kx := Ext.trans kx (Ext.trans k6 kB); replace D1 := Lib.hid (D1.out.ext (Ext.trans k6 kB)); clear h1 h2 h3 k6 kB) | (go_at_call 7; refine (RK.out A1 c1 xs1 _ F1.out.1 F1.out.2.1 (HG.out _ kx) D1.out).mono ?_; rintro e w9 ⟨rfl, k9⟩))
    go_ret
    exact ⟨rfl, Ext.trans kx k9⟩
  · rw [e1] at OF
    replace FK := Lib.hid (fun A c xs x W hs h hx => FK.out A c xs x (ofD (fewD L) y) W hs h hx)
    rw [e3, decide_eq_true e4] at FK
    generalize ofD (fewD L) y = d5 at *
    have HB5 := Lib.hid e2
    clear e1 e2 e3 e4
    go_enter Tryd.func3, Tryd.ntmps3
    go_wp2_with (first | (go_at_call 4; refine SH.out.mono ?_; rintro e w1 ⟨rfl, kx⟩; clear SH) | (go_at_call 5; have FW := few_is A n c xs L _ (HI.out.1.ext kx) HI.out.2; rw [HN.out] at FW; refine FW.mono ?_; clear FW; unfold RowP; rintro e w2 ⟨A1, c1, xs1, rfl, h1, h2, h3, h4, k2⟩; have D1 := Lib.hid h2; have F1 := Lib.hid (And.intro h1 (And.intro h3 h4)); replace kx := Ext.trans kx k2; clear h1 h2 h3 h4 k2) | (go_at_call 6; refine (OF.out A1 c1 xs1 _ F1.out.1 F1.out.2.1 (HG.out _ kx) D1.out).mono ?_; clear OF; rintro e w6 ⟨⟨s5, A5, n5, c5, t5, B5, m5, z5⟩, rfl, h1, h2, h3, k6⟩; simp only [DRow.cells]; have kB := ext1 w6 (.cells #[.int .i64 s5, .slice A5 n5 c5, .int .i64 t5, .slice B5 m5 z5] 27); replace kx := Ext.trans kx (Ext.trans k6 kB); replace D1 := Lib.hid (D1.out.ext (Ext.trans k6 kB)); have bX := Blk.new w6 #[.int .i64 s5, .slice A5 n5 c5, .int .i64 t5, .slice B5 m5 z5] 27; obtain ⟨⟨cx0, cx1, cx2, cx3⟩, -⟩ := cells4 bX; have X5 := Lib.hid (h1.ext kB); have F5 := Lib.hid (And.intro h2 h3); clear h1 h2 h3 k6 kB) | (go_at_call 8; refine (FK.out A1 c1 xs1 ⟨s5, A5, n5, c5, t5, B5, m5, z5⟩ _ F1.out.2.1 D1.out X5.out).mono ?_; rintro e w7 ⟨rfl, k7⟩; replace kx := Ext.trans kx k7; replace X5 := Lib.hid (X5.out.ext k7); replace bX := bX.ext k7; clear cx0 cx1 cx2 cx3; obtain ⟨⟨cx0, cx1, cx2, cx3⟩, -⟩ := cells4 bX; clear k7) | (go_at_call 9; have DR := dright_dn ⟨s5, A5, n5, c5, t5, B5, m5, z5⟩ d5 (Nat.le_trans F5.out.1 (by decide)) (Nat.le_trans F5.out.2 (by decide)) _ X5.out; rw [HB5.out] at DR; refine DR.mono ?_; clear DR; rintro e w9 ⟨rfl, k9⟩))
    go_ret
    exact ⟨rfl, Ext.trans kx k9⟩
end Go.Proofs.YtopgbggighaknaaDoor
