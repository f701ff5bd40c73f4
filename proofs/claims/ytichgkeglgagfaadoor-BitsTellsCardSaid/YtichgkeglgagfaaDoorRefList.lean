/- The reference's List, Count. -/
import Derived.Test.YtichgkeglgagfaaDoorNext
import Derived.Test.YtichgkeglgagfaaDoorApp
namespace Go.Proofs.YtichgkeglgagfaaDoor
open Go.RowKit Go
def encI (l : List Nat) : List Value := l.map fun i => Value.int .i64 (i : Nat)
/-- A list of places, in memory of its own. -/
def ListR (w : World) (L : List Nat) (e : Ending) (w' : World) : Prop :=
  ∃ A c, e = .returned (.slice A L.length c) ∧ Rd w' A L.length (fun j => .int .i64 (L.getD j 0 : Nat)) ∧ Ext w w'
def lst (N : Int) (ws : List Nat) : List Nat := if rightB N ws then plist N ws 0 true else []
theorem infoI : (Tryd.prog.info? 3).map (fun i => (i.zero, i.size, i.bytes)) = some (some (.int .i64 0), 1, 8) := by kernel_rfl
theorem ListR.of_own {w w0 w' : World} {base : Nat} {L : List Nat} {v : Value} (h : w0.ownsRow base 3 1 v L.length (encI L)) (he : Ext w0 w') (hE : Ext w w') : ListR w L (.returned v) w' := by
  obtain ⟨A, c, rfl, hr⟩ := rd_of_own h
  refine ⟨A, c, rfl, fun hn => ?_, hE⟩
  obtain ⟨ad, e, hb, hc⟩ := (hr.ext he) hn
  refine ⟨ad, e, hb, fun j hj => ?_⟩
  rw [hc j hj]
  simp [encI, hj]
def preN (ws : List Nat) (k : Nat) : List Nat := (List.range k).filter fun i => bit ws i
theorem preN_succ (ws : List Nat) (k : Nat) : preN ws (k + 1) = if bit ws k then preN ws k ++ [k] else preN ws k := by
  unfold preN
  rw [List.range_succ, List.filter_append, List.filter_cons]
  split <;> simp
theorem preN_len (ws : List Nat) (k : Nat) : (preN ws k).length ≤ k := by have := List.length_filter_le (fun i => bit ws i) (List.range k); simpa [preN] using this
theorem preN_end {M : Nat} {ws : List Nat} (h : Right (M : Int) ws) : preN ws M = plist M ws 0 true := by
  unfold preN plist plTo
  have hl := h.len
  have e : 32 * ws.length = M + (32 * ws.length - M) := by omega
  rw [e, List.range_add, List.filter_append]
  have h2 : ((List.range (32 * ws.length - M)).map (M + ·)).filter (sel M ws 0 true) = [] := by
    rw [List.filter_eq_nil_iff]
    intro i hi
    obtain ⟨j, _, rfl⟩ := List.mem_map.1 hi
    simp only [sel, Bool.and_eq_true, decide_eq_true_eq]
    omega
  rw [h2, List.append_nil]
  apply List.filter_congr
  intro i hi
  have := List.mem_range.1 hi
  rw [Bool.eq_iff_iff]
  simp only [sel, Bool.and_eq_true, decide_eq_true_eq, beq_iff_eq]
  constructor
  · intro hb; exact ⟨⟨by omega, by omega⟩, hb⟩
  · rintro ⟨_, hb⟩; exact hb
section
set_option maxHeartbeats 4000000 in
theorem refList_any (N : Int) (A : Option Addr) (n c : Nat) (ws : List Nat) (w : World) (h : Bt w A n ws) :
    Calls Tryd.prog 23 #[.agg #[.int .i64 N, .slice A n c]] w (ListR w (lst N ws)) := by
  have E1 := ext1 w (.cells #[.int .i64 N, .slice A n c] 24)
  have hR := fun W (hW : Ext w W) => refRight_any N A n c ws W (h.ext hW)
  by_cases hr : rightB N ws = true
  · have RR := Lib.hid (hr ▸ hR)
    have hr' := (right_iff N ws).1 hr
    obtain ⟨M, rfl⟩ := Int.eq_ofNat_of_zero_le hr'.n0
    have hM : M ≤ 20000 := by have := hr'.n1; omega
    have hMn : M ≤ 32 * n := by have := hr'.len; have := h.len; omega
    have H := Lib.hid (And.intro h (And.intro E1 (show lst M ws = preN ws M by rw [lst, if_pos hr, preN_end hr'])))
    obtain ⟨i0, hi, hz⟩ := Option.map_eq_some_iff.1 infoI
    simp only [Prod.mk.injEq] at hz
    obtain ⟨hz0, hz1, hz2⟩ := hz
    have HI := Lib.hid (And.intro hi (And.intro hz0 (And.intro hz1 hz2)))
    clear hR hr hr' h hi hz0 hz1 hz2 E1
    go_enter Tryd.func23, Tryd.ntmps23
    go_wp2_with (go_at_call 16; refine (RR.out _ H.out.2.1).mono ?_; rintro e w1 ⟨rfl, h1⟩)
    have hb1 := Lib.hid (And.intro (at_new h1) (Ext.trans H.out.2.1 h1))
    clear h1
    go_loopw [3, 4] (fun v i wr => ∃ k : Nat, i = .int .i64 k ∧ k ≤ M ∧ wr.ownsRow w1.heap.size 3 1 v (preN ws k).length (encI (preN ws k)) ∧ Ext w1 wr) (fun _ i _ => M - (intOf i).toNat)
    case atStart => exact ⟨0, rfl, by omega, World.ownsRow_nil _ _ _ _, Ext.refl _⟩
    case round =>
      obtain ⟨k, rfl, hk, hown, hE⟩ := hrel
      have c0 := (hb1.out.1.ext hE).cell 0
      have c1 := (hb1.out.1.ext hE).cell 1
      simp at c0 c1
      have hEw := Ext.trans hb1.out.2 hE
      by_cases hlt : k < M
      · have hO := fun W (hW : Ext wr W) => on_any M A n c ws k (by omega) W (H.out.1.ext (Ext.trans hEw hW))
        have h5 : (k : Int) < M := by omega
        have hs := preN_succ ws k
        have hpl := preN_len ws k
        cases hb : bit ws k
        · have OO := Lib.hid (hb ▸ hO)
          rw [hb, if_neg (by simp)] at hs
          have HH := Lib.hid (And.intro hs (And.intro hown (And.intro hE hEw)))
          clear hO hb hs hown hE hEw
          go_wp2_with (go_at_call 40; refine (OO.out _ (Ext.refl _)).mono ?_; rintro e w2 ⟨rfl, h2⟩)
          go_roundw
          case rel => exact ⟨k + 1, by go_num, by omega, by rw [HH.out.1]; exact own_ext HH.out.2.1 h2, Ext.trans HH.out.2.2.1 h2⟩
          case measure => simp [intOf]; omega
        · have OO := Lib.hid (hb ▸ hO)
          rw [hb, if_pos rfl] at hs
          have HH := Lib.hid (And.intro hs (And.intro hown (And.intro hE hEw)))
          clear hO hb hs hown hE hEw
          go_wp2_with (first | (go_at_call 40; refine (OO.out _ (Ext.refl _)).mono ?_; rintro e w2 ⟨rfl, h2⟩) | (at_builtin; refine wpList_append_own _ rfl _ _ 34 rfl w1.heap.size 3 i0 (.int .i64 0) 1 8 Tryd.underlying34 HI.out.1 HI.out.2.1 HI.out.2.2.1 HI.out.2.2.2 rfl (by decide) _ _ _ rfl (own_ext HH.out.2.1 (Ext.trans h2 (ext1 _ _))) ⟨w2.heap.size, 0, none⟩ 1 1 [.int .i64 (k : Nat)] rfl rfl (cell_one_new _ _ _) (by simp [Value.oneCell']) (by unfold maxLen; omega) (by omega) (by have := h2.size; have := HH.out.2.2.1.size; simp; omega) ?_; intro v' w3 hown3 hgrow _))
          refine ⟨⟨k + 1, by go_num, by omega, ?_, ?_⟩, by simp [intOf]; omega⟩
          · rw [HH.out.1]
            simpa [encI] using hown3
          · exact Below.grown (Ext.trans HH.out.2.2.1 (Ext.trans h2 (ext1 _ _))) hgrow (by have := h2.size; have := HH.out.2.2.1.size; simp; omega) (own_block HH.out.2.1)
      · have hk' : k = M := by omega
        subst hk'
        have HH := Lib.hid (And.intro hown hEw)
        clear hown hE hEw
        go_wp2
        go_ret
        rw [H.out.2.2]
        exact ListR.of_own HH.out.1 (Ext.refl _) HH.out.2
  · have hr' : rightB N ws = false := by simpa using hr
    have RR := Lib.hid (hr' ▸ hR)
    have HP := Lib.hid (And.intro (show lst N ws = [] by rw [lst, if_neg hr]) E1)
    clear hR hr hr' h E1
    go_enter Tryd.func23, Tryd.ntmps23
    go_wp2_with (go_at_call 16; refine (RR.out _ HP.out.2).mono ?_; rintro e w1 ⟨rfl, h1⟩)
    go_ret
    rw [HP.out.1]
    exact ⟨none, 0, rfl, fun h => absurd h (by simp), Ext.trans HP.out.2 h1⟩

theorem cntN_lst (N : Int) (ws : List Nat) : cntN N ws = (lst N ws).length := by unfold cntN lst; split <;> rfl
set_option maxHeartbeats 1000000 in
theorem refCount_any (N : Int) (A : Option Addr) (n c : Nat) (ws : List Nat) (w : World) (h : Bt w A n ws) :
    Calls Tryd.prog 20 #[.agg #[.int .i64 N, .slice A n c]] w fun e w' => e = .returned (.int .i64 (cntN N ws : Nat)) ∧ Ext w w' := by
  have E1 := ext1 w (.cells #[.int .i64 N, .slice A n c] 24)
  have RL := Lib.hid (fun W (hW : Ext w W) => refList_any N A n c ws W (h.ext hW))
  have HE := Lib.hid (And.intro E1 (cntN_lst N ws))
  clear h E1
  go_enter Tryd.func20, Tryd.ntmps20
  go_wp2_with (go_at_call 23; refine (RL.out _ HE.out.1).mono ?_; rintro e w1 ⟨A', c', rfl, hrd, h1⟩; have HQ := Lib.hid (And.intro hrd h1); clear hrd h1)
  go_ret
  exact ⟨ret_int (by rw [HE.out.2]), Ext.trans HE.out.1 HQ.out.2⟩

def intsB (xs ys : List Nat) : Bool := decide (xs = ys)
set_option maxHeartbeats 2000000 in
theorem ints_any (A A' : Option Addr) (c c' : Nat) (L : List Nat) (hL : L.length ≤ 100000) (w : World) (h : Rd w A L.length (fun j => .int .i64 (L.getD j 0 : Nat))) (h' : Rd w A' L.length (fun j => .int .i64 (L.getD j 0 : Nat))) :
    Calls Tryd.prog 21 #[.slice A L.length c, .slice A' L.length c'] w fun e w' => e = .returned (.bool true) ∧ Ext w w' := by
  have H := Lib.hid (And.intro h h')
  clear h h'
  obtain ⟨f, hf⟩ : ∃ f : Nat → Nat, ∀ j, L.getD j 0 = f j := ⟨fun j => L.getD j 0, fun _ => rfl⟩
  have HF := Lib.hid hf
  clear hf
  generalize L.length = n at *
  go_enter Tryd.func21, Tryd.ntmps21
  go_wp2
  go_loopw [5] (fun i wr => ∃ k : Nat, i = .int .i64 k ∧ k ≤ n ∧ Ext w wr) (fun i _ => n - (intOf i).toNat)
  case atStart => exact ⟨0, rfl, by omega, Ext.refl _⟩
  case round =>
    obtain ⟨k, rfl, hk, hE⟩ := hrel
    by_cases hlt : k < n
    · obtain ⟨ad, rfl, hb, hcell⟩ := H.out.1 (by omega)
      obtain ⟨ad', rfl, hb', hcell'⟩ := H.out.2 (by omega)
      have ck : wr.cell? (ad.add k) = some (.int .i64 (f k : Nat)) := by rw [hE.cell (p := ad.add k) (by rw [block_of_add]; exact hb), hcell k hlt]; show some (Value.int .i64 ((L.getD k 0 : Nat) : Int)) = _; rw [HF.out]
      have ck' : wr.cell? (ad'.add k) = some (.int .i64 (f k : Nat)) := by rw [hE.cell (p := ad'.add k) (by rw [block_of_add]; exact hb'), hcell' k hlt]; show some (Value.int .i64 ((L.getD k 0 : Nat) : Int)) = _; rw [HF.out]
      have h5 : (k : Int) < n := by omega
      have HE := Lib.hid hE
      clear hE hcell hcell'
      go_wp2
      go_quiet (fail)
      go_wp2
      go_roundw
      case rel => exact ⟨k + 1, by go_num, by omega, Ext.trans HE.out (ext_drewN _ _)⟩
      case measure => simp [intOf]; omega
    · have h5 : ¬ (k : Int) < n := by omega
      have HE := Lib.hid hE
      clear hE
      go_wp2
      go_ret
      exact ⟨rfl, HE.out⟩
end
end Go.Proofs.YtichgkeglgagfaaDoor
