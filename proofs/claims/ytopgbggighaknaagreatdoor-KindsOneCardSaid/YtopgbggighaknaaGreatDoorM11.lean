/- Joined texts, in their order: NumbR. -/
import Derived.Test.YtopgbggighaknaaGreatDoorM10
/- selionref04: numbers. -/
namespace Go.Proofs.YtopgbggighaknaaGreatDoor
open Go.RowKit Go
def stN (s : List UInt8) (k : Nat) : List Nat × Bool := (s.take k).foldl numStep ([], false)
theorem stN_succ (s : List UInt8) (k : Nat) (hk : k < s.length) : stN s (k + 1) = numStep (stN s k) s[k] := by
  unfold stN
  rw [List.take_add_one, List.getElem?_eq_getElem hk, List.foldl_append]
  rfl
theorem stN_succ' (s : List UInt8) (k : Nat) (hk : k < s.length) : stN s (k + 1) = numStep (stN s k) (s.getD k 0) := by
  rw [stN_succ s k hk, List.getD_eq_getElem?_getD, List.getElem?_eq_getElem hk]; rfl
theorem stN_end (s : List UInt8) (k : Nat) (hk : s.length ≤ k) : (stN s k).1 = nums s := by
  unfold stN nums
  rw [List.take_of_length_le hk]
theorem numStep_no (st : List Nat × Bool) (c : UInt8) (h : isDig c = false) : numStep st c = (st.1, false) := by simp [numStep, h]
theorem numStep_new (st : List Nat × Bool) (c : UInt8) (h : isDig c = true) (h2 : st.2 = false) : numStep st c = (st.1 ++ [c.toNat - 48], true) := by simp [numStep, h, h2]
theorem numStep_on (st : List Nat × Bool) (c : UInt8) (h : isDig c = true) (h2 : st.2 = true) : numStep st c = (st.1.dropLast ++ [min (10 * st.1.getLastD 0 + (c.toNat - 48)) 10000], true) := by simp [numStep, h, h2]
theorem numStep_2 (st : List Nat × Bool) (c : UInt8) : (numStep st c).2 = isDig c := by
  unfold numStep; split
  · rename_i h; rw [h]; split <;> rfl
  · rename_i h; simpa using h
structure Ok (st : List Nat × Bool) (k : Nat) : Prop where
  ne : st.2 = true → st.1 ≠ []
  le : ∀ x ∈ st.1, x ≤ 10000
  len : st.1.length ≤ k
theorem stN_ok (s : List UInt8) : ∀ k, k ≤ s.length → Ok (stN s k) k := by
  intro k
  induction k with
  | zero => intro _; exact ⟨fun h => by simp [stN] at h, fun x hx => by simp [stN] at hx, by simp [stN]⟩
  | succ k ih =>
    intro hk
    have h := ih (by omega)
    rw [stN_succ s k (by omega)]
    have hb : (s[k]).toNat < 256 := UInt8.toNat_lt _
    by_cases hd : isDig s[k] = true
    · by_cases h2 : (stN s k).2 = true
      · rw [numStep_on _ _ hd h2]
        refine ⟨fun _ => by simp, fun x hx => ?_, ?_⟩
        · rcases List.mem_append.1 hx with hx | hx
          · exact h.le x (List.dropLast_subset _ hx)
          · simp at hx; omega
        · have := h.len; have := List.length_pos_iff.2 (h.ne h2); simp; omega
      · rw [numStep_new _ _ hd (by simpa using h2)]
        refine ⟨fun _ => by simp, fun x hx => ?_, ?_⟩
        · rcases List.mem_append.1 hx with hx | hx
          · exact h.le x hx
          · simp at hx; omega
        · have := h.len; simp; omega
    · rw [numStep_no _ _ (by simpa using hd)]
      exact ⟨fun h => by simp at h, h.le, by have := h.len; show (stN s k).1.length ≤ k + 1; omega⟩
def encN (l : List Nat) : List Value := l.map fun x => Value.int .i64 (x : Nat)
theorem encN_last (l : List Nat) (y : Nat) (hl : l ≠ []) : (encN l).set (l.length - 1) (.int .i64 (y : Nat)) = encN (l.dropLast ++ [y]) := by
  obtain ⟨r, x, rfl⟩ : ∃ r x, l = r ++ [x] := ⟨l.dropLast, l.getLast hl, (List.dropLast_concat_getLast hl).symm⟩
  simp [encN]
/-- The numbers read off a text, in memory of its own. -/
def NumsR (w : World) (s : List UInt8) (e : Ending) (w' : World) : Prop :=
  ∃ A c, e = .returned (.slice A (nums s).length c) ∧ (nums s).length ≤ c ∧ c ≤ maxLen ∧ ((A = none → c = 0) ∧ ∀ ad, A = some ad → w.heap.size ≤ ad.block) ∧ Il w' A (nums s).length ((nums s).map Int.ofNat) ∧ Ext w w'
theorem numsR_of_own {w0 w' : World} {base : Nat} {L : List Nat} {v : Value} (h : w0.ownsRow base 3 1 v L.length (encN L)) (he : Ext w0 w') :
    ∃ A c, v = .slice A L.length c ∧ L.length ≤ c ∧ c ≤ maxLen ∧ ((A = none → c = 0) ∧ ∀ ad, A = some ad → base ≤ ad.block) ∧ Il w' A L.length (L.map Int.ofNat) := by
  obtain ⟨A, c, rfl, hr⟩ := rd_of_own h
  have hc : L.length ≤ c ∧ c ≤ maxLen ∧ ((A = none → c = 0) ∧ ∀ ad, A = some ad → base ≤ ad.block) := by
    rcases h.2 with ⟨e, h0⟩ | ⟨g, cap, cur, e, hgb, _, h1, h2, _⟩
    · simp only [Value.slice.injEq] at e; obtain ⟨e1, e2, e3⟩ := e; exact ⟨by omega, by unfold maxLen; omega, fun _ => e3, fun ad h => by rw [h] at e1; cases e1⟩
    · simp only [Value.slice.injEq] at e; obtain ⟨e1, e2, rfl⟩ := e; exact ⟨by omega, h2, fun h => (by rw [h] at e1; cases e1), fun ad h => (by rw [h] at e1; cases e1; exact hgb)⟩
  refine ⟨A, c, rfl, hc.1, hc.2.1, hc.2.2, by simp, fun hn => ?_⟩
  obtain ⟨ad, e, hb, hcl⟩ := (hr.ext he) hn
  refine ⟨ad, e, hb, fun j hj => ?_⟩
  rw [hcl j hj]
  simp [encN, hj]
section
set_option maxHeartbeats 4000000 in
set_option maxRecDepth 100000 in
theorem numbers_is (X : ByteArray) (s : List UInt8) (hs : X = ⟨s.toArray⟩) (hn : X.size ≤ 1000) (w : World) :
    Calls Tryz.prog 59 #[.string X] w (NumsR w s) := by
  have hX : X.size = s.length := by subst hs; show s.toArray.size = _; simp
  have hget : ∀ k (h : k < X.size), X[k] = s.getD k 0 := by
    subst hs; intro k h
    rw [List.getD_eq_getElem?_getD, List.getElem?_eq_getElem (by rw [← hX]; exact h)]; rfl
  obtain ⟨i0, hi, hz⟩ := Option.map_eq_some_iff.1 infoZ
  simp only [Prod.mk.injEq] at hz
  obtain ⟨hz0, hz1, hz2⟩ := hz
  have HI := Lib.hid (And.intro hi (And.intro hz0 (And.intro hz1 hz2)))
  have HX := Lib.hid (And.intro hX hget)
  clear hi hz0 hz1 hz2 hX hget hs
  go_enter Tryz.func59, Tryz.ntmps59
  go_wp2
  go_loopg [3, 4] X.size (fun m v i wr => ∃ k : Nat, k + m = X.size ∧ i = .int .i64 k ∧ wr.ownsRow w.heap.size 3 1 v (stN s k).1.length (encN (stN s k).1) ∧ Ext w wr)
  case atStart => exact ⟨0, by omega, rfl, World.ownsRow_nil _ _ _ _, Ext.refl _⟩
  case round =>
    obtain ⟨k, hk, rfl, hown, hE⟩ := hrel
    by_cases hlt : k < X.size
    · have h5 : (k : Int) < X.size := by omega
      have h6 : (k : Int) + 1 ≤ 1000000 := by omega
      have hks : k < s.length := by rw [← HX.out.1]; exact hlt
      have hg := HX.out.2 k hlt
      have hst := stN_succ' s k hks
      have hok := stN_ok s k (by omega)
      have hlt256 : (s.getD k 0).toNat < 256 := UInt8.toNat_lt _
      rw [← hg] at hst hlt256
      by_cases hd : 48 ≤ X[k].toNat ∧ X[k].toNat ≤ 57
      · have hdg : isDig X[k] = true := by rw [isDig, Bool.and_eq_true]; simp only [decide_eq_true_eq]; exact hd
        rcases Nat.eq_zero_or_pos k with hk0 | hk0
        · subst hk0
          have hfl : (stN s 0).2 = false := rfl
          have d0 : decide (X[0].toNat < 48) = false := decide_eq_false (by omega)
          have d1 : decide ((X[0].toNat : Int) < 48) = false := decide_eq_false (by omega)
          have d2 : (48 : Int) ≤ X[0].toNat := by omega
          have d3 : ¬ (X[0].toNat : Int) < 48 := by omega
          have e0 : decide (57 < X[0].toNat) = false := decide_eq_false (by omega)
          have e1 : decide ((57 : Int) < X[0].toNat) = false := decide_eq_false (by omega)
          have e2 : (X[0].toNat : Int) ≤ 57 := by omega
          have e3 : ¬ (57 : Int) < X[0].toNat := by omega
          have e4 : decide ((X[0].toNat : Int) ≤ 57) = true := decide_eq_true (by omega)
          have e5 : decide ((48 : Int) ≤ (X[0].toNat : Int)) = true := decide_eq_true (by omega)
          have e6 : decide (X[0].toNat ≤ 57) = true := decide_eq_true (by omega)
          have e7 : decide (48 ≤ X[0].toNat) = true := decide_eq_true (by omega)
          rw [numStep_new _ _ hdg hfl] at hst
          have HH := Lib.hid (And.intro hk (And.intro hown (And.intro hE (And.intro (show (stN s (0 + 1)).1 = (stN s 0).1 ++ [X[0].toNat - 48] by rw [hst]) (show (stN s 0).1.length ≤ 1000 by have := hok.len; omega)))))
          clear hst hok hown hE hk hg hdg hlt256 hfl
          go_wp2_with (at_builtin; refine wpList_append_own _ rfl _ _ 23 rfl w.heap.size 3 i0 (.int .i64 0) 1 8 Tryz.underlying23 HI.out.1 HI.out.2.1 HI.out.2.2.1 HI.out.2.2.2 rfl (by decide) _ _ _ rfl (own_ext HH.out.2.1 (ext1 _ _)) ⟨wr.heap.size, 0, none⟩ 1 1 [.int .i64 ((X[0].toNat : Int) - 48)] rfl rfl (cell_one_new _ _ _) (by simp [Value.oneCell']) (by have := HH.out.2.2.2.2; unfold maxLen; omega) (by have := HH.out.2.2.2.2; omega) (by have := HH.out.2.2.1.size; simp; omega) ?_; intro v' w3 hown3 hgrow _)
          have hcast : ((X[0].toNat - 48 : Nat) : Int) = (X[0].toNat : Int) - 48 := by omega
          go_roundg (gk - 1)
          case measure => have := HH.out.1; omega
          case rel => exact ⟨0 + 1, by have := HH.out.1; omega, by go_num, by rw [HH.out.2.2.2.1]; simpa [encN, hcast] using hown3, Below.grown (Ext.trans HH.out.2.2.1 (ext1 _ _)) hgrow (by have := HH.out.2.2.1.size; simp; omega) (own_block HH.out.2.1)⟩
        · obtain ⟨j, hkj⟩ : ∃ j, k = j + 1 := ⟨k - 1, by omega⟩
          have hj : j < X.size := by omega
          have hgj := HX.out.2 j hj
          have hfj : (stN s k).2 = isDig X[j] := by rw [hkj, stN_succ' s j (by omega), numStep_2, hgj]
          have e1 : ((k : Int) - 1).toNat = j := by omega
          have d4 : decide (0 < k) = true := decide_eq_true (by omega)
          have g1 : (0 : Int) ≤ (k : Int) - 1 := by omega
          have g2 : (k : Int) - 1 < X.size := by omega
          have g3 : 0 < k := by omega
          have g4 : (1 : Int) ≤ (k : Int) := by omega
          have g5 : 1 ≤ k := by omega
          clear hkj
          have d0 : decide (X[k].toNat < 48) = false := decide_eq_false (by omega)
          have d1 : decide ((X[k].toNat : Int) < 48) = false := decide_eq_false (by omega)
          have d2 : (48 : Int) ≤ X[k].toNat := by omega
          have d3 : ¬ (X[k].toNat : Int) < 48 := by omega
          have e0 : decide (57 < X[k].toNat) = false := decide_eq_false (by omega)
          have e1 : decide ((57 : Int) < X[k].toNat) = false := decide_eq_false (by omega)
          have e2 : (X[k].toNat : Int) ≤ 57 := by omega
          have e3 : ¬ (57 : Int) < X[k].toNat := by omega
          have e4 : decide ((X[k].toNat : Int) ≤ 57) = true := decide_eq_true (by omega)
          have e5 : decide ((48 : Int) ≤ (X[k].toNat : Int)) = true := decide_eq_true (by omega)
          have e6 : decide (X[k].toNat ≤ 57) = true := decide_eq_true (by omega)
          have e7 : decide (48 ≤ X[k].toNat) = true := decide_eq_true (by omega)
          by_cases hpd : 48 ≤ X[j].toNat ∧ X[j].toNat ≤ 57
          · have hfl : (stN s k).2 = true := by rw [hfj, isDig, Bool.and_eq_true]; simp only [decide_eq_true_eq]; exact hpd
            clear hfj hgj
            rw [numStep_on _ _ hdg hfl] at hst
            obtain ⟨R, x, hL⟩ : ∃ R x, (stN s k).1 = R ++ [x] := ⟨_, _, (List.dropLast_concat_getLast (hok.ne hfl)).symm⟩
            have hx : x ≤ 10000 := hok.le x (by rw [hL]; simp)
            have hRl : R.length ≤ 1000 := by have := hok.len; rw [hL] at this; simp at this; omega
            rw [hL] at hown hst
            have hN : (stN s (k + 1)).1 = R ++ [min (10 * x + (X[k].toNat - 48)) 10000] := by rw [hst]; simp
            rw [show (R ++ [x]).length = R.length + 1 by simp] at hown
            rcases hown.2 with ⟨_, h0⟩ | ⟨g, cap, cur, rfl, hgb, _⟩
            · omega
            have hc1 : wr.cell? ⟨g, R.length, none⟩ = some (.int .i64 (x : Nat)) := (hown.cellAt R.length (by omega)).trans (by simp [encN])
            have hf1 := hown.frozenAt R.length
            have hs1 := hown.stored R.length (.int .i64 (min (10 * x + (X[k].toNat - 48)) 10000 : Nat))
            have hset : (encN (R ++ [x])).set R.length (.int .i64 (min (10 * x + (X[k].toNat - 48)) 10000 : Nat)) = encN (R ++ [min (10 * x + (X[k].toNat - 48)) 10000]) := by simp [encN]
            have hlen1 : (R ++ [min (10 * x + (X[k].toNat - 48)) 10000]).length = R.length + 1 := by simp
            have HH := Lib.hid (And.intro hk (And.intro hs1 (And.intro hE (And.intro hN (And.intro hset (And.intro hlen1 hgb))))))
            clear hst hok hown hE hk hg hdg hlt256 hfl hL hN hs1 hset hlen1 hgb
            generalize R.length = r at *
            have pd0 : decide (48 ≤ X[j].toNat) = true := decide_eq_true (by omega)
            have pd1 : decide ((48 : Int) ≤ X[j].toNat) = true := decide_eq_true (by omega)
            have pd2 : (48 : Int) ≤ X[j].toNat := by omega
            have pd3 : ¬ (X[j].toNat : Int) < 48 := by omega
            have pe0 : decide (X[j].toNat ≤ 57) = true := decide_eq_true (by omega)
            have pe1 : decide ((X[j].toNat : Int) ≤ 57) = true := decide_eq_true (by omega)
            have pe2 : (X[j].toNat : Int) ≤ 57 := by omega
            have pe3 : ¬ (57 : Int) < X[j].toNat := by omega
            clear hpd
            by_cases hm : 10 * x + (X[k].toNat - 48) ≤ 10000
            · have m1 : 10 * (x : Int) + ((X[k].toNat : Int) - 48) ≤ 10000 := by omega
              have m2 : ((min (10 * x + (X[k].toNat - 48)) 10000 : Nat) : Int) = 10 * (x : Int) + ((X[k].toNat : Int) - 48) := by omega
              rw [m2] at HH
              clear hm hd
              go_wp2
              have m3 : min (10 * (x : Int) + ((X[k].toNat : Int) - 48)) 10000 = 10 * (x : Int) + ((X[k].toNat : Int) - 48) := by omega
              (try rw [m3])
              go_roundg (gk - 1)
              case measure => have := HH.out.1; omega
              case rel =>
                (try rw [m3])
                exact ⟨k + 1, by have := HH.out.1; omega, by go_num, by rw [HH.out.2.2.2.1, HH.out.2.2.2.2.2.1, ← HH.out.2.2.2.2.1]; exact HH.out.2.1.1, HH.out.2.2.1.setCell (p := ⟨g, r, none⟩) HH.out.2.2.2.2.2.2 _⟩
            · have m1 : ¬ 10 * (x : Int) + ((X[k].toNat : Int) - 48) ≤ 10000 := by omega
              have m2 : ((min (10 * x + (X[k].toNat - 48)) 10000 : Nat) : Int) = 10000 := by omega
              rw [m2] at HH
              clear hm hd
              go_wp2
              have m3 : min (10 * (x : Int) + ((X[k].toNat : Int) - 48)) 10000 = 10000 := by omega
              (try rw [m3])
              go_roundg (gk - 1)
              case measure => have := HH.out.1; omega
              case rel =>
                (try rw [m3])
                exact ⟨k + 1, by have := HH.out.1; omega, by go_num, by rw [HH.out.2.2.2.1, HH.out.2.2.2.2.2.1, ← HH.out.2.2.2.2.1]; exact HH.out.2.1.1, HH.out.2.2.1.setCell (p := ⟨g, r, none⟩) HH.out.2.2.2.2.2.2 _⟩
          · have hfl : (stN s k).2 = false := by rw [hfj, isDig, Bool.and_eq_false_iff]; simp only [decide_eq_false_iff_not]; omega
            clear hfj hgj
            by_cases hp1 : X[j].toNat < 48
            · clear hpd
              have pd0 : decide (48 ≤ X[j].toNat) = false := decide_eq_false (by omega)
              have pd1 : decide ((48 : Int) ≤ X[j].toNat) = false := decide_eq_false (by omega)
              have pd2 : ¬ (48 : Int) ≤ X[j].toNat := by omega
              have pd3 : (X[j].toNat : Int) < 48 := by omega
              rw [numStep_new _ _ hdg hfl] at hst
              have HH := Lib.hid (And.intro hk (And.intro hown (And.intro hE (And.intro (show (stN s (k + 1)).1 = (stN s k).1 ++ [X[k].toNat - 48] by rw [hst]) (show (stN s k).1.length ≤ 1000 by have := hok.len; omega)))))
              clear hst hok hown hE hk hg hdg hlt256 hfl
              go_wp2_with (at_builtin; refine wpList_append_own _ rfl _ _ 23 rfl w.heap.size 3 i0 (.int .i64 0) 1 8 Tryz.underlying23 HI.out.1 HI.out.2.1 HI.out.2.2.1 HI.out.2.2.2 rfl (by decide) _ _ _ rfl (own_ext HH.out.2.1 (ext1 _ _)) ⟨wr.heap.size, 0, none⟩ 1 1 [.int .i64 ((X[k].toNat : Int) - 48)] rfl rfl (cell_one_new _ _ _) (by simp [Value.oneCell']) (by have := HH.out.2.2.2.2; unfold maxLen; omega) (by have := HH.out.2.2.2.2; omega) (by have := HH.out.2.2.1.size; simp; omega) ?_; intro v' w3 hown3 hgrow _)
              have hcast : ((X[k].toNat - 48 : Nat) : Int) = (X[k].toNat : Int) - 48 := by omega
              go_roundg (gk - 1)
              case measure => have := HH.out.1; omega
              case rel => exact ⟨k + 1, by have := HH.out.1; omega, by go_num, by rw [HH.out.2.2.2.1]; simpa [encN, hcast] using hown3, Below.grown (Ext.trans HH.out.2.2.1 (ext1 _ _)) hgrow (by have := HH.out.2.2.1.size; simp; omega) (own_block HH.out.2.1)⟩
            · have hp2 : 57 < X[j].toNat := by omega
              clear hpd
              have pd0 : decide (48 ≤ X[j].toNat) = true := decide_eq_true (by omega)
              have pd1 : decide ((48 : Int) ≤ X[j].toNat) = true := decide_eq_true (by omega)
              have pd2 : (48 : Int) ≤ X[j].toNat := by omega
              have pd3 : ¬ (X[j].toNat : Int) < 48 := by omega
              have pe0 : decide (X[j].toNat ≤ 57) = false := decide_eq_false (by omega)
              have pe1 : decide ((X[j].toNat : Int) ≤ 57) = false := decide_eq_false (by omega)
              have pe2 : ¬ (X[j].toNat : Int) ≤ 57 := by omega
              have pe3 : (57 : Int) < X[j].toNat := by omega
              rw [numStep_new _ _ hdg hfl] at hst
              have HH := Lib.hid (And.intro hk (And.intro hown (And.intro hE (And.intro (show (stN s (k + 1)).1 = (stN s k).1 ++ [X[k].toNat - 48] by rw [hst]) (show (stN s k).1.length ≤ 1000 by have := hok.len; omega)))))
              clear hst hok hown hE hk hg hdg hlt256 hfl
              go_wp2_with (at_builtin; refine wpList_append_own _ rfl _ _ 23 rfl w.heap.size 3 i0 (.int .i64 0) 1 8 Tryz.underlying23 HI.out.1 HI.out.2.1 HI.out.2.2.1 HI.out.2.2.2 rfl (by decide) _ _ _ rfl (own_ext HH.out.2.1 (ext1 _ _)) ⟨wr.heap.size, 0, none⟩ 1 1 [.int .i64 ((X[k].toNat : Int) - 48)] rfl rfl (cell_one_new _ _ _) (by simp [Value.oneCell']) (by have := HH.out.2.2.2.2; unfold maxLen; omega) (by have := HH.out.2.2.2.2; omega) (by have := HH.out.2.2.1.size; simp; omega) ?_; intro v' w3 hown3 hgrow _)
              have hcast : ((X[k].toNat - 48 : Nat) : Int) = (X[k].toNat : Int) - 48 := by omega
              go_roundg (gk - 1)
              case measure => have := HH.out.1; omega
              case rel => exact ⟨k + 1, by have := HH.out.1; omega, by go_num, by rw [HH.out.2.2.2.1]; simpa [encN, hcast] using hown3, Below.grown (Ext.trans HH.out.2.2.1 (ext1 _ _)) hgrow (by have := HH.out.2.2.1.size; simp; omega) (own_block HH.out.2.1)⟩
      · have hdg : isDig X[k] = false := by rw [isDig, Bool.and_eq_false_iff]; simp only [decide_eq_false_iff_not]; omega
        rw [numStep_no _ _ hdg] at hst
        have HH := Lib.hid (And.intro hk (And.intro hown (And.intro hE (show (stN s (k + 1)).1 = (stN s k).1 by rw [hst]))))
        clear hst hok hown hE hk hg hdg hlt256
        by_cases h1 : X[k].toNat < 48
        · have d0 : decide (X[k].toNat < 48) = true := decide_eq_true h1
          have d1 : decide ((X[k].toNat : Int) < 48) = true := decide_eq_true (by omega)
          have d2 : ¬ (48 : Int) ≤ X[k].toNat := by omega
          have d3 : (X[k].toNat : Int) < 48 := by omega
          clear hd
          go_wp2
          go_roundg (gk - 1)
          case measure => have := HH.out.1; omega
          case rel => exact ⟨k + 1, by have := HH.out.1; omega, by go_num, by rw [HH.out.2.2.2]; exact HH.out.2.1, HH.out.2.2.1⟩
        · have d0 : decide (X[k].toNat < 48) = false := decide_eq_false h1
          have d1 : decide ((X[k].toNat : Int) < 48) = false := decide_eq_false (by omega)
          have d2 : (48 : Int) ≤ X[k].toNat := by omega
          have d3 : ¬ (X[k].toNat : Int) < 48 := by omega
          have e0 : decide (57 < X[k].toNat) = true := decide_eq_true (by omega)
          have e1 : decide ((57 : Int) < X[k].toNat) = true := decide_eq_true (by omega)
          have e2 : ¬ (X[k].toNat : Int) ≤ 57 := by omega
          have e3 : (57 : Int) < X[k].toNat := by omega
          clear hd
          go_wp2
          go_roundg (gk - 1)
          case measure => have := HH.out.1; omega
          case rel => exact ⟨k + 1, by have := HH.out.1; omega, by go_num, by rw [HH.out.2.2.2]; exact HH.out.2.1, HH.out.2.2.1⟩
    · have hkk : k = X.size := by omega
      have h5 : ¬ (k : Int) < X.size := by omega
      have HN := Lib.hid (stN_end s k (by rw [← HX.out.1]; omega))
      have HH := Lib.hid (And.intro hown hE)
      clear hown hE hk hkk
      go_wp2
      go_ret
      unfold NumsR
      rw [← HN.out]
      obtain ⟨A', c', rfl, h1, h2, h3, h4⟩ := numsR_of_own HH.out.1 (Ext.refl _)
      exact ⟨A', c', rfl, h1, h2, h3, h4, HH.out.2⟩
end
end Go.Proofs.YtopgbggighaknaaGreatDoor
