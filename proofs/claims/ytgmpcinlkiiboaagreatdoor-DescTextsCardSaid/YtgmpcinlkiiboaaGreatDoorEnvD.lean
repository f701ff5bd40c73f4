/- desc: what the package variables hold; what is wrong, and its number. -/
import Derived.Test.YtgmpcinlkiiboaaGreatDoorAs
import Derived.Test.YtgmpcinlkiiboaaGreatDoorPartD
import Derived.Test.YtgmpcinlkiiboaaGreatDoorRound
namespace Go.Proofs.YtgmpcinlkiiboaaGreatDoor
open Go.RowKit Go
structure G (w : World) : Prop where
  sz : 9 ≤ w.heap.size
  d0 : ∃ te pe, w.cell? ⟨0, 0, none⟩ = some (.iface te pe)
  d1 : ∃ te pe, w.cell? ⟨1, 0, none⟩ = some (.iface te pe)
  d2 : ∃ te pe, w.cell? ⟨3, 0, none⟩ = some (.iface te pe)
  ty : w.cell? ⟨2, 0, none⟩ = some (.iface 108 (.agg #[.pointer (some ⟨11, 43, none⟩)]))
  j : ∃ a0 a2 a3, J.G a0 a2 a3 w
theorem G.ext {w w' : World} (h : G w) (k : Ext w w') : G w' := by
  have hs := h.sz
  have e : ∀ b o, b < 9 → w'.cell? ⟨b, o, none⟩ = w.cell? ⟨b, o, none⟩ := fun b o hb => k.cell (p := ⟨b, o, none⟩) (by show b < w.heap.size; omega)
  have sz := k.size
  refine ⟨by omega, ?_, ?_, ?_, ?_, ?_⟩
  · obtain ⟨t, p, h⟩ := h.d0; exact ⟨t, p, by rw [e _ _ (by decide)]; exact h⟩
  · obtain ⟨t, p, h⟩ := h.d1; exact ⟨t, p, by rw [e _ _ (by decide)]; exact h⟩
  · obtain ⟨t, p, h⟩ := h.d2; exact ⟨t, p, by rw [e _ _ (by decide)]; exact h⟩
  · rw [e _ _ (by decide)]; exact h.ty
  · obtain ⟨a0, a2, a3, h⟩ := h.j; exact ⟨a0, a2, a3, h.ext k⟩
/-- What is wrong, with its number. -/
def errW (k : Int) (te : TypeId) (pe : Value) : Value := .iface 62 (.agg #[.int .i64 k, .iface te pe])
/-- Nothing, or what is wrong. -/
def unlessV (b : Bool) (v : Value) : Value := if b then .nilIface else v
/-- An error's value, and its number. -/
def Code (v : Value) (k : Int) : Prop := (v = .nilIface ∧ k = 0) ∨ (k ≠ 0 ∧ ∃ te pe, v = errW k te pe)
def codeI (b : Bool) (k : Int) : Int := if b then 0 else k
theorem code_unless (b : Bool) (k : Int) (hk : k ≠ 0) (te : TypeId) (pe : Value) : Code (unlessV b (errW k te pe)) (codeI b k) := by
  cases b
  · exact .inr ⟨hk, te, pe, rfl⟩
  · exact .inl ⟨rfl, rfl⟩
theorem ri {a b : Int} (h : a = b) : Ending.returned (.int .i64 a) = .returned (.int .i64 b) := by rw [h]
def firstI : List Int → Int
  | [] => 0
  | x :: r => if x = 0 then firstI r else x
section
theorem unless_is (b : Bool) (k : Int) (te : TypeId) (pe : Value) (w : World) :
    Calls Tryz.prog 28 #[.bool b, .agg #[.int .i64 k, .iface te pe]] w fun e w' => e = .returned (unlessV b (errW k te pe)) ∧ Ext w w' := by
  cases b
  · go_enter Tryz.func28, Tryz.ntmps28
    go_wp2
    go_ret
    exact ⟨rfl, ext1 _ _⟩
  · go_enter Tryz.func28, Tryz.ntmps28
    go_wp2
    go_ret
    exact ⟨rfl, ext1 _ _⟩
set_option maxHeartbeats 4000000 in
theorem noDesc_is (A B : Option Addr) (n m c c' : Nat) (s t : Int) (l r : List Int) (hn : n ≤ 1000000) (hm : m ≤ 1000000) (w : World) (hG : G w) (h : Il w A n l) (h' : Il w B m r) :
    Calls Tryz.prog 17 #[.agg #[.int .i64 s, .slice A n c, .int .i64 t, .slice B m c']] w fun e w' => (∃ v, e = .returned v ∧ Code v (codeI (rightB ⟨s, l, t, r⟩) 40)) ∧ Ext w w' := by
  obtain ⟨te, pe, hc⟩ := hG.d0
  have hsz := hG.sz
  have hc1 : (w.alloc (.cells #[.int .i64 s, .slice A n c, .int .i64 t, .slice B m c'] 24)).cell? ⟨0, 0, none⟩ = some (.iface te pe) := ((ext1 w _).cell (p := ⟨0, 0, none⟩) (by show 0 < w.heap.size; omega)).trans hc
  have E1 := ext1 w (.cells #[.int .i64 s, .slice A n c, .int .i64 t, .slice B m c'] 24)
  have RR := Lib.hid (fun W (hW : Ext (w.alloc (.cells #[.int .i64 s, .slice A n c, .int .i64 t, .slice B m c'] 24)) W) => dright_is A B n m c c' s t l r hn hm W (h.ext (Ext.trans E1 hW)) (h'.ext (Ext.trans E1 hW)))
  have HE := Lib.hid E1
  have HC := Lib.hid (code_unless (rightB ⟨s, l, t, r⟩) 40 (by decide) te pe)
  clear h h' E1 hG hc
  generalize rightB ⟨s, l, t, r⟩ = b at *
  have hx := fun (o : From (w.alloc (.cells #[.int .i64 s, .slice A n c, .int .i64 t, .slice B m c'] 24))) p h => From.cell o p h
  go_enter Tryz.func17, Tryz.ntmps17
  go_wp2
  refine wp_region_on (by kernel_rfl) (by kernel_rfl) ?_
  repeat (go_big_quiet_step ((first | (go_at_call 29; exact on_call RR.out _) | (go_at_call 28; exact on_call (fun W _ => unless_is _ _ _ _ W) _))))
  refine wpQuiet_nil ?_
  intro W hW
  go_wp2
  go_ret
  exact ⟨⟨_, rfl, HC.out⟩, Ext.trans HE.out hW⟩
set_option maxHeartbeats 4000000 in
theorem told_any (ks : List Int) (b : Nat) (cap : Nat) (w : World) (hG : G w) (hm : ks.length ≤ 100) (hb : b < w.heap.size)
    (hc : ∀ i, i < ks.length → ∃ v, w.cell? ⟨b, i, none⟩ = some v ∧ Code v (ks.getD i 0)) :
    Calls Tryz.prog 16 #[.slice (some ⟨b, 0, none⟩) ks.length cap] w fun e w' => e = .returned (.int .i64 (firstI ks)) ∧ Ext w w' := by
  have H := Lib.hid (And.intro hG (And.intro hb hc))
  clear hG hc
  go_enter Tryz.func16, Tryz.ntmps16
  go_wp2
  go_loopg [4, 5, 8] ks.length (fun m u v i wr => ∃ k : Nat, k + m = ks.length ∧ i = .int .i64 k ∧ firstI ks = firstI (ks.drop k) ∧ Ext w wr)
  case atStart => exact ⟨0, by omega, rfl, rfl, Ext.refl _⟩
  case round =>
    obtain ⟨k, hk, rfl, hf, hE⟩ := hrel
    by_cases hlt : k < ks.length
    · have hd : ks.drop k = ks.getD k 0 :: ks.drop (k + 1) := by
        rw [List.drop_eq_getElem_cons hlt]; simp [List.getD, hlt]
      obtain ⟨v0, c0, hv⟩ := H.out.2.2 k hlt
      have c : wr.cell? ⟨b, k, none⟩ = some v0 := (extAt hE b k H.out.2.1).trans c0
      have gE := (H.out.1.ext hE)
      rw [hd] at hf
      generalize ks.getD k 0 = q at *
      have h5 : (k : Int) < ks.length := by omega
      clear hd c0
      rcases hv with ⟨rfl, rfl⟩ | ⟨hq, te, pe, rfl⟩
      · have HF := Lib.hid (show firstI ks = firstI (ks.drop (k + 1)) from hf)
        have HE := Lib.hid hE
        clear hf hE gE
        go_wp2_with (go_at_call 27; ((with_reducible refine (as_nil _ _).mono ?_); rintro e w1 ⟨rfl, rfl⟩))
        go_roundg (gk - 1)
        case measure => omega
        case rel => exact ⟨k + 1, by omega, by go_num, HF.out, Ext.trans HE.out (ext1 _ _)⟩
      · have HF := Lib.hid (show firstI ks = q by rw [hf]; simp [firstI, hq])
        have gt := (gE.ext (ext1 wr (.cells #[.int .i64 0, .nilIface] 62))).ty
        have C := Lib.hid (as_hit2 q te pe wr.heap.size _ _ _ _ gt (Blk.new wr #[.int .i64 0, .nilIface] 62))
        have HE := Lib.hid hE
        clear hf hE gE gt hq
        unfold errW at *
        go_wp2_with (go_at_call 27; ((with_reducible refine C.out.mono ?_); rintro e w1 ⟨rfl, h1, h2⟩; have p0 := h1.cell 0; have H2 := Lib.hid h2; clear h2))
        go_ret
        exact ⟨ri HF.out.symm, Ext.trans HE.out (Below.trans (ext1 _ _) H2.out)⟩
    · have hd : ks.drop k = [] := List.drop_eq_nil_of_le (by omega)
      have hz : firstI ks = 0 := by rw [hf, hd]; rfl
      have hZ := Lib.hid hz
      have HE := Lib.hid hE
      have h5 : ¬ (k : Int) < ks.length := by omega
      clear hz hd hf hE
      go_wp2
      go_ret
      exact ⟨ri hZ.out.symm, HE.out⟩
end
end Go.Proofs.YtgmpcinlkiiboaaGreatDoor
