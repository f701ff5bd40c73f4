/- selionlaw03.ArenaApart, the tied card: for every input the call returns true, and each argument reads behind it as it read before; the listed package variables start as the program's text lays them. -/
import Derived.Test.YtmehoieijelncaaDoorBase
import Derived.Test.YtmehoieijelncaaDoorLawApart
import Derived.Test.YtmehoieijelncaaDoorCards
import Derived.Test.YtmehoieijelncaaDoorTie
namespace Go.Proofs.YtmehoieijelncaaDoor
open Go.ChangeShapes Go.WideShapes Go.ChangeAt Go.WideMaps Go.WideElems Go.RowKit Go

set_option maxRecDepth 100000 in
theorem arenaApart_lifted (os : Os) (started : os.Started) (H : Type) (enc : TypeId × Value → H) :
    ReturnsInHanded {} Tryd.checked os 7 .any (fun w args => (Rows.arenaApartSpec.pre enc Tryd.prog Tryd.f7 [] false w args ∧ laidMetH Tryd.prog laids w) ∧ sizedMet enc Tryd.prog Tryd.f7 (OpenSpec.ofChange Rows.arenaApartSpec) false w args)
      (Rows.arenaApartSpec.post enc Tryd.prog Tryd.f7 false true false false) := by
  refine returnsInHanded_of_change_and (C := Tryd.checked) (X := fun w _ => laidMetH Tryd.prog laids w) (fun _ _ _ hh h => h.of_heap hh) own started (by kernel_rfl) Tryd.func7
    (ChangeSpec.witness_shaped (enc := enc) (C := Tryd.checked) (os := os) (X := fun w _ => laidMetH Tryd.prog laids w) false (World.doorLaid Tryd.prog 400 os) #[.int .i64 0, .slice none 0 0, .int .i64 0, .string ⟨#[]⟩, .int .i64 0, .string ⟨#[]⟩] 8 rfl (World.shaped_of_RefB (by kernel_rfl) (by kernel_rfl)) (by kernel_rfl) (by kernel_rfl) (by kernel_rfl) (door_met os _)) ?_
  intro W base args ds gs before hval0 hW _ _ hL _
  have hval : ∀ (j : Nat) t v, Tryd.f7.params[j]? = some t → args[j]? = some v → Value.okWide Tryd.prog W .any base t v := hval0
  have hW' := hW
  obtain ⟨p, q, hA0, hV, rfl, hfz, hnd⟩ := hW
  have hA : DataW.TrodAll enc Tryd.prog W 0 (fun _ => true) true Tryd.f7.params.toList args.toList ds p := hA0
  rw [Tryd.params7] at hA hval
  obtain ⟨v0, vs, d0, ds', p0, q0, ha, rfl, rfl, h0, hr⟩ := trodAll_cons hA
  obtain ⟨v1, vs2, d1, ds2, p1, q1, ha2, rfl, rfl, h1, hr2⟩ := trodAll_cons hr
  obtain ⟨v2, v3, v4, v5, d2, d3, d4, d5, p2, p3, p4, p5, hb, rfl, rfl, h2, h3, h4, h5⟩ := trodAll_four (args := vs2.toArray) (by simpa using hr2)
  obtain rfl : args = #[v0, v1, v2, v3, v4, v5] := by
    have : vs2 = [v2, v3, v4, v5] := by simpa using congrArg Array.toList hb
    subst this
    subst ha2
    cases args
    simp_all
  obtain ⟨rfl, rfl⟩ := trodVars_none hV
  simp only [List.append_nil] at hW'
  have l1 : ∀ x ∈ p1, x.block < W.heap.size := fun x hx => by simpa using hW'.lt x (by simp [hx])
  have k0 := h0
  obtain ⟨x0, rfl, rfl, rfl, wx0⟩ := open_int Tryd.underlying3 (hval 0 3 v0 rfl rfl) h0
  obtain ⟨A1, n1, c1, xs1, rfl, g1⟩ := open_ops (hval 1 22 v1 rfl rfl) h1
  have k2 := h2
  obtain ⟨x2, rfl, rfl, rfl, wx2⟩ := open_int Tryd.underlying3 (hval 2 3 v2 rfl rfl) h2
  have k3 := h3
  obtain ⟨s3, rfl, rfl, rfl, ws3⟩ := Go.ChangeMaps.open_string Tryd.underlying9 (hval 3 9 v3 rfl rfl) h3
  obtain ⟨l3', rfl⟩ : ∃ l : List UInt8, s3 = ⟨l.toArray⟩ := ⟨s3.data.toList, str_eq s3⟩
  have k4 := h4
  obtain ⟨x4, rfl, rfl, rfl, wx4⟩ := open_int Tryd.underlying3 (hval 4 3 v4 rfl rfl) h4
  have k5 := h5
  obtain ⟨s5, rfl, rfl, rfl, ws5⟩ := Go.ChangeMaps.open_string Tryd.underlying9 (hval 5 9 v5 rfl rfl) h5
  obtain ⟨l5', rfl⟩ : ∃ l : List UInt8, s5 = ⟨l.toArray⟩ := ⟨s5.data.toList, str_eq s5⟩
  try simp only [List.append_nil] at hW'
  obtain ⟨a, hG⟩ := G_of_laid hL
  clear hA0 hval0
  refine (apart_walk (a := a) x0 A1 n1 c1 xs1 x2 l3' x4 l5' (wf_i64 wx0) (wf_i64 wx2) (show l3'.length ≤ maxLen from ws3) (wf_i64 wx4) (show l5'.length ≤ maxLen from ws5) W g1 hG).mono fun e W' ⟨he, hE⟩ => ?_
  subst he
  exact ⟨_, rfl, _, _, _, [], _, [], hW', trodAll_mk1 (shut_bool Tryd.underlying4 _), trodAll_cons_mk (shut_int Tryd.underlying3 wx0) (trodAll_cons_mk (Below.trod lays (by kernel_rfl) (of_decide_eq_true (by kernel_rfl)) h1 hE l1) (trodAll_mk4 (shut_int Tryd.underlying3 wx2) (Go.ChangeMaps.shut_string Tryd.underlying9 ws3) (shut_int Tryd.underlying3 wx4) (Go.ChangeMaps.shut_string Tryd.underlying9 ws5))), rfl, hE.frame _, fun h => by cases h⟩

theorem arenaApart_said : Rows.ArenaApartSaid :=
  OpenClaim.holds_of_wide 7 Tryd.f7 rfl rfl rfl rfl rfl rfl rfl ⟨rfl, rfl, rfl, rfl, rfl⟩ rfl rfl rfl rfl rfl (by kernel_rfl) Tryd.func7 (by kernel_rfl)
    (of_decide_eq_true (by kernel_rfl)) (by unfold Func.isWrapper; rw [if_neg (of_decide_eq_false (by kernel_rfl))]; exact ⟨rfl, rfl⟩)
    (fun os started H enc _ => arenaApart_lifted os started H enc)

theorem arenaApart_holds : Rows.ArenaApartCardSaid :=
  Claim7.holds_tied_plain_at .later [] [.data, .sentinel, .sentinel, .sentinel, .sentinel, .sentinel, .sentinel] true Rows.arenaApartCard.stood.harness true
    arenaApart_said (fun _ h => by cases h) (by kernel_rfl) (fun _ h => by cases h) arenaApart_row_tie rfl ⟨rfl, rfl⟩ (by kernel_rfl) rfl
    (fun f fn hf hfn => by
      obtain rfl : f = 7 := Option.some.inj ((show Tryd.prog.funcNamed "selion/selionlaw03.ArenaApart" = some 7 by kernel_rfl).symm.trans hf) |>.symm
      obtain rfl : fn = Tryd.f7 := (Option.some.inj (Tryd.func7.symm.trans hfn)).symm
      exact ⟨by kernel_rfl, fun j t ht => by
        rw [Tryd.params7] at ht
        have hm : t ∈ [3, 22, 3, 9, 3, 9] := by
          have := Array.mem_of_getElem? ht
          simpa using this
        have hall : ([3, 22, 3, 9, 3, 9].all fun u => !Tryd.prog.wantsStandIn u) = true := by kernel_rfl
        exact (show Tryd.prog.wantsStandIn t = false by simpa using List.all_eq_true.1 hall t hm)⟩)
    (by kernel_rfl)
#print axioms arenaApart_holds
end Go.Proofs.YtmehoieijelncaaDoor
