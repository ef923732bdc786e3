/-
  SchemaLimits: for every uint8, a schema of so many attributes is accepted up to the limit and no further; with a name twice, or an attribute without a relation, it is refused with the error that the document names: the call returns true and leaves its argument as it was.
  Conditions: those of the given card: the listed package-level variables start as the program's text lays them; of each other named variable whatever its type allows.
-/
import Derived.Test.YtjghgbfagjhdgaaGreatDoorSRow
import Derived.Test.YtjghgbfagjhdgaaGreatDoorLawSL
import Derived.Test.YtjghgbfagjhdgaaGreatDoorCards
namespace Go.Proofs.YtjghgbfagjhdgaaGreatDoor
open Go Go.ChangeShapes Go.WideShapes Go.ChangeAt Go.RowKit

set_option maxRecDepth 100000 in
theorem slm_lifted (os : Os) (started : os.Started) (H : Type) (enc : TypeId × Value → H) :
    ReturnsInHanded {} Tryz.checked os 9 .any (fun w args => (Rows.schemaLimitsSpec.pre enc Tryz.prog Tryz.f9 Rows.schemaLimitsRow.domain false w args ∧ laidMetH Tryz.prog Rows.schemaLimitsRow.laid w) ∧ sizedMet enc Tryz.prog Tryz.f9 (OpenSpec.ofChange Rows.schemaLimitsSpec) false w args)
      (Rows.schemaLimitsSpec.post enc Tryz.prog Tryz.f9 false true false false) := by
  refine returns_shaped (C := Tryz.checked) (X := fun w _ => laidMetH Tryz.prog Rows.schemaLimitsRow.laid w) (fun _ _ _ hh h => h.of_heap hh) own started (by kernel_rfl) Tryz.func9
    (ChangeSpec.witness_shaped (enc := enc) (C := Tryz.checked) (os := os) (X := fun w _ => laidMetH Tryz.prog Rows.schemaLimitsRow.laid w) false (World.laidAll Tryz.prog os Rows.schemaLimitsRow.laid) #[.int .u8 0] 8 (World.laidAll_os _ _ _)
      (World.shaped_of_ZipB (by kernel_rfl) (by kernel_rfl)) (by kernel_rfl) (by kernel_rfl) (by kernel_rfl)
      (by rw [MakeChecks.laidMetH_plain _ _ _ (by kernel_rfl)]; exact laidMet_laidAll _ (by kernel_rfl) (by kernel_rfl))) ?_
  intro W base args ds gs before hval0 hW hL hsh
  have hval : ∀ (j : Nat) t v, Tryz.f9.params[j]? = some t → args[j]? = some v → Value.okWide Tryz.prog W .any base t v := hval0
  have hW' := hW
  obtain ⟨p, q, hA0, hV, rfl, hfz, hnd⟩ := hW
  have hA : DataW.TrodAll enc Tryz.prog W 0 (fun _ => true) true Tryz.f9.params.toList args.toList ds p := hA0
  rw [Tryz.params9] at hA hval
  obtain ⟨v0, d0, rfl, rfl, h0⟩ := trodAll_one hA
  obtain ⟨rfl, rfl⟩ := trodVars_none hV
  obtain ⟨m, rfl, rfl, rfl, wm⟩ := open_int Tryz.underlying5 (hval 0 5 v0 rfl rfl) h0
  have hm : 0 ≤ m ∧ m ≤ 255 := by
    have h2 : IntKind.u8.min ≤ m ∧ m ≤ IntKind.u8.max := by simpa [Lit.wf] using wm
    exact h2
  clear hA0 hval0
  refine (law_slimits (lx_of_shape hsh) hm.1 hm.2).mono fun e W' ⟨he, bel⟩ => ?_
  subst he
  exact ⟨_, rfl, _, _, _, [], _, [], hW', trodAll_mk1 (shut_bool Tryz.underlying4 _), trodAll_mk1 (shut_int Tryz.underlying5 wm), rfl, bel.frame _, fun h => by cases h⟩

theorem slm_said_in : (Rows.schemaLimitsRow.inPlace == Tryz.pinned.checked.prog.inPlace 9) = true := by kernel_rfl
theorem slm_said_un : (Rows.schemaLimitsRow.unfollowed == Tryz.pinned.checked.prog.unfollowed 9) = true := by kernel_rfl
theorem slm_said_re : (Rows.schemaLimitsRow.recurses == Tryz.pinned.checked.prog.recurses 9) = true := by kernel_rfl
theorem slm_said_na : (Rows.schemaLimitsRow.named == Tryz.pinned.checked.prog.varsNamed 9) = true := by kernel_rfl
theorem slm_said_lo : laidOutB Tryz.pinned.checked.prog = true := by kernel_rfl
theorem slm_said_mr : mapsRowed Tryz.pinned.checked.prog = true := by kernel_rfl
theorem slm_facts : joinedFacts Tryz.pinned.checked.prog 9 Tryz.f9 Rows.schemaLimitsSpec Rows.schemaLimitsRow = true := by
  unfold joinedFacts
  rw [slm_said_in, slm_said_un, slm_said_re, slm_said_na, slm_said_lo, slm_said_mr]
  kernel_rfl
theorem slm_said : Rows.SchemaLimitsSaid :=
  OpenClaim.holds_of_wide 9 Tryz.f9 rfl rfl rfl rfl rfl rfl rfl ⟨rfl, rfl, rfl, rfl, rfl⟩ rfl rfl rfl rfl rfl (by as_aux_lemma => kernel_rfl) Tryz.func9 slm_facts
    (of_decide_eq_true (by as_aux_lemma => kernel_rfl)) (by unfold Func.isWrapper; first | (rw [if_pos (by decide +kernel)]; kernel_rfl) | (rw [if_neg (by decide +kernel)]; exact ⟨rfl, rfl⟩))
    (fun os started H enc _ => slm_lifted os started H enc)

theorem schemaLimits_holds : Rows.SchemaLimitsCardSaid :=
  Claim7.holds_tied_plain_at .later [] [.data, .data, .data, .sentinel, .sentinel] true (true, "538a8c26e8f3267355fcbd84895c0e41373f9275fbaa329a46fd5a3a5754c8b6") true slm_said (fun _ h => by cases h) (by as_aux_lemma => kernel_rfl) (fun _ h => by cases h) schemaLimits_row_tie rfl ⟨rfl, rfl⟩ (by as_aux_lemma => kernel_rfl) rfl
    (fun f fn hf hfn => by
      obtain rfl : f = 9 := Option.some.inj ((show Tryz.prog.funcNamed "joinlearn/joinlearnlaw05.SchemaLimits" = some 9 by kernel_rfl).symm.trans hf) |>.symm
      obtain rfl : fn = Tryz.f9 := (Option.some.inj (Tryz.func9.symm.trans hfn)).symm
      exact ⟨by as_aux_lemma => kernel_rfl, fun j t ht => by
        rw [Tryz.params9] at ht
        have hm : t ∈ [5] := by simpa using Array.mem_of_getElem? ht
        have hall : ([5].all fun u => !Tryz.prog.wantsStandIn u) = true := by kernel_rfl
        exact (show Tryz.prog.wantsStandIn t = false by simpa using List.all_eq_true.1 hall t hm)⟩)
    (by as_aux_lemma => kernel_rfl)
#print axioms schemaLimits_holds
end Go.Proofs.YtjghgbfagjhdgaaGreatDoor
