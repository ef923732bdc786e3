/- SchemaOrder. Conditions: those of the given card. -/
import Derived.Test.YtjghgbfagjhdgaaGreatDoorSRow
import Derived.Test.YtjghgbfagjhdgaaGreatDoorLawSO
import Derived.Test.YtjghgbfagjhdgaaGreatDoorCards
namespace Go.Proofs.YtjghgbfagjhdgaaGreatDoor
open Go Go.ChangeShapes Go.WideShapes Go.ChangeAt Go.RowKit

set_option maxRecDepth 100000 in
theorem sod_lifted (os : Os) (started : os.Started) (H : Type) (enc : TypeId × Value → H) :
    ReturnsInHanded {} Tryz.checked os 8 .any (fun w args => (Rows.schemaOrderSpec.pre enc Tryz.prog Tryz.f8 Rows.schemaOrderRow.domain false w args ∧ laidMetH Tryz.prog Rows.schemaOrderRow.laid w) ∧ sizedMet enc Tryz.prog Tryz.f8 (OpenSpec.ofChange Rows.schemaOrderSpec) false w args)
      (Rows.schemaOrderSpec.post enc Tryz.prog Tryz.f8 false true false false) := by
  refine returns_shaped (C := Tryz.checked) (X := fun w _ => laidMetH Tryz.prog Rows.schemaOrderRow.laid w) (fun _ _ _ hh h => h.of_heap hh) own started (by kernel_rfl) Tryz.func8
    (ChangeSpec.witness_shaped (enc := enc) (C := Tryz.checked) (os := os) (X := fun w _ => laidMetH Tryz.prog Rows.schemaOrderRow.laid w) false (World.laidAll Tryz.prog os Rows.schemaOrderRow.laid) #[.slice none 0 0] 8 (World.laidAll_os _ _ _)
      (World.shaped_of_ZipB (by kernel_rfl) (by kernel_rfl)) (by kernel_rfl) (by kernel_rfl) (by kernel_rfl)
      (by rw [MakeChecks.laidMetH_plain _ _ _ (by kernel_rfl)]; exact laidMet_laidAll _ (by kernel_rfl) (by kernel_rfl))) ?_
  intro W base args ds gs before hval0 hW hL hsh
  have hval : ∀ (j : Nat) t v, Tryz.f8.params[j]? = some t → args[j]? = some v → Value.okWide Tryz.prog W .any base t v := hval0
  have hW' := hW
  obtain ⟨p, q, hA0, hV, rfl, hfz, hnd⟩ := hW
  have hA : DataW.TrodAll enc Tryz.prog W 0 (fun _ => true) true Tryz.f8.params.toList args.toList ds p := hA0
  rw [Tryz.params8] at hA hval
  obtain ⟨v0, d0, rfl, rfl, h0⟩ := trodAll_one hA
  obtain ⟨rfl, rfl⟩ := trodVars_none hV
  have k0 := h0
  have lt0 : ∀ x ∈ p, x.block < W.heap.size := by obtain ⟨m, hm⟩ := k0; exact DataW.trod_lt m _ _ _ hm
  obtain ⟨A, n, c, rfl, hN, hc, hm⟩ := nums_of_ints (hval 0 22 v0 rfl rfl) h0
  clear hA0 hval0
  refine (law_sorder (lx_of_shape hsh) hN hc hm).mono fun e W' ⟨he, bel⟩ => ?_
  subst he
  exact ⟨_, rfl, _, _, _, [], _, [], hW', trodAll_mk1 (shut_bool Tryz.underlying4 _), trodAll_mk1 (Below.trod laidOut (by kernel_rfl) (of_decide_eq_true (by kernel_rfl)) k0 bel lt0), rfl, bel.frame _, fun h => by cases h⟩

theorem sod_said_in : (Rows.schemaOrderRow.inPlace == Tryz.pinned.checked.prog.inPlace 8) = true := by kernel_rfl
theorem sod_said_un : (Rows.schemaOrderRow.unfollowed == Tryz.pinned.checked.prog.unfollowed 8) = true := by kernel_rfl
theorem sod_said_re : (Rows.schemaOrderRow.recurses == Tryz.pinned.checked.prog.recurses 8) = true := by kernel_rfl
theorem sod_said_na : (Rows.schemaOrderRow.named == Tryz.pinned.checked.prog.varsNamed 8) = true := by kernel_rfl
theorem sod_said_lo : laidOutB Tryz.pinned.checked.prog = true := by kernel_rfl
theorem sod_said_mr : mapsRowed Tryz.pinned.checked.prog = true := by kernel_rfl
theorem sod_facts : joinedFacts Tryz.pinned.checked.prog 8 Tryz.f8 Rows.schemaOrderSpec Rows.schemaOrderRow = true := by
  unfold joinedFacts
  rw [sod_said_in, sod_said_un, sod_said_re, sod_said_na, sod_said_lo, sod_said_mr]
  kernel_rfl
theorem sod_said : Rows.SchemaOrderSaid :=
  OpenClaim.holds_of_wide 8 Tryz.f8 rfl rfl rfl rfl rfl rfl rfl ⟨rfl, rfl, rfl, rfl, rfl⟩ rfl rfl rfl rfl rfl (by as_aux_lemma => kernel_rfl) Tryz.func8 sod_facts
    (of_decide_eq_true (by as_aux_lemma => kernel_rfl)) (by unfold Func.isWrapper; first | (rw [if_pos (by decide +kernel)]; kernel_rfl) | (rw [if_neg (by decide +kernel)]; exact ⟨rfl, rfl⟩))
    (fun os started H enc _ => sod_lifted os started H enc)

theorem schemaOrder_holds : Rows.SchemaOrderCardSaid :=
  Claim7.holds_tied_plain_at .later [] [.data, .data, .data, .sentinel, .sentinel] true (true, "538a8c26e8f3267355fcbd84895c0e41373f9275fbaa329a46fd5a3a5754c8b6") true sod_said (fun _ h => by cases h) (by as_aux_lemma => kernel_rfl) (fun _ h => by cases h) schemaOrder_row_tie rfl ⟨rfl, rfl⟩ (by as_aux_lemma => kernel_rfl) rfl
    (fun f fn hf hfn => by
      obtain rfl : f = 8 := Option.some.inj ((show Tryz.prog.funcNamed "joinlearn/joinlearnlaw05.SchemaOrder" = some 8 by kernel_rfl).symm.trans hf) |>.symm
      obtain rfl : fn = Tryz.f8 := (Option.some.inj (Tryz.func8.symm.trans hfn)).symm
      exact ⟨by as_aux_lemma => kernel_rfl, fun j t ht => by
        rw [Tryz.params8] at ht
        have hm : t ∈ [22] := by simpa using Array.mem_of_getElem? ht
        have hall : ([22].all fun u => !Tryz.prog.wantsStandIn u) = true := by kernel_rfl
        exact (show Tryz.prog.wantsStandIn t = false by simpa using List.all_eq_true.1 hall t hm)⟩)
    (by as_aux_lemma => kernel_rfl)
#print axioms schemaOrder_holds
end Go.Proofs.YtjghgbfagjhdgaaGreatDoor
