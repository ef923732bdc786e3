/-
  RationalTurns: for every slice of ints, the reciprocal of a reciprocal is the fraction, signs multiply, and a mean lies between: the call returns true and leaves its argument as it was.
  Conditions: those of the given card: the listed package-level variables start as the program's text lays them; of each other named variable whatever its type allows.
-/
import Derived.Test.YtfogkkanifnppaaGreatDoorQRow
import Derived.Test.YtfogkkanifnppaaGreatDoorLawQTurns
import Derived.Test.YtfogkkanifnppaaGreatDoorCards
namespace Go.Proofs.YtfogkkanifnppaaGreatDoor
open Go Go.ChangeShapes Go.WideShapes Go.ChangeAt Go.RowKit

set_option maxRecDepth 100000 in
theorem qturns_lifted (os : Os) (started : os.Started) (H : Type) (enc : TypeId × Value → H) :
    ReturnsInHanded {} Tryz.checked os 3 .any (fun w args => (Rows.rationalTurnsSpec.pre enc Tryz.prog Tryz.f3 Rows.rationalTurnsRow.domain false w args ∧ laidMetH Tryz.prog Rows.rationalTurnsRow.laid w) ∧ sizedMet enc Tryz.prog Tryz.f3 (OpenSpec.ofChange Rows.rationalTurnsSpec) false w args)
      (Rows.rationalTurnsSpec.post enc Tryz.prog Tryz.f3 false true false false) := by
  refine returns_shaped (C := Tryz.checked) (X := fun w _ => laidMetH Tryz.prog Rows.rationalTurnsRow.laid w) (fun _ _ _ hh h => h.of_heap hh) own started (by kernel_rfl) Tryz.func3
    (ChangeSpec.witness_shaped (enc := enc) (C := Tryz.checked) (os := os) (X := fun w _ => laidMetH Tryz.prog Rows.rationalTurnsRow.laid w) false (World.laidAll Tryz.prog os Rows.rationalTurnsRow.laid) #[.slice none 0 0] 8 (World.laidAll_os _ _ _)
      (World.shaped_of_ZipB (by kernel_rfl) (by kernel_rfl)) (by kernel_rfl) (by kernel_rfl) (by kernel_rfl)
      (by rw [MakeChecks.laidMetH_plain _ _ _ (by kernel_rfl)]; exact laidMet_laidAll _ (by kernel_rfl) (by kernel_rfl))) ?_
  intro W base args ds gs before hval0 hW hL hsh
  have hval : ∀ (j : Nat) t v, Tryz.f3.params[j]? = some t → args[j]? = some v → Value.okWide Tryz.prog W .any base t v := hval0
  have hW' := hW
  obtain ⟨p, q, hA0, hV, rfl, hfz, hnd⟩ := hW
  have hA : DataW.TrodAll enc Tryz.prog W 0 (fun _ => true) true Tryz.f3.params.toList args.toList ds p := hA0
  rw [Tryz.params3] at hA hval
  obtain ⟨v0, d0, rfl, rfl, h0⟩ := trodAll_one hA
  obtain ⟨rfl, rfl⟩ := trodVars_none hV
  have k0 := h0
  have lt0 : ∀ x ∈ p, x.block < W.heap.size := by obtain ⟨m, hm⟩ := k0; exact DataW.trod_lt m _ _ _ hm
  obtain ⟨A, n, c, rfl, hN, hc, hm⟩ := nums_of_ints (hval 0 22 v0 rfl rfl) h0
  clear hA0 hval0
  refine (law_qturns (tab_of_laid (show laidMetH Tryz.prog Rows.rationalFieldRow.laid W from hL)) (lx_of_shape hsh) hN hc hm).mono fun e W' ⟨he, bel⟩ => ?_
  subst he
  exact ⟨_, rfl, _, _, _, [], _, [], hW', trodAll_mk1 (shut_bool Tryz.underlying4 _), trodAll_mk1 (Below.trod laidOut (by kernel_rfl) (of_decide_eq_true (by kernel_rfl)) k0 bel lt0), rfl, bel.frame _, fun h => by cases h⟩

theorem qturns_said_in : (Rows.rationalTurnsRow.inPlace == Tryz.pinned.checked.prog.inPlace 3) = true := by kernel_rfl
theorem qturns_said_un : (Rows.rationalTurnsRow.unfollowed == Tryz.pinned.checked.prog.unfollowed 3) = true := by kernel_rfl
theorem qturns_said_re : (Rows.rationalTurnsRow.recurses == Tryz.pinned.checked.prog.recurses 3) = true := by kernel_rfl
theorem qturns_said_na : (Rows.rationalTurnsRow.named == Tryz.pinned.checked.prog.varsNamed 3) = true := by kernel_rfl
theorem qturns_said_lo : laidOutB Tryz.pinned.checked.prog = true := by kernel_rfl
theorem qturns_said_mr : mapsRowed Tryz.pinned.checked.prog = true := by kernel_rfl
theorem qturns_facts : joinedFacts Tryz.pinned.checked.prog 3 Tryz.f3 Rows.rationalTurnsSpec Rows.rationalTurnsRow = true := by
  unfold joinedFacts
  rw [qturns_said_in, qturns_said_un, qturns_said_re, qturns_said_na, qturns_said_lo, qturns_said_mr]
  kernel_rfl
theorem qturns_said : Rows.RationalTurnsSaid :=
  OpenClaim.holds_of_wide 3 Tryz.f3 rfl rfl rfl rfl rfl rfl rfl ⟨rfl, rfl, rfl, rfl, rfl⟩ rfl rfl rfl rfl rfl (by as_aux_lemma => kernel_rfl) Tryz.func3 qturns_facts
    (of_decide_eq_true (by as_aux_lemma => kernel_rfl)) (by unfold Func.isWrapper; first | (rw [if_pos (by decide +kernel)]; kernel_rfl) | (rw [if_neg (by decide +kernel)]; exact ⟨rfl, rfl⟩))
    (fun os started H enc _ => qturns_lifted os started H enc)

theorem rationalTurns_holds : Rows.RationalTurnsCardSaid :=
  Claim7.holds_tied_plain_at .later [] [.data, .data, .data, .data, .sentinel, .sentinel, .pinned] true (true, "1f2050d5b7eb3f29045a086a2a8d41b80a509fa6cc66ddb12d8ba03b5269303e") true qturns_said (fun _ h => by cases h) (by as_aux_lemma => kernel_rfl) (fun _ h => by cases h) rationalTurns_row_tie rfl ⟨rfl, rfl⟩ (by as_aux_lemma => kernel_rfl) rfl
    (fun f fn hf hfn => by
      obtain rfl : f = 3 := Option.some.inj ((show Tryz.prog.funcNamed "joinlearn/joinlearnlaw02.RationalTurns" = some 3 by kernel_rfl).symm.trans hf) |>.symm
      obtain rfl : fn = Tryz.f3 := (Option.some.inj (Tryz.func3.symm.trans hfn)).symm
      exact ⟨by as_aux_lemma => kernel_rfl, fun j t ht => by
        rw [Tryz.params3] at ht
        have hm : t ∈ [22] := by simpa using Array.mem_of_getElem? ht
        have hall : ([22].all fun u => !Tryz.prog.wantsStandIn u) = true := by kernel_rfl
        exact (show Tryz.prog.wantsStandIn t = false by simpa using List.all_eq_true.1 hall t hm)⟩)
    (by as_aux_lemma => kernel_rfl)
#print axioms rationalTurns_holds
end Go.Proofs.YtfogkkanifnppaaGreatDoor
