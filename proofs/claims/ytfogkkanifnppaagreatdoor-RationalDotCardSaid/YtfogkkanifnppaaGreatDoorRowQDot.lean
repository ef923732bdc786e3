/-
  RationalDot: for every slice of ints and every uint8, a sum is the product with ones, and products are linear in each list: the call returns true and leaves its arguments as they were.
  Conditions: those of the given card: the listed package-level variables start as the program's text lays them; of each other named variable whatever its type allows.
-/
import Derived.Test.YtfogkkanifnppaaGreatDoorQRow
import Derived.Test.YtfogkkanifnppaaGreatDoorLawQDot
import Derived.Test.YtfogkkanifnppaaGreatDoorCards
namespace Go.Proofs.YtfogkkanifnppaaGreatDoor
open Go Go.ChangeShapes Go.WideShapes Go.ChangeAt Go.RowKit

set_option maxRecDepth 100000 in
theorem qdotl_lifted (os : Os) (started : os.Started) (H : Type) (enc : TypeId × Value → H) :
    ReturnsInHanded {} Tryz.checked os 10 .any (fun w args => (Rows.rationalDotSpec.pre enc Tryz.prog Tryz.f10 Rows.rationalDotRow.domain false w args ∧ laidMetH Tryz.prog Rows.rationalDotRow.laid w) ∧ sizedMet enc Tryz.prog Tryz.f10 (OpenSpec.ofChange Rows.rationalDotSpec) false w args)
      (Rows.rationalDotSpec.post enc Tryz.prog Tryz.f10 false true false false) := by
  refine returns_shaped (C := Tryz.checked) (X := fun w _ => laidMetH Tryz.prog Rows.rationalDotRow.laid w) (fun _ _ _ hh h => h.of_heap hh) own started (by kernel_rfl) Tryz.func10
    (ChangeSpec.witness_shaped (enc := enc) (C := Tryz.checked) (os := os) (X := fun w _ => laidMetH Tryz.prog Rows.rationalDotRow.laid w) false (World.laidAll Tryz.prog os Rows.rationalDotRow.laid) #[.slice none 0 0, .int .u8 0] 8 (World.laidAll_os _ _ _)
      (World.shaped_of_ZipB (by kernel_rfl) (by kernel_rfl)) (by kernel_rfl) (by kernel_rfl) (by kernel_rfl)
      (by rw [MakeChecks.laidMetH_plain _ _ _ (by kernel_rfl)]; exact laidMet_laidAll _ (by kernel_rfl) (by kernel_rfl))) ?_
  intro W base args ds gs before hval0 hW hL hsh
  have hval : ∀ (j : Nat) t v, Tryz.f10.params[j]? = some t → args[j]? = some v → Value.okWide Tryz.prog W .any base t v := hval0
  have hW' := hW
  obtain ⟨p, q, hA0, hV, rfl, hfz, hnd⟩ := hW
  have hA : DataW.TrodAll enc Tryz.prog W 0 (fun _ => true) true Tryz.f10.params.toList args.toList ds p := hA0
  rw [Tryz.params10] at hA hval
  obtain ⟨v0, v1, d0, d1, p0, p1, rfl, rfl, rfl, h0, h1⟩ := trodAll_two hA
  obtain ⟨rfl, rfl⟩ := trodVars_none hV
  have k0 := h0
  have lt0 : ∀ x ∈ p0, x.block < W.heap.size := by obtain ⟨m, hm⟩ := k0; exact DataW.trod_lt m _ _ _ hm
  obtain ⟨A, n, c, rfl, hN, hc, hm⟩ := nums_of_ints (hval 0 22 v0 rfl rfl) h0
  obtain ⟨m, rfl, rfl, rfl, wm⟩ := open_int Tryz.underlying5 (hval 1 5 v1 rfl rfl) h1
  clear hA0 hval0
  refine (law_qdot m (tab_of_laid (show laidMetH Tryz.prog Rows.rationalFieldRow.laid W from hL)) (lx_of_shape hsh) hN hc hm).mono fun e W' ⟨he, bel⟩ => ?_
  subst he
  exact ⟨_, rfl, _, _, _, [], _, [], hW', trodAll_mk1 (shut_bool Tryz.underlying4 _), trodAll_cons_mk (Below.trod laidOut (by kernel_rfl) (of_decide_eq_true (by kernel_rfl)) k0 bel lt0) (trodAll_cons_mk (shut_int Tryz.underlying5 wm) trodAll_mk0), rfl, bel.frame _, fun h => by cases h⟩

theorem qdotl_said_in : (Rows.rationalDotRow.inPlace == Tryz.pinned.checked.prog.inPlace 10) = true := by kernel_rfl
theorem qdotl_said_un : (Rows.rationalDotRow.unfollowed == Tryz.pinned.checked.prog.unfollowed 10) = true := by kernel_rfl
theorem qdotl_said_re : (Rows.rationalDotRow.recurses == Tryz.pinned.checked.prog.recurses 10) = true := by kernel_rfl
theorem qdotl_said_na : (Rows.rationalDotRow.named == Tryz.pinned.checked.prog.varsNamed 10) = true := by kernel_rfl
theorem qdotl_said_lo : laidOutB Tryz.pinned.checked.prog = true := by kernel_rfl
theorem qdotl_said_mr : mapsRowed Tryz.pinned.checked.prog = true := by kernel_rfl
theorem qdotl_facts : joinedFacts Tryz.pinned.checked.prog 10 Tryz.f10 Rows.rationalDotSpec Rows.rationalDotRow = true := by
  unfold joinedFacts
  rw [qdotl_said_in, qdotl_said_un, qdotl_said_re, qdotl_said_na, qdotl_said_lo, qdotl_said_mr]
  kernel_rfl
theorem qdotl_said : Rows.RationalDotSaid :=
  OpenClaim.holds_of_wide 10 Tryz.f10 rfl rfl rfl rfl rfl rfl rfl ⟨rfl, rfl, rfl, rfl, rfl⟩ rfl rfl rfl rfl rfl (by as_aux_lemma => kernel_rfl) Tryz.func10 qdotl_facts
    (of_decide_eq_true (by as_aux_lemma => kernel_rfl)) (by unfold Func.isWrapper; first | (rw [if_pos (by decide +kernel)]; kernel_rfl) | (rw [if_neg (by decide +kernel)]; exact ⟨rfl, rfl⟩))
    (fun os started H enc _ => qdotl_lifted os started H enc)

theorem rationalDot_holds : Rows.RationalDotCardSaid :=
  Claim7.holds_tied_plain_at .later [] [.data, .data, .data, .data, .sentinel, .sentinel, .pinned] true (true, "1f2050d5b7eb3f29045a086a2a8d41b80a509fa6cc66ddb12d8ba03b5269303e") true qdotl_said (fun _ h => by cases h) (by as_aux_lemma => kernel_rfl) (fun _ h => by cases h) rationalDot_row_tie rfl ⟨rfl, rfl⟩ (by as_aux_lemma => kernel_rfl) rfl
    (fun f fn hf hfn => by
      obtain rfl : f = 10 := Option.some.inj ((show Tryz.prog.funcNamed "joinlearn/joinlearnlaw02.RationalDot" = some 10 by kernel_rfl).symm.trans hf) |>.symm
      obtain rfl : fn = Tryz.f10 := (Option.some.inj (Tryz.func10.symm.trans hfn)).symm
      exact ⟨by as_aux_lemma => kernel_rfl, fun j t ht => by
        rw [Tryz.params10] at ht
        have hm : t ∈ [22, 5] := by simpa using Array.mem_of_getElem? ht
        have hall : ([22, 5].all fun u => !Tryz.prog.wantsStandIn u) = true := by kernel_rfl
        exact (show Tryz.prog.wantsStandIn t = false by simpa using List.all_eq_true.1 hall t hm)⟩)
    (by as_aux_lemma => kernel_rfl)
#print axioms rationalDot_holds
end Go.Proofs.YtfogkkanifnppaaGreatDoor
