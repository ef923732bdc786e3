/-
  SchemaValues: for every int and every uint8, a number is a value of a key up to its limits and no further, a fraction with a small denominator one of a number, and words of a category; a missing value of each: the call returns true and leaves its arguments as they were.
  Conditions: those of the given card: the listed package-level variables start as the program's text lays them; of each other named variable whatever its type allows.
-/
import Derived.Test.YtigplffpnbdkeaaGreatDoorSRow
import Derived.Test.YtigplffpnbdkeaaGreatDoorLawSV
import Derived.Test.YtigplffpnbdkeaaGreatDoorCards
namespace Go.Proofs.YtigplffpnbdkeaaGreatDoor
open Go Go.ChangeShapes Go.WideShapes Go.ChangeAt Go.RowKit

set_option maxRecDepth 100000 in
theorem svl_lifted (os : Os) (started : os.Started) (H : Type) (enc : TypeId × Value → H) :
    ReturnsInHanded {} Tryz.checked os 4 .any (fun w args => (Rows.schemaValuesSpec.pre enc Tryz.prog Tryz.f4 Rows.schemaValuesRow.domain false w args ∧ laidMetH Tryz.prog Rows.schemaValuesRow.laid w) ∧ sizedMet enc Tryz.prog Tryz.f4 (OpenSpec.ofChange Rows.schemaValuesSpec) false w args)
      (Rows.schemaValuesSpec.post enc Tryz.prog Tryz.f4 false true false false) := by
  refine returns_shaped (C := Tryz.checked) (X := fun w _ => laidMetH Tryz.prog Rows.schemaValuesRow.laid w) (fun _ _ _ hh h => h.of_heap hh) own started (by kernel_rfl) Tryz.func4
    (ChangeSpec.witness_shaped (enc := enc) (C := Tryz.checked) (os := os) (X := fun w _ => laidMetH Tryz.prog Rows.schemaValuesRow.laid w) false (World.laidAll Tryz.prog os Rows.schemaValuesRow.laid) #[.int .i64 0, .int .u8 0] 8 (World.laidAll_os _ _ _)
      (World.shaped_of_ZipB (by kernel_rfl) (by kernel_rfl)) (by kernel_rfl) (by kernel_rfl) (by kernel_rfl)
      (by rw [MakeChecks.laidMetH_plain _ _ _ (by kernel_rfl)]; exact laidMet_laidAll _ (by kernel_rfl) (by kernel_rfl))) ?_
  intro W base args ds gs before hval0 hW hL hsh
  have hval : ∀ (j : Nat) t v, Tryz.f4.params[j]? = some t → args[j]? = some v → Value.okWide Tryz.prog W .any base t v := hval0
  have hW' := hW
  obtain ⟨p, q, hA0, hV, rfl, hfz, hnd⟩ := hW
  have hA : DataW.TrodAll enc Tryz.prog W 0 (fun _ => true) true Tryz.f4.params.toList args.toList ds p := hA0
  rw [Tryz.params4] at hA hval
  obtain ⟨v0, v1, d0, d1, p0, p1, rfl, rfl, rfl, h0, h1⟩ := trodAll_two hA
  obtain ⟨rfl, rfl⟩ := trodVars_none hV
  obtain ⟨n, rfl, rfl, rfl, wn⟩ := open_int Tryz.underlying3 (hval 0 3 v0 rfl rfl) h0
  obtain ⟨m, rfl, rfl, rfl, wm⟩ := open_int Tryz.underlying5 (hval 1 5 v1 rfl rfl) h1
  have hn : -9223372036854775808 ≤ n ∧ n ≤ 9223372036854775807 := by
    have h2 : IntKind.i64.min ≤ n ∧ n ≤ IntKind.i64.max := by simpa [Lit.wf] using wn
    exact h2
  have hm : 0 ≤ m ∧ m ≤ 255 := by
    have h2 : IntKind.u8.min ≤ m ∧ m ≤ IntKind.u8.max := by simpa [Lit.wf] using wm
    exact h2
  clear hA0 hval0
  refine (law_svalues (lx_of_shape hsh) hn.1 hn.2 hm.1 hm.2).mono fun e W' ⟨he, bel⟩ => ?_
  subst he
  exact ⟨_, rfl, _, _, _, [], _, [], hW', trodAll_mk1 (shut_bool Tryz.underlying4 _), trodAll_cons_mk (shut_int Tryz.underlying3 wn) (trodAll_cons_mk (shut_int Tryz.underlying5 wm) trodAll_mk0), rfl, bel.frame _, fun h => by cases h⟩

theorem svl_said_in : (Rows.schemaValuesRow.inPlace == Tryz.pinned.checked.prog.inPlace 4) = true := by kernel_rfl
theorem svl_said_un : (Rows.schemaValuesRow.unfollowed == Tryz.pinned.checked.prog.unfollowed 4) = true := by kernel_rfl
theorem svl_said_re : (Rows.schemaValuesRow.recurses == Tryz.pinned.checked.prog.recurses 4) = true := by kernel_rfl
theorem svl_said_na : (Rows.schemaValuesRow.named == Tryz.pinned.checked.prog.varsNamed 4) = true := by kernel_rfl
theorem svl_said_lo : laidOutB Tryz.pinned.checked.prog = true := by kernel_rfl
theorem svl_said_mr : mapsRowed Tryz.pinned.checked.prog = true := by kernel_rfl
theorem svl_facts : joinedFacts Tryz.pinned.checked.prog 4 Tryz.f4 Rows.schemaValuesSpec Rows.schemaValuesRow = true := by
  unfold joinedFacts
  rw [svl_said_in, svl_said_un, svl_said_re, svl_said_na, svl_said_lo, svl_said_mr]
  kernel_rfl
theorem svl_said : Rows.SchemaValuesSaid :=
  OpenClaim.holds_of_wide 4 Tryz.f4 rfl rfl rfl rfl rfl rfl rfl ⟨rfl, rfl, rfl, rfl, rfl⟩ rfl rfl rfl rfl rfl (by as_aux_lemma => kernel_rfl) Tryz.func4 svl_facts
    (of_decide_eq_true (by as_aux_lemma => kernel_rfl)) (by unfold Func.isWrapper; first | (rw [if_pos (by decide +kernel)]; kernel_rfl) | (rw [if_neg (by decide +kernel)]; exact ⟨rfl, rfl⟩))
    (fun os started H enc _ => svl_lifted os started H enc)

theorem schemaValues_holds : Rows.SchemaValuesCardSaid :=
  Claim7.holds_tied_plain_at .later [] [.data, .data, .data, .sentinel, .sentinel] true (true, "2a177227159696f029f59f1a8cd3d9e6f60de8e8e4f97b6774f9f9e345ab0e8c") true svl_said (fun _ h => by cases h) (by as_aux_lemma => kernel_rfl) (fun _ h => by cases h) schemaValues_row_tie rfl ⟨rfl, rfl⟩ (by as_aux_lemma => kernel_rfl) rfl
    (fun f fn hf hfn => by
      obtain rfl : f = 4 := Option.some.inj ((show Tryz.prog.funcNamed "joinlearn/joinlearnlaw05.SchemaValues" = some 4 by kernel_rfl).symm.trans hf) |>.symm
      obtain rfl : fn = Tryz.f4 := (Option.some.inj (Tryz.func4.symm.trans hfn)).symm
      exact ⟨by as_aux_lemma => kernel_rfl, fun j t ht => by
        rw [Tryz.params4] at ht
        have hm : t ∈ [3, 5] := by simpa using Array.mem_of_getElem? ht
        have hall : ([3, 5].all fun u => !Tryz.prog.wantsStandIn u) = true := by kernel_rfl
        exact (show Tryz.prog.wantsStandIn t = false by simpa using List.all_eq_true.1 hall t hm)⟩)
    (by as_aux_lemma => kernel_rfl)
#print axioms schemaValues_holds
end Go.Proofs.YtigplffpnbdkeaaGreatDoor
