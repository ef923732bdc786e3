/-
  IntegerExact: for every slice of ints, every two texts and every int, package integer and the reference package give the same for Valid, Small, Sign, Compare, Add, Sub, Mul, Div, Gcd and Make at every pair of six texts, the two given ones among them: the call returns true and leaves its arguments as they were.
  Conditions: those of the given card: the listed package-level variables start as the program's text lays them; whatever the other named variable holds.
-/
import Derived.Test.YthibdbpgllhcpaaGreatDoorRow
import Derived.Test.YthibdbpgllhcpaaGreatDoorLawExact
import Derived.Test.YthibdbpgllhcpaaGreatDoorErrL
import Derived.Test.YthibdbpgllhcpaaGreatDoorCards
namespace Go.Proofs.YthibdbpgllhcpaaGreatDoor
open Go Go.ChangeShapes Go.WideShapes Go.ChangeAt Go.RowKit

set_option maxRecDepth 100000 in
theorem exact_lifted (os : Os) (started : os.Started) (H : Type) (enc : TypeId × Value → H) :
    ReturnsInHanded {} Tryz.checked os 5 .any (fun w args => (Rows.integerExactSpec.pre enc Tryz.prog Tryz.f5 Rows.integerExactRow.domain false w args ∧ laidMetH Tryz.prog Rows.integerExactRow.laid w) ∧ sizedMet enc Tryz.prog Tryz.f5 (OpenSpec.ofChange Rows.integerExactSpec) false w args)
      (Rows.integerExactSpec.post enc Tryz.prog Tryz.f5 false true false false) := by
  refine returnsInHanded_of_change_and (C := Tryz.checked) (X := fun w _ => laidMetH Tryz.prog Rows.integerExactRow.laid w) (fun _ _ _ hh h => h.of_heap hh) own started (by kernel_rfl) Tryz.func5
    (ChangeSpec.witness_shaped (enc := enc) (C := Tryz.checked) (os := os) (X := fun w _ => laidMetH Tryz.prog Rows.integerExactRow.laid w) false (World.laidAll Tryz.prog os Rows.integerExactRow.laid) #[.slice none 0 0, .string ⟨#[]⟩, .string ⟨#[]⟩, .int .i64 0] 8 (World.laidAll_os _ _ _)
      (World.shaped_of_ZipB (by kernel_rfl) (by kernel_rfl)) (by kernel_rfl) (by kernel_rfl) (by kernel_rfl)
      (by rw [MakeChecks.laidMetH_plain _ _ _ (by kernel_rfl)]; exact laidMet_laidAll _ (by kernel_rfl) (by kernel_rfl))) ?_
  intro W base args ds gs before hval0 hW hcnd _ hL _
  have hval : ∀ (j : Nat) t v, Tryz.f5.params[j]? = some t → args[j]? = some v → Value.okWide Tryz.prog W .any base t v := hval0
  have hW' := hW
  obtain ⟨p, q, hA0, hV, rfl, hfz, hnd⟩ := hW
  have hA : DataW.TrodAll enc Tryz.prog W 0 (fun _ => true) true Tryz.f5.params.toList args.toList ds p := hA0
  rw [Tryz.params5] at hA hval
  obtain ⟨v0, v1, v2, v3, d0, d1, d2, d3, p0, p1, p2, p3, rfl, rfl, rfl, h0, h1, h2, h3⟩ := trodAll_four hA
  obtain ⟨rfl, rfl⟩ := trodVars_none hV
  have k0 := h0
  have lt0 : ∀ x ∈ p0, x.block < W.heap.size := by obtain ⟨m, hm⟩ := k0; exact DataW.trod_lt m _ _ _ hm
  obtain ⟨A, n, c, rfl, hN, hc, hm⟩ := nums_of_ints (hval 0 22 v0 rfl rfl) h0
  obtain ⟨sa, rfl, rfl, rfl, wa⟩ := ChangeMaps.open_string Tryz.underlying25 (hval 1 25 v1 rfl rfl) h1
  obtain ⟨sb, rfl, rfl, rfl, wb⟩ := ChangeMaps.open_string Tryz.underlying25 (hval 2 25 v2 rfl rfl) h2
  obtain ⟨m, rfl, rfl, rfl, wm⟩ := open_int Tryz.underlying3 (hval 3 3 v3 rfl rfl) h3
  have hmr : -9223372036854775808 ≤ m ∧ m ≤ 9223372036854775807 := by
    have h2 : IntKind.i64.min ≤ m ∧ m ≤ IntKind.i64.max := by simpa [Lit.wf] using wm
    exact h2
  clear hA0 hval0
  refine (law_exact (tab_of_laid (show laidMetH Tryz.prog Rows.integerRingRow.laid W from hL)) (err_of_laid (show laidMetH Tryz.prog Rows.integerRingRow.laid W from hL)) hN hc hm hmr.1 hmr.2).mono fun e W' ⟨he, bel⟩ => ?_
  subst he
  exact ⟨_, rfl, _, _, _, [], _, [], hW', trodAll_mk1 (shut_bool Tryz.underlying4 _), trodAll_cons_mk (Below.trod laidOut (by kernel_rfl) (of_decide_eq_true (by kernel_rfl)) k0 bel lt0) (trodAll_cons_mk (ChangeMaps.shut_string Tryz.underlying25 wa) (trodAll_cons_mk (ChangeMaps.shut_string Tryz.underlying25 wb) (trodAll_cons_mk (shut_int Tryz.underlying3 wm) trodAll_mk0))), rfl, bel.frame _, fun h => by cases h⟩

theorem exact_said_in : (Rows.integerExactRow.inPlace == Tryz.pinned.checked.prog.inPlace 5) = true := by kernel_rfl
theorem exact_said_un : (Rows.integerExactRow.unfollowed == Tryz.pinned.checked.prog.unfollowed 5) = true := by kernel_rfl
theorem exact_said_re : (Rows.integerExactRow.recurses == Tryz.pinned.checked.prog.recurses 5) = true := by kernel_rfl
theorem exact_said_na : (Rows.integerExactRow.named == Tryz.pinned.checked.prog.varsNamed 5) = true := by kernel_rfl
theorem exact_said_lo : laidOutB Tryz.pinned.checked.prog = true := by kernel_rfl
theorem exact_said_mr : mapsRowed Tryz.pinned.checked.prog = true := by kernel_rfl
theorem exact_facts : joinedFacts Tryz.pinned.checked.prog 5 Tryz.f5 Rows.integerExactSpec Rows.integerExactRow = true := by
  unfold joinedFacts
  rw [exact_said_in, exact_said_un, exact_said_re, exact_said_na, exact_said_lo, exact_said_mr]
  kernel_rfl
theorem exact_said : Rows.IntegerExactSaid :=
  OpenClaim.holds_of_wide 5 Tryz.f5 rfl rfl rfl rfl rfl rfl rfl ⟨rfl, rfl, rfl, rfl, rfl⟩ rfl rfl rfl rfl rfl (by as_aux_lemma => kernel_rfl) Tryz.func5 exact_facts
    (of_decide_eq_true (by as_aux_lemma => kernel_rfl)) (by unfold Func.isWrapper; first | (rw [if_pos (by decide +kernel)]; kernel_rfl) | (rw [if_neg (by decide +kernel)]; exact ⟨rfl, rfl⟩))
    (fun os started H enc _ => exact_lifted os started H enc)

theorem integerExact_holds : Rows.IntegerExactCardSaid :=
  Claim7.holds_tied_plain_at .later [] [.data, .data, .data, .data, .sentinel, .sentinel, .pinned] true (true, "e7366e0c33b795fd51d050f4d3a85381e46ad50b9df84bea97c41f8ef1f2ad0a") true exact_said (fun _ h => by cases h) (by as_aux_lemma => kernel_rfl) (fun _ h => by cases h) integerExact_row_tie rfl ⟨rfl, rfl⟩ (by as_aux_lemma => kernel_rfl) rfl
    (fun f fn hf hfn => by
      obtain rfl : f = 5 := Option.some.inj ((show Tryz.prog.funcNamed "joinlearn/joinlearnlaw01.IntegerExact" = some 5 by kernel_rfl).symm.trans hf) |>.symm
      obtain rfl : fn = Tryz.f5 := (Option.some.inj (Tryz.func5.symm.trans hfn)).symm
      exact ⟨by as_aux_lemma => kernel_rfl, fun j t ht => by
        rw [Tryz.params5] at ht
        have hm : t ∈ [22, 25, 25, 3] := by simpa using Array.mem_of_getElem? ht
        have hall : ([22, 25, 25, 3].all fun u => !Tryz.prog.wantsStandIn u) = true := by kernel_rfl
        exact (show Tryz.prog.wantsStandIn t = false by simpa using List.all_eq_true.1 hall t hm)⟩)
    (by as_aux_lemma => kernel_rfl)
#print axioms integerExact_holds
end Go.Proofs.YthibdbpgllhcpaaGreatDoor
