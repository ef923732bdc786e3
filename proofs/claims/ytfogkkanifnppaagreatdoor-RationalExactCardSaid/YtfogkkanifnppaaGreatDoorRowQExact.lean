/-
  RationalExact: for every slice of ints, every two texts of fractions, every two texts of integers and every int, package rational and the reference package give the same for Make, Parts, Floor, Valid, Digits, Sign, Compare, Add, Sub, Mul, Div and Whole: the call returns true and leaves its arguments as they were.
  Conditions: those of the given card: the listed package-level variables start as the program's text lays them; of each other named variable whatever its type allows.
-/
import Derived.Test.YtfogkkanifnppaaGreatDoorQRow
import Derived.Test.YtfogkkanifnppaaGreatDoorLawQExact
import Derived.Test.YtfogkkanifnppaaGreatDoorCards
namespace Go.Proofs.YtfogkkanifnppaaGreatDoor
open Go Go.ChangeShapes Go.WideShapes Go.ChangeAt Go.RowKit

theorem trodAll_six {H : Type} {enc : TypeId × Value → H} {P : Program} {w : World} {base : Nat} {spare : Nat → Bool} {held : Bool} {t0 t1 t2 t3 t4 t5 : TypeId} {args : Array Value} {ds : List (DataW H)} {ps : List MemPlace} (h : DataW.TrodAll enc P w base spare held [t0, t1, t2, t3, t4, t5] args.toList ds ps) :
    ∃ v0 v1 v2 v3 v4 v5 d0 d1 d2 d3 d4 d5 p0 p1 p2 p3 p4 p5, args = #[v0, v1, v2, v3, v4, v5] ∧ ds = [d0, d1, d2, d3, d4, d5] ∧ ps = p0 ++ (p1 ++ (p2 ++ (p3 ++ (p4 ++ (p5 ++ []))))) ∧
      DataW.Trod enc P w base spare held t0 v0 d0 p0 ∧ DataW.Trod enc P w base spare held t1 v1 d1 p1 ∧ DataW.Trod enc P w base spare held t2 v2 d2 p2 ∧ DataW.Trod enc P w base spare held t3 v3 d3 p3 ∧ DataW.Trod enc P w base spare held t4 v4 d4 p4 ∧ DataW.Trod enc P w base spare held t5 v5 d5 p5 := by
  obtain ⟨v0, _, d0, _, p0, _, hargs, rfl, rfl, h0, hr⟩ := trodAll_cons h
  obtain ⟨v1, _, d1, _, p1, _, rfl, rfl, rfl, h1, hr⟩ := trodAll_cons hr
  obtain ⟨v2, _, d2, _, p2, _, rfl, rfl, rfl, h2, hr⟩ := trodAll_cons hr
  obtain ⟨v3, _, d3, _, p3, _, rfl, rfl, rfl, h3, hr⟩ := trodAll_cons hr
  obtain ⟨v4, _, d4, _, p4, _, rfl, rfl, rfl, h4, hr⟩ := trodAll_cons hr
  obtain ⟨v5, _, d5, _, p5, _, rfl, rfl, rfl, h5, hr⟩ := trodAll_cons hr
  obtain ⟨rfl, rfl, rfl⟩ := trodAll_nil hr
  exact ⟨v0, v1, v2, v3, v4, v5, d0, d1, d2, d3, d4, d5, p0, p1, p2, p3, p4, p5, by cases args; simp_all, rfl, rfl, h0, h1, h2, h3, h4, h5⟩

set_option maxRecDepth 100000 in
theorem qexact_lifted (os : Os) (started : os.Started) (H : Type) (enc : TypeId × Value → H) :
    ReturnsInHanded {} Tryz.checked os 5 .any (fun w args => (Rows.rationalExactSpec.pre enc Tryz.prog Tryz.f5 Rows.rationalExactRow.domain false w args ∧ laidMetH Tryz.prog Rows.rationalExactRow.laid w) ∧ sizedMet enc Tryz.prog Tryz.f5 (OpenSpec.ofChange Rows.rationalExactSpec) false w args)
      (Rows.rationalExactSpec.post enc Tryz.prog Tryz.f5 false true false false) := by
  refine returns_shaped (C := Tryz.checked) (X := fun w _ => laidMetH Tryz.prog Rows.rationalExactRow.laid w) (fun _ _ _ hh h => h.of_heap hh) own started (by kernel_rfl) Tryz.func5
    (ChangeSpec.witness_shaped (enc := enc) (C := Tryz.checked) (os := os) (X := fun w _ => laidMetH Tryz.prog Rows.rationalExactRow.laid w) false (World.laidAll Tryz.prog os Rows.rationalExactRow.laid) #[.slice none 0 0, .string ⟨#[]⟩, .string ⟨#[]⟩, .string ⟨#[]⟩, .string ⟨#[]⟩, .int .i64 0] 8 (World.laidAll_os _ _ _)
      (World.shaped_of_ZipB (by kernel_rfl) (by kernel_rfl)) (by kernel_rfl) (by kernel_rfl) (by kernel_rfl)
      (by rw [MakeChecks.laidMetH_plain _ _ _ (by kernel_rfl)]; exact laidMet_laidAll _ (by kernel_rfl) (by kernel_rfl))) ?_
  intro W base args ds gs before hval0 hW hL hsh
  have hval : ∀ (j : Nat) t v, Tryz.f5.params[j]? = some t → args[j]? = some v → Value.okWide Tryz.prog W .any base t v := hval0
  have hW' := hW
  obtain ⟨p, q, hA0, hV, rfl, hfz, hnd⟩ := hW
  have hA : DataW.TrodAll enc Tryz.prog W 0 (fun _ => true) true Tryz.f5.params.toList args.toList ds p := hA0
  rw [Tryz.params5] at hA hval
  obtain ⟨v0, v1, v2, v3, v4, v5, d0, d1, d2, d3, d4, d5, p0, p1, p2, p3, p4, p5, rfl, rfl, rfl, h0, h1, h2, h3, h4, h5⟩ := trodAll_six hA
  obtain ⟨rfl, rfl⟩ := trodVars_none hV
  have k0 := h0
  have lt0 : ∀ x ∈ p0, x.block < W.heap.size := by obtain ⟨m, hm⟩ := k0; exact DataW.trod_lt m _ _ _ hm
  obtain ⟨A, n, c, rfl, hN, hc, hm⟩ := nums_of_ints (hval 0 22 v0 rfl rfl) h0
  obtain ⟨sa, rfl, rfl, rfl, wa⟩ := ChangeMaps.open_string Tryz.underlying25 (hval 1 25 v1 rfl rfl) h1
  obtain ⟨sb, rfl, rfl, rfl, wb⟩ := ChangeMaps.open_string Tryz.underlying25 (hval 2 25 v2 rfl rfl) h2
  obtain ⟨sm, rfl, rfl, rfl, wm1⟩ := ChangeMaps.open_string Tryz.underlying35 (hval 3 35 v3 rfl rfl) h3
  obtain ⟨sk, rfl, rfl, rfl, wk⟩ := ChangeMaps.open_string Tryz.underlying35 (hval 4 35 v4 rfl rfl) h4
  obtain ⟨m, rfl, rfl, rfl, wm⟩ := open_int Tryz.underlying3 (hval 5 3 v5 rfl rfl) h5
  have hmr : -9223372036854775808 ≤ m ∧ m ≤ 9223372036854775807 := by
    have h2 : IntKind.i64.min ≤ m ∧ m ≤ IntKind.i64.max := by simpa [Lit.wf] using wm
    exact h2
  clear hA0 hval0
  refine (law_qexact (tab_of_laid (show laidMetH Tryz.prog Rows.rationalFieldRow.laid W from hL)) (lx_of_shape hsh) hN hc hm hmr.1 hmr.2).mono fun e W' ⟨he, bel⟩ => ?_
  subst he
  exact ⟨_, rfl, _, _, _, [], _, [], hW', trodAll_mk1 (shut_bool Tryz.underlying4 _), trodAll_cons_mk (Below.trod laidOut (by kernel_rfl) (of_decide_eq_true (by kernel_rfl)) k0 bel lt0) (trodAll_cons_mk (ChangeMaps.shut_string Tryz.underlying25 wa) (trodAll_cons_mk (ChangeMaps.shut_string Tryz.underlying25 wb) (trodAll_cons_mk (ChangeMaps.shut_string Tryz.underlying35 wm1) (trodAll_cons_mk (ChangeMaps.shut_string Tryz.underlying35 wk) (trodAll_cons_mk (shut_int Tryz.underlying3 wm) trodAll_mk0))))), rfl, bel.frame _, fun h => by cases h⟩

theorem qexact_said_in : (Rows.rationalExactRow.inPlace == Tryz.pinned.checked.prog.inPlace 5) = true := by kernel_rfl
theorem qexact_said_un : (Rows.rationalExactRow.unfollowed == Tryz.pinned.checked.prog.unfollowed 5) = true := by kernel_rfl
theorem qexact_said_re : (Rows.rationalExactRow.recurses == Tryz.pinned.checked.prog.recurses 5) = true := by kernel_rfl
theorem qexact_said_na : (Rows.rationalExactRow.named == Tryz.pinned.checked.prog.varsNamed 5) = true := by kernel_rfl
theorem qexact_said_lo : laidOutB Tryz.pinned.checked.prog = true := by kernel_rfl
theorem qexact_said_mr : mapsRowed Tryz.pinned.checked.prog = true := by kernel_rfl
theorem qexact_facts : joinedFacts Tryz.pinned.checked.prog 5 Tryz.f5 Rows.rationalExactSpec Rows.rationalExactRow = true := by
  unfold joinedFacts
  rw [qexact_said_in, qexact_said_un, qexact_said_re, qexact_said_na, qexact_said_lo, qexact_said_mr]
  kernel_rfl
theorem qexact_said : Rows.RationalExactSaid :=
  OpenClaim.holds_of_wide 5 Tryz.f5 rfl rfl rfl rfl rfl rfl rfl ⟨rfl, rfl, rfl, rfl, rfl⟩ rfl rfl rfl rfl rfl (by as_aux_lemma => kernel_rfl) Tryz.func5 qexact_facts
    (of_decide_eq_true (by as_aux_lemma => kernel_rfl)) (by unfold Func.isWrapper; first | (rw [if_pos (by decide +kernel)]; kernel_rfl) | (rw [if_neg (by decide +kernel)]; exact ⟨rfl, rfl⟩))
    (fun os started H enc _ => qexact_lifted os started H enc)

theorem rationalExact_holds : Rows.RationalExactCardSaid :=
  Claim7.holds_tied_plain_at .later [] [.data, .data, .data, .data, .sentinel, .sentinel, .pinned] true (true, "1f2050d5b7eb3f29045a086a2a8d41b80a509fa6cc66ddb12d8ba03b5269303e") true qexact_said (fun _ h => by cases h) (by as_aux_lemma => kernel_rfl) (fun _ h => by cases h) rationalExact_row_tie rfl ⟨rfl, rfl⟩ (by as_aux_lemma => kernel_rfl) rfl
    (fun f fn hf hfn => by
      obtain rfl : f = 5 := Option.some.inj ((show Tryz.prog.funcNamed "joinlearn/joinlearnlaw02.RationalExact" = some 5 by kernel_rfl).symm.trans hf) |>.symm
      obtain rfl : fn = Tryz.f5 := (Option.some.inj (Tryz.func5.symm.trans hfn)).symm
      exact ⟨by as_aux_lemma => kernel_rfl, fun j t ht => by
        rw [Tryz.params5] at ht
        have hm : t ∈ [22, 25, 25, 35, 35, 3] := by simpa using Array.mem_of_getElem? ht
        have hall : ([22, 25, 25, 35, 35, 3].all fun u => !Tryz.prog.wantsStandIn u) = true := by kernel_rfl
        exact (show Tryz.prog.wantsStandIn t = false by simpa using List.all_eq_true.1 hall t hm)⟩)
    (by as_aux_lemma => kernel_rfl)
#print axioms rationalExact_holds
end Go.Proofs.YtfogkkanifnppaaGreatDoor
