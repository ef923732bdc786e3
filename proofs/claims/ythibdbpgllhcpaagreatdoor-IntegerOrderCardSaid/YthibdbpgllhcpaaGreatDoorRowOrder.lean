/-
  IntegerOrder: for every slice of ints and every int, Compare says what the sign of the difference says, it is transitive, and Small gives back what Make wrote from -2^62 to 2^62 and nothing else: the call returns true and leaves its arguments as they were.
  Conditions: those of the given card: the listed package-level variables start as the program's text lays them; whatever the other named variable holds.
-/
import Derived.Test.YthibdbpgllhcpaaGreatDoorRow
import Derived.Test.YthibdbpgllhcpaaGreatDoorLawOrder
import Derived.Test.YthibdbpgllhcpaaGreatDoorCards
namespace Go.Proofs.YthibdbpgllhcpaaGreatDoor
open Go Go.ChangeShapes Go.WideShapes Go.ChangeAt Go.RowKit

set_option maxRecDepth 100000 in
theorem order_lifted (os : Os) (started : os.Started) (H : Type) (enc : TypeId × Value → H) :
    ReturnsInHanded {} Tryz.checked os 9 .any (fun w args => (Rows.integerOrderSpec.pre enc Tryz.prog Tryz.f9 Rows.integerOrderRow.domain false w args ∧ laidMetH Tryz.prog Rows.integerOrderRow.laid w) ∧ sizedMet enc Tryz.prog Tryz.f9 (OpenSpec.ofChange Rows.integerOrderSpec) false w args)
      (Rows.integerOrderSpec.post enc Tryz.prog Tryz.f9 false true false false) := by
  refine returnsInHanded_of_change_and (C := Tryz.checked) (X := fun w _ => laidMetH Tryz.prog Rows.integerOrderRow.laid w) (fun _ _ _ hh h => h.of_heap hh) own started (by kernel_rfl) Tryz.func9
    (ChangeSpec.witness_shaped (enc := enc) (C := Tryz.checked) (os := os) (X := fun w _ => laidMetH Tryz.prog Rows.integerOrderRow.laid w) false (World.laidAll Tryz.prog os Rows.integerOrderRow.laid) #[.slice none 0 0, .int .i64 0] 8 (World.laidAll_os _ _ _)
      (World.shaped_of_ZipB (by kernel_rfl) (by kernel_rfl)) (by kernel_rfl) (by kernel_rfl) (by kernel_rfl)
      (by rw [MakeChecks.laidMetH_plain _ _ _ (by kernel_rfl)]; exact laidMet_laidAll _ (by kernel_rfl) (by kernel_rfl))) ?_
  intro W base args ds gs before hval0 hW hcnd _ hL _
  have hval : ∀ (j : Nat) t v, Tryz.f9.params[j]? = some t → args[j]? = some v → Value.okWide Tryz.prog W .any base t v := hval0
  have hW' := hW
  obtain ⟨p, q, hA0, hV, rfl, hfz, hnd⟩ := hW
  have hA : DataW.TrodAll enc Tryz.prog W 0 (fun _ => true) true Tryz.f9.params.toList args.toList ds p := hA0
  rw [Tryz.params9] at hA hval
  obtain ⟨v0, v1, d0, d1, p0, p1, rfl, rfl, rfl, h0, h1⟩ := trodAll_two hA
  obtain ⟨rfl, rfl⟩ := trodVars_none hV
  have k0 := h0
  have lt0 : ∀ x ∈ p0, x.block < W.heap.size := by obtain ⟨m, hm⟩ := k0; exact DataW.trod_lt m _ _ _ hm
  obtain ⟨A, n, c, rfl, hN, hc, hm⟩ := nums_of_ints (hval 0 22 v0 rfl rfl) h0
  obtain ⟨m, rfl, rfl, rfl, wm⟩ := open_int Tryz.underlying3 (hval 1 3 v1 rfl rfl) h1
  have hmr : -9223372036854775808 ≤ m ∧ m ≤ 9223372036854775807 := by
    have h2 : IntKind.i64.min ≤ m ∧ m ≤ IntKind.i64.max := by simpa [Lit.wf] using wm
    exact h2
  clear hA0 hval0
  refine (law_order (tab_of_laid (show laidMetH Tryz.prog Rows.integerRingRow.laid W from hL)) hN hc hm hmr.1 hmr.2).mono fun e W' ⟨he, bel⟩ => ?_
  subst he
  exact ⟨_, rfl, _, _, _, [], _, [], hW', trodAll_mk1 (shut_bool Tryz.underlying4 _), trodAll_cons_mk (Below.trod laidOut (by kernel_rfl) (of_decide_eq_true (by kernel_rfl)) k0 bel lt0) (trodAll_cons_mk (shut_int Tryz.underlying3 wm) trodAll_mk0), rfl, bel.frame _, fun h => by cases h⟩

theorem order_said_in : (Rows.integerOrderRow.inPlace == Tryz.pinned.checked.prog.inPlace 9) = true := by kernel_rfl
theorem order_said_un : (Rows.integerOrderRow.unfollowed == Tryz.pinned.checked.prog.unfollowed 9) = true := by kernel_rfl
theorem order_said_re : (Rows.integerOrderRow.recurses == Tryz.pinned.checked.prog.recurses 9) = true := by kernel_rfl
theorem order_said_na : (Rows.integerOrderRow.named == Tryz.pinned.checked.prog.varsNamed 9) = true := by kernel_rfl
theorem order_said_lo : laidOutB Tryz.pinned.checked.prog = true := by kernel_rfl
theorem order_said_mr : mapsRowed Tryz.pinned.checked.prog = true := by kernel_rfl
theorem order_facts : joinedFacts Tryz.pinned.checked.prog 9 Tryz.f9 Rows.integerOrderSpec Rows.integerOrderRow = true := by
  unfold joinedFacts
  rw [order_said_in, order_said_un, order_said_re, order_said_na, order_said_lo, order_said_mr]
  kernel_rfl
theorem order_said : Rows.IntegerOrderSaid :=
  OpenClaim.holds_of_wide 9 Tryz.f9 rfl rfl rfl rfl rfl rfl rfl ⟨rfl, rfl, rfl, rfl, rfl⟩ rfl rfl rfl rfl rfl (by as_aux_lemma => kernel_rfl) Tryz.func9 order_facts
    (of_decide_eq_true (by as_aux_lemma => kernel_rfl)) (by unfold Func.isWrapper; first | (rw [if_pos (by decide +kernel)]; kernel_rfl) | (rw [if_neg (by decide +kernel)]; exact ⟨rfl, rfl⟩))
    (fun os started H enc _ => order_lifted os started H enc)

theorem integerOrder_holds : Rows.IntegerOrderCardSaid :=
  Claim7.holds_tied_plain_at .later [] [.data, .data, .data, .data, .sentinel, .sentinel, .pinned] true (true, "e7366e0c33b795fd51d050f4d3a85381e46ad50b9df84bea97c41f8ef1f2ad0a") true order_said (fun _ h => by cases h) (by as_aux_lemma => kernel_rfl) (fun _ h => by cases h) integerOrder_row_tie rfl ⟨rfl, rfl⟩ (by as_aux_lemma => kernel_rfl) rfl
    (fun f fn hf hfn => by
      obtain rfl : f = 9 := Option.some.inj ((show Tryz.prog.funcNamed "joinlearn/joinlearnlaw01.IntegerOrder" = some 9 by kernel_rfl).symm.trans hf) |>.symm
      obtain rfl : fn = Tryz.f9 := (Option.some.inj (Tryz.func9.symm.trans hfn)).symm
      exact ⟨by as_aux_lemma => kernel_rfl, fun j t ht => by
        rw [Tryz.params9] at ht
        have hm : t ∈ [22, 3] := by simpa using Array.mem_of_getElem? ht
        have hall : ([22, 3].all fun u => !Tryz.prog.wantsStandIn u) = true := by kernel_rfl
        exact (show Tryz.prog.wantsStandIn t = false by simpa using List.all_eq_true.1 hall t hm)⟩)
    (by as_aux_lemma => kernel_rfl)
#print axioms integerOrder_holds
end Go.Proofs.YthibdbpgllhcpaaGreatDoor
