/-
  RationalSums: for every slice of ints and every two lists of texts, package rational and the reference package give the same for Sum and Dot, whatever the texts are: the call returns true and leaves its arguments as they were.
  Conditions: those of the given card: the listed package-level variables start as the program's text lays them; of each other named variable whatever its type allows.
-/
import Derived.Test.YtigplffpnbdkeaaGreatDoorQRow
import Derived.Test.YtigplffpnbdkeaaGreatDoorLawQSums
import Derived.Deep.Strs
import Derived.Test.YtigplffpnbdkeaaGreatDoorCards
namespace Go.Proofs.YtigplffpnbdkeaaGreatDoor
open Go Go.ChangeShapes Go.WideShapes Go.ChangeAt Go.RowKit

theorem trodAll_three {H : Type} {enc : TypeId × Value → H} {P : Program} {w : World} {base : Nat} {spare : Nat → Bool} {held : Bool} {t0 t1 t2 : TypeId} {args : Array Value} {ds : List (DataW H)} {ps : List MemPlace} (h : DataW.TrodAll enc P w base spare held [t0, t1, t2] args.toList ds ps) :
    ∃ v0 v1 v2 d0 d1 d2 p0 p1 p2, args = #[v0, v1, v2] ∧ ds = [d0, d1, d2] ∧ ps = p0 ++ (p1 ++ (p2 ++ [])) ∧
      DataW.Trod enc P w base spare held t0 v0 d0 p0 ∧ DataW.Trod enc P w base spare held t1 v1 d1 p1 ∧ DataW.Trod enc P w base spare held t2 v2 d2 p2 := by
  obtain ⟨v0, _, d0, _, p0, _, hargs, rfl, rfl, h0, hr⟩ := trodAll_cons h
  obtain ⟨v1, _, d1, _, p1, _, rfl, rfl, rfl, h1, hr⟩ := trodAll_cons hr
  obtain ⟨v2, _, d2, _, p2, _, rfl, rfl, rfl, h2, hr⟩ := trodAll_cons hr
  obtain ⟨rfl, rfl, rfl⟩ := trodAll_nil hr
  exact ⟨v0, v1, v2, d0, d1, d2, p0, p1, p2, by cases args; simp_all, rfl, rfl, h0, h1, h2⟩
set_option maxRecDepth 100000 in
theorem texts_of {H : Type} {enc : TypeId × Value → H} {W : World} {base : Nat} {v : Value} {d : DataW H} {p : List MemPlace}
    (hval : Value.okWide Tryz.prog W .any base 23 v) (h0 : DataW.Trod enc Tryz.prog W 0 (fun _ => true) true 23 v d p) :
    ∃ A n c txt, v = .slice A n c ∧ Lst1 W A n txt ∧ n ≤ maxLen ∧ ∀ i, i < n → (txt i).size ≤ maxLen := by
  obtain ⟨a0, len0, cap0, rfl⟩ := okWide_slice Tryz.underlying23 hval
  obtain ⟨fuel, hf⟩ := h0
  rcases Deep.open_strs Tryz.underlying23 Tryz.underlying30 (by kernel_rfl) hf with ⟨hcs, _⟩ | ⟨a, l, c, m, Sx, hcs, _, hl, hm, hmm, _, hcell⟩
  · simp [Value.cells] at hcs
    obtain ⟨rfl, rfl, rfl⟩ := hcs
    exact ⟨none, 0, 0, fun _ => ⟨#[]⟩, rfl, fun h => absurd h (by omega), Nat.zero_le _, fun i h => absurd h (by omega)⟩
  · simp [Value.cells] at hcs
    obtain ⟨rfl, rfl, rfl⟩ := hcs
    have hlm : len0 ≤ m := by rw [hmm]; split <;> omega
    refine ⟨_, _, _, Sx, rfl, fun h0 => ?_, Nat.le_trans hl hm, fun i hi => (hcell i (by omega)).2⟩
    obtain ⟨b, off, spot⟩ := a
    have hspot : spot = none := by simpa [Addr.add] using World.cell?_spot (hcell 0 (by omega)).1
    subst hspot
    have hc : ∀ j, j < len0 → W.cell? ⟨b, off + j, none⟩ = some (.string (Sx j)) := fun j hj => by rw [← Go.WideShapes.add_plain]; exact (hcell j (by omega)).1
    exact ⟨b, off, rfl, Lib.lt_of_cell (hc 0 h0), hc⟩

set_option maxRecDepth 100000 in
theorem qsums_lifted (os : Os) (started : os.Started) (H : Type) (enc : TypeId × Value → H) :
    ReturnsInHanded {} Tryz.checked os 3 .any (fun w args => (Rows.rationalSumsSpec.pre enc Tryz.prog Tryz.f3 Rows.rationalSumsRow.domain false w args ∧ laidMetH Tryz.prog Rows.rationalSumsRow.laid w) ∧ sizedMet enc Tryz.prog Tryz.f3 (OpenSpec.ofChange Rows.rationalSumsSpec) false w args)
      (Rows.rationalSumsSpec.post enc Tryz.prog Tryz.f3 false true false false) := by
  refine returns_shaped (C := Tryz.checked) (X := fun w _ => laidMetH Tryz.prog Rows.rationalSumsRow.laid w) (fun _ _ _ hh h => h.of_heap hh) own started (by kernel_rfl) Tryz.func3
    (ChangeSpec.witness_shaped (enc := enc) (C := Tryz.checked) (os := os) (X := fun w _ => laidMetH Tryz.prog Rows.rationalSumsRow.laid w) false (World.laidAll Tryz.prog os Rows.rationalSumsRow.laid) #[.slice none 0 0, .slice none 0 0, .slice none 0 0] 8 (World.laidAll_os _ _ _)
      (World.shaped_of_ZipB (by kernel_rfl) (by kernel_rfl)) (by kernel_rfl) (by kernel_rfl) (by kernel_rfl)
      (by rw [MakeChecks.laidMetH_plain _ _ _ (by kernel_rfl)]; exact laidMet_laidAll _ (by kernel_rfl) (by kernel_rfl))) ?_
  intro W base args ds gs before hval0 hW hL hsh
  have hval : ∀ (j : Nat) t v, Tryz.f3.params[j]? = some t → args[j]? = some v → Value.okWide Tryz.prog W .any base t v := hval0
  have hW' := hW
  obtain ⟨p, q, hA0, hV, rfl, hfz, hnd⟩ := hW
  have hA : DataW.TrodAll enc Tryz.prog W 0 (fun _ => true) true Tryz.f3.params.toList args.toList ds p := hA0
  rw [Tryz.params3] at hA hval
  obtain ⟨v0, v1, v2, d0, d1, d2, p0, p1, p2, rfl, rfl, rfl, h0, h1, h2⟩ := trodAll_three hA
  obtain ⟨rfl, rfl⟩ := trodVars_none hV
  have k0 := h0
  have k1 := h1
  have k2 := h2
  have lt0 : ∀ x ∈ p0, x.block < W.heap.size := by obtain ⟨m, hm⟩ := k0; exact DataW.trod_lt m _ _ _ hm
  have lt1 : ∀ x ∈ p1, x.block < W.heap.size := by obtain ⟨m, hm⟩ := k1; exact DataW.trod_lt m _ _ _ hm
  have lt2 : ∀ x ∈ p2, x.block < W.heap.size := by obtain ⟨m, hm⟩ := k2; exact DataW.trod_lt m _ _ _ hm
  obtain ⟨A, n, c, rfl, hN, hc, hm⟩ := nums_of_ints (hval 0 22 v0 rfl rfl) h0
  obtain ⟨RA, rn, rc, rt, rfl, hr, hrn, hrs⟩ := texts_of (hval 1 23 v1 rfl rfl) h1
  obtain ⟨OA, on, oc, ot, rfl, ho, hon, hos⟩ := texts_of (hval 2 23 v2 rfl rfl) h2
  clear hA0 hval0
  refine (law_qsums (tab_of_laid (show laidMetH Tryz.prog Rows.rationalSumsRow.laid W from hL)) (lx_of_shape hsh) hN hc hm hr hrn hrs ho hon hos).mono fun e W' ⟨he, bel⟩ => ?_
  subst he
  exact ⟨_, rfl, _, _, _, [], _, [], hW', trodAll_mk1 (shut_bool Tryz.underlying4 _), trodAll_cons_mk (Below.trod laidOut (by kernel_rfl) (of_decide_eq_true (by kernel_rfl)) k0 bel lt0) (trodAll_cons_mk (Below.trod laidOut (by kernel_rfl) (of_decide_eq_true (by kernel_rfl)) k1 bel lt1) (trodAll_cons_mk (Below.trod laidOut (by kernel_rfl) (of_decide_eq_true (by kernel_rfl)) k2 bel lt2) trodAll_mk0)), rfl, bel.frame _, fun h => by cases h⟩

theorem qsums_said_in : (Rows.rationalSumsRow.inPlace == Tryz.pinned.checked.prog.inPlace 3) = true := by kernel_rfl
theorem qsums_said_un : (Rows.rationalSumsRow.unfollowed == Tryz.pinned.checked.prog.unfollowed 3) = true := by kernel_rfl
theorem qsums_said_re : (Rows.rationalSumsRow.recurses == Tryz.pinned.checked.prog.recurses 3) = true := by kernel_rfl
theorem qsums_said_na : (Rows.rationalSumsRow.named == Tryz.pinned.checked.prog.varsNamed 3) = true := by kernel_rfl
theorem qsums_said_lo : laidOutB Tryz.pinned.checked.prog = true := by kernel_rfl
theorem qsums_said_mr : mapsRowed Tryz.pinned.checked.prog = true := by kernel_rfl
theorem qsums_facts : joinedFacts Tryz.pinned.checked.prog 3 Tryz.f3 Rows.rationalSumsSpec Rows.rationalSumsRow = true := by
  unfold joinedFacts
  rw [qsums_said_in, qsums_said_un, qsums_said_re, qsums_said_na, qsums_said_lo, qsums_said_mr]
  kernel_rfl
theorem qsums_said : Rows.RationalSumsSaid :=
  OpenClaim.holds_of_wide 3 Tryz.f3 rfl rfl rfl rfl rfl rfl rfl ⟨rfl, rfl, rfl, rfl, rfl⟩ rfl rfl rfl rfl rfl (by as_aux_lemma => kernel_rfl) Tryz.func3 qsums_facts
    (of_decide_eq_true (by as_aux_lemma => kernel_rfl)) (by unfold Func.isWrapper; first | (rw [if_pos (by decide +kernel)]; kernel_rfl) | (rw [if_neg (by decide +kernel)]; exact ⟨rfl, rfl⟩))
    (fun os started H enc _ => qsums_lifted os started H enc)

theorem rationalSums_holds : Rows.RationalSumsCardSaid :=
  Claim7.holds_tied_plain_at .later [] [.data, .data, .data, .data, .sentinel, .sentinel, .pinned] true (true, "2a177227159696f029f59f1a8cd3d9e6f60de8e8e4f97b6774f9f9e345ab0e8c") true qsums_said (fun _ h => by cases h) (by as_aux_lemma => kernel_rfl) (fun _ h => by cases h) rationalSums_row_tie rfl ⟨rfl, rfl⟩ (by as_aux_lemma => kernel_rfl) rfl
    (fun f fn hf hfn => by
      obtain rfl : f = 3 := Option.some.inj ((show Tryz.prog.funcNamed "joinlearn/joinlearnlaw02.RationalSums" = some 3 by kernel_rfl).symm.trans hf) |>.symm
      obtain rfl : fn = Tryz.f3 := (Option.some.inj (Tryz.func3.symm.trans hfn)).symm
      exact ⟨by as_aux_lemma => kernel_rfl, fun j t ht => by
        rw [Tryz.params3] at ht
        have hm : t ∈ [22, 23, 23] := by simpa using Array.mem_of_getElem? ht
        have hall : ([22, 23, 23].all fun u => !Tryz.prog.wantsStandIn u) = true := by kernel_rfl
        exact (show Tryz.prog.wantsStandIn t = false by simpa using List.all_eq_true.1 hall t hm)⟩)
    (by as_aux_lemma => kernel_rfl)
#print axioms rationalSums_holds
end Go.Proofs.YtigplffpnbdkeaaGreatDoor
