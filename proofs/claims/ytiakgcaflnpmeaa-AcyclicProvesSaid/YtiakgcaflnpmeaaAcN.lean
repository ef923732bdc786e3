/- The reference 07's Reduce, Tree, Acyclic; the source's Range. -/
import Derived.Test.YtiakgcaflnpmeaaAcM
import Derived.Test.YtiakgcaflnpmeaaAcV
namespace Go.Proofs.Ytiakgcaflnpmeaa
open Go Go.RowKit

set_option maxHeartbeats 1600000 in
set_option maxRecDepth 100000 in
theorem Reduce07 {w : World} {S : Sc} {V : Sv} (h : SchIn w S V) (hv : Valid S) (hf : S.nf = 0) (hl : S.label = -1) :
    Calls Try.prog 19 #[.agg #[.slice V.A S.na V.ca, .slice V.R S.nr V.cr, .slice V.F S.nf V.cf, .int .i64 S.label]] w fun e w' => ∃ v u, e = .returned (.tuple #[v, u]) ∧ IntL w' v (redO S).1 ∧ IntL w' u (redO S).2 ∧ Below w.heap.size w w' := by
  have hg : Below w.heap.size w (w.alloc (.cells #[.slice V.A S.na V.ca, .slice V.R S.nr V.cr, .slice V.F S.nf V.cf, .int .i64 S.label] 28)) := (Below.refl _ _).alloc (Nat.le_refl _) _
  have hcon := reduce07 (h.below hg) hv hf hl
  have H := Lib.hid (And.intro hg hv.check)
  clear h hg hv hf hl
  go_enter Try.func19, Try.ntmps19
  go_wp2_with fail
  refine hcon.mono ?_
  rintro e w2 ⟨v, u, z, rfl, hv, hu, hz, hb⟩
  have HB := Lib.hid (And.intro hv (And.intro hu (Below.step H.out.1 hb)))
  obtain ⟨A1, c1, rfl, _, _⟩ := hv
  obtain ⟨A2, c2, rfl, _, _⟩ := hu
  obtain ⟨A3, c3, rfl, _, _⟩ := hz
  clear hb hcon
  go_wp2
  go_ret2
  refine ⟨_, _, rfl, ?_, ?_, HB.out.2.2⟩
  · unfold redO; rw [if_pos H.out.2]; exact HB.out.1
  · unfold redO; rw [if_pos H.out.2]; exact HB.out.2.1
theorem no_int {w : World} {b j : Nat} {t : TypeId} {z : Int} (c : w.heap[b]? = some (.cells #[.slice none 0 0] t (0, 0))) : ¬ w.cell? ⟨b, j, none⟩ = some (.int .i64 z) := fun e => by
  unfold World.cell? at e
  simp only [c] at e
  cases j with
  | zero => simp at e
  | succ j => simp at e
theorem tree_ret7 {w : World} {b : Nat} {x q : Value} {t : Array Value} (ht : t.getD 2 undef = .pointer (some ⟨b, 0, none⟩)) (hq : t.getD 3 undef = q) (c : w.heap[b]? = some (.cells #[x] 42 (0, 0))) :
    Sem.run Try.prog (results Try.f21 t) w = .ok (.tuple #[.agg #[x], q]) w := by
  have c0 : w.cell? ⟨b, 0, none⟩ = some x := cell_in c rfl
  have ht' : (t[2]?).getD undef = .pointer (some ⟨b, 0, none⟩) := by simpa using ht
  have hq' : (t[3]?).getD undef = q := by simpa using hq
  simp [results, Try.results21, go_sem, ht', hq', c0]
/-- What the reference's Tree gives. -/
def tree7 (S : Sc) : List Int := if (redS S).2.length = 1 then (List.range S.nr).map (fun k => pf (redS S).1 k k) else []
theorem tree_end7 {w0 w : World} {S : Sc} {x : Value} {t : Array Value} {B : Nat} (hB : w0.heap.size ≤ B) (hl : Below w0.heap.size w0 w) (hx : IntL (w.setCell ⟨B, 0, none⟩ x) x (tree7 S))
    (c : w.heap[B]? = some (.cells #[.slice none 0 0] 42 (0, 0))) (ht : t.getD 2 undef = .pointer (some ⟨B, 0, none⟩)) (hq : t.getD 3 undef = .bool (decide ((redS S).2.length = 1))) :
    bodyPost Try.prog Try.f21 (fun e w' => ∃ v, e = .returned (.tuple #[.agg #[v], .bool (decide ((redS S).2.length = 1))]) ∧ IntL w' v (tree7 S) ∧ Below w0.heap.size w0 w') Exit.ret ⟨t, []⟩ (w.setCell ⟨B, 0, none⟩ x) := by
  have hc := Lib.heap_setCell_same c (i := 0) x
  exact bodyPost_ret (v := .tuple #[.agg #[x], .bool (decide ((redS S).2.length = 1))]) (tree_ret7 ht hq hc) rfl ⟨x, rfl, hx, hl.setCell (p := ⟨B, 0, none⟩) hB _⟩
set_option maxHeartbeats 1600000 in
set_option maxRecDepth 100000 in
theorem Tree07 {w : World} {S : Sc} {V : Sv} (h : SchIn w S V) (hv : Valid S) (hf : S.nf = 0) (hl : S.label = -1) :
    Calls Try.prog 21 #[.agg #[.slice V.A S.na V.ca, .slice V.R S.nr V.cr, .slice V.F S.nf V.cf, .int .i64 S.label]] w fun e w' => ∃ v, e = .returned (.tuple #[.agg #[v], .bool (decide ((redS S).2.length = 1))]) ∧ IntL w' v (tree7 S) ∧ Below w.heap.size w w' := by
  have hg : Below w.heap.size w ((w.alloc (.cells #[.slice V.A S.na V.ca, .slice V.R S.nr V.cr, .slice V.F S.nf V.cf, .int .i64 S.label] 28)).alloc (.cells #[.slice none 0 0] 42)) := by go_grown
  have hr2 : ((w.alloc (.cells #[.slice V.A S.na V.ca, .slice V.R S.nr V.cr, .slice V.F S.nf V.cf, .int .i64 S.label] 28)).alloc (.cells #[.slice none 0 0] 42)).heap[w.heap.size + 1]? = some (.cells #[.slice none 0 0] 42 (0, 0)) := block_new _ (by simp)
  have hcon := reduce07 (h.below hg) hv hf hl
  have H := Lib.hid (And.intro hg hr2)
  clear h hg hr2 hv hf hl
  go_enter Try.func21, Try.ntmps21
  go_wp2_with fail
  refine hcon.mono ?_
  rintro e w2 ⟨v, u, z, rfl, hv, hu, hz, hb⟩
  obtain ⟨A1, c1, rfl, _, _⟩ := hv
  obtain ⟨A2, c2, rfl, _, _⟩ := hu
  obtain ⟨A3, c3, rfl, hl3, hi3⟩ := hz
  have hbk := (hb.block _ (lt_of_block H.out.2)).trans H.out.2
  have HB := Lib.hid (And.intro (Below.step H.out.1 hb) (And.intro hbk (And.intro hl3 hi3)))
  have t0 : w2.cell? ⟨w.heap.size + 1, 0, none⟩ = some (.slice none 0 0) := cell_in hbk rfl
  have f0 : w2.frozen? ⟨w.heap.size + 1, 0, none⟩ = false := by simp [World.frozen?, hbk]
  have hsz := lt_of_block hbk
  rw [castL_len (redS S).2]
  by_cases hk : (redS S).2.length = 1
  · have hkb : (((redS S).2.length : Int) == 1) = true := by rw [beq_iff_eq]; omega
    have HQ := Lib.hid hk
    clear hb hcon hbk hl3 hi3 hk
    go_wp2_with fail
    refine tree_end7 (Nat.le_succ _) HB.out.1 ?_ HB.out.2.1 rfl (by rw [decide_eq_true HQ.out]; rfl)
    unfold tree7
    rw [if_pos HQ.out]
    refine ⟨A3, c3, by simp, HB.out.2.2.1, ?_⟩
    intro h0
    obtain ⟨b, off, e, hbl, hc⟩ := HB.out.2.2.2 h0
    refine ⟨b, off, e, by simpa [World.setCell] using hbl, fun i hi => ?_⟩
    have hne : b ≠ w.heap.size + 1 := fun e2 => no_int HB.out.2.1 (by rw [← e2]; exact hc 0 h0)
    rw [← hc i hi]
    unfold World.cell?
    rw [Below.heap_setCell _ _ _ _ (by show b ≠ w.heap.size + 1; exact hne)]
  · have hkb : (((redS S).2.length : Int) == 1) = false := by rw [beq_eq_false_iff_ne]; omega
    have HQ := Lib.hid hk
    clear hb hcon hbk hl3 hi3 hk
    go_wp2_with fail
    refine tree_end7 (Nat.le_succ _) HB.out.1 ?_ HB.out.2.1 rfl (by rw [decide_eq_false HQ.out]; rfl)
    unfold tree7
    rw [if_neg HQ.out]
    exact intL_nil _
set_option maxHeartbeats 1600000 in
set_option maxRecDepth 100000 in
theorem Acyclic07 {w : World} {S : Sc} {V : Sv} (h : SchIn w S V) (hv : Valid S) (hf : S.nf = 0) (hl : S.label = -1) :
    Calls Try.prog 24 #[.agg #[.slice V.A S.na V.ca, .slice V.R S.nr V.cr, .slice V.F S.nf V.cf, .int .i64 S.label]] w fun e w' => e = .returned (.bool (decide ((redS S).2.length = 1))) ∧ Below w.heap.size w w' := by
  have hg : Below w.heap.size w (w.alloc (.cells #[.slice V.A S.na V.ca, .slice V.R S.nr V.cr, .slice V.F S.nf V.cf, .int .i64 S.label] 28)) := (Below.refl _ _).alloc (Nat.le_refl _) _
  have hcon := Tree07 (h.below hg) hv hf hl
  have H := Lib.hid hg
  generalize decide ((redS S).2.length = 1) = q at hcon ⊢
  clear h hg hv hf hl
  go_enter Try.func24, Try.ntmps24
  go_wp2_with fail
  refine hcon.mono ?_
  rintro e w2 ⟨v, rfl, ⟨A2, c2, rfl, _, _⟩, hb⟩
  have HB := Lib.hid (Below.step H.out hb)
  clear hb
  go_wp2
  go_ret
  exact ⟨rfl, HB.out.alloc HB.out.size _⟩
set_option maxHeartbeats 1600000 in
theorem range_src {w : World} {g : Nat} (n : Nat) (h : SrcIn w g) (h1 : 1 ≤ n) (hn : n ≤ 100) :
    Calls Try.prog 25 #[.pointer (some ⟨g, 0, none⟩), .int .i64 (-1), .int .i64 ((n : Int) - 1)] w fun e w' => ∃ r : Int, e = .returned (.int .i64 r) ∧ SrcIn w' g ∧ Src1 g w w' := by
  have hcon := n_src (n + 1 : Int) h (by omega) (by omega)
  have H := Lib.hid h
  clear h
  go_enter Try.func25, Try.ntmps25
  go_wp2_with fail
  refine hcon.mono ?_
  rintro e w' ⟨r, rfl, ⟨h0, h2⟩, hs, hsr⟩
  have HS := Lib.hid (And.intro hs hsr)
  clear hs hsr
  go_wp2
  go_ret
  exact ⟨_, rfl, HS.out.1, HS.out.2⟩
end Go.Proofs.Ytiakgcaflnpmeaa
