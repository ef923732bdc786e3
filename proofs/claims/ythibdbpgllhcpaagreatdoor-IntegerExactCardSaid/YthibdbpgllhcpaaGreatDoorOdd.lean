/- The statements' source of odd texts. -/
import Derived.Test.YthibdbpgllhcpaaGreatDoorNum
namespace Go.Proofs.YthibdbpgllhcpaaGreatDoor
open Go Go.RowKit

set_option maxHeartbeats 800000 in
set_option maxRecDepth 100000 in
theorem n_only {w : World} {g : Nat} (m : Int) (h : SrcIn w g) (hm : 1 ≤ m) (hm' : m ≤ 1000) :
    Calls Tryz.prog 34 #[.pointer (some ⟨g, 0, none⟩), .int .i64 m] w fun e w' => ∃ r : Int, e = .returned (.int .i64 r) ∧ (0 ≤ r ∧ r < m) ∧ SrcIn w' g ∧ Below g w w' ∧ ∀ b, b ≠ g → w'.heap[b]? = w.heap[b]? := by
  have hg := h.lt
  have HS := Lib.hid h
  obtain ⟨A, n, c, a, hh, h1, h2, h3⟩ := h
  have c0 : w.cell? ⟨g, 0, none⟩ = some (.slice A n c) := cell_at hh rfl
  have c1 : w.cell? ⟨g, 1, none⟩ = some (.int .i64 (a : Int)) := cell_at hh rfl
  have f1 : w.frozen? ⟨g, 1, none⟩ = false := by simp [World.frozen?, hh]
  have H := Lib.hid (And.intro hh h3)
  clear hh h3
  by_cases hlt : a < n
  · obtain ⟨b, off, rfl, hbl, hc⟩ := H.out.2 (by omega)
    obtain ⟨z, hz, hz1, hz2⟩ := hc a hlt
    have hge : decide ((n : Int) ≤ (a : Int)) = false := decide_eq_false (by omega)
    have HC := Lib.hid (And.intro hc (And.intro hz1 hz2))
    clear hc hz1 hz2
    go_enter Tryz.func34, Tryz.ntmps34
    go_wp2_with fail
    go_quiet (fail)
    go_wp2_with fail
    obtain ⟨w2, hw2⟩ : ∃ w2, w2 = (w.drewN nq).setCell ⟨g, 1, none⟩ (.int .i64 ((a : Int) + 1)) := ⟨_, rfl⟩
    rw [← hw2]
    have hb2 : Below g w w2 := by
      rw [hw2]
      exact Below.setCell ((Drawn.refl w).drewN nq |>.below g) (Nat.le_refl _) _
    have hh2 : w2.heap[g]? = some (.cells #[.slice (some ⟨b, off, none⟩) n c, .int .i64 ((a + 1 : Nat) : Int)] 49 (0, 0)) := by
      rw [hw2]
      exact Lib.heap_setCell_same (i := 1) (show (w.drewN nq).heap[g]? = _ from H.out.1) _
    have d0 : w2.cell? ⟨g, 0, none⟩ = some (.slice (some ⟨b, off, none⟩) n c) := cell_at hh2 rfl
    have d1 : w2.cell? ⟨g, 1, none⟩ = some (.int .i64 ((a : Int) + 1)) := cell_at hh2 rfl
    have dz : w2.cell? ⟨b, off + a, none⟩ = some (.int .i64 z) := (hb2.cell hbl).trans hz
    have hs2 : SrcIn w2 g := by
      refine ⟨_, n, c, a + 1, hh2, hlt, h2, fun _ => ⟨b, off, rfl, hbl, fun i hi => ?_⟩⟩
      obtain ⟨z, hz, hr⟩ := HC.out.1 i hi
      exact ⟨z, (hb2.cell hbl).trans hz, hr⟩
    have ho : ∀ b, b ≠ g → w2.heap[b]? = w.heap[b]? := by
      intro b hb
      rw [hw2]
      simp [World.setCell, Array.getElem?_modify, Ne.symm hb, World.drewN]
    have H2 := Lib.hid (And.intro hs2 (And.intro hb2 ho))
    clear hs2 hb2 ho hh2 hw2 c0 c1 f1 hz
    have hr := modv_range z m hm
    generalize hv : modv z m = v at *
    have HV := Lib.hid hv
    clear hv
    go_wp2_with fail
    go_quiet ((go_at_call 62; exact Calls.quiet_left (mod_any z m hm hm' HC.out.2.1 HC.out.2.2)))
    go_wp2
    go_ret
    exact ⟨_, rfl, by rw [HV.out]; exact hr, H2.out.1.below ((Drawn.refl w2).drewN nq |>.below _), H2.out.2.1.trans (((Drawn.refl w2).drewN nq |>.below g)), H2.out.2.2⟩
  · have hge : decide ((n : Int) ≤ (a : Int)) = true := decide_eq_true (by omega)
    go_enter Tryz.func34, Tryz.ntmps34
    go_wp2_with fail
    go_quiet (fail)
    go_wp2_with fail
    go_ret
    exact ⟨0, rfl, ⟨by omega, by omega⟩, HS.out.below ((Drawn.refl w).drewN nq |>.below _), (Drawn.refl w).drewN nq |>.below g, fun _ _ => rfl⟩

set_option maxHeartbeats 800000 in
theorem text_any {w : World} {g b n : Nat} {cs : Array Value} (h : SrcIn w g) (h1 : 1 ≤ n) (hn : n ≤ 100) (hne : b ≠ g) (hb : w.heap[b]? = some (.cells cs 9 (0, 0))) (hcs : ∀ i, i < n → ∃ s, cs[i]? = some (.string s)) :
    Calls Tryz.prog 40 #[.pointer (some ⟨g, 0, none⟩), .slice (some ⟨b, 0, none⟩) n n] w fun e w' => ∃ s, e = .returned (.string s) ∧ SrcIn w' g ∧ Below g w w' := by
  have H := Lib.hid (And.intro h (And.intro hne (And.intro hb hcs)))
  clear h hne hb hcs
  go_enter Tryz.func40, Tryz.ntmps40
  go_wp2_with fail
  refine (n_only (n : Int) H.out.1 (by omega) (by omega)).mono ?_
  rintro e w1 ⟨r, rfl, ⟨hr0, hr1⟩, hs, hb, ho⟩
  obtain ⟨k, rfl⟩ : ∃ k : Nat, r = (k : Int) := ⟨r.toNat, by omega⟩
  obtain ⟨s, hk⟩ := H.out.2.2.2 k (by omega)
  have hcell : w1.cell? ⟨b, k, none⟩ = some (.string s) := cell_at ((ho b H.out.2.1).trans H.out.2.2.1) hk
  have H1 := Lib.hid (And.intro hs hb)
  clear hs hb ho hk
  go_wp2
  go_ret
  exact ⟨_, rfl, H1.out.1, H1.out.2⟩
set_option maxHeartbeats 800000 in
theorem odd_any {w : World} {g : Nat} (h : SrcIn w g) :
    Calls Tryz.prog 17 #[.pointer (some ⟨g, 0, none⟩)] w fun e w' => ∃ s, e = .returned (.string s) ∧ SrcIn w' g ∧ Below g w w' := by
  have H := Lib.hid h
  have hg := h.lt
  clear h
  go_enter Tryz.func17, Tryz.ntmps17
  go_wp2_with fail
  refine (text_any (b := w.heap.size) (n := 13) (H.out.alloc _) (by omega) (by omega) (by omega) (heap_alloc_new w _) (fun i hi => ?_)).mono ?_
  · match i, hi with
    | 0, _ | 1, _ | 2, _ | 3, _ | 4, _ | 5, _ | 6, _ | 7, _ | 8, _ | 9, _ | 10, _ | 11, _ | 12, _ => exact ⟨_, rfl⟩
    | i + 13, hi => exact absurd hi (by omega)
  rintro e w1 ⟨s, rfl, hs, hb⟩
  have H1 := Lib.hid (And.intro hs (((Below.refl g w).alloc (Nat.le_of_lt hg) _).trans hb))
  clear hs hb
  go_wp2
  go_ret
  exact ⟨_, rfl, H1.out⟩
theorem Run.odd {w w1 : World} {g : Nat} (h : Run w g w1) :
    Calls Tryz.prog 17 #[.pointer (some ⟨g, 0, none⟩)] w1 fun e w' => ∃ s, e = .returned (.string s) ∧ Hid (Run w g w') :=
  (odd_any h.2.1).mono fun _ _ ⟨s, he, hs, hb⟩ => ⟨s, he, Lib.hid (h.big hs hb)⟩
end Go.Proofs.YthibdbpgllhcpaaGreatDoor
