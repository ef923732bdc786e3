/- Gcd. -/
import Derived.Test.YtafknlnlejopeaaGreatDoorGcdA
namespace Go.Proofs.YtafknlnlejopeaaGreatDoor
open Go Go.RowKit

set_option maxHeartbeats 800000 in
set_option maxRecDepth 100000 in
theorem combine_at {f : Nat} {z p q : Int} (hcf : ∀ (args : Array Value) (w : World), (callFunc f args).run Tryz.prog w = .ok (.enter f args) w) (hop : ∀ (w : World) (a b : Value), IsInt w a p → IsInt w b q → Calls Tryz.prog f #[a, b] w fun e w' => ∃ v, e = .returned v ∧ IsInt w' v z ∧ Below w.heap.size w w') {w : World} (s t : ByteArray) (hs : s.data.toList = Lib.itoa p) (ht : t.data.toList = Lib.itoa q) (hp : Lib.nDigits p.natAbs ≤ 400) (hq : Lib.nDigits q.natAbs ≤ 400) (hr : z.natAbs < M.B ^ 100) :
    Calls Tryz.prog 35 #[.func (.func f) #[] #[], .string s, .string t] w fun e w' => e = .returned (give z) ∧ Below w.heap.size w w' := by
  have H := Lib.hid (And.intro hs (And.intro ht (And.intro hop (And.intro (lt_ten _ hp) (lt_ten _ hq)))))
  have v1 := vld_itoa hp
  have v2 := vld_itoa hq
  rw [← hs] at v1
  rw [← ht] at v2
  have HV := Lib.hid (And.intro v1 v2)
  clear hop hs ht v1 v2
  go_enter Tryz.func35, Tryz.ntmps35
  go_wp2_with fail
  refine (valid_any s).mono ?_
  rw [HV.out.1]
  rintro e w1 ⟨rfl, rfl⟩
  go_wp2_with fail
  refine (valid_any t).mono ?_
  rw [HV.out.2]
  rintro e w1 ⟨rfl, rfl⟩
  go_wp2_with fail
  refine (read_any s H.out.1 (by omega)).mono ?_
  rintro e w1 ⟨a, rfl, ha, hb1⟩
  have H1 := Lib.hid (And.intro ha hb1)
  clear ha hb1
  go_wp2_with fail
  refine (read_any t H.out.2.1 (by omega)).mono ?_
  rintro e w2 ⟨b, rfl, hb, hb2⟩
  have H2 := Lib.hid (And.intro (H1.out.1.below hb2 (Nat.le_refl _)) (And.intro hb (H1.out.2.trans (hb2.mono H1.out.2.size))))
  clear hb hb2
  go_wp2_with fail
  refine (H.out.2.2.1 _ _ _ H2.out.1 H2.out.2.1).mono ?_
  rintro e w3 ⟨c, rfl, hc, hb3⟩
  have H3 := Lib.hid (And.intro hc (H2.out.2.2.trans (hb3.mono H2.out.2.2.size)))
  clear hc hb3
  go_wp2_with fail
  refine (write_any H3.out.1 hr (by omega)).mono ?_
  rintro e w4 ⟨rfl, hb4⟩
  have H4 := Lib.hid (H3.out.2.trans (hb4.mono H3.out.2.size))
  clear hb4
  unfold give
  by_cases hg : Lib.nDigits z.natAbs ≤ 400
  · rw [if_pos hg]
    have HG := Lib.hid hg
    clear hg
    go_wp2
    go_ret2
    refine ⟨?_, H4.out⟩
    unfold give
    rw [if_pos HG.out]
    rfl
  · rw [if_neg hg]
    have HG := Lib.hid hg
    clear hg
    go_wp2
    go_ret2
    refine ⟨?_, H4.out⟩
    unfold give
    rw [if_neg HG.out]
    rfl


set_option maxHeartbeats 800000 in
set_option maxRecDepth 100000 in
theorem gcd_int {w : World} {a b : Value} {p q : Int} (ha : IsInt w a p) (hb : IsInt w b q)
    (hG : ∀ (w : World) (a b : Value), IsNat w a p.natAbs → IsNat w b q.natAbs → Calls Tryz.prog 84 #[a, b] w fun e w' => ∃ v, e = .returned v ∧ IsNat w' v (Nat.gcd p.natAbs q.natAbs) ∧ Below w.heap.size w w') :
    Calls Tryz.prog 60 #[a, b] w fun e w' => ∃ v, e = .returned v ∧ IsInt w' v ((Nat.gcd p.natAbs q.natAbs : Nat) : Int) ∧ Below w.heap.size w w' := by
  obtain ⟨n, hn⟩ : ∃ n, n = decide (p < 0) := ⟨_, rfl⟩
  obtain ⟨m, hm⟩ : ∃ m, m = decide (q < 0) := ⟨_, rfl⟩
  obtain ⟨A, l, c, rfl, hs⟩ := ha.shape_b hn
  obtain ⟨A', l', c', rfl, hs'⟩ := hb.shape_b hm
  obtain ⟨G, hGG⟩ : ∃ G, G = Nat.gcd p.natAbs q.natAbs := ⟨_, rfl⟩
  rw [← hGG] at hG ⊢
  obtain ⟨rb, hrb⟩ : ∃ rb, rb = (false && decide (0 < G)) := ⟨_, rfl⟩
  have hI : ∀ w' s, IsNat w' s G → IsInt w' (.agg #[.bool rb, s]) (G : Int) := by
    intro w' s h
    rw [hrb]
    exact isInt_of h (by omega) (fun _ => (decide_eq_false (by omega)).symm)
  have H := Lib.hid (And.intro hs (And.intro hs' (And.intro hG (And.intro hrb hI))))
  clear ha hb hs hs' hG hrb hI hn hm hGG
  go_enter Tryz.func60, Tryz.ntmps60
  go_wp2_with fail
  change Calls _ _ _ (box3 w n m (.slice A l c) (.slice A' l' c')) _
  have hB0 := box3_boxed w n m (.slice A l c) (.slice A' l' c')
  generalize box3 w n m (.slice A l c) (.slice A' l' c') = W0 at *
  refine (H.out.2.2.1 _ _ _ (H.out.1.below hB0.below (Nat.le_refl _)) (H.out.2.1.below hB0.below (Nat.le_refl _))).mono ?_
  rintro e W1 ⟨v, rfl, hv, hb1⟩
  obtain ⟨A1, l1, d1, rfl⟩ := hv.shape
  have H1 := Lib.hid (And.intro (hB0.next hb1 (Nat.le_refl _)) hv)
  clear hB0 hb1 hv
  go_wp2_with fail
  refine (signed_b false H.out.2.2.2.1 H1.out.2).mono ?_
  rintro e w2 ⟨rfl, hb2⟩
  have q2 := H1.out.1.next hb2 (Nat.le_refl _)
  obtain ⟨v0, c0⟩ := q2.r0
  obtain ⟨v1, c1⟩ := q2.r1
  have f0 := q2.f0
  have f1 := q2.f1
  have q3 := q2.put rb A1 l1 d1
  have hv3 := q2.nat (H1.out.2.below hb2 (Nat.le_refl _)) rb A1 l1 d1
  have z0 := q2.put0 rb A1 l1 d1
  have z1 := q2.put1 rb A1 l1 d1
  have HF := Lib.hid (And.intro hv3 q3.below)
  have Z := Lib.hid (And.intro z0 z1)
  clear q3 hv3 z0 z1 q2 hb2
  go_wp2
  have z0 := Z.out.1
  have z1 := Z.out.2
  have hf := HF.out
  clear Z HF
  generalize ((w2.setCell ⟨w.heap.size + 1 + 1, 0, none⟩ (.bool rb)).setCell ⟨w.heap.size + 1 + 1, 1, none⟩ (.slice A1 l1 d1)) = W3 at *
  exact bodyPost_ret (v := .agg #[.bool rb, .slice A1 l1 d1]) (by simp [results, Tryz.results60, go_sem, z0, z1]) rfl ⟨_, rfl, H.out.2.2.2.2 _ _ hf.1, hf.2⟩

theorem cf_gcd (args : Array Value) (w : World) : (callFunc 60 args).run Tryz.prog w = .ok (.enter 60 args) w := by kernel_rfl
theorem gcd_le_pow {p q : Int} (hp : Lib.nDigits p.natAbs ≤ 400) (hq : Lib.nDigits q.natAbs ≤ 400) : Lib.nDigits (Nat.gcd p.natAbs q.natAbs) ≤ 400 := by
  by_cases h : p.natAbs = 0
  · rw [h, Nat.gcd_zero_left]; exact hq
  · exact Nat.le_trans (nDigits_mono (Nat.gcd_le_left _ (by omega))) hp
set_option maxHeartbeats 400000 in
theorem gcd_ok {w : World} (s t : ByteArray) {p q : Int} (hs : s.data.toList = Lib.itoa p) (ht : t.data.toList = Lib.itoa q) (hp : Lib.nDigits p.natAbs ≤ 400) (hq : Lib.nDigits q.natAbs ≤ 400)
    (hG : ∀ (w : World) (a b : Value), IsNat w a p.natAbs → IsNat w b q.natAbs → Calls Tryz.prog 84 #[a, b] w fun e w' => ∃ v, e = .returned v ∧ IsNat w' v (Nat.gcd p.natAbs q.natAbs) ∧ Below w.heap.size w w') :
    Calls Tryz.prog 32 #[.string s, .string t] w fun e w' => e = .returned (.tuple #[.string ⟨(Lib.itoa ((Nat.gcd p.natAbs q.natAbs : Nat) : Int)).toArray⟩, .int .i64 0]) ∧ Below w.heap.size w w' := by
  have hg := gcd_le_pow hp hq
  obtain ⟨G, hGG⟩ : ∃ G, G = Nat.gcd p.natAbs q.natAbs := ⟨_, rfl⟩
  have hb : ((G : Nat) : Int).natAbs < M.B ^ 100 := by
    rw [hGG]
    exact Nat.lt_of_lt_of_le (lt_ten _ (by simpa using hg)) (M.pow_mono (by omega))
  have hc := fun w => combine_at (w := w) (z := (G : Int)) cf_gcd (fun w a b ha hb => by rw [hGG]; exact gcd_int ha hb hG) s t hs ht hp hq hb
  have hgv : give (G : Int) = .tuple #[.string ⟨(Lib.itoa (G : Int)).toArray⟩, .int .i64 0] := if_pos (by rw [hGG]; simpa using hg)
  rw [← hGG]
  have HC := Lib.hid (And.intro hc hgv)
  clear hc hgv hs ht hG hGG hg hb
  go_enter Tryz.func32, Tryz.ntmps32
  go_wp2_with fail
  refine (HC.out.1 _).mono ?_
  rw [HC.out.2]
  rintro e w' ⟨rfl, hb⟩
  go_wp2
  go_ret2
  exact ⟨rfl, hb⟩
end Go.Proofs.YtafknlnlejopeaaGreatDoor
