/- The reference's Compare, Gcd, Make and Small of texts. -/
import Derived.Test.YtfogkkanifnppaaGreatDoorDApi
import Derived.Test.YtfogkkanifnppaaGreatDoorLawOrder
namespace Go.Proofs.YtfogkkanifnppaaGreatDoor
open Go Go.RowKit

set_option maxHeartbeats 800000 in
theorem rgcd_ok {w : World} (s t : ByteArray) {p q : Int} (hs : s.data.toList = Lib.itoa p) (ht : t.data.toList = Lib.itoa q) (hp : Lib.nDigits p.natAbs ≤ 400) (hq : Lib.nDigits q.natAbs ≤ 400) :
    Calls Tryz.prog 53 #[.string s, .string t] w fun e w' => e = .returned (.tuple #[.string ⟨(Lib.itoa ((Nat.gcd p.natAbs q.natAbs : Nat) : Int)).toArray⟩, .int .i64 0]) ∧ Below w.heap.size w w' := by
  have hg := gcd_le_pow hp hq
  obtain ⟨G, hG⟩ : ∃ G, G = Nat.gcd p.natAbs q.natAbs := ⟨_, rfl⟩
  rw [← hG] at hg ⊢
  have hgv : give (G : Int) = .tuple #[.string ⟨(Lib.itoa (G : Int)).toArray⟩, .int .i64 0] := if_pos (by rw [Int.natAbs_natCast]; exact hg)
  have hP := lt_dten _ hp
  have hQ := lt_dten _ hq
  have hGb := lt_dten _ hg
  obtain ⟨a, ha⟩ : ∃ a, a = decide (p < 0) := ⟨_, rfl⟩
  obtain ⟨b, hb⟩ : ∃ b, b = decide (q < 0) := ⟨_, rfl⟩
  have H := Lib.hid (And.intro hs (And.intro ht (And.intro hp (And.intro hq (And.intro hP (And.intro hQ (And.intro hGb (And.intro ha (And.intro hb (And.intro hG hgv))))))))))
  clear hs ht hp hq hP hQ hGb ha hb hG hg hgv
  go_enter Tryz.func53, Tryz.ntmps53
  go_wp2_with fail
  refine (both_ok s t H.out.1 H.out.2.1 H.out.2.2.1 H.out.2.2.2.1).mono ?_
  rw [← H.out.2.2.2.2.2.2.2.1, ← H.out.2.2.2.2.2.2.2.2.1]
  rintro e w1 ⟨u, v, rfl, ⟨A1, L1, c1, rfl, hu⟩, ⟨A2, L2, c2, rfl, hv⟩, hb1⟩
  have hbx := boxed H.out.2.2.2.2.2.2.2.1 H.out.2.2.2.2.2.2.2.2.1 ⟨A1, L1, c1, rfl, hu⟩ ⟨A2, L2, c2, rfl, hv⟩ hb1
  have H1 := Lib.hid hbx
  clear hu hv hb1 hbx
  go_wp2_with fail
  refine (rgcd_any H1.out.1 H1.out.2.1 H.out.2.2.2.2.1 H.out.2.2.2.2.2.1 (by omega)).mono ?_
  rintro e w2 ⟨v2, rfl, hr, hb2⟩
  have H2 := Lib.hid (And.intro (show DBig w2 (.agg #[.bool false, v2]) (G : Int) by
    have h8 := DSz.big (z := (G : Int)) (v := v2) (w := w2) (by rw [Int.natAbs_natCast, H.out.2.2.2.2.2.2.2.2.2.1]; exact hr)
    rw [decide_eq_false (by omega)] at h8
    exact h8) (H1.out.2.2.trans (hb2.mono H1.out.2.2.size)))
  clear hb2 hr
  go_wp2_with fail
  refine (rgive_any (k := 45) H2.out.1 (by rw [Int.natAbs_natCast]; exact H.out.2.2.2.2.2.2.1) (by omega)).mono ?_
  rw [H.out.2.2.2.2.2.2.2.2.2.2]
  rintro e w3 ⟨rfl, hb3⟩
  have H3 := Lib.hid (H2.out.2.trans (hb3.mono H2.out.2.size))
  clear hb3
  go_wp2
  go_ret2
  exact ⟨rfl, H3.out⟩
set_option maxHeartbeats 400000 in
theorem rgcd_bad {w : World} (s t : ByteArray) (h : (vld s.data.toList && vld t.data.toList) = false) :
    Calls Tryz.prog 53 #[.string s, .string t] w fun e w' => e = .returned (.tuple #[.string ⟨#[]⟩, .int .i64 1]) ∧ Below w.heap.size w w' := by
  have H := Lib.hid h
  clear h
  go_enter Tryz.func53, Tryz.ntmps53
  go_wp2_with fail
  refine (both_bad s t H.out).mono ?_
  rintro e w1 ⟨rfl, hb1⟩
  have hB : Below w.heap.size w ((w1.alloc (.cells #[.bool false, .slice none 0 0] 64)).alloc (.cells #[.bool false, .slice none 0 0] 64)) := (hb1.alloc hb1.size _).alloc (Nat.le_trans hb1.size (by simp)) _
  have HB := Lib.hid hB
  clear hB hb1
  go_wp2
  go_ret2
  exact ⟨rfl, HB.out⟩
theorem rmake_any {w : World} (n : Int) (h1 : -9223372036854775808 ≤ n) (h2 : n ≤ 9223372036854775807) :
    Calls Tryz.prog 22 #[.int .i64 n] w fun e w' => e = .returned (.string ⟨(Lib.itoa n).toArray⟩) ∧ Below w.heap.size w w' := by
  have hnb : n.natAbs < D.B ^ 3 := by
    have : 9223372036854775808 < D.B ^ 3 := by rw [D.B_eq]; decide
    omega
  obtain ⟨a, ha⟩ : ∃ a, a = decide (n < 0) := ⟨_, rfl⟩
  have H := Lib.hid (And.intro ha hnb)
  clear ha hnb
  go_enter Tryz.func22, Tryz.ntmps22
  go_wp2_with fail
  refine (rof_any n h1 h2).mono ?_
  rw [← H.out.1]
  rintro e w1 ⟨u, rfl, hu, hb1⟩
  have H1 := Lib.hid (And.intro (show DBig w1 (.agg #[.bool a, u]) n by rw [H.out.1]; exact hu.big) hb1)
  clear hu hb1
  go_wp2_with fail
  refine (rtext_any H1.out.1 H.out.2 (by omega)).mono ?_
  rintro e w2 ⟨rfl, hb2⟩
  have H2 := Lib.hid (H1.out.2.trans (hb2.mono H1.out.2.size))
  clear hb2
  go_wp2
  go_ret
  exact ⟨rfl, H2.out⟩
end Go.Proofs.YtfogkkanifnppaaGreatDoor
