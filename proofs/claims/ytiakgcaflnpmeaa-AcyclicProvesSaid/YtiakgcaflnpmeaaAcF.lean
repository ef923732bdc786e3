/- Package acyclic: Check. -/
import Derived.Test.YtiakgcaflnpmeaaAcE
namespace Go.Proofs.Ytiakgcaflnpmeaa
open Go Go.RowKit

def pOf (T : List Int) (r : Nat) : Int := T.getD r 0
set_option maxHeartbeats 1600000 in
set_option maxRecDepth 100000 in
theorem leadsUp_any {w : World} {A : Option Addr} {c r : Nat} {T : List Int} (hT : T.length ≤ 1000) (h : IntAt w A T.length (fun i => T.getD i 0)) (hr : r < T.length) :
    Calls Try.prog 64 #[.agg #[.slice A T.length c], .int .i64 (r : Int)] w fun e w' => e = .returned (.bool (Acy.lead (pOf T) T.length T.length r)) ∧ Below w.heap.size w w' := by
  have hg : Below w.heap.size w (w.alloc (.cells #[.slice A T.length c] 42)) := (Below.refl _ _).alloc (Nat.le_refl _) _
  have q0 : (w.alloc (.cells #[.slice A T.length c] 42)).cell? ⟨w.heap.size, 0, none⟩ = some (.slice A T.length c) := by simp
  have H := Lib.hid (And.intro hg (h.below hg))
  clear hg h
  go_enter Try.func64, Try.ntmps64
  go_wp2_with fail
  generalize w.alloc (.cells #[.slice A T.length c] 42) = w0 at *
  obtain ⟨n, hn⟩ : ∃ n, n = T.length := ⟨_, rfl⟩
  rw [← hn] at hT q0 hr H ⊢
  have HN := Lib.hid hn
  clear hn
  go_loopg [1, 8] n (fun gg s1 s8 wr => ∃ x i : Nat, i + gg = n ∧ s1 = .int .i64 (x : Int) ∧ s8 = .int .i64 (i : Int) ∧ Hid (wr = w0 ∧ x < n ∧ Acy.lead (pOf T) n (n - i) x = Acy.lead (pOf T) n n r))
  case atStart => exact ⟨r, 0, by omega, rfl, rfl, Lib.hid ⟨rfl, hr, by rw [Nat.sub_zero]⟩⟩
  case round =>
    obtain ⟨x, i, hi, rfl, rfl, HR⟩ := hrel
    obtain rfl : wr = w0 := HR.out.1
    by_cases hlt : i < n
    · have hx := HR.out.2.1
      obtain ⟨b, off, rfl, hbl, hc⟩ := H.out.2 (by omega)
      have c0 := hc x hx
      have hu : Acy.lead (pOf T) n (n - i) x = if pOf T x < 0 ∨ (n : Int) ≤ pOf T x then decide (pOf T x = -1) else Acy.lead (pOf T) n (n - (i + 1)) (pOf T x).toNat := by
        rw [show n - i = (n - (i + 1)) + 1 by omega]; rfl
      rw [HR.out.2.2] at hu
      have hy : (fun i => T.getD i 0) x = pOf T x := rfl
      rw [hy] at c0
      obtain ⟨y, hye⟩ : ∃ y, y = pOf T x := ⟨_, rfl⟩
      rw [← hye] at c0 hu
      have HU := Lib.hid hu
      have hxa : (0 : Int) ≤ (x : Int) := by omega
      have hxb : (x : Int) < (n : Int) := by omega
      clear hu hy hye hc hr
      by_cases hneg : y < 0
      · obtain ⟨q, hq⟩ : ∃ q : Bool, q = decide (y = -1) := ⟨_, rfl⟩
        have HQ := Lib.hid (show Acy.lead (pOf T) n n r = q by rw [HU.out, if_pos (.inl hneg), hq])
        have hqb : (y == -1) = q := by rw [hq]; rfl
        clear hq
        go_wp2
        go_ret
        exact ⟨ret_b (by rw [← HN.out]; exact HQ.out), H.out.1⟩
      · by_cases hbig : (n : Int) ≤ y
        · have HQ := Lib.hid (show Acy.lead (pOf T) n n r = false by rw [HU.out, if_pos (.inr hbig)]; exact decide_eq_false (by omega))
          have hqb : (y == -1) = false := beq_eq_false_iff_ne.2 (by omega)
          go_wp2
          go_ret
          exact ⟨ret_b (by rw [← HN.out]; exact HQ.out), H.out.1⟩
        · obtain ⟨z, rfl⟩ := Int.eq_ofNat_of_zero_le (by omega : 0 ≤ y)
          have HQ := Lib.hid (show Acy.lead (pOf T) n (n - (i + 1)) z = Acy.lead (pOf T) n n r by rw [HU.out, if_neg (by omega)]; rfl)
          go_wp2
          go_roundg (n - (i + 1))
          case measure => omega
          case rel => exact ⟨z, i + 1, by omega, rfl, by go_num, Lib.hid ⟨rfl, by omega, HQ.out⟩⟩
    · have ein : i = n := by omega
      have HQ := Lib.hid (show Acy.lead (pOf T) n n r = false by rw [← HR.out.2.2, ein, Nat.sub_self]; rfl)
      rw [ein]
      clear hlt hi ein
      go_wp2
      go_ret
      exact ⟨ret_b (by rw [← HN.out]; exact HQ.out), H.out.1⟩
/-- Whether exactly one parent is -1 and all lead up. -/
def rootedB (T : List Int) : Bool := !(anyB T.length fun j => !Acy.lead (pOf T) T.length T.length j) && decide ((selL T.length fun j => pOf T j == -1).length = 1)
set_option maxHeartbeats 1600000 in
set_option maxRecDepth 100000 in
theorem rooted_any {w : World} {A : Option Addr} {c : Nat} {T : List Int} (hT : T.length ≤ 1000) (h : IntAt w A T.length (fun i => T.getD i 0)) :
    Calls Try.prog 46 #[.agg #[.slice A T.length c]] w fun e w' => e = .returned (.bool (rootedB T)) ∧ Below w.heap.size w w' := by
  have hg : Below w.heap.size w (w.alloc (.cells #[.slice A T.length c] 42)) := (Below.refl _ _).alloc (Nat.le_refl _) _
  have q0 : (w.alloc (.cells #[.slice A T.length c] 42)).cell? ⟨w.heap.size, 0, none⟩ = some (.slice A T.length c) := by simp
  have H := Lib.hid (And.intro hg (And.intro (h.below hg) q0))
  have hsz : w.heap.size < (w.alloc (.cells #[.slice A T.length c] 42)).heap.size := by simp
  clear hg h
  go_enter Try.func46, Try.ntmps46
  go_wp2_with fail
  generalize w.alloc (.cells #[.slice A T.length c] 42) = w0 at *
  clear q0
  go_loopg [3, 9] T.length (fun gg s3 s9 wr => ∃ k i : Nat, i + gg = T.length ∧ s3 = .int .i64 (k : Int) ∧ s9 = .int .i64 (i : Int) ∧ Hid (Below w0.heap.size w0 wr ∧ k = (selL i fun j => pOf T j == -1).length ∧ ∀ j, j < i → Acy.lead (pOf T) T.length T.length j = true))
  case atStart => exact ⟨0, 0, by omega, rfl, rfl, Lib.hid ⟨Below.refl _ _, rfl, fun _ h => absurd h (by omega)⟩⟩
  case round =>
    obtain ⟨k, i, hi, rfl, rfl, HR⟩ := hrel
    have hk : k ≤ i := by rw [HR.out.2.1]; exact selL_len _ _
    by_cases hlt : i < T.length
    · have hiw := H.out.2.1.below HR.out.1
      obtain ⟨b, off, rfl, hbl, hc⟩ := hiw (by omega)
      have c0 : wr.cell? ⟨b, off + i, none⟩ = some (.int .i64 (pOf T i)) := hc i hlt
      have q0 := (HR.out.1.cell hsz).trans H.out.2.2
      have hszr := Nat.lt_of_lt_of_le hsz HR.out.1.size
      have hcon := leadsUp_any (c := c) hT (fun _ => ⟨b, off, rfl, hbl, hc⟩) hlt
      have hss := selL_succ i fun j => pOf T j == -1
      obtain ⟨y, hye⟩ : ∃ y, y = pOf T i := ⟨_, rfl⟩
      simp only [← hye] at c0 hss
      have HB := Lib.hid hbl
      clear hiw hc hbl hye
      by_cases hm : y = -1
      · subst hm
        have HS := Lib.hid (show ((selL (i + 1) fun j => pOf T j == -1).length = k + 1) by rw [hss, List.length_append, ← HR.out.2.1]; rfl)
        clear hss
        cases hq : Acy.lead (pOf T) T.length T.length i with
        | true =>
          rw [hq] at hcon
          have HQ := Lib.hid hq
          clear hq
          go_wp2_with fail
          refine hcon.mono ?_
          rintro e w2 ⟨rfl, hb⟩
          have HB := Lib.hid (Below.step HR.out.1 hb)
          clear hb q0
          go_wp2
          go_roundg (T.length - (i + 1))
          case measure => omega
          case rel => exact ⟨k + 1, i + 1, by omega, by go_num, by go_num, Lib.hid ⟨HB.out, HS.out.symm, fun j hj => by
            by_cases e : j = i
            · rw [e]; exact HQ.out
            · exact HR.out.2.2 j (by omega)⟩⟩
        | false =>
          rw [hq] at hcon
          have HQ := Lib.hid (show rootedB T = false by unfold rootedB; rw [anyB_hit hlt (by rw [hq]; rfl)]; rfl)
          clear hq
          go_wp2_with fail
          refine hcon.mono ?_
          rintro e w2 ⟨rfl, hb⟩
          have HB := Lib.hid (Below.step HR.out.1 hb)
          clear hb q0
          go_wp2
          go_ret
          exact ⟨ret_b HQ.out, Below.step H.out.1 HB.out⟩
      · have hmb : (y == -1) = false := beq_eq_false_iff_ne.2 hm
        have HS := Lib.hid (show ((selL (i + 1) fun j => pOf T j == -1).length = k) by rw [hss, hmb, List.length_append, ← HR.out.2.1]; rfl)
        clear hss hm
        cases hq : Acy.lead (pOf T) T.length T.length i with
        | true =>
          rw [hq] at hcon
          have HQ := Lib.hid hq
          clear hq
          go_wp2_with fail
          refine hcon.mono ?_
          rintro e w2 ⟨rfl, hb⟩
          have HB := Lib.hid (Below.step HR.out.1 hb)
          clear hb q0
          go_wp2
          go_roundg (T.length - (i + 1))
          case measure => omega
          case rel => exact ⟨k, i + 1, by omega, rfl, by go_num, Lib.hid ⟨HB.out, HS.out.symm, fun j hj => by
            by_cases e : j = i
            · rw [e]; exact HQ.out
            · exact HR.out.2.2 j (by omega)⟩⟩
        | false =>
          rw [hq] at hcon
          have HQ := Lib.hid (show rootedB T = false by unfold rootedB; rw [anyB_hit hlt (by rw [hq]; rfl)]; rfl)
          clear hq
          go_wp2_with fail
          refine hcon.mono ?_
          rintro e w2 ⟨rfl, hb⟩
          have HB := Lib.hid (Below.step HR.out.1 hb)
          clear hb q0
          go_wp2
          go_ret
          exact ⟨ret_b HQ.out, Below.step H.out.1 HB.out⟩
    · have ein : i = T.length := by omega
      obtain ⟨q, hq⟩ : ∃ q : Bool, q = decide (k = 1) := ⟨_, rfl⟩
      have HQ := Lib.hid (show rootedB T = q by
        unfold rootedB
        rw [anyB_false.2 fun j hj => by rw [HR.out.2.2 j (by omega)]; rfl, hq, HR.out.2.1, ein]; rfl)
      have hqb : ((k : Int) == 1) = q := by rw [hq, Bool.eq_iff_iff, beq_iff_eq, decide_eq_true_eq]; omega
      rw [ein]
      clear hlt hi ein hq
      go_wp2
      go_ret
      exact ⟨ret_b HQ.out, Below.step H.out.1 HR.out.1⟩
end Go.Proofs.Ytiakgcaflnpmeaa
