/- Package rational's sum of products. -/
import Derived.Test.YtigplffpnbdkeaaGreatDoorQSumP
import Derived.Deep.DeepCutAuto
import Derived.Deep.LoopGhost
namespace Go.Proofs.YtigplffpnbdkeaaGreatDoor
open Go Go.RowKit

theorem Pls.head {w0 w : World} {p : Nat × Pl} {ps : List (Nat × Pl)} (h : Pls w0 (p :: ps) w) : Pls w0 [p] w :=
  ⟨fun q hq => h.mem q (by rw [List.mem_singleton] at hq; rw [hq]; exact List.mem_cons_self ..), fun q hq => h.own q (by rw [List.mem_singleton] at hq; rw [hq]; exact List.mem_cons_self ..), by simp, h.below⟩
theorem Pls.two {w0 w : World} {p q : Nat × Pl} {ps : List (Nat × Pl)} (h : Pls w0 (p :: q :: ps) w) : Pls w0 [p, q] w :=
  ⟨fun r hr => h.mem r (by simp at hr ⊢; rcases hr with rfl | rfl <;> simp), fun r hr => h.own r (by simp at hr ⊢; rcases hr with rfl | rfl <;> simp), by have := h.one; simp at this ⊢; exact this.1.1, h.below⟩
/-- Ahead of round i: no bad text yet, the greatest number of digits, the sum. -/
def AccO (m n : Nat) (val : Nat → Nat → Option Rat) (i L : Nat) (x : Rat) : Prop :=
  (∀ k' i', k' < m → i' < i → val k' i' ≠ none) ∧ IsMax val (fun k' i' => k' < m ∧ i' < i) L ∧ L ≤ 400 ∧ (n * L ≤ 6000 → x = sumv m val i)
theorem AccO.start {m n : Nat} {val : Nat → Nat → Option Rat} : AccO m n val 0 0 0 :=
  ⟨fun _ _ _ h => absurd h (by omega), IsMax.none fun _ _ h => absurd h.2 (by omega), by omega, fun _ => rfl⟩
/-- Within round i, ahead of list k. -/
def AccI (m n : Nat) (val : Nat → Nat → Option Rat) (i k L : Nat) (x p : Rat) : Prop :=
  (∀ k' i', k' < m → i' < i → val k' i' ≠ none) ∧ (∀ k', k' < k → val k' i ≠ none) ∧ IsMax val (fun k' i' => (k' < m ∧ i' < i) ∨ (i' = i ∧ k' < k)) L ∧ L ≤ 400 ∧ (n * L ≤ 6000 → x = sumv m val i) ∧ p = prodv val i k
theorem AccI.start {m n : Nat} {val : Nat → Nat → Option Rat} {i L : Nat} {x : Rat} (h : AccO m n val i L x) : AccI m n val i 0 L x 1 :=
  ⟨h.1, fun _ h => absurd h (by omega), h.2.1.iff fun k' i' => by omega, h.2.2.1, h.2.2.2, rfl⟩
theorem AccI.next {m n : Nat} {val : Nat → Nat → Option Rat} {i k L : Nat} {x p y : Rat} (h : AccI m n val i k L x p) (hy : val k i = some y) (hd : qdig (some y) ≤ 400) (hk : k < m) : AccI m n val i (k + 1) (max L (qdig (some y))) x (p * y) := by
  obtain ⟨h1, h2, h3, h4, h5, h6⟩ := h
  refine ⟨h1, fun k' hk' => ?_, ?_, by omega, fun hl => h5 (Nat.le_trans (Nat.mul_le_mul_left _ (Nat.le_max_left _ _)) hl), ?_⟩
  · by_cases e : k' = k
    · rw [e, hy]; simp
    · exact h2 k' (by omega)
  · rw [← hy]
    exact h3.add fun k' i' => by omega
  · show p * y = prodv val i k * (val k i).getD 0
    rw [hy, h6]; rfl
theorem AccI.digits {m n : Nat} {val : Nat → Nat → Option Rat} {i k L : Nat} {x p : Rat} (h : AccI m n val i k L x p) (k' i' : Nat) (hk : (k' < m ∧ i' < i) ∨ (i' = i ∧ k' < k)) : ∃ y, val k' i' = some y ∧ qdig (some y) ≤ L := by
  have hn : val k' i' ≠ none := by
    rcases hk with ⟨h1, h2⟩ | ⟨rfl, h2⟩
    · exact h.1 k' i' h1 h2
    · exact h.2.1 k' h2
  have hd := h.2.2.1.1 k' i' hk
  cases hv : val k' i' with
  | none => exact absurd hv hn
  | some y => rw [hv] at hd; exact ⟨y, rfl, hd⟩
theorem AccI.prod_lt {m n : Nat} {val : Nat → Nat → Option Rat} {i k L : Nat} {x p : Rat} (h : AccI m n val i k L x p) : F.Lt (10 ^ (k * L + 1)) p := by
  rw [h.2.2.2.2.2]
  exact prodv_lt fun k' hk' => h.digits k' i (.inr ⟨rfl, hk'⟩)
theorem AccI.done {m n : Nat} {val : Nat → Nat → Option Rat} {i L : Nat} {x p : Rat} (h : AccI m n val i m L x p) {x' : Rat} (hx : n * L ≤ 6000 → x' = x + p) : AccO m n val (i + 1) L x' := by
  obtain ⟨h1, h2, h3, h4, h5, h6⟩ := h
  refine ⟨fun k' i' hk hi => ?_, h3.iff fun k' i' => by omega, h4, fun hl => ?_⟩
  · by_cases e : i' = i
    · rw [e]; exact h2 k' hk
    · exact h1 k' i' hk (by omega)
  · rw [hx hl, h5 hl, h6]; rfl
theorem AccI.sum_lt {m n : Nat} {val : Nat → Nat → Option Rat} {i k L : Nat} {x p : Rat} (h : AccI m n val i k L x p) (hm : m ≤ 2) (hi : i < n) (h1 : 1 ≤ L) (hl : n * L ≤ 6000) : F.Lt (M.B ^ 3000) x ∧ F.Lt (D.B ^ 3000) x := by
  have hs := sumv_lt (m := m) (val := val) (L := L) (i := i) fun k' i' hk hi' => h.digits k' i' (.inl ⟨hk, hi'⟩)
  rw [← h.2.2.2.2.1 hl] at hs
  have hr := sum_room (m := m) (Nat.le_of_lt hi) hm (.inr h1) hl
  exact ⟨room_M hs hr, room_D hs hr⟩
theorem AccI.p_room {m n : Nat} {val : Nat → Nat → Option Rat} {i k L : Nat} {x p : Rat} (h : AccI m n val i k L x p) (hk : k ≤ 2) : F.Lt (M.B ^ 3000) p ∧ F.Lt (D.B ^ 3000) p := by
  have hl := h.2.2.2.1
  have h2 : k * L ≤ 2 * 400 := Nat.mul_le_mul hk hl
  exact ⟨room_M h.prod_lt (by omega), room_D h.prod_lt (by omega)⟩
theorem qdig_le {s : ByteArray} {y : Rat} (h : Rd s (some y)) : qdig (some y) ≤ 400 := by
  have h' : RatIs s.data.toList y := h
  exact Nat.max_le.2 ⟨h'.2.1, h'.2.2⟩
theorem one_room {y : Rat} {s : ByteArray} (h : Rd s (some y)) : F.Lt (M.B ^ 3000) y ∧ F.Lt (D.B ^ 3000) y := by
  have h1 := qdig_lt (qdig_le h)
  exact ⟨room_M h1 (by omega), room_D h1 (by omega)⟩
theorem AccI.pos {m n : Nat} {val : Nat → Nat → Option Rat} {i k L : Nat} {x p : Rat} (h : AccI m n val i k L x p) (hk : 1 ≤ k) : 1 ≤ L := by
  obtain ⟨y, hy, hd⟩ := h.digits 0 i (.inr ⟨rfl, by omega⟩)
  exact Nat.le_trans (qdig_pos y) hd
set_option linter.unusedSimpArgs false in
set_option maxHeartbeats 6400000 in
set_option maxRecDepth 100000 in
theorem sop_any {w : World} {b m n : Nat} {txt : Nat → Nat → ByteArray} {val : Nat → Nat → Option Rat} (he : Env w) (hm1 : 1 ≤ m) (hm2 : m ≤ 2) (hn : n ≤ 100000) (h : Lsts w b m n txt) (hv : ∀ k i, k < m → i < n → Short (txt k i) ∧ Rd (txt k i) (val k i)) :
    Calls Tryz.prog 43 #[.int .i64 (n : Int), .slice (some ⟨b, 0, none⟩) m m] w fun e w' => ∃ v, e = .returned v ∧ SumRes m n val v ∧ Below w.heap.size w w' := by
  have H := Lib.hid (And.intro he (And.intro h hv))
  clear he h hv
  go_enter Tryz.func43, Tryz.ntmps43
  go_upto_region 1 with fail
  go_cut [6, 7] from 14 (fun s6 s7 wx => s7 = .int .i64 0 ∧ ∃ g6 : Nat, s6 = .pointer (some ⟨g6, 0, none⟩) ∧ Pls w [(g6, .rat 0)] wx)
  case first =>
    go_wp2_with fail
    go_meet
    exact ⟨rfl, _, rfl, (Pls.start w).boxRat (ratZero_is w) rfl⟩
  obtain ⟨rfl, g6, rfl, hP⟩ := hcut
  have HP := Lib.hid hP
  clear hP
  go_wp2_with fail
  go_loopg [7, 16] n (fun gh lv iv wr => ∃ (i L : Nat) (x : Rat), i + gh = n ∧ iv = .int .i64 (i : Int) ∧ lv = .int .i64 (L : Int) ∧ AccO m n val i L x ∧ Pls w [(g6, .rat x)] wr)
  case atStart => exact ⟨0, 0, 0, by omega, rfl, rfl, AccO.start, HP.out⟩
  case round =>
    obtain ⟨i, L, x, hi, rfl, rfl, hacc, hP⟩ := hrel
    clear HP
    have hL := hacc.2.2.1
    have hnL : n * L ≤ 100000 * 400 := Nat.mul_le_mul hn hL
    by_cases hin : i < n
    · have HO := Lib.hid (And.intro hacc hP)
      clear hacc hP hnL
      go_upto_region 5 with fail
      go_cut [9] (fun s9 wx => ∃ g9 : Nat, s9 = .pointer (some ⟨g9, 0, none⟩) ∧ Pls w [(g6, .rat x), (g9, .rat 1)] wx)
      case first =>
        go_wp2_with fail
        refine (make_any (z := 1) (by decide) (by decide)).mono ?_
        rintro e w1 ⟨v, rfl, hv, hb⟩
        have H1 := Lib.hid (And.intro hv (HO.out.2.next hb))
        clear hv hb
        go_wp2_with fail
        refine (whole_any H1.out.1).mono ?_
        rintro e w2 ⟨v, rfl, hv, hb⟩
        obtain ⟨s1, A1, l1, c1, t1, A1', l1', c1', rfl⟩ := hv.shape
        have H2 := Lib.hid (And.intro (show IsRat w2 _ (1 : Rat) from hv) (H1.out.2.next hb))
        clear hv hb
        go_wp2_with fail
        go_meet
        exact ⟨_, rfl, H2.out.2.boxRat H2.out.1 rfl⟩
      obtain ⟨g9, rfl, hP⟩ := hcut
      have HP := Lib.hid (And.intro (AccI.start HO.out.1) hP)
      clear hP HO
      go_wp2_with fail
      go_loopg [7, 23] m (fun gh lv kv wr => ∃ (k L : Nat) (p : Rat), k + gh = m ∧ kv = .int .i64 (k : Int) ∧ lv = .int .i64 (L : Int) ∧ AccI m n val i k L x p ∧ Pls w [(g6, .rat x), (g9, .rat p)] wr)
      case atStart => exact ⟨0, L, 1, by omega, rfl, rfl, HP.out⟩
      case round =>
        clear hL
        obtain ⟨k, L, p, hk, rfl, rfl, hacc, hP⟩ := hrel
        clear HP
        have hL := hacc.2.2.2.1
        by_cases hkm : k < m
        · have HK := Lib.hid (And.intro hacc hP)
          obtain ⟨A, c, hlc0, hrest⟩ := H.out.2.1.list hkm
          obtain ⟨b', off, rfl, hb', hcs⟩ := hrest (by omega)
          have hlc := (hP.below.cell (p := ⟨b, k, none⟩) H.out.2.1.lt).trans hlc0
          have htc := (hP.below.cell (p := ⟨b', off + i, none⟩) hb').trans (hcs i hin)
          have htx := H.out.2.2 k i hkm hin
          obtain ⟨s, hs⟩ : ∃ s, s = txt k i := ⟨_, rfl⟩
          have hcs1 := hcs i hin
          rw [← hs] at htc htx hcs1
          obtain ⟨r, hr⟩ : ∃ r, r = val k i := ⟨_, rfl⟩
          rw [← hr] at htx
          have HT := Lib.hid (And.intro htx (And.intro hr (And.intro hb' hcs1)))
          clear hacc hP hcs hrest htx hr hs hb' hcs1 hlc0
          go_wp2_with fail
          refine (read_any2 s (H.out.1.below HK.out.2.below).2 HT.out.1.1 HT.out.1.2).mono ?_
          rintro e w1 ⟨v, rfl, hv, hb⟩
          obtain ⟨sy, Ay, ly, cy, ty, Ay', ly', cy', rfl⟩ := hv.shape
          have H1 := Lib.hid (And.intro hv (HK.out.2.next hb))
          clear hv hb htc hlc
          cases r with
          | none =>
            go_wp2
            go_ret2
            exact ⟨_, rfl, .inl ⟨⟨k, i, hkm, hin, HT.out.2.1.symm⟩, rfl⟩, (H1.out.2.boxRat H1.out.1 rfl).below⟩
          | some y =>
            have hP := H1.out.2.boxRat H1.out.1 rfl
            clear H1
            go_upto_region 12 with fail
            obtain ⟨g12, hg12⟩ : ∃ g12, g12 = w1.heap.size := ⟨_, rfl⟩
            rw [← hg12] at hP ⊢
            generalize w1.alloc (.cells #[.int .i64 sy, .slice Ay ly cy, .int .i64 ty, .slice Ay' ly' cy'] 120) = W at *
            clear hg12
            go_cut [] (fun wx => Pls w [(g6, .rat x), (g9, .rat (p * y)), (g12, .rat y)] wx)
            case first =>
              obtain ⟨sp, Ap, lp, cp, tp, Ap', lp', cp', c0, c1, c2, c3, hp⟩ := hP.rat 1 rfl
              obtain ⟨sq, Aq, lq, cq, tq, Aq', lq', cq', d0, d1, d2, d3, hq⟩ := hP.rat 2 rfl
              have HQ := Lib.hid (And.intro hP (And.intro hp hq))
              clear hP hp hq
              go_wp2_with fail
              refine (qtimes_any (k := 3000) HQ.out.2.1 HQ.out.2.2 (HK.out.1.p_room (by omega)).1 (one_room HT.out.1.2).1 (by omega) (by omega)).mono ?_
              rintro e w2 ⟨v, rfl, hv, hb⟩
              obtain ⟨sz, Az, lz, cz, tz, Az', lz', cz', rfl⟩ := hv.shape
              have hP2 := (HQ.out.1.next hb).rleft 1 rfl
              obtain ⟨m0, m1, m2, m3, e0, e1, e2, e3, f0, f1, f2, f3⟩ := hP2.rhole 1 rfl
              have HV := Lib.hid (And.intro hv hP2)
              clear hv hb hP2 c0 c1 c2 c3 d0 d1 d2 d3
              go_wp2_with fail
              go_meet
              exact (HV.out.2.rstored 1 rfl HV.out.1).2.2.2.2.2
            clear hP
            have hlc := (hcut.below.cell (p := ⟨b, k, none⟩) H.out.2.1.lt)
            have htc := (hcut.below.cell (p := ⟨b', off + i, none⟩) HT.out.2.2.1).trans HT.out.2.2.2
            have HC := Lib.hid hcut
            clear hcut hlc
            have hdy := qdig_le HT.out.1.2
            have hdn : n * (max L (qdig (some y))) ≤ 100000 * 400 := Nat.mul_le_mul hn (by omega)
            clear hdn
            go_wp2_with fail
            refine (qdigits_f (x := y) s (H.out.1.below HC.out.below).2 HT.out.1.1 HT.out.1.2).mono ?_
            rintro e w4 ⟨rfl, hb⟩
            have H4 := Lib.hid (HC.out.next hb)
            clear hb htc
            obtain ⟨d, hd⟩ : ∃ d, d = qdig (some y) := ⟨_, rfl⟩
            rw [← hd] at hdy ⊢
            have HD := Lib.hid hd
            clear hd
            go_wp2
            go_roundg (m - (k + 1))
            case measure => omega
            case rel => exact ⟨k + 1, max L d, p * y, by omega, by go_num, by go_num, by rw [HD.out]; exact HK.out.1.next HT.out.2.1.symm (qdig_le HT.out.1.2) hkm, H4.out.two⟩
        · have ekm : m = k := by omega
          subst ekm
          have HK := Lib.hid (And.intro hacc hP)
          clear hacc hP
          have hnL : n * L ≤ 100000 * 400 := Nat.mul_le_mul hn hL
          have hm0 : (0 : Int) ≤ (n : Int) * (L : Int) := by rw [← Int.natCast_mul]; omega
          have hm1' : (n : Int) * (L : Int) ≤ 40000000 := by rw [← Int.natCast_mul]; omega
          by_cases hle : n * L ≤ 6000
          · have hle' : (n : Int) * (L : Int) ≤ 6000 := by rw [← Int.natCast_mul]; omega
            obtain ⟨sp, Ap, lp, cp, tp, Ap', lp', cp', c0, c1, c2, c3, hp⟩ := HK.out.2.rat 0 rfl
            obtain ⟨sq, Aq, lq, cq, tq, Aq', lq', cq', d0, d1, d2, d3, hq⟩ := HK.out.2.rat 1 rfl
            have HQ := Lib.hid (And.intro hp hq)
            have HB := Lib.hid (And.intro (HK.out.1.sum_lt hm2 hin (HK.out.1.pos hm1) hle).1 (HK.out.1.p_room hm2).1)
            clear hp hq hnL
            go_wp2_with fail
            refine (qplus_any (k := 3000) HQ.out.1 HQ.out.2 HB.out.1 HB.out.2 (by omega) (by omega)).mono ?_
            rintro e w2 ⟨v, rfl, hv, hb⟩
            obtain ⟨sz, Az, lz, cz, tz, Az', lz', cz', rfl⟩ := hv.shape
            have hP2 := (HK.out.2.next hb).rleft 0 rfl
            obtain ⟨m0, m1, m2, m3, e0, e1, e2, e3, f0, f1, f2, f3⟩ := hP2.rhole 0 rfl
            have HV := Lib.hid (And.intro hv hP2)
            clear hv hb hP2 c0 c1 c2 c3 d0 d1 d2 d3 hm0 hm1' hle'
            go_wp2
            go_roundg (n - (i + 1))
            case measure => omega
            case rel => exact ⟨i + 1, L, x + p, by omega, by go_num, rfl, HK.out.1.done (fun _ => rfl), (show Pls w [(g6, .rat (x + p)), (g9, .rat p)] _ from (HV.out.2.rstored 0 rfl HV.out.1).2.2.2.2.2).head⟩
          · have hle' : 6000 < (n : Int) * (L : Int) := by rw [← Int.natCast_mul]; omega
            go_wp2
            go_roundg (n - (i + 1))
            case measure => omega
            case rel => exact ⟨i + 1, L, x, by omega, by go_num, rfl, HK.out.1.done (fun h => absurd h hle), HK.out.2.head⟩
    · have ein : n = i := by omega
      subst ein
      have hm0 : (0 : Int) ≤ (n : Int) * (L : Int) := by rw [← Int.natCast_mul]; omega
      have hm1' : (n : Int) * (L : Int) ≤ 40000000 := by rw [← Int.natCast_mul]; omega
      have HK := Lib.hid (And.intro hacc hP)
      by_cases hle : n * L ≤ 6000
      · have hle' : ¬ 6000 < (n : Int) * (L : Int) := by rw [← Int.natCast_mul]; omega
        have hr : F.Lt (M.B ^ 3000) x := by
          have h1 := sumv_lt (m := m) (val := val) (L := L) (i := n) fun k' i' hk hi' => by
            have hn' := hacc.1 k' i' hk hi'
            have hd := hacc.2.1.1 k' i' ⟨hk, hi'⟩
            cases hv : val k' i' with
            | none => exact absurd hv hn'
            | some y => rw [hv] at hd; exact ⟨y, rfl, hd⟩
          rw [← hacc.2.2.2 hle] at h1
          refine room_M h1 (sum_room (Nat.le_refl _) hm2 ?_ hle)
          by_cases h0 : n = 0
          · exact .inl h0
          · refine .inr ?_
            have hd := hacc.2.1.1 0 0 ⟨by omega, by omega⟩
            have hn' := hacc.1 0 0 (by omega) (by omega)
            cases hv : val 0 0 with
            | none => exact absurd hv hn'
            | some y => rw [hv] at hd; exact Nat.le_trans (qdig_pos y) hd
        obtain ⟨sp, Ap, lp, cp, tp, Ap', lp', cp', c0, c1, c2, c3, hp⟩ := hP.rat 0 rfl
        obtain ⟨o, c, hoc⟩ := qgive_two x
        have HQ := Lib.hid (And.intro hp (And.intro hr hoc))
        clear hp hr hoc hacc hP
        go_wp2_with fail
        refine (qwrite_any (k := 3000) (H.out.1.below HK.out.2.below).1 HQ.out.1 HQ.out.2.1 (by omega)).mono ?_
        rw [HQ.out.2.2]
        rintro e w2 ⟨rfl, hb⟩
        have HB := Lib.hid (HK.out.2.next hb)
        clear hb
        go_wp2
        go_ret2
        exact ⟨_, rfl, .inr ⟨fun k' i' hk hi' => HK.out.1.1 k' i' hk hi', L, HK.out.1.2.1, .inr ⟨hle, by rw [← HK.out.1.2.2.2 hle, HQ.out.2.2]; rfl⟩⟩, HB.out.below⟩
      · have hle' : 6000 < (n : Int) * (L : Int) := by rw [← Int.natCast_mul]; omega
        clear hacc hP
        go_wp2
        go_ret2
        exact ⟨_, rfl, .inr ⟨fun k' i' hk hi' => HK.out.1.1 k' i' hk hi', L, HK.out.1.2.1, .inl ⟨by omega, rfl⟩⟩, HK.out.2.below⟩
end Go.Proofs.YtigplffpnbdkeaaGreatDoor
