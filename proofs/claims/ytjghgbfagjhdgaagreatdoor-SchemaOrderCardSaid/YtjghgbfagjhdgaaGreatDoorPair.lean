/- Package rational: readPair, and all that reads with it. -/
import Derived.Test.YtjghgbfagjhdgaaGreatDoorRational
namespace Go.Proofs.YtjghgbfagjhdgaaGreatDoor
open Go Go.RowKit

theorem Pls.rleft {w0 w : World} {ps : List (Nat × Pl)} (h : Pls w0 ps w) (i : Nat) {g : Nat} {x : Rat} (hp : ps[i]? = some (g, .rat x)) : Pls w0 (ps.set i (g, .rhole)) w := by
  obtain ⟨s, A, l, c, t, A', l', c', h1, _⟩ := h.at_ i hp
  exact h.change i hp ⟨s, A, l, c, t, A', l', c', h1⟩ (fun _ _ h => h) (fun _ _ => rfl) h.below
theorem Pls.keepRat {w0 w : World} {ps : List (Nat × Pl)} (h : Pls w0 ps w) (i : Nat) {g : Nat} (hp : ps[i]? = some (g, .rhole)) (s : Int) (A : Option Addr) (l c : Nat) (t : Int) (A' : Option Addr) (l' c' : Nat) {v : Value} {x : Rat} (hz : IsRat w v x) : IsRat (stRat w g s A l c t A' l' c') v x := by
  obtain ⟨s0, A0, l0, c0, t0, A0', l0', c0', hg⟩ := h.at_ i hp
  obtain ⟨s1, A1, l1, c1, t1, A1', l1', c1', e, hn, d, hd, hx⟩ := hz
  have k := (stRat_keep hg s A l c t A' l' c').1
  exact ⟨s1, A1, l1, c1, t1, A1', l1', c1', e, k _ _ hn, d, k _ _ hd, hx⟩
/-- What a text is that is no fraction. -/
def BadR (l : List UInt8) : Prop :=
  (∃ a b k, Lib.cut l [47] = (a, b, k) ∧ vld a = false) ∨
  (∃ n b, Lib.cut l [47] = (Lib.itoa n, b, true) ∧ Lib.nDigits n.natAbs ≤ 400 ∧ vld b = false) ∨
  (∃ n d, Lib.cut l [47] = (Lib.itoa n, Lib.itoa d, true) ∧ Lib.nDigits n.natAbs ≤ 400 ∧ Lib.nDigits d.natAbs ≤ 400 ∧ d < 2) ∨
  (∃ n d, Lib.cut l [47] = (Lib.itoa n, Lib.itoa d, true) ∧ Lib.nDigits n.natAbs ≤ 400 ∧ Lib.nDigits d.natAbs ≤ 400 ∧ 2 ≤ d ∧ Nat.gcd n.natAbs d.natAbs ≠ 1)
/-- What a text reads as: a fraction, or none. -/
def Rd (s : ByteArray) : Option Rat → Prop
  | some x => RatIs s.data.toList x
  | none => BadR s.data.toList
theorem rd_ex (s : ByteArray) : ∃ r, Rd s r := by
  rcases rat_cases s.data.toList with h | h | h | h | ⟨x, _, _, h⟩ | ⟨x, _, _, h⟩
  · exact ⟨none, .inl h⟩
  · exact ⟨none, .inr (.inl h)⟩
  · exact ⟨none, .inr (.inr (.inl h))⟩
  · exact ⟨none, .inr (.inr (.inr h))⟩
  · exact ⟨some x, h⟩
  · exact ⟨some x, h⟩
theorem toArr (l : List UInt8) : (⟨l.toArray⟩ : ByteArray).data.toList = l := by simp
/-- What both packages ask of a text's length (no machine holds a longer one). -/
def Short (s : ByteArray) : Prop := s.size < 4294967281
theorem read_any2 {w : World} (s : ByteArray) {r : Option Rat} (hm : Lx w) (hsz : Short s) (h : Rd s r) :
    Calls Tryz.prog 142 #[.string s] w fun e w' => ∃ v, e = .returned (.tuple #[v, .bool r.isSome]) ∧ IsRat w' v (r.getD 0) ∧ Below w.heap.size w w' := by
  cases r with
  | none =>
    have bad : ∀ {w : World}, (Calls Tryz.prog 142 #[.string s] w fun e w' => e = .returned (.tuple #[ratZero, .bool false]) ∧ Below w.heap.size w w') → Calls Tryz.prog 142 #[.string s] w fun e w' => ∃ v, e = .returned (.tuple #[v, .bool (none : Option Rat).isSome]) ∧ IsRat w' v ((none : Option Rat).getD 0) ∧ Below w.heap.size w w' := by
      intro w hc
      refine hc.mono ?_
      rintro e w' ⟨rfl, hb⟩
      exact ⟨_, rfl, ratZero_is w', hb⟩
    rcases h with ⟨a, b, k, hc, hv⟩ | ⟨n, b, hc, hn, hv⟩ | ⟨n, d, hc, hn, hd, h2⟩ | ⟨n, d, hc, hn, hd, h2, hg⟩
    · exact bad (read_case1 s (sa := ⟨a.toArray⟩) (sb := ⟨b.toArray⟩) hm hsz (by rw [toArr, toArr]; exact hc) (by rw [toArr]; exact hv))
    · exact bad (read_case2 s (sa := ⟨(Lib.itoa n).toArray⟩) (sb := ⟨b.toArray⟩) hm hsz (by rw [toArr, toArr]; exact hc) (by rw [toArr]; exact vld_itoa hn) (by rw [toArr]; exact hv))
    · exact bad (read_case3 s (sa := ⟨(Lib.itoa n).toArray⟩) (sb := ⟨(Lib.itoa d).toArray⟩) hm hsz (by rw [toArr, toArr]; exact hc) (by rw [toArr]; exact vld_itoa hn) (toArr _) hd h2)
    · refine (read_div s (sa := ⟨(Lib.itoa n).toArray⟩) (sb := ⟨(Lib.itoa d).toArray⟩) hm hsz (by rw [toArr, toArr]; exact hc) (toArr _) (toArr _) hn hd h2).mono ?_
      rintro e w' ⟨v, rfl, _, hv, hb⟩
      rw [decide_eq_false hg, hv hg]
      exact ⟨_, rfl, ratZero_is w', hb⟩
  | some x =>
    have hc := cut_rtx x
    have h' : RatIs s.data.toList x := h
    rw [← h'.1] at hc
    by_cases hd : x.den = 1
    · rw [if_pos hd] at hc
      exact read_int s (sa := ⟨(Lib.itoa x.num).toArray⟩) (sb := ⟨([] : List UInt8).toArray⟩) hm hsz (by rw [toArr, toArr]; exact hc) (toArr _) h'
    · rw [if_neg hd] at hc
      have hp := x.den_pos
      have hg : Nat.gcd x.num.natAbs ((x.den : Int)).natAbs = 1 := by rw [Int.natAbs_natCast]; exact x.reduced
      refine (read_div s (sa := ⟨(Lib.itoa x.num).toArray⟩) (sb := ⟨(Lib.itoa (x.den : Int)).toArray⟩) hm hsz (by rw [toArr, toArr]; exact hc) (toArr _) (toArr _) h'.2.1 (by rw [Int.natAbs_natCast]; exact h'.2.2) (by omega)).mono ?_
      rintro e w' ⟨v, rfl, hv, _, hb⟩
      rw [decide_eq_true hg]
      exact ⟨_, rfl, (hv hg).rat, hb⟩

set_option linter.unusedSimpArgs false in
set_option maxHeartbeats 4000000 in
set_option maxRecDepth 100000 in
theorem readPair_any {w : World} (s t : ByteArray) {r q : Option Rat} (hm : Lx w) (hs : Short s) (ht : Short t) (hr : Rd s r) (hq : Rd t q) :
    Calls Tryz.prog 188 #[.string s, .string t] w fun e w' => ∃ v u, e = .returned (.tuple #[v, u, .bool (r.isSome && q.isSome)]) ∧ IsRat w' v (r.getD 0) ∧ IsRat w' u (q.getD 0) ∧ Below w.heap.size w w' := by
  have H := Lib.hid (And.intro hm (And.intro hs (And.intro ht (And.intro hr hq))))
  obtain ⟨x, hx⟩ : ∃ x, x = r.getD 0 := ⟨_, rfl⟩
  obtain ⟨y, hy⟩ : ∃ y, y = q.getD 0 := ⟨_, rfl⟩
  have HX := Lib.hid (And.intro hx hy)
  rw [← hx, ← hy]
  clear hm hs ht hr hq hx hy
  go_enter Tryz.func188, Tryz.ntmps188
  go_upto_region 0 with fail
  go_cut [4, 5] from 9 (fun s4 s5 wx => ∃ g4 g5 : Nat, s4 = .pointer (some ⟨g4, 0, none⟩) ∧ s5 = .pointer (some ⟨g5, 0, none⟩) ∧ Pls w [(g4, .rhole), (g5, .rhole)] wx)
  case first =>
    go_wp2_with fail
    go_meet
    exact ⟨_, _, rfl, rfl, ((Pls.start w).newRhole rfl).newRhole (by simp)⟩
  obtain ⟨g4, g5, rfl, rfl, hP⟩ := hcut
  have HP := Lib.hid hP
  clear hP
  go_wp2_with fail
  refine (read_any2 s (H.out.1.below HP.out.below) H.out.2.1 H.out.2.2.2.1).mono ?_
  rw [← HX.out.1]
  rintro e w1 ⟨v, rfl, hv, hb⟩
  obtain ⟨sx, Ax, lx, cx, tx, Ax', lx', cx', rfl⟩ := hv.shape
  have hP1 := HP.out.next hb
  obtain ⟨m0, m1, m2, m3, d0, d1, d2, d3, f0, f1, f2, f3⟩ := hP1.rhole 0 rfl
  have H1 := Lib.hid (hP1.storeRat 0 rfl hv)
  clear hv hb hP1 HP
  go_wp2_with fail
  rw [show (((w1.setCell ⟨g4, 0, none⟩ (.int .i64 sx)).setCell ⟨g4, 1, none⟩ (.slice Ax lx cx)).setCell ⟨g4, 2, none⟩ (.int .i64 tx)).setCell ⟨g4, 3, none⟩ (.slice Ax' lx' cx') = stRat w1 g4 sx Ax lx cx tx Ax' lx' cx' from rfl]
  generalize stRat w1 g4 sx Ax lx cx tx Ax' lx' cx' = w2 at *
  clear d0 d1 d2 d3 f0 f1 f2 f3
  refine (read_any2 t (H.out.1.below H1.out.below) H.out.2.2.1 H.out.2.2.2.2).mono ?_
  rw [← HX.out.2]
  rintro e w4 ⟨v, rfl, hv, hb⟩
  obtain ⟨sy, Ay, ly, cy, ty, Ay', ly', cy', rfl⟩ := hv.shape
  have hP1 := H1.out.next hb
  obtain ⟨m0, m1, m2, m3, d0, d1, d2, d3, f0, f1, f2, f3⟩ := hP1.rhole 1 rfl
  have H4 := Lib.hid (hP1.storeRat 1 rfl hv)
  clear hv hb hP1 H1
  go_upto_region 3 with fail
  rw [show (((w4.setCell ⟨g5, 0, none⟩ (.int .i64 sy)).setCell ⟨g5, 1, none⟩ (.slice Ay ly cy)).setCell ⟨g5, 2, none⟩ (.int .i64 ty)).setCell ⟨g5, 3, none⟩ (.slice Ay' ly' cy') = stRat w4 g5 sy Ay ly cy ty Ay' ly' cy' from rfl]
  have hP := H4.out
  clear H4 d0 d1 d2 d3 f0 f1 f2 f3
  generalize stRat w4 g5 sy Ay ly cy ty Ay' ly' cy' = w5 at *
  rcases Bool.eq_false_or_eq_true r.isSome with hbx | hbx
  · have HB := Lib.hid (show (r.isSome && q.isSome) = q.isSome by rw [hbx]; rfl)
    rw [hbx]
    clear hbx
    refine RelG.region_rest 8 [0, 1, 2, 3, 4, 5, 6, 7] _ rfl rfl (R := [fun v w => IsRat w v x, fun v w => IsRat w v y, fun v _ => v = .bool true, fun v _ => v = .bool true, fun v _ => v = .bool q.isSome, fun v _ => v = .bool q.isSome, fun _ _ => True, fun _ _ => True])
      (E := fun _ _ wx => Pls w [(g4, .rat x), (g5, .rat y)] wx) (T := fun wa wb => ∀ v z, IsRat wa v z → IsRat wb v z) (by kernel_rfl) (by kernel_rfl) (by kernel_rfl) (fun _ => hP.drew) ?_ ?_ ?_
    · intro D vals i v w1 w2 hi hE hT hv
      match i, hi with
      | 0, _ | 1, _ => exact hT _ _ hv
      | 2, _ | 3, _ | 4, _ | 5, _ | 6, _ | 7, _ => exact hv
      | i + 8, hi => exact absurd hi (by omega)
    · refine RelG.Steps.cons (L := []) rfl (by kernel_rfl) ?_ ?_
      · intro vals w' D hE hF hR K hK
        obtain ⟨s, A, l, c, t, A', l', c', c0, c1, c2, c3, hi⟩ := hE.rat 0 rfl
        simp only [Rel.putL, Rel.dst, z1, z2, z3, z4, Act.put, z5, z6, z7] at hK ⊢
        refine RelG.yes rfl ?_
        go_simp
        exact hK _ _ hi (fun _ _ h => h) hE
      refine RelG.Steps.cons (L := []) rfl (by kernel_rfl) ?_ ?_
      · intro vals w' D hE hF hR K hK
        obtain ⟨s, A, l, c, t, A', l', c', c0, c1, c2, c3, hi⟩ := hE.rat 1 rfl
        simp only [Rel.putL, Rel.dst, z1, z2, z3, z4, Act.put, z5, z6, z7] at hK ⊢
        refine RelG.yes rfl ?_
        go_simp
        exact hK _ _ hi (fun _ _ h => h) hE
      refine RelG.Steps.cons (L := []) rfl (by kernel_rfl) ?_ ?_
      · intro vals w' D hE hF hR K hK
        simp only [Rel.putL, Rel.dst, z1, z2, z3, z4, Act.put, z5, z6, z7] at hK ⊢
        refine RelG.yes rfl ?_
        go_simp
        exact hK _ _ rfl (fun _ _ h => h) hE
      refine RelG.Steps.cons (L := [2]) rfl (by kernel_rfl) ?_ ?_
      · intro vals w' D hE hF hR K hK
        have d2 : vals 2 = .bool true := hR.1
        simp only [Rel.putL, Rel.dst, z1, z2, z3, z4, Act.put, z5, z6, z7, d2] at hK ⊢
        refine RelG.yes rfl ?_
        go_simp
        exact hK _ _ rfl (fun _ _ h => h) hE
      refine RelG.Steps.cons (L := [3]) rfl (by kernel_rfl) ?_ ?_
      · intro vals w' D hE hF hR K hK
        have d3 : vals 3 = .bool true := hR.1
        simp only [Rel.putL, Rel.dst, z1, z2, z3, z4, Act.put, z5, z6, z7, d3] at hK ⊢
        refine RelG.yes rfl ?_
        go_simp
        exact hK _ _ rfl (fun _ _ h => h) hE
      refine RelG.Steps.cons (L := [3, 4]) rfl (by kernel_rfl) ?_ ?_
      · intro vals w' D hE hF hR K hK
        have d3 : vals 3 = .bool true := hR.1
        have d4 : vals 4 = .bool q.isSome := hR.2.1
        simp only [Rel.putL, Rel.dst, z1, z2, z3, z4, Act.put, z5, z6, z7, d3, d4] at hK ⊢
        refine RelG.yes rfl ?_
        go_simp
        exact hK _ _ rfl (fun _ _ h => h) hE
      refine RelG.Steps.cons (L := [0]) rfl (by kernel_rfl) ?_ ?_
      · intro vals w' D hE hF hR K hK
        have r0 := hR.1
        obtain ⟨sx, Ax, lx, cx, tx, Ax', lx', cx', ex⟩ := r0.shape
        rw [ex] at r0
        have hL := hE.rleft 0 rfl
        obtain ⟨m0, m1, m2, m3, d0, d1, d2, d3, f0, f1, f2, f3⟩ := hL.rhole 0 rfl
        have HZ := Lib.hid (And.intro hL r0)
        clear hL hE r0
        simp only [Rel.putL, Rel.dst, z1, z2, z3, z4, Act.put, z5, z6, z7, ex] at hK ⊢
        refine RelG.yes rfl ?_
        go_simp
        exact hK undef (stRat w' g4 sx Ax lx cx tx Ax' lx' cx') trivial (fun _ _ h => HZ.out.1.keepRat 0 rfl _ _ _ _ _ _ _ _ h) (HZ.out.1.storeRat 0 rfl HZ.out.2)
      refine RelG.Steps.cons (L := [1]) rfl (by kernel_rfl) ?_ ?_
      · intro vals w' D hE hF hR K hK
        have r1 := hR.1
        obtain ⟨sx, Ax, lx, cx, tx, Ax', lx', cx', ex⟩ := r1.shape
        rw [ex] at r1
        have hL := hE.rleft 1 rfl
        obtain ⟨m0, m1, m2, m3, d0, d1, d2, d3, f0, f1, f2, f3⟩ := hL.rhole 1 rfl
        have HZ := Lib.hid (And.intro hL r1)
        clear hL hE r1
        simp only [Rel.putL, Rel.dst, z1, z2, z3, z4, Act.put, z5, z6, z7, ex] at hK ⊢
        refine RelG.yes rfl ?_
        go_simp
        exact hK undef (stRat w' g5 sx Ax lx cx tx Ax' lx' cx') trivial (fun _ _ h => HZ.out.1.keepRat 1 rfl _ _ _ _ _ _ _ _ h) (HZ.out.1.storeRat 1 rfl HZ.out.2)
      exact RelG.Steps.done
    · intro vals w1 D hD hE hR
      obtain ⟨r0, r1, r2, r3, r4, r5, r6, r7, _⟩ := hR
      have e5 : vals 5 = .bool q.isSome := r5
      obtain ⟨sx, Ax, lx, cx, tx, Ax', lx', cx', c0, c1, c2, c3, hx1⟩ := hE.rat 0 rfl
      obtain ⟨sy, Ay, ly, cy, ty, Ay', ly', cy', b0, b1, b2, b3, hy1⟩ := hE.rat 1 rfl
      have HQ := Lib.hid (And.intro hx1 (And.intro hy1 hE))
      simp only [Rel.putL, Rel.dst, z1, z2, z3, z4, Act.put, z5, z6, z7, e5]
      clear hE hD hx1 hy1 r0 r1 r2 r3 r4 r5 r6 r7 e5
      go_wp2
      exact bodyPost_ret (v := .tuple #[.agg #[.int .i64 sx, .slice Ax lx cx, .int .i64 tx, .slice Ax' lx' cx'], .agg #[.int .i64 sy, .slice Ay ly cy, .int .i64 ty, .slice Ay' ly' cy'], .bool q.isSome]) (by simp [results, Tryz.results188, go_sem, c0, c1, c2, c3, b0, b1, b2, b3]) rfl ⟨_, _, by rw [HB.out], HQ.out.1, HQ.out.2.1, HQ.out.2.2.below⟩
  · have HB := Lib.hid (show (r.isSome && q.isSome) = false by rw [hbx]; rfl)
    rw [hbx]
    clear hbx
    refine RelG.region_rest 8 [0, 1, 2, 3, 4, 5, 6, 7] _ rfl rfl (R := [fun v w => IsRat w v x, fun v w => IsRat w v y, fun v _ => v = .bool false, fun v _ => v = .bool false, fun _ _ => True, fun v _ => v = .bool false, fun _ _ => True, fun _ _ => True])
      (E := fun _ _ wx => Pls w [(g4, .rat x), (g5, .rat y)] wx) (T := fun wa wb => ∀ v z, IsRat wa v z → IsRat wb v z) (by kernel_rfl) (by kernel_rfl) (by kernel_rfl) (fun _ => hP.drew) ?_ ?_ ?_
    · intro D vals i v w1 w2 hi hE hT hv
      match i, hi with
      | 0, _ | 1, _ => exact hT _ _ hv
      | 2, _ | 3, _ | 4, _ | 5, _ | 6, _ | 7, _ => exact hv
      | i + 8, hi => exact absurd hi (by omega)
    · refine RelG.Steps.cons (L := []) rfl (by kernel_rfl) ?_ ?_
      · intro vals w' D hE hF hR K hK
        obtain ⟨s, A, l, c, t, A', l', c', c0, c1, c2, c3, hi⟩ := hE.rat 0 rfl
        simp only [Rel.putL, Rel.dst, z1, z2, z3, z4, Act.put, z5, z6, z7] at hK ⊢
        refine RelG.yes rfl ?_
        go_simp
        exact hK _ _ hi (fun _ _ h => h) hE
      refine RelG.Steps.cons (L := []) rfl (by kernel_rfl) ?_ ?_
      · intro vals w' D hE hF hR K hK
        obtain ⟨s, A, l, c, t, A', l', c', c0, c1, c2, c3, hi⟩ := hE.rat 1 rfl
        simp only [Rel.putL, Rel.dst, z1, z2, z3, z4, Act.put, z5, z6, z7] at hK ⊢
        refine RelG.yes rfl ?_
        go_simp
        exact hK _ _ hi (fun _ _ h => h) hE
      refine RelG.Steps.cons (L := []) rfl (by kernel_rfl) ?_ ?_
      · intro vals w' D hE hF hR K hK
        simp only [Rel.putL, Rel.dst, z1, z2, z3, z4, Act.put, z5, z6, z7] at hK ⊢
        refine RelG.yes rfl ?_
        go_simp
        exact hK _ _ rfl (fun _ _ h => h) hE
      refine RelG.Steps.cons (L := [2]) rfl (by kernel_rfl) ?_ ?_
      · intro vals w' D hE hF hR K hK
        have d2 : vals 2 = .bool false := hR.1
        simp only [Rel.putL, Rel.dst, z1, z2, z3, z4, Act.put, z5, z6, z7, d2] at hK ⊢
        refine RelG.yes rfl ?_
        go_simp
        exact hK _ _ rfl (fun _ _ h => h) hE
      refine RelG.Steps.cons (L := [3]) rfl (by kernel_rfl) ?_ ?_
      · intro vals w' D hE hF hR K hK
        have d3 : vals 3 = .bool false := hR.1
        simp only [Rel.putL, Rel.dst, z1, z2, z3, z4, Act.put, z5, z6, z7, d3] at hK ⊢
        refine RelG.no rfl ?_
        exact hK _ _ trivial (fun _ _ h => h) hE
      refine RelG.Steps.cons (L := [3, 4]) rfl (by kernel_rfl) ?_ ?_
      · intro vals w' D hE hF hR K hK
        have d3 : vals 3 = .bool false := hR.1
        simp only [Rel.putL, Rel.dst, z1, z2, z3, z4, Act.put, z5, z6, z7, d3] at hK ⊢
        refine RelG.yes rfl ?_
        go_simp
        exact hK _ _ rfl (fun _ _ h => h) hE
      refine RelG.Steps.cons (L := [0]) rfl (by kernel_rfl) ?_ ?_
      · intro vals w' D hE hF hR K hK
        have r0 := hR.1
        obtain ⟨sx, Ax, lx, cx, tx, Ax', lx', cx', ex⟩ := r0.shape
        rw [ex] at r0
        have hL := hE.rleft 0 rfl
        obtain ⟨m0, m1, m2, m3, d0, d1, d2, d3, f0, f1, f2, f3⟩ := hL.rhole 0 rfl
        have HZ := Lib.hid (And.intro hL r0)
        clear hL hE r0
        simp only [Rel.putL, Rel.dst, z1, z2, z3, z4, Act.put, z5, z6, z7, ex] at hK ⊢
        refine RelG.yes rfl ?_
        go_simp
        exact hK undef (stRat w' g4 sx Ax lx cx tx Ax' lx' cx') trivial (fun _ _ h => HZ.out.1.keepRat 0 rfl _ _ _ _ _ _ _ _ h) (HZ.out.1.storeRat 0 rfl HZ.out.2)
      refine RelG.Steps.cons (L := [1]) rfl (by kernel_rfl) ?_ ?_
      · intro vals w' D hE hF hR K hK
        have r1 := hR.1
        obtain ⟨sx, Ax, lx, cx, tx, Ax', lx', cx', ex⟩ := r1.shape
        rw [ex] at r1
        have hL := hE.rleft 1 rfl
        obtain ⟨m0, m1, m2, m3, d0, d1, d2, d3, f0, f1, f2, f3⟩ := hL.rhole 1 rfl
        have HZ := Lib.hid (And.intro hL r1)
        clear hL hE r1
        simp only [Rel.putL, Rel.dst, z1, z2, z3, z4, Act.put, z5, z6, z7, ex] at hK ⊢
        refine RelG.yes rfl ?_
        go_simp
        exact hK undef (stRat w' g5 sx Ax lx cx tx Ax' lx' cx') trivial (fun _ _ h => HZ.out.1.keepRat 1 rfl _ _ _ _ _ _ _ _ h) (HZ.out.1.storeRat 1 rfl HZ.out.2)
      exact RelG.Steps.done
    · intro vals w1 D hD hE hR
      obtain ⟨r0, r1, r2, r3, r4, r5, r6, r7, _⟩ := hR
      have e5 : vals 5 = .bool false := r5
      obtain ⟨sx, Ax, lx, cx, tx, Ax', lx', cx', c0, c1, c2, c3, hx1⟩ := hE.rat 0 rfl
      obtain ⟨sy, Ay, ly, cy, ty, Ay', ly', cy', b0, b1, b2, b3, hy1⟩ := hE.rat 1 rfl
      have HQ := Lib.hid (And.intro hx1 (And.intro hy1 hE))
      simp only [Rel.putL, Rel.dst, z1, z2, z3, z4, Act.put, z5, z6, z7, e5]
      clear hE hD hx1 hy1 r0 r1 r2 r3 r4 r5 r6 r7 e5
      go_wp2
      exact bodyPost_ret (v := .tuple #[.agg #[.int .i64 sx, .slice Ax lx cx, .int .i64 tx, .slice Ax' lx' cx'], .agg #[.int .i64 sy, .slice Ay ly cy, .int .i64 ty, .slice Ay' ly' cy'], .bool false]) (by simp [results, Tryz.results188, go_sem, c0, c1, c2, c3, b0, b1, b2, b3]) rfl ⟨_, _, by rw [HB.out], HQ.out.1, HQ.out.2.1, HQ.out.2.2.below⟩
end Go.Proofs.YtjghgbfagjhdgaaGreatDoor
