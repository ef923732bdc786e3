/- steps: Euclid's steps with the highest bits. -/
import Derived.Test.YthnbocojjllfaaaGreatDoorLeadingB
namespace Go.Proofs.YthnbocojjllfaaaGreatDoor
open Go Go.RowKit

/-- Block g holds the steps' effect. -/
def Euc (w : World) (g a0 b0 a1 b1 : Nat) (ev : Bool) : Prop := w.heap[g]? = some (.cells #[.int .u64 (a0 : Int), .int .u64 (b0 : Int), .int .u64 (a1 : Int), .int .u64 (b1 : Int), .bool ev] 178 (0, 0))
section
variable {w w' : World} {g a0 b0 a1 b1 : Nat} {ev : Bool}
theorem Euc.lt (h : Euc w g a0 b0 a1 b1 ev) : g < w.heap.size := lt_of_block h
theorem Euc.c0 (h : Euc w g a0 b0 a1 b1 ev) : w.cell? ⟨g, 0, none⟩ = some (.int .u64 (a0 : Int)) := by unfold Euc at h; simp [World.cell?, h]
theorem Euc.c1 (h : Euc w g a0 b0 a1 b1 ev) : w.cell? ⟨g, 1, none⟩ = some (.int .u64 (b0 : Int)) := by unfold Euc at h; simp [World.cell?, h]
theorem Euc.c2 (h : Euc w g a0 b0 a1 b1 ev) : w.cell? ⟨g, 2, none⟩ = some (.int .u64 (a1 : Int)) := by unfold Euc at h; simp [World.cell?, h]
theorem Euc.c3 (h : Euc w g a0 b0 a1 b1 ev) : w.cell? ⟨g, 3, none⟩ = some (.int .u64 (b1 : Int)) := by unfold Euc at h; simp [World.cell?, h]
theorem Euc.c4 (h : Euc w g a0 b0 a1 b1 ev) : w.cell? ⟨g, 4, none⟩ = some (.bool ev) := by unfold Euc at h; simp [World.cell?, h]
theorem Euc.f (h : Euc w g a0 b0 a1 b1 ev) (i : Nat) : w.frozen? ⟨g, i, none⟩ = false := by unfold Euc at h; simp [World.frozen?, h]
theorem Euc.drewN (h : Euc w g a0 b0 a1 b1 ev) (k : Nat) : Euc (w.drewN k) g a0 b0 a1 b1 ev := h
theorem Euc.below (h : Euc w g a0 b0 a1 b1 ev) {B : Nat} (hb : Below B w w') (hg : g < B) : Euc w' g a0 b0 a1 b1 ev := by
  unfold Euc at h ⊢; rw [hb.block g hg]; exact h
theorem Euc.far (h : Euc w g a0 b0 a1 b1 ev) {p : Addr} (hp : p.block ≠ g) (v : Value) : Euc (w.setCell p v) g a0 b0 a1 b1 ev := by
  unfold Euc at h ⊢; rw [Below.heap_setCell w p v g (Ne.symm hp)]; exact h
theorem Euc.s0 (h : Euc w g a0 b0 a1 b1 ev) (n : Nat) : Euc (w.setCell ⟨g, 0, none⟩ (.int .u64 (n : Int))) g n b0 a1 b1 ev := by
  unfold Euc at h ⊢; simp [World.setCell, Array.getElem?_modify, h]
theorem Euc.s1 (h : Euc w g a0 b0 a1 b1 ev) (n : Nat) : Euc (w.setCell ⟨g, 1, none⟩ (.int .u64 (n : Int))) g a0 n a1 b1 ev := by
  unfold Euc at h ⊢; simp [World.setCell, Array.getElem?_modify, h]
theorem Euc.s2 (h : Euc w g a0 b0 a1 b1 ev) (n : Nat) : Euc (w.setCell ⟨g, 2, none⟩ (.int .u64 (n : Int))) g a0 b0 n b1 ev := by
  unfold Euc at h ⊢; simp [World.setCell, Array.getElem?_modify, h]
theorem Euc.s3 (h : Euc w g a0 b0 a1 b1 ev) (n : Nat) : Euc (w.setCell ⟨g, 3, none⟩ (.int .u64 (n : Int))) g a0 b0 a1 n ev := by
  unfold Euc at h ⊢; simp [World.setCell, Array.getElem?_modify, h]
theorem Euc.s4 (h : Euc w g a0 b0 a1 b1 ev) (n : Bool) : Euc (w.setCell ⟨g, 4, none⟩ (.bool n)) g a0 b0 a1 b1 n := by
  unfold Euc at h ⊢; simp [World.setCell, Array.getElem?_modify, h]
end
/-- What the steps return. -/
def eucV (a0 b0 a1 b1 : Nat) (ev : Bool) : Value := .agg #[.int .u64 (a0 : Int), .int .u64 (b0 : Int), .int .u64 (a1 : Int), .int .u64 (b1 : Int), .bool ev]

def StepsPost (w : World) (X Y : Int) (ah bh : Nat) (e : Ending) (w' : World) : Prop := ∃ a b a0 b0 a1 b1 na nb ev, e = .returned (eucV a0 b0 a1 b1 ev) ∧ M.Leh X Y ah bh a b a0 b0 a1 b1 na nb ev ∧ Below w.heap.size w w'
set_option maxHeartbeats 1600000 in
set_option maxRecDepth 100000 in
theorem steps_any {w : World} {X Y D xl yl : Int} (ah bh : Nat) (hab : bh ≤ ah) (ha : ah < 18446744073709551616) (hX : X = (ah : Int) * D + xl) (hY : Y = (bh : Int) * D + yl) (hx : 0 ≤ xl) (hxD : xl < D) (hy : 0 ≤ yl) (hyD : yl < D) :
    Calls Tryz.prog 187 #[.int .u64 (ah : Int), .int .u64 (bh : Int)] w (StepsPost w X Y ah bh) := by
  have H := Lib.hid (And.intro hX (And.intro hY (And.intro hx (And.intro hxD (And.intro hy (And.intro hyD hab))))))
  clear hX hY hx hxD hy hyD hab
  go_enter Tryz.func187, Tryz.ntmps187
  go_wp2_with fail
  have hz0 : Euc ((w.alloc (.cells #[.int .u64 0, .int .u64 0, .int .u64 0, .int .u64 0, .bool false] 178)).alloc (.cells #[.int .u64 0, .int .u64 0, .int .u64 1, .int .u64 0, .bool false] 178)) (w.heap.size + 1) 0 0 1 0 false := by
    have := heap_alloc_new (w.alloc (.cells #[.int .u64 0, .int .u64 0, .int .u64 0, .int .u64 0, .bool false] 178)) (.cells #[.int .u64 0, .int .u64 0, .int .u64 1, .int .u64 0, .bool false] 178)
    unfold Euc; simpa using this
  have hr0 : Euc ((w.alloc (.cells #[.int .u64 0, .int .u64 0, .int .u64 0, .int .u64 0, .bool false] 178)).alloc (.cells #[.int .u64 0, .int .u64 0, .int .u64 1, .int .u64 0, .bool false] 178)) w.heap.size 0 0 0 0 false := by
    have h1 := heap_alloc_new w (.cells #[.int .u64 0, .int .u64 0, .int .u64 0, .int .u64 0, .bool false] 178)
    have h2 : Euc (w.alloc (.cells #[.int .u64 0, .int .u64 0, .int .u64 0, .int .u64 0, .bool false] 178)) w.heap.size 0 0 0 0 false := h1
    exact h2.below ((Below.refl _ _).alloc (Nat.le_refl _) _) (by simp)
  have hb0 : Below w.heap.size w ((w.alloc (.cells #[.int .u64 0, .int .u64 0, .int .u64 0, .int .u64 0, .bool false] 178)).alloc (.cells #[.int .u64 0, .int .u64 0, .int .u64 1, .int .u64 0, .bool false] 178)) := ((Below.refl _ _).alloc (Nat.le_refl _) _).alloc (by simp) _
  generalize (w.alloc (.cells #[.int .u64 0, .int .u64 0, .int .u64 0, .int .u64 0, .bool false] 178)).alloc (.cells #[.int .u64 0, .int .u64 0, .int .u64 1, .int .u64 0, .bool false] 178) = w0 at *
  have H0 := Lib.hid (And.intro hz0 (And.intro hr0 hb0))
  clear hz0 hr0 hb0
  go_loopw [0, 1, 6, 7] (fun av bv nav nbv wr => ∃ (a b a0 b0 a1 b1 na nb : Nat) (ev : Bool), av = .int .u64 (a : Int) ∧ bv = .int .u64 (b : Int) ∧ nav = .int .u64 (na : Int) ∧ nbv = .int .u64 (nb : Int) ∧ Euc wr (w.heap.size + 1) a0 b0 a1 b1 ev ∧ Euc wr w.heap.size 0 0 0 0 false ∧ M.Leh X Y ah bh a b a0 b0 a1 b1 na nb ev ∧ Below w.heap.size w wr) (fun _ bv _ _ _ => (intOf bv).toNat)
  case atStart => exact ⟨ah, bh, 0, 0, 1, 0, 0, 1, false, rfl, rfl, rfl, rfl, H0.out.1, H0.out.2.1, M.Leh.start X Y H.out.2.2.2.2.2.2, H0.out.2.2⟩
  case round =>
    obtain ⟨a, b, a0, b0, a1, b1, na, nb, ev, rfl, rfl, rfl, rfl, he, hr, hL, hbl⟩ := hrel
    have e0 := he.c0
    have e1 := he.c1
    have e2 := he.c2
    have e3 := he.c3
    have e4 := he.c4
    have f0 := he.f 0
    have f1 := he.f 1
    have f2 := he.f 2
    have f3 := he.f 3
    have f4 := he.f 4
    have r0 := hr.c0
    have r1 := hr.c1
    have r2 := hr.c2
    have r3 := hr.c3
    have r4 := hr.c4
    have g0 := hr.f 0
    have g1 := hr.f 1
    have g2 := hr.f 2
    have g3 := hr.f 3
    have g4 := hr.f 4
    have hba := hL.ba
    have HE := Lib.hid (And.intro he (And.intro hr (And.intro hL hbl)))
    by_cases h1 : nb ≤ b
    · obtain ⟨k1, k2, k3, k4, k5⟩ := hL.fits h1
      by_cases h2 : b1 + nb ≤ a - b
      · obtain ⟨q, hq⟩ : ∃ q, q = a / b := ⟨_, rfl⟩
        obtain ⟨r, hrr⟩ : ∃ r, r = a % b := ⟨_, rfl⟩
        have hb1 : 1 ≤ b := by have := hL.one; omega
        have hrb : r < b := by rw [hrr]; exact Nat.mod_lt _ (by omega)
        have S := hL.step H.out.1 H.out.2.1 H.out.2.2.1 H.out.2.2.2.1 H.out.2.2.2.2.1 H.out.2.2.2.2.2.1 h1 h2
        rw [← hq, ← hrr] at S
        rw [← hq] at k2 k3
        obtain ⟨m1, hm1⟩ : ∃ m1, m1 = q * na := ⟨_, rfl⟩
        obtain ⟨m2, hm2⟩ : ∃ m2, m2 = q * nb := ⟨_, rfl⟩
        rw [← hm1, ← hm2] at S
        rw [← hm1, ← hm2] at k3
        rw [← hm2] at k2
        obtain ⟨n1, hn1⟩ : ∃ n1, n1 = a1 + m1 := ⟨_, rfl⟩
        obtain ⟨n2, hn2⟩ : ∃ n2, n2 = b1 + m2 := ⟨_, rfl⟩
        rw [← hn1, ← hn2] at S
        have i1 : (a : Int) / (b : Int) = (q : Int) := by rw [hq]; rfl
        have i2 : (a : Int) % (b : Int) = (r : Int) := by rw [hrr]; rfl
        have i3 : (q : Int) * (na : Int) = (m1 : Int) := by rw [hm1]; rfl
        have i4 : (q : Int) * (nb : Int) = (m2 : Int) := by rw [hm2]; rfl
        have i5 : (a1 : Int) + (m1 : Int) = (n1 : Int) := by omega
        have i6 : (b1 : Int) + (m2 : Int) = (n2 : Int) := by omega
        have l1 : m1 ≤ 18446744073709551615 := by omega
        have l2 : m2 ≤ 18446744073709551615 := by omega
        have l3 : n1 ≤ 18446744073709551615 := by omega
        have l4 : n2 ≤ 18446744073709551615 := by omega
        have l5 : q ≤ 18446744073709551615 := by have := Nat.div_le_self a b; omega
        have t1 : (nb : Int) ≤ (b : Int) := by omega
        have t2 : (b1 : Int) + (nb : Int) ≤ (a : Int) - (b : Int) := by omega
        have t3 : ¬ (b : Int) = 0 := by omega
        have HS := Lib.hid (And.intro S hrb)
        clear he hr hL hbl h1 h2 hq hrr S hm1 hm2 hn1 hn2 k1 k2 k3 hrb
        go_wp2_with fail
        go_quiet (fail)
        have he2 := HE.out.1.drewN nq
        have hr2 := HE.out.2.1.drewN nq
        have hb2 : Below w.heap.size w (wr.drewN nq) := HE.out.2.2.2.trans (((Drawn.refl wr).drewN nq).below w.heap.size)
        clear e0 e1 e2 e3 e4 f0 f1 f2 f3 f4 r0 r1 r2 r3 r4 g0 g1 g2 g3 g4
        generalize wr.drewN nq = w2 at *
        have e0 := he2.c0
        have e1 := he2.c1
        have e2 := he2.c2
        have e3 := he2.c3
        have e4 := he2.c4
        have f0 := he2.f 0
        have f1 := he2.f 1
        have f2 := he2.f 2
        have f3 := he2.f 3
        have f4 := he2.f 4
        have HE2 := Lib.hid (And.intro he2 (And.intro hr2 hb2))
        clear he2 hr2 hb2
        go_wp2
        go_roundw
        case rel =>
          have R := (((((HE2.out.1.s0 a1).s2 na).s1 b1).s3 nb).s4 (!ev))
          have hB := ((((HE2.out.2.2.setCell (p := ⟨w.heap.size + 1, 0, none⟩) (by simp) (.int .u64 (a1 : Int))).setCell (p := ⟨w.heap.size + 1, 2, none⟩) (by simp) (.int .u64 (na : Int))).setCell (p := ⟨w.heap.size + 1, 1, none⟩) (by simp) (.int .u64 (b1 : Int))).setCell (p := ⟨w.heap.size + 1, 3, none⟩) (by simp) (.int .u64 (nb : Int))).setCell (p := ⟨w.heap.size + 1, 4, none⟩) (by simp) (.bool (!ev))
          have hR0 := ((((HE2.out.2.1.far (p := ⟨w.heap.size + 1, 0, none⟩) (by simp) (.int .u64 (a1 : Int))).far (p := ⟨w.heap.size + 1, 2, none⟩) (by simp) (.int .u64 (na : Int))).far (p := ⟨w.heap.size + 1, 1, none⟩) (by simp) (.int .u64 (b1 : Int))).far (p := ⟨w.heap.size + 1, 3, none⟩) (by simp) (.int .u64 (nb : Int))).far (p := ⟨w.heap.size + 1, 4, none⟩) (by simp) (.bool (!ev))
          exact ⟨b, r, a1, b1, na, nb, n1, n2, !ev, rfl, by rw [i2], rfl, rfl, R, hR0, HS.out.1, hB⟩
        case measure => have := HS.out.2; simp [intOf]; omega
      · have t1 : (nb : Int) ≤ (b : Int) := by omega
        have t2 : ¬ (b1 : Int) + (nb : Int) ≤ (a : Int) - (b : Int) := by omega
        clear he hr hL hbl h1 h2
        go_wp2
        have R := ((((HE.out.2.1.s0 a0).s1 b0).s2 a1).s3 b1).s4 ev
        have hB := ((((HE.out.2.2.2.setCell (p := ⟨w.heap.size, 0, none⟩) (Nat.le_refl _) (.int .u64 (a0 : Int))).setCell (p := ⟨w.heap.size, 1, none⟩) (Nat.le_refl _) (.int .u64 (b0 : Int))).setCell (p := ⟨w.heap.size, 2, none⟩) (Nat.le_refl _) (.int .u64 (a1 : Int))).setCell (p := ⟨w.heap.size, 3, none⟩) (Nat.le_refl _) (.int .u64 (b1 : Int))).setCell (p := ⟨w.heap.size, 4, none⟩) (Nat.le_refl _) (.bool ev)
        generalize ((((wr.setCell ⟨w.heap.size, 0, none⟩ (.int .u64 (a0 : Int))).setCell ⟨w.heap.size, 1, none⟩ (.int .u64 (b0 : Int))).setCell ⟨w.heap.size, 2, none⟩ (.int .u64 (a1 : Int))).setCell ⟨w.heap.size, 3, none⟩ (.int .u64 (b1 : Int))).setCell ⟨w.heap.size, 4, none⟩ (.bool ev) = W3 at *
        have z0 := R.c0
        have z1 := R.c1
        have z2 := R.c2
        have z3 := R.c3
        have z4 := R.c4
        exact bodyPost_ret (v := eucV a0 b0 a1 b1 ev) (by simp [results, Tryz.results187, go_sem, z0, z1, z2, z3, z4, eucV]) rfl ⟨a, b, a0, b0, a1, b1, na, nb, ev, rfl, HE.out.2.2.1, hB⟩
    · have t1 : ¬ (nb : Int) ≤ (b : Int) := by omega
      clear he hr hL hbl h1
      go_wp2
      have R := ((((HE.out.2.1.s0 a0).s1 b0).s2 a1).s3 b1).s4 ev
      have hB := ((((HE.out.2.2.2.setCell (p := ⟨w.heap.size, 0, none⟩) (Nat.le_refl _) (.int .u64 (a0 : Int))).setCell (p := ⟨w.heap.size, 1, none⟩) (Nat.le_refl _) (.int .u64 (b0 : Int))).setCell (p := ⟨w.heap.size, 2, none⟩) (Nat.le_refl _) (.int .u64 (a1 : Int))).setCell (p := ⟨w.heap.size, 3, none⟩) (Nat.le_refl _) (.int .u64 (b1 : Int))).setCell (p := ⟨w.heap.size, 4, none⟩) (Nat.le_refl _) (.bool ev)
      generalize ((((wr.setCell ⟨w.heap.size, 0, none⟩ (.int .u64 (a0 : Int))).setCell ⟨w.heap.size, 1, none⟩ (.int .u64 (b0 : Int))).setCell ⟨w.heap.size, 2, none⟩ (.int .u64 (a1 : Int))).setCell ⟨w.heap.size, 3, none⟩ (.int .u64 (b1 : Int))).setCell ⟨w.heap.size, 4, none⟩ (.bool ev) = W3 at *
      have z0 := R.c0
      have z1 := R.c1
      have z2 := R.c2
      have z3 := R.c3
      have z4 := R.c4
      exact bodyPost_ret (v := eucV a0 b0 a1 b1 ev) (by simp [results, Tryz.results187, go_sem, z0, z1, z2, z3, z4, eucV]) rfl ⟨a, b, a0, b0, a1, b1, na, nb, ev, rfl, HE.out.2.2.1, hB⟩
end Go.Proofs.YthnbocojjllfaaaGreatDoor
