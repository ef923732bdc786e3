/- divide: by a greater number; by one limb. Long division: the estimate of a quotient digit. Long division: the divisor added back; the product subtracted. bits.Mul64: the two words of a product. -/
import Derived.Test.YtjghgbfagjhdgaaGreatDoorNats
import Derived.Test.YtjghgbfagjhdgaaGreatDoorPure
namespace Go.Proofs.YtjghgbfagjhdgaaGreatDoor
open Go Go.RowKit

/-- What dividing x by y gives. -/
def DivPost (w : World) (x y : Nat) (e : Ending) (w' : World) : Prop :=
  ∃ u v, e = .returned (.tuple #[u, v]) ∧ IsNat w' u (x / y) ∧ IsNat w' v (x % y) ∧ Below w.heap.size w w'

set_option maxHeartbeats 800000 in
set_option maxRecDepth 100000 in
theorem divide_lt {w : World} {a b : Value} {x y k : Nat} (ha : IsNat w a x) (hb : IsNat w b y) (hx : x < M.B ^ k) (hy : y < M.B ^ k) (hk : k ≤ 30000) (hlt : x < y) :
    Calls Tryz.prog 167 #[a, b] w (DivPost w x y) := by
  have hc := cmp_lt hlt
  have H := Lib.hid (And.intro ha (And.intro hb hlt))
  obtain ⟨A, l, c, rfl⟩ := ha.shape
  obtain ⟨A', l', c', rfl⟩ := hb.shape
  clear ha hb hlt
  go_enter Tryz.func167, Tryz.ntmps167
  go_wp2_with fail
  refine (compare_nat H.out.1 H.out.2.1 hx hy hk).mono ?_
  rintro e w1 ⟨rfl, hd⟩
  go_wp2
  go_ret2
  refine ⟨_, _, rfl, ?_, ?_, hd.below _⟩
  · rw [Nat.div_eq_of_lt H.out.2.2]; exact IsNat.zero _
  · rw [Nat.mod_eq_of_lt H.out.2.2]; exact H.out.1.drawn hd

set_option maxHeartbeats 800000 in
set_option maxRecDepth 100000 in
theorem divide_one {w : World} {a b : Value} {x y k : Nat} (ha : IsNat w a x) (hb : IsNat w b y) (hx : x < M.B ^ k) (hy : y < M.B) (hk1 : 1 ≤ k) (hk : k ≤ 30000) (hyx : y ≤ x) (h0 : 0 < y) :
    Calls Tryz.prog 167 #[a, b] w (DivPost w x y) := by
  have hyk : y < M.B ^ k := Nat.lt_of_lt_of_le (by rw [Nat.pow_one]; exact hy) (M.pow_mono hk1)
  have hc := cmp_ge hyx
  obtain ⟨A, l, c, rfl, hl, hm, hlk, hlc, hcm⟩ := ha.open_ hx
  obtain ⟨A', l', c', rfl, hl', hm', hlk', _, _⟩ := hb.open_ (show y < M.B ^ 1 by rw [Nat.pow_one]; exact hy)
  have hzl := len_zero hm hl.1
  have hzl' := len_zero hm' hl'.1
  have hlpos : 0 < l := by have : ¬ l = 0 := fun e => by have := hzl.1 e; omega
                           omega
  have hl1 : l' = 1 := by have : ¬ l' = 0 := fun e => by have := hzl'.1 e; omega
                          omega
  subst hl1
  obtain ⟨b1, off1, rfl, hbl1, hx1⟩ := hl.2 hlpos
  obtain ⟨b2, off2, rfl, hbl2, hy1⟩ := hl'.2 (by omega)
  have hy0 := hy1 0 (by omega)
  rw [show M.dg y 0 = y by unfold M.dg; rw [Nat.pow_zero, Nat.div_one, Nat.mod_eq_of_lt hy]] at hy0
  have H := Lib.hid (And.intro ha (And.intro hb (And.intro hx1 (And.intro hl hy0))))
  have hmk := make_nat l (by omega)
  clear ha hb hl hl' hm hm' hzl hzl' hx1 hy1 hy0 hyx
  go_enter Tryz.func167, Tryz.ntmps167
  go_wp2_with fail
  refine (compare_nat H.out.1 H.out.2.1 hx hyk hk).mono ?_
  rintro e w1 ⟨rfl, hd⟩
  have hyc : w1.cell? ⟨b2, off2, none⟩ = some (.int .u32 (y : Int)) := by obtain ⟨n, rfl⟩ := hd; exact H.out.2.2.2.2
  have hs1 : w1.heap.size = w.heap.size := by obtain ⟨n, rfl⟩ := hd; rfl
  have hb2 : b2 < w1.heap.size := by omega
  have HD := Lib.hid (And.intro hd hs1)
  clear hd hs1
  obtain ⟨r, hrr⟩ : ∃ r, r = x % y := ⟨_, rfl⟩
  have hrB : r ≤ 4294967295 := by have := Nat.mod_lt x h0; rw [M.B_eq] at hy; omega
  have HRR := Lib.hid hrr
  clear hrr
  go_wp2_with fail
  have hrow := Row.new w1 l
  have hb3 : Below w1.heap.size w1 (w1.alloc (.cells (madeCells #[Value.int .u32 0] l) 193)) := (Below.refl _ _).alloc (Nat.le_refl _) _
  have hx3 : ∀ j, j < l → (w1.alloc (.cells (madeCells #[Value.int .u32 0] l) 193)).cell? ⟨b1, off1 + j, none⟩ = some (.int .u32 (M.dg x j)) := by
    intro j hj
    have h1 : w1.cell? ⟨b1, off1 + j, none⟩ = some (.int .u32 (M.dg x j)) := by obtain ⟨n, rfl⟩ := HD.out.1; exact H.out.2.2.1 j hj
    exact (hb3.cell (p := ⟨b1, off1 + j, none⟩) (by have := HD.out.2; simp; omega)).trans h1
  have H3 := Lib.hid (And.intro hrow (And.intro hb3 hx3))
  clear hrow hb3 hx3 hmk
  refine (setQuotient_any l c H3.out.1 H3.out.2.2 H.out.2.2.2.1.1 (.inl (by have := HD.out.2; omega)) h0 (by rw [M.B_eq] at hy; omega) (by omega)).mono ?_
  rw [← HRR.out]
  rintro e w4 ⟨rfl, hq4, hg4⟩
  have H4 := Lib.hid (And.intro hq4 (H3.out.2.1.grown hg4 H3.out.2.1.size (by intro k hk; injection hk with hk; omega)))
  clear hq4 hg4
  go_wp2_with fail
  refine (trim_any H4.out.1.limbs (Nat.le_refl _) (by omega)).mono ?_
  rintro e w5 ⟨u, rfl, hu, rfl⟩
  have H5 := Lib.hid hu
  clear hu
  go_wp2_with fail
  refine (natural64_any (n := r) (by rw [M.B_eq]; omega)).mono ?_
  rintro e w6 ⟨v, rfl, hv, hb6⟩
  have H6 := Lib.hid (And.intro hv (And.intro (H5.out.below hb6 (Nat.le_refl _)) ((HD.out.1.below w.heap.size).trans ((H4.out.2.trans (hb6.mono H4.out.2.size)).mono (by rw [HD.out.2]; exact Nat.le_refl _)))))
  clear hv hb6
  go_wp2
  go_ret2
  exact ⟨_, _, rfl, H6.out.2.1, by rw [← HRR.out]; exact H6.out.1, H6.out.2.2⟩
end Go.Proofs.YtjghgbfagjhdgaaGreatDoor
namespace Go.Proofs.YtjghgbfagjhdgaaGreatDoor
open Go Go.RowKit

set_option maxHeartbeats 1600000 in
set_option maxRecDepth 100000 in
theorem estimate_any {w : World} {gx ox gy oy n : Nat} (cx cy : Nat) {h1 h0 x2 f s : Nat} (hn : 2 ≤ n) (hn' : n ≤ 60000)
    (c1 : w.cell? ⟨gx, ox + n, none⟩ = some (.int .u32 (h1 : Int))) (c2 : w.cell? ⟨gx, ox + (n - 1), none⟩ = some (.int .u32 (h0 : Int))) (c3 : w.cell? ⟨gx, ox + (n - 2), none⟩ = some (.int .u32 (x2 : Int)))
    (d1 : w.cell? ⟨gy, oy + (n - 1), none⟩ = some (.int .u32 (f : Int))) (d2 : w.cell? ⟨gy, oy + (n - 2), none⟩ = some (.int .u32 (s : Int)))
    (b1 : h1 ≤ 4294967295) (b0 : h0 ≤ 4294967295) (b2 : x2 ≤ 4294967295) (bf : f ≤ 4294967295) (bs : s ≤ 4294967295) (hf : 2147483648 ≤ f) (hh : h1 * M.B + h0 ≤ f * M.B + s) :
    Calls Tryz.prog 225 #[.slice (some ⟨gx, ox, none⟩) (n + 1) cx, .slice (some ⟨gy, oy, none⟩) n cy] w fun e w' => ∃ q : Nat, e = .returned (.int .u64 (q : Int)) ∧ q < M.B ∧ q * (f * M.B + s) ≤ (h1 * M.B + h0) * M.B + x2 ∧
      (∀ Q, Q < M.B → Q * (f * M.B + s) ≤ (h1 * M.B + h0) * M.B + x2 → Q ≤ q) ∧ Drawn w w' := by
  obtain ⟨m, rfl⟩ : ∃ m, n = m + 2 := ⟨n - 2, by omega⟩
  rw [show m + 2 - 1 = m + 1 by omega] at c2 d1
  rw [show m + 2 - 2 = m by omega] at c3 d2
  have HH := Lib.hid hh
  clear hh
  go_enter Tryz.func225, Tryz.ntmps225
  go_wp2_with fail
  go_quiet (fail)
  have hdr : Drawn w (w.drewN nq) := (Drawn.refl w).drewN nq
  replace c3 : (w.drewN nq).cell? ⟨gx, ox + m, none⟩ = some (.int .u32 (x2 : Int)) := c3
  replace d1 : (w.drewN nq).cell? ⟨gy, oy + (m + 1), none⟩ = some (.int .u32 (f : Int)) := d1
  replace d2 : (w.drewN nq).cell? ⟨gy, oy + m, none⟩ = some (.int .u32 (s : Int)) := d2
  clear c1 c2
  generalize w.drewN nq = w2 at *
  rw [or_plain b1 b0]
  obtain ⟨hi, hhi⟩ : ∃ hi, hi = h1 * M.B + h0 := ⟨_, rfl⟩
  rw [← hhi]
  have HI := Lib.hid hhi
  clear hhi
  go_wp2_with fail
  go_quiet (fail)
  have hdr2 : Drawn w (w2.drewN nq) := hdr.drewN nq
  replace c3 : (w2.drewN nq).cell? ⟨gx, ox + m, none⟩ = some (.int .u32 (x2 : Int)) := c3
  clear d1 d2 hdr
  generalize w2.drewN nq = w3 at *
  have hf0 : (0 : Int) < (f : Int) := by omega
  have HF := Lib.hid hf
  clear hf
  have hfz : ((f : Int) == 0) = false := by rw [beq_eq_false_iff_ne]; omega
  go_wp2_with fail
  go_quiet (fail)
  have hdr : Drawn w (w3.drewN nq) := hdr2.drewN nq
  replace c3 : (w3.drewN nq).cell? ⟨gx, ox + m, none⟩ = some (.int .u32 (x2 : Int)) := c3
  clear hdr2
  generalize w3.drewN nq = w4 at *
  have hhi : hi ≤ 18446744073709551615 := by rw [HI.out, M.B_eq]; omega
  rw [show IntKind.u64.wrap ((hi : Int) / (f : Int)) = ((hi / f : Nat) : Int) by
        have h := Nat.div_le_self hi f
        rw [← Int.natCast_ediv]
        generalize hi / f = t at h ⊢
        rw [IntKind.wrap_u64]; omega,
      show ((hi : Int) % (f : Int)) = ((hi % f : Nat) : Int) from rfl]
  have hq0 : hi / f * f + hi % f = hi := by rw [Nat.mul_comm]; exact Nat.div_add_mod hi f
  have hr0 : hi % f < f := Nat.mod_lt _ (by omega)
  have hqm : hi / f ≤ hi := Nat.div_le_self hi f
  have hlow : ∀ Q, Q < M.B → Q * (f * M.B + s) ≤ hi * M.B + x2 → Q ≤ hi / f := by
    intro Q _ hQ
    refine (Nat.le_div_iff_mul_le (by omega)).2 ?_
    have e1 : Q * (f * M.B + s) = Q * f * M.B + Q * s := by rw [Nat.mul_add, Nat.mul_assoc]
    have h2 : Q * f * M.B < (hi + 1) * M.B := by rw [Nat.add_mul, Nat.one_mul]; have := M.B_eq; omega
    have := Nat.lt_of_mul_lt_mul_right h2
    omega
  obtain ⟨q0, hq⟩ : ∃ q0, q0 = hi / f := ⟨_, rfl⟩
  obtain ⟨r0, hr⟩ : ∃ r0, r0 = hi % f := ⟨_, rfl⟩
  rw [← hq, ← hr]
  rw [← hq] at hq0 hqm hlow
  rw [← hr] at hq0 hr0
  have HQ := Lib.hid (And.intro hq0 (And.intro hr0 (And.intro hlow hqm)))
  have hd4 := Lib.hid hdr
  clear hq hr hq0 hr0 hlow hqm hdr
  go_wp2_with fail
  go_loop [9, 10] (fun qv rv => ∃ q r : Nat, qv = .int .u64 (q : Int) ∧ rv = .int .u64 (r : Int) ∧ q ≤ 18446744073709551615 ∧ r ≤ 8589934590 ∧ q * f + r = hi ∧ ∀ Q, Q < M.B → Q * (f * M.B + s) ≤ hi * M.B + x2 → Q ≤ q) (fun qv _ => (intOf qv).toNat)
  case atStart => exact ⟨q0, r0, rfl, rfl, by have := HQ.out.2.2.2; omega, by have := HQ.out.2.1; omega, HQ.out.1, HQ.out.2.2.1⟩
  case round =>
    obtain ⟨q, r, rfl, rfl, hqb, hrb, hinv, hlow⟩ := hrel
    have HL := Lib.hid (And.intro hinv hlow)
    clear hinv hlow
    by_cases hr : r ≤ 4294967295
    · have hrz : ((r : Int) / 4294967296 == 0) = true := by rw [beq_iff_eq]; omega
      by_cases hq : q ≤ 4294967295
      · have hqz : ((q : Int) / 4294967296 != 0) = false := by rw [bne_eq_false_iff_eq]; omega
        have hor := or_plain hr b2
        obtain ⟨t, ht⟩ : ∃ t, t = r * M.B + x2 := ⟨_, rfl⟩
        rw [← ht] at hor
        have hpm := Nat.mul_le_mul hq bs
        obtain ⟨p, hp⟩ : ∃ p, p = q * s := ⟨_, rfl⟩
        rw [← hp] at hpm
        have hpi : (q : Int) * (s : Int) = (p : Int) := by rw [hp]; rfl
        have HT := Lib.hid (And.intro ht hp)
        clear ht hp
        by_cases hlt : t < p
        · have HS := Lib.hid (fun Q (h1 : Q < M.B) (h2 : Q * (f * M.B + s) ≤ hi * M.B + x2) => M.est_step rfl rfl HL.out.1 h2 (show r * M.B + x2 < q * s by rw [← HT.out.1, ← HT.out.2]; exact hlt))
          have hq1 : 1 ≤ q := by
            rcases Nat.eq_zero_or_pos q with h | h
            · exfalso
              have := HT.out.2
              rw [h, Nat.zero_mul] at this
              omega
            · exact h
          go_wp2
          go_round
          case rel =>
            refine ⟨q - 1, r + f, by go_num, by go_num, by omega, by omega, ?_, ?_⟩
            · obtain ⟨k, rfl⟩ : ∃ k, q = k + 1 := ⟨q - 1, by omega⟩
              have := HL.out.1
              rw [Nat.add_mul] at this
              rw [Nat.add_sub_cancel]; omega
            · intro Q h1 h2
              have := HS.out Q h1 h2
              omega
          case measure => simp [intOf]; omega
        · go_wp2
          go_ret
          refine ⟨q, rfl, by rw [M.B_eq]; omega, ?_, by rw [← HI.out]; exact HL.out.2, hd4.out⟩
          rw [← HI.out, ← HL.out.1, Nat.mul_add, Nat.add_mul, ← Nat.mul_assoc]
          have h1 := HT.out.1
          have h2 := HT.out.2
          omega
      · have hqz : ((q : Int) / 4294967296 != 0) = true := by rw [bne_iff_ne]; omega
        go_wp2
        go_round
        case rel =>
          refine ⟨q - 1, r + f, by go_num, by go_num, by omega, by omega, ?_, ?_⟩
          · obtain ⟨k, rfl⟩ : ∃ k, q = k + 1 := ⟨q - 1, by omega⟩
            have := HL.out.1
            rw [Nat.add_mul] at this
            rw [Nat.add_sub_cancel]; omega
          · intro Q h1 h2
            rw [M.B_eq] at h1
            omega
        case measure => simp [intOf]; omega
    · have hrz : ((r : Int) / 4294967296 == 0) = false := by rw [beq_eq_false_iff_ne]; omega
      have hB := M.B_eq
      have he := M.est_rest (x := x2) HL.out.1 (by rw [HI.out]; exact HH.out) (show s < M.B by omega) (show M.B ≤ r by omega)
      have HE := Lib.hid he
      clear he hB
      go_wp2
      go_ret
      refine ⟨q, rfl, HE.out.1, ?_, by rw [← HI.out]; exact HL.out.2, hd4.out⟩
      rw [← HI.out, ← HL.out.1, Nat.mul_add, Nat.add_mul, ← Nat.mul_assoc]
      have := HE.out.2
      omega
end Go.Proofs.YtjghgbfagjhdgaaGreatDoor
namespace Go.Proofs.YtjghgbfagjhdgaaGreatDoor
open Go Go.RowKit

/-- Limbs in another block than the one that is written. -/
theorem Limbs.grown {w w' : World} {A : Option Addr} {len n g : Nat} (h : Limbs w A len n) (hne : ∀ b off, A = some ⟨b, off, none⟩ → b ≠ g) (hg : w.grownBy w' (some g)) : Limbs w' A len n :=
  ⟨h.1, fun hl => by
    obtain ⟨b, off, e, hb, hh⟩ := h.2 hl
    refine ⟨b, off, e, Nat.lt_of_lt_of_le hb hg.size, fun i hi => ?_⟩
    rw [World.cell?_of_block (w := w) (hg.block b hb (fun e2 => by injection e2 with e2; exact hne b off e e2))]
    exact hh i hi⟩

theorem grown_drewN {a w : World} {r : Option Nat} (h : a.grownBy w r) (k : Nat) : a.grownBy (w.drewN k) r := ⟨h.os, h.tape, h.output, h.size, fun j hj hn => h.block j hj hn⟩
theorem dg_same {N u i : Nat} (h : N / M.B ^ i = u / M.B ^ i) : M.dg N i = M.dg u i := by unfold M.dg; rw [h]
theorem div_next {N u i : Nat} (h : N / M.B ^ i = u / M.B ^ i) : N / M.B ^ (i + 1) = u / M.B ^ (i + 1) := by
  rw [M.pow_succ', ← Nat.div_div_eq_div_mul, h, Nat.div_div_eq_div_mul]
theorem and_low {t : Nat} (h : t ≤ 18446744073709551615) : bits .and .u64 (t : Int) 4294967295 = ((t % M.B : Nat) : Int) := by
  rw [show (4294967295 : Int) = ((4294967295 : Nat) : Int) by rfl, u64_and_nat _ _ (by omega) (by omega), show (4294967295 : Nat) = 2 ^ 32 - 1 by rfl, Nat.and_two_pow_sub_one_eq_mod, M.B_eq]
/-- A digit less a limb and a borrow: the digit that is left, and the next borrow. -/
theorem sub_one {x low b : Nat} (hx : x ≤ 4294967295) (hl : low ≤ 4294967295) (hb : b ≤ 1) : ∃ d b' : Nat, d < M.B ∧ b' ≤ 1 ∧ x + b' * M.B = d + low + b ∧
    IntKind.u64.wrap (IntKind.u64.wrap ((x : Int) - (low : Int)) - (b : Int)) % 4294967296 = (d : Int) ∧ IntKind.u64.wrap (IntKind.u64.wrap ((x : Int) - (low : Int)) - (b : Int)) / 9223372036854775808 = (b' : Int) := by
  rw [sub_mod, sub_div _ _ _ (by omega) (by omega) (by omega) (by omega) (by omega) (by omega), M.B_eq]
  by_cases h : (x : Int) - low - b < 0
  · rw [if_pos h]
    exact ⟨x + 4294967296 - low - b, 1, by omega, by omega, by omega, by omega, rfl⟩
  · rw [if_neg h]
    exact ⟨x - low - b, 0, by omega, by omega, by omega, by omega, rfl⟩
theorem set_off {w : World} {g T N k d : Nat} {v : Int} (h : Row w g T N) (hk : k < T) (hd : d < M.B) (hv : v = (d : Int)) : Row (w.setCell ⟨g, k, none⟩ (.int .u32 v)) g T (M.put N k d) := by
  subst hv
  exact h.set hk hd
set_option maxHeartbeats 1600000 in
set_option maxRecDepth 100000 in
theorem addBack_any {w : World} {g T N o n D : Nat} {A' : Option Addr} (cx cy : Nat) (hr : Row w g T N) (hT : o + (n + 1) ≤ T) (hy : Limbs w A' n D) (hne : ∀ b off, A' = some ⟨b, off, none⟩ → b ≠ g) (hn : n ≤ 60000) :
    Calls Tryz.prog 227 #[.slice (some ⟨g, o, none⟩) (n + 1) cx, .slice A' n cy] w fun e w' => e = .returned (.tuple #[]) ∧ ∃ N' c, Row w' g T N' ∧ N' / M.B ^ (o + (n + 1)) = N / M.B ^ (o + (n + 1)) ∧ N' % M.B ^ (o + (n + 1)) + c * M.B ^ (o + (n + 1)) = N % M.B ^ (o + (n + 1)) + D % M.B ^ (n + 1) * M.B ^ o ∧ w.grownBy w' (some g) := by
  have H := Lib.hid (And.intro hr (And.intro hy hne))
  clear hr hy hne
  go_enter Tryz.func227, Tryz.ntmps227
  go_wp2_with fail
  go_loopw [4, 8] (fun cv iv wr => ∃ j c Nr : Nat, j ≤ n + 1 ∧ iv = .int .i64 (j : Int) ∧ cv = .int .u64 (c : Int) ∧ c ≤ 1 ∧ Row wr g T Nr ∧ Nr / M.B ^ (o + j) = N / M.B ^ (o + j) ∧ Nr % M.B ^ (o + j) + c * M.B ^ (o + j) = N % M.B ^ (o + j) + D % M.B ^ j * M.B ^ o ∧ w.grownBy wr (some g)) (fun _ iv _ => n + 1 - (intOf iv).toNat)
  case atStart => exact ⟨0, 0, N, by omega, rfl, rfl, by omega, H.out.1, rfl, by simp [Nat.mod_one], only_refl _ _⟩
  case round =>
    obtain ⟨j, c, Nr, hj, rfl, rfl, hc, hr, hd, he, hg⟩ := hrel
    have hlim := H.out.2.1.grown H.out.2.2 hg
    have HE := Lib.hid (And.intro hd (And.intro he hg))
    clear hd he hg
    by_cases hlt : j < n + 1
    · have hcell := hr.cell (show o + j < T by omega)
      have hfree := hr.free (o + j)
      have hdx := M.dg_le Nr (o + j)
      have hdy := M.dg_le D j
      have HR := Lib.hid hr
      clear hr
      go_wp2_with fail
      go_quiet ((go_at_call 206; exact Calls.quiet_left (limb_any cy j (by assumption) (by omega) (by omega))))
      have hrow : Row (wr.drewN nq) g T Nr := HR.out.drewN nq
      have hgr : w.grownBy (wr.drewN nq) (some g) := grown_drewN HE.out.2.2 nq
      have hcell2 := hrow.cell (show o + j < T by omega)
      have hfree2 := hrow.free (o + j)
      have HW := Lib.hid (And.intro hrow hgr)
      clear hlim hcell hfree hrow hgr
      generalize wr.drewN nq = w2 at *
      go_wp2
      go_roundw
      case rel =>
        have hs := dg_same HE.out.1
        refine ⟨j + 1, (c + (M.dg N (o + j) + M.dg D j)) / M.B, M.put Nr (o + j) ((c + (M.dg N (o + j) + M.dg D j)) % M.B), by omega, by go_num, ?_, ?_, set_off HW.out.1 (by omega) (Nat.mod_lt _ M.B_pos) ?_, ?_, M.add_step HE.out.2.1, only_set HW.out.2 _ _⟩
        · rw [← cast_div, hs]; push_cast; rfl
        · rw [hs] at hdx
          have hB := M.B_eq
          exact Nat.le_of_lt_succ ((Nat.div_lt_iff_lt_mul M.B_pos).2 (by omega))
        · rw [← cast_mod, hs]; push_cast; rfl
        · rw [show o + (j + 1) = o + j + 1 by omega, M.put_div_succ _ _ (Nat.mod_lt _ M.B_pos)]
          exact div_next HE.out.1
      case measure => simp [intOf]; omega
    · obtain rfl : j = n + 1 := by omega
      have HR := Lib.hid hr
      clear hr
      go_wp2
      go_end0
      exact ⟨rfl, Nr, c, HR.out, HE.out.1, HE.out.2.1, HE.out.2.2⟩

set_option maxHeartbeats 1600000 in
set_option maxRecDepth 100000 in
theorem subtractProduct_any {w : World} {g T N o n D q : Nat} {A' : Option Addr} (cx cy : Nat) (hr : Row w g T N) (hT : o + (n + 1) ≤ T) (hy : Limbs w A' n D) (hne : ∀ b off, A' = some ⟨b, off, none⟩ → b ≠ g) (hn : n ≤ 60000) (hq : q ≤ 4294967295) :
    Calls Tryz.prog 226 #[.slice (some ⟨g, o, none⟩) (n + 1) cx, .slice A' n cy, .int .u64 (q : Int)] w fun e w' => ∃ b c N' : Nat, e = .returned (.bool (decide (b ≠ 0))) ∧ b ≤ 1 ∧ Row w' g T N' ∧ N' / M.B ^ (o + (n + 1)) = N / M.B ^ (o + (n + 1)) ∧
      N' % M.B ^ (o + (n + 1)) + D % M.B ^ (n + 1) * q * M.B ^ o = N % M.B ^ (o + (n + 1)) + (b + c) * M.B ^ (o + (n + 1)) ∧ c * M.B ^ (n + 1) ≤ D % M.B ^ (n + 1) * q ∧ w.grownBy w' (some g) := by
  have H := Lib.hid (And.intro hr (And.intro hy hne))
  clear hr hy hne
  go_enter Tryz.func226, Tryz.ntmps226
  go_wp2_with fail
  go_loopw [7, 8, 13] (fun cv bv iv wr => ∃ j c b Nr : Nat, j ≤ n + 1 ∧ iv = .int .i64 (j : Int) ∧ cv = .int .u64 (c : Int) ∧ bv = .int .u64 (b : Int) ∧ c ≤ 4294967295 ∧ b ≤ 1 ∧ Row wr g T Nr ∧ Nr / M.B ^ (o + j) = N / M.B ^ (o + j) ∧
    Nr % M.B ^ (o + j) + D % M.B ^ j * q * M.B ^ o = N % M.B ^ (o + j) + (b + c) * M.B ^ (o + j) ∧ c * M.B ^ j ≤ D % M.B ^ j * q ∧ w.grownBy wr (some g)) (fun _ _ iv _ => n + 1 - (intOf iv).toNat)
  case atStart => exact ⟨0, 0, 0, N, by omega, rfl, rfl, rfl, by omega, by omega, H.out.1, rfl, by simp [Nat.mod_one], by simp, only_refl _ _⟩
  case round =>
    obtain ⟨j, c, b, Nr, hj, rfl, rfl, rfl, hc, hb, hr, hd, he, hcb, hg⟩ := hrel
    have hlim := H.out.2.1.grown H.out.2.2 hg
    have HE := Lib.hid (And.intro hd (And.intro he (And.intro hcb hg)))
    clear hd he hcb hg
    by_cases hlt : j < n + 1
    · have hcell := hr.cell (show o + j < T by omega)
      have hfree := hr.free (o + j)
      have hdx := M.dg_le Nr (o + j)
      have hdy := M.dg_le D j
      have HR := Lib.hid hr
      clear hr
      have hpm := Nat.mul_le_mul hdy hq
      obtain ⟨x, hx⟩ : ∃ x, x = M.dg Nr (o + j) := ⟨_, rfl⟩
      rw [← hx] at hcell hdx
      obtain ⟨p, hp⟩ : ∃ p, p = M.dg D j * q := ⟨_, rfl⟩
      have hpi : (M.dg D j : Int) * (q : Int) = (p : Int) := by rw [hp]; rfl
      rw [← hp] at hpm
      have HP := Lib.hid (And.intro hx hp)
      clear hx hp
      go_wp2_with (go_at_call 206; refine (limb_any _ _ (by assumption) (by omega) (by omega)).mono ?_; rintro e w' ⟨rfl, rfl⟩)
      obtain ⟨t, ht⟩ : ∃ t, t = c + p := ⟨_, rfl⟩
      rw [show ((c : Int) + (p : Int)) = (t : Int) by rw [ht]; rfl, and_low (by omega)]
      have hlow := Nat.mod_lt t M.B_pos
      obtain ⟨d, b', hd, hb', hsum, e1, e2⟩ := sub_one (x := x) (low := t % M.B) (b := b) hdx (by have := M.B_eq; omega) hb
      rw [e1, e2, cast_div]
      go_roundw
      case rel =>
        have hs := dg_same HE.out.1
        have hx : x = M.dg N (o + j) := HP.out.1.trans hs
        have hc' : c + M.dg D j * q = t % M.B + t / M.B * M.B := by rw [← HP.out.2, ← ht, Nat.mul_comm (t / M.B)]; exact (Nat.mod_add_div t M.B).symm
        have hcn := M.sub_carry HE.out.2.2.1 hc'
        refine ⟨j + 1, t / M.B, b', M.put Nr (o + j) d, by omega, by go_num, rfl, rfl, ?_, hb', set_off HR.out (by omega) hd rfl, ?_, M.sub_step HE.out.2.1 hd hc' (by rw [← hx]; exact hsum), hcn, only_set HE.out.2.2.2 _ _⟩
        · have hB := M.B_eq
          exact Nat.le_of_lt_succ ((Nat.div_lt_iff_lt_mul M.B_pos).2 (by omega))
        · rw [show o + (j + 1) = o + j + 1 by omega, M.put_div_succ _ _ hd]
          exact div_next HE.out.1
      case measure => simp [intOf]; omega
    · obtain rfl : j = n + 1 := by omega
      have HR := Lib.hid hr
      clear hr
      by_cases h0 : b = 0
      · subst h0
        go_wp2
        go_ret
        exact ⟨0, c, Nr, rfl, by omega, HR.out, HE.out.1, HE.out.2.1, HE.out.2.2.1, HE.out.2.2.2⟩
      · obtain rfl : b = 1 := by omega
        go_wp2
        go_ret
        exact ⟨1, c, Nr, rfl, by omega, HR.out, HE.out.1, HE.out.2.1, HE.out.2.2.1, HE.out.2.2.2⟩
end Go.Proofs.YtjghgbfagjhdgaaGreatDoor
namespace Go.Proofs.YtjghgbfagjhdgaaGreatDoor
open Go Go.RowKit

theorem mul_halves {x0 x1 y0 y1 w0l w0h t tl th w1 w1l w1h β : Nat} (e0 : x0 * y0 = w0l + β * w0h) (et : x1 * y0 + w0h = t) (es : t = tl + β * th) (ew : tl + x0 * y1 = w1) (ev : w1 = w1l + β * w1h) :
    (x1 * β + x0) * (y1 * β + y0) = (x1 * y1 + th + w1h) * (β * β) + (w1l * β + w0l) := by grind

theorem and_low' {t : Nat} (h : t ≤ 18446744073709551615) : bits .and .u64 (t : Int) 4294967295 = ((t % 4294967296 : Nat) : Int) := by rw [and_low h, M.B_eq]
theorem cast_div' (t : Nat) : ((t : Int) / 4294967296) = ((t / 4294967296 : Nat) : Int) := rfl
set_option maxHeartbeats 800000 in
theorem mul64_any {w : World} (x y : Nat) (hx : x ≤ 18446744073709551615) (hy : y ≤ 18446744073709551615) :
    Calls Tryz.prog 118 #[.int .u64 (x : Int), .int .u64 (y : Int)] w fun e w' => e = .returned (.tuple #[.int .u64 ((x * y / 18446744073709551616 : Nat) : Int), .int .u64 ((x * y % 18446744073709551616 : Nat) : Int)]) ∧ w = w' := by
  obtain ⟨x0, hx0⟩ : ∃ x0, x0 = x % 4294967296 := ⟨_, rfl⟩
  obtain ⟨x1, hx1⟩ : ∃ x1, x1 = x / 4294967296 := ⟨_, rfl⟩
  obtain ⟨y0, hy0⟩ : ∃ y0, y0 = y % 4294967296 := ⟨_, rfl⟩
  obtain ⟨y1, hy1⟩ : ∃ y1, y1 = y / 4294967296 := ⟨_, rfl⟩
  have bx0 : x0 ≤ 4294967295 := by omega
  have bx1 : x1 ≤ 4294967295 := by omega
  have by0 : y0 ≤ 4294967295 := by omega
  have by1 : y1 ≤ 4294967295 := by omega
  have hxe : x = x1 * 4294967296 + x0 := by omega
  have hye : y = y1 * 4294967296 + y0 := by omega
  have p0 := Nat.mul_le_mul bx0 by0
  have p1 := Nat.mul_le_mul bx1 by0
  have p2 := Nat.mul_le_mul bx0 by1
  have p3 := Nat.mul_le_mul bx1 by1
  obtain ⟨w0, hw0⟩ : ∃ w0, w0 = x0 * y0 := ⟨_, rfl⟩
  obtain ⟨m1, hm1⟩ : ∃ m1, m1 = x1 * y0 := ⟨_, rfl⟩
  obtain ⟨m2, hm2⟩ : ∃ m2, m2 = x0 * y1 := ⟨_, rfl⟩
  obtain ⟨m3, hm3⟩ : ∃ m3, m3 = x1 * y1 := ⟨_, rfl⟩
  have i0 : (x0 : Int) * (y0 : Int) = (w0 : Int) := by rw [hw0]; rfl
  have i1 : (x1 : Int) * (y0 : Int) = (m1 : Int) := by rw [hm1]; rfl
  have i2 : (x0 : Int) * (y1 : Int) = (m2 : Int) := by rw [hm2]; rfl
  have i3 : (x1 : Int) * (y1 : Int) = (m3 : Int) := by rw [hm3]; rfl
  rw [← hw0] at p0
  rw [← hm1] at p1
  rw [← hm2] at p2
  rw [← hm3] at p3
  obtain ⟨w0h, hw0h⟩ : ∃ w0h, w0h = w0 / 4294967296 := ⟨_, rfl⟩
  obtain ⟨t, ht⟩ : ∃ t, t = m1 + w0h := ⟨_, rfl⟩
  have bt : t ≤ 18446744073709551615 := by omega
  obtain ⟨tl, htl⟩ : ∃ tl, tl = t % 4294967296 := ⟨_, rfl⟩
  obtain ⟨th, hth⟩ : ∃ th, th = t / 4294967296 := ⟨_, rfl⟩
  obtain ⟨w1, hw1⟩ : ∃ w1, w1 = tl + m2 := ⟨_, rfl⟩
  have bw1 : w1 ≤ 18446744073709551615 := by omega
  obtain ⟨w1h, hw1h⟩ : ∃ w1h, w1h = w1 / 4294967296 := ⟨_, rfl⟩
  have jt : (m1 : Int) + (w0h : Int) = (t : Int) := by omega
  have jw : (tl : Int) + (m2 : Int) = (w1 : Int) := by omega
  have key := mul_halves (x0 := x0) (x1 := x1) (y0 := y0) (y1 := y1) (w0l := w0 % 4294967296) (w0h := w0h) (t := t) (tl := tl) (th := th) (w1 := w1) (w1l := w1 % 4294967296) (w1h := w1h) (β := 4294967296)
    (by rw [← hw0]; omega) (by rw [← hm1, ht]) (by omega) (by rw [← hm2, hw1]) (by omega)
  rw [← hxe, ← hye, ← hm3] at key
  have bhi : m3 + th + w1h ≤ 18446744073709551615 := by omega
  have b2 : m3 + th ≤ 18446744073709551615 := by omega
  have hhi : x * y / 18446744073709551616 = m3 + th + w1h := by omega
  obtain ⟨lo, hlo2⟩ : ∃ lo, lo = x * y % 18446744073709551616 := ⟨_, rfl⟩
  have il : IntKind.u64.wrap ((x : Int) * (y : Int)) = (lo : Int) := by
    rw [IntKind.wrap_u64, hlo2, ← Int.natCast_mul]
    generalize x * y = z
    omega
  have ax0 := and_low' hx
  have ay0 := and_low' hy
  have ax1 := cast_div' x
  have ay1 := cast_div' y
  have at0 := and_low' bt
  have at1 := cast_div' t
  have j0 := cast_div' w0
  have j1 := cast_div' w1
  rw [← hx0] at ax0
  rw [← hy0] at ay0
  rw [← hx1] at ax1
  rw [← hy1] at ay1
  rw [← hw0h] at j0
  rw [← htl] at at0
  rw [← hth] at at1
  rw [← hw1h] at j1
  have HE := Lib.hid (And.intro hhi hlo2)
  clear hhi hlo2 key hx0 hx1 hy0 hy1 hxe hye hw0 hm1 hm2 hm3 hw0h ht htl hth hw1 hw1h
  rw [HE.out.1, ← HE.out.2]
  go_enter Tryz.func118, Tryz.ntmps118
  go_wp2
  go_ret2
  exact ⟨rfl, rfl⟩
end Go.Proofs.YtjghgbfagjhdgaaGreatDoor
