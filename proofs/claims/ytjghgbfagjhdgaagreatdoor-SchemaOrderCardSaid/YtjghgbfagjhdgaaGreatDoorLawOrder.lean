/- Sign and Compare of package integer on texts of numbers. Small on the text of an int; the law IntegerOrder. -/
import Derived.Test.YtjghgbfagjhdgaaGreatDoorNum
namespace Go.Proofs.YtjghgbfagjhdgaaGreatDoor
open Go Go.RowKit

theorem valid_c {w : World} (s : ByteArray) {b : Bool} (h : vld s.data.toList = b) : Calls Tryz.prog 192 #[.string s] w fun e w' => e = .returned (.bool b) ∧ w = w' := by
  subst h
  exact valid_any s
theorem num_cons (c : UInt8) (l : List UInt8) : T.num (c :: l) = (c.toNat - 48) * 10 ^ l.length + T.num l := by
  unfold T.num
  rw [T.numA_cons, T.numA_eq, Nat.zero_mul, Nat.zero_add]
theorem less_digits : ∀ (l r : List UInt8), l.length = r.length → (∀ c ∈ l, T.digit c = true) → (∀ c ∈ r, T.digit c = true) → Op.bytesLess l r = decide (T.num l < T.num r)
  | [], [], _, _, _ => by simp [Op.bytesLess, T.num, T.numA]
  | [], _ :: _, h, _, _ => by simp at h
  | _ :: _, [], h, _, _ => by simp at h
  | a :: x, b :: y, h, hl, hr => by
    have hlen : x.length = y.length := by simpa using h
    have ih := less_digits x y hlen (fun c hc => hl c (List.mem_cons_of_mem _ hc)) (fun c hc => hr c (List.mem_cons_of_mem _ hc))
    have h1 := T.num_lt x (fun c hc => hl c (List.mem_cons_of_mem _ hc))
    have h2 := T.num_lt y (fun c hc => hr c (List.mem_cons_of_mem _ hc))
    have h3 := T.digit_iff.1 (hl a (List.mem_cons_self ..))
    have h4 := T.digit_iff.1 (hr b (List.mem_cons_self ..))
    unfold Op.bytesLess
    rw [num_cons, num_cons, ih, hlen]
    rw [hlen] at h1
    generalize T.num x = m at *
    generalize T.num y = n at *
    generalize 10 ^ y.length = p at *
    have hab : a < b ↔ a.toNat < b.toNat := UInt8.lt_iff_toNat_lt
    have heq : a = b ↔ a.toNat = b.toNat := ⟨fun h => by rw [h], fun h => UInt8.toNat.inj h⟩
    rcases Nat.lt_trichotomy a.toNat b.toNat with h5 | h5 | h5
    · rw [decide_eq_true (hab.2 h5), Bool.true_or]
      symm
      apply decide_eq_true
      have h6 : (a.toNat - 48) * p + p ≤ (b.toNat - 48) * p := by
        rw [← Nat.succ_mul]
        exact Nat.mul_le_mul_right _ (by omega)
      omega
    · rw [decide_eq_false (fun h => by have := hab.1 h; omega), (beq_iff_eq).2 (heq.2 h5), h5, Bool.false_or, Bool.true_and]
      by_cases h6 : m < n
      · rw [decide_eq_true h6, decide_eq_true (by omega)]
      · rw [decide_eq_false h6, decide_eq_false (by omega)]
    · rw [decide_eq_false (fun h => by have := hab.1 h; omega), (beq_eq_false_iff_ne).2 (fun h => by have := heq.1 h; omega), Bool.false_or, Bool.false_and]
      symm
      apply decide_eq_false
      have h6 : (b.toNat - 48) * p + p ≤ (a.toNat - 48) * p := by
        rw [← Nat.succ_mul]
        exact Nat.mul_le_mul_right _ (by omega)
      omega

/-- What cmp.Compare gives on two texts. -/
def cmpS (s t : ByteArray) : Int := if Op.bytesLess s.toList t.toList = true then -1 else if (s.toList == t.toList) = true then 0 else 1
set_option maxHeartbeats 400000 in
set_option maxRecDepth 100000 in
theorem cmp_str (s t : ByteArray) (w : World) : Calls Tryz.prog 219 #[.string s, .string t] w fun e w' => e = .returned (.int .i64 (cmpS s t)) ∧ w = w' := by
  unfold cmpS
  by_cases h1 : Op.bytesLess s.toList t.toList = true
  · rw [if_pos h1]
    go_enter Tryz.func219, Tryz.ntmps219
    go_wp2
    go_ret
    exact ⟨rfl, rfl⟩
  · rw [if_neg h1]
    have h1' : Op.bytesLess s.toList t.toList = false := by simpa using h1
    clear h1
    by_cases h2 : (s.toList == t.toList) = true
    · rw [if_pos h2]
      go_enter Tryz.func219, Tryz.ntmps219
      go_wp2
      go_ret
      exact ⟨rfl, rfl⟩
    · rw [if_neg h2]
      have h2' : (s.toList == t.toList) = false := by simpa using h2
      clear h2
      go_enter Tryz.func219, Tryz.ntmps219
      go_wp2
      go_ret
      exact ⟨rfl, rfl⟩

/-- A text of a number, by its sign. -/
theorem num_facts {s : ByteArray} {z : Int} {k : Nat} (h : Num s z k) (h1 : 1 ≤ k) (hk : k ≤ 400) : ∃ hp : 0 < s.size, s.size ≤ 500 ∧ vld s.data.toList = true ∧ (s.toList == [48]) = decide (z = 0) ∧ ((s[0].toNat : Int) == 45) = decide (z < 0) := by
  have hl := Lib.size_eq s
  have hd : (Lib.decDigits z.natAbs).length ≤ k := by rw [Lib.decDigits_length]; exact nDigits_le h1 h.2
  have hd1 : 1 ≤ (Lib.decDigits z.natAbs).length := by rw [Lib.decDigits_length]; exact Lib.nDigits_pos _
  have hget : ∀ hp : 0 < s.size, s.data.toList[0]? = some s[0] := fun hp => by
    rw [List.getElem?_eq_getElem (by omega)]; rfl
  have hv : vld s.data.toList = true := by rw [h.1]; exact vld_itoa (h.nd h1 hk)
  have hz : (s.toList == [48]) = decide (z = 0) := by
    rw [Lib.toList_data, h.1]
    by_cases h0 : z = 0
    · subst h0; decide +kernel
    · rw [decide_eq_false h0, beq_eq_false_iff_ne]
      exact fun e => h0 (itoa_zero e)
  by_cases hn : z < 0
  · have e := h.1
    rw [T.itoa_neg hn] at e
    have hp : 0 < s.size := by rw [hl, e]; simp
    refine ⟨hp, by rw [hl, e, List.length_cons]; omega, hv, hz, ?_⟩
    have := hget hp
    rw [e] at this
    rw [decide_eq_true hn, ← Option.some.inj this]; rfl
  · have e := h.1
    rw [T.itoa_nonneg hn] at e
    have hp : 0 < s.size := by rw [hl, e]; omega
    refine ⟨hp, by rw [hl, e]; omega, hv, hz, ?_⟩
    rw [decide_eq_false hn, beq_eq_false_iff_ne]
    intro h45
    have h1 := hget hp
    rw [e] at h1
    have h2 := T.digit_iff.1 (T.decDigits_digit _ _ (List.mem_of_getElem? h1))
    omega

set_option maxHeartbeats 400000 in
set_option maxRecDepth 100000 in
theorem sign_num {w : World} {s : ByteArray} {z : Int} {k : Nat} (h : Num s z k) (h1 : 1 ≤ k) (hk : k ≤ 400) :
    Calls Tryz.prog 217 #[.string s] w fun e w' => e = .returned (.int .i64 (sgn z)) ∧ w = w' := by
  obtain ⟨hp, hs, hv, hz, hm⟩ := num_facts h h1 hk
  clear h
  have HV := Lib.hid hv
  clear hv
  unfold sgn
  rcases Int.lt_trichotomy z 0 with h0 | h0 | h0
  · rw [decide_eq_false (by omega)] at hz
    rw [decide_eq_true h0] at hm
    go_enter Tryz.func217, Tryz.ntmps217
    go_wp2_with fail
    refine (valid_c s HV.out).mono ?_
    rintro e w1 ⟨rfl, rfl⟩
    go_wp2
    go_ret
    exact ⟨rfl, rfl⟩
  · subst h0
    rw [decide_eq_true rfl] at hz
    go_enter Tryz.func217, Tryz.ntmps217
    go_wp2_with fail
    refine (valid_c s HV.out).mono ?_
    rintro e w1 ⟨rfl, rfl⟩
    go_wp2
    go_ret
    exact ⟨rfl, rfl⟩
  · rw [decide_eq_false (by omega)] at hz
    rw [decide_eq_false (by omega)] at hm
    go_enter Tryz.func217, Tryz.ntmps217
    go_wp2_with fail
    refine (valid_c s HV.out).mono ?_
    rintro e w1 ⟨rfl, rfl⟩
    go_wp2
    go_ret
    exact ⟨rfl, rfl⟩

set_option maxHeartbeats 400000 in
set_option maxRecDepth 100000 in
theorem or_two {w : World} {B : Nat} (a b : Int) {r : Int} (hr : r = if a = 0 then b else a) (ha : w.cell? ⟨B, 0, none⟩ = some (.int .i64 a)) (hb : w.cell? ⟨B, 1, none⟩ = some (.int .i64 b)) :
    Calls Tryz.prog 218 #[.slice (some ⟨B, 0, none⟩) 2 2] w fun e w' => e = .returned (.int .i64 r) ∧ w = w' := by
  have HR := Lib.hid hr
  clear hr
  go_enter Tryz.func218, Tryz.ntmps218
  go_wp2_with fail
  go_loop [8] (fun iv => ∃ k : Nat, k ≤ 2 ∧ iv = .int .i64 (k : Int) ∧ (0 < k → a = 0) ∧ (1 < k → b = 0)) (fun iv => 2 - (intOf iv).toNat)
  case atStart => exact ⟨0, by omega, rfl, fun h => absurd h (by omega), fun h => absurd h (by omega)⟩
  case round =>
    obtain ⟨k, hk, rfl, h1, h2⟩ := hrel
    rcases (show k = 0 ∨ k = 1 ∨ k = 2 by omega) with rfl | rfl | rfl
    · by_cases h0 : a = 0
      · subst h0
        go_wp2
        go_round
        case rel => exact ⟨1, by omega, rfl, fun _ => by trivial, fun h => absurd h (by omega)⟩
        case measure => simp [intOf]
      · have hn : (a != 0) = true := by rw [bne_iff_ne]; exact h0
        go_wp2
        go_ret
        exact ⟨by rw [HR.out, if_neg h0]; rfl, rfl⟩
    · obtain rfl := h1 (by omega)
      by_cases h0 : b = 0
      · subst h0
        go_wp2
        go_round
        case rel => exact ⟨2, by omega, rfl, fun _ => by trivial, fun _ => by trivial⟩
        case measure => simp [intOf]
      · have hn : (b != 0) = true := by rw [bne_iff_ne]; exact h0
        go_wp2
        go_ret
        exact ⟨by rw [HR.out]; simp, rfl⟩
    · obtain rfl := h1 (by omega)
      obtain rfl := h2 (by omega)
      go_wp2
      go_ret
      exact ⟨by rw [HR.out]; simp, rfl⟩

theorem cmpI_range (a b : Int) : -1 ≤ cmpI a b ∧ cmpI a b ≤ 1 := by
  unfold cmpI
  split
  · omega
  · split <;> omega
theorem cmpS_range (s t : ByteArray) : -1 ≤ cmpS s t ∧ cmpS s t ≤ 1 := by
  unfold cmpS
  split
  · omega
  · split <;> omega
theorem cmpI_zero {a b : Int} : cmpI a b = 0 ↔ a = b := by
  unfold cmpI
  split
  · omega
  · split <;> omega
theorem dec_longer {a b : Nat} (h : (Lib.decDigits a).length < (Lib.decDigits b).length) : a < b := by
  have h1 := T.num_lt _ (T.decDigits_digit a)
  rw [T.num_decDigits] at h1
  have h2 : 1 ≤ (Lib.decDigits a).length := by rw [Lib.decDigits_length]; exact Lib.nDigits_pos _
  rw [Lib.decDigits_length b] at h
  rcases Nat.lt_or_ge b (10 ^ (Lib.decDigits a).length) with h3 | h3
  · have := nDigits_le h2 h3; omega
  · omega
theorem cmp_dec (a b : Nat) :
    (if cmpI ((Lib.decDigits a).length : Int) (Lib.decDigits b).length = 0 then (if Op.bytesLess (Lib.decDigits a) (Lib.decDigits b) = true then -1 else if (Lib.decDigits a == Lib.decDigits b) = true then 0 else 1) else cmpI ((Lib.decDigits a).length : Int) (Lib.decDigits b).length) = cmpI (a : Int) b := by
  by_cases hl : (Lib.decDigits a).length = (Lib.decDigits b).length
  · rw [if_pos (cmpI_zero.2 (by omega)), less_digits _ _ hl (T.decDigits_digit a) (T.decDigits_digit b), T.num_decDigits, T.num_decDigits]
    unfold cmpI
    by_cases h1 : a < b
    · rw [decide_eq_true h1, if_pos rfl, if_pos (by omega)]
    · rw [decide_eq_false h1, if_neg Bool.false_ne_true]
      by_cases h2 : a = b
      · subst h2
        rw [if_pos (beq_self_eq_true _), if_neg (by omega), if_neg (by omega)]
      · rw [if_neg (fun h : (Lib.decDigits a == Lib.decDigits b) = true => h2 (by rw [← T.num_decDigits a, beq_iff_eq.1 h, T.num_decDigits])), if_neg (by omega), if_pos (by omega)]
  · rw [if_neg (fun h => hl (by have := cmpI_zero.1 h; omega))]
    unfold cmpI
    rcases Nat.lt_or_ge (Lib.decDigits a).length (Lib.decDigits b).length with h1 | h1
    · have := dec_longer h1
      rw [if_pos (by omega), if_pos (by omega)]
    · have := dec_longer (show (Lib.decDigits b).length < (Lib.decDigits a).length by omega)
      rw [if_neg (by omega), if_pos (by omega), if_neg (by omega), if_pos (by omega)]
/-- What the two comparisons say. -/
theorem cmp_texts {s t : ByteArray} {p q : Int} {k m : Nat} (hs : Num s p k) (ht : Num t q m) (hsg : sgn p = sgn q) :
    sgn p * (if cmpI (s.size : Int) t.size = 0 then cmpS s t else cmpI (s.size : Int) t.size) = cmpI p q := by
  have hd := cmp_dec p.natAbs q.natAbs
  unfold cmpS
  rw [Lib.toList_data, Lib.toList_data, Lib.size_eq, Lib.size_eq, hs.1, ht.1]
  by_cases h1 : p < 0
  · have h2 : q < 0 := by
      unfold sgn at hsg
      rw [if_pos h1] at hsg
      rcases Int.lt_or_le q 0 with h | h
      · exact h
      · rw [if_neg (by omega)] at hsg
        split at hsg <;> omega
    rw [T.itoa_neg h1, T.itoa_neg h2]
    have e1 : Op.bytesLess (45 :: Lib.decDigits p.natAbs) (45 :: Lib.decDigits q.natAbs) = Op.bytesLess (Lib.decDigits p.natAbs) (Lib.decDigits q.natAbs) := by
      rw [Op.bytesLess]; simp
    have e2 : ((45 :: Lib.decDigits p.natAbs) == (45 :: Lib.decDigits q.natAbs)) = (Lib.decDigits p.natAbs == Lib.decDigits q.natAbs) := by
      simp
    have e3 : cmpI ((45 :: Lib.decDigits p.natAbs).length : Int) (45 :: Lib.decDigits q.natAbs).length = cmpI ((Lib.decDigits p.natAbs).length : Int) (Lib.decDigits q.natAbs).length := by
      rw [List.length_cons, List.length_cons]
      unfold cmpI
      congr 1
      · simp
      · congr 1; simp
    rw [e1, e2, e3, hd]
    unfold sgn cmpI
    rw [if_pos h1]
    rcases Int.lt_trichotomy p q with h3 | h3 | h3
    · rw [if_neg (by omega), if_pos (by omega), if_pos h3]; rfl
    · subst h3
      rw [if_neg (by omega), if_neg (by omega), if_neg (by omega), if_neg (by omega)]; rfl
    · rw [if_pos (by omega), if_neg (by omega), if_pos h3]; rfl
  · have h2 : ¬ q < 0 := by
      intro h
      unfold sgn at hsg
      rw [if_neg h1, if_pos h] at hsg
      split at hsg <;> omega
    rw [T.itoa_nonneg h1, T.itoa_nonneg h2, hd]
    rw [show ((p.natAbs : Nat) : Int) = p by omega, show ((q.natAbs : Nat) : Int) = q by omega]
    unfold sgn at hsg ⊢
    rw [if_neg h1] at hsg ⊢
    rw [if_neg h2] at hsg
    by_cases h3 : 0 < p
    · rw [if_pos h3, Int.one_mul]
    · rw [if_neg h3, Int.zero_mul]
      rw [if_neg h3] at hsg
      have h4 : ¬ 0 < q := by
        intro h
        rw [if_pos h] at hsg
        omega
      rw [cmpI_zero.2 (by omega)]

theorem sgn_cases (z : Int) : sgn z = -1 ∨ sgn z = 0 ∨ sgn z = 1 := by
  unfold sgn
  split
  · exact .inl rfl
  · split
    · exact .inr (.inr rfl)
    · exact .inr (.inl rfl)
theorem cmp_sgn {p q : Int} (h : cmpI (sgn p) (sgn q) ≠ 0) : cmpI (sgn p) (sgn q) = cmpI p q := by
  unfold sgn cmpI at *
  repeat' split
  all_goals (first | rfl | omega | (simp_all <;> omega))

set_option maxHeartbeats 1600000 in
set_option maxRecDepth 100000 in
theorem compare_num {w : World} {s t : ByteArray} {p q : Int} {k : Nat} (hs : Num s p k) (ht : Num t q k) (h1 : 1 ≤ k) (hk : k ≤ 400) :
    Calls Tryz.prog 193 #[.string s, .string t] w fun e w' => e = .returned (.int .i64 (cmpI p q)) ∧ Below w.heap.size w w' := by
  obtain ⟨_, hs1, hv1, _, _⟩ := num_facts hs h1 hk
  obtain ⟨_, ht1, hv2, _, _⟩ := num_facts ht h1 hk
  have H := Lib.hid (And.intro hs (And.intro ht (And.intro hv1 hv2)))
  clear hs ht hv1 hv2
  obtain ⟨c, hcd⟩ : ∃ c, c = cmpI p q := ⟨_, rfl⟩
  rw [← hcd]
  have HCD := Lib.hid hcd
  clear hcd
  go_enter Tryz.func193, Tryz.ntmps193
  go_wp2_with fail
  refine (valid_c s H.out.2.2.1).mono ?_
  rintro e w1 ⟨rfl, rfl⟩
  go_wp2_with fail
  refine (valid_c t H.out.2.2.2).mono ?_
  rintro e w1 ⟨rfl, rfl⟩
  go_wp2_with fail
  refine (sign_num H.out.1 h1 hk).mono ?_
  rintro e w1 ⟨rfl, rfl⟩
  obtain ⟨sp, hsp⟩ : ∃ sp, sp = sgn p := ⟨_, rfl⟩
  obtain ⟨sq, hsq⟩ : ∃ sq, sq = sgn q := ⟨_, rfl⟩
  have hsp3 : sp = -1 ∨ sp = 0 ∨ sp = 1 := by rw [hsp]; exact sgn_cases p
  have HS := Lib.hid (And.intro hsp hsq)
  rw [← hsp]
  clear hsp hsq
  go_wp2_with fail
  refine (sign_num H.out.2.1 h1 hk).mono ?_
  rw [← HS.out.2]
  rintro e w1 ⟨rfl, rfl⟩
  obtain ⟨c0, hc0⟩ : ∃ c0, c0 = cmpI sp sq := ⟨_, rfl⟩
  go_wp2_with fail
  refine (cmp_int sp sq _).mono ?_
  rw [← hc0]
  rintro e w1 ⟨rfl, rfl⟩
  by_cases hz : c0 = 0
  · have hzb : (c0 != 0) = false := by rw [hz]; rfl
    have hsg : sgn p = sgn q := by
      rw [← HS.out.1, ← HS.out.2]
      exact cmpI_zero.1 (by rw [← hc0]; exact hz)
    have hT := cmp_texts H.out.1 H.out.2.1 hsg
    rw [← HS.out.1] at hT
    have hr1 := cmpI_range (s.size : Int) t.size
    have hr2 := cmpS_range s t
    obtain ⟨c1, hc1⟩ : ∃ c1, c1 = cmpI (s.size : Int) t.size := ⟨_, rfl⟩
    obtain ⟨c2, hc2⟩ : ∃ c2, c2 = cmpS s t := ⟨_, rfl⟩
    rw [← hc1] at hT hr1
    rw [← hc2] at hT hr2
    obtain ⟨r, hr⟩ : ∃ r, r = if c1 = 0 then c2 else c1 := ⟨_, rfl⟩
    have hrr : -1 ≤ r ∧ r ≤ 1 := by rw [hr]; split <;> omega
    rw [← hr, ← HCD.out] at hT
    have HT := Lib.hid (And.intro hT (And.intro hr (And.intro hc1 hc2)))
    clear hT hr hc1 hc2 hc0 hsg hz
    go_wp2_with fail
    refine (cmp_int _ _ _).mono ?_
    rw [← HT.out.2.2.1]
    rintro e w1 ⟨rfl, rfl⟩
    go_wp2_with fail
    refine (cmp_str s t _).mono ?_
    rw [← HT.out.2.2.2]
    rintro e w1 ⟨rfl, rfl⟩
    go_wp2_with fail
    refine (or_two c1 c2 HT.out.2.1 (cell_at (heap_alloc_new w _) rfl) (cell_at (heap_alloc_new w _) rfl)).mono ?_
    rintro e w1 ⟨rfl, rfl⟩
    rcases hsp3 with h3 | h3 | h3
    all_goals
      have HT1 := Lib.hid HT.out.1
      rw [h3] at HT1
      subst h3
      go_wp2
      go_ret
      exact ⟨by rw [← HT1.out]; simp, (Below.refl _ _).alloc (Nat.le_refl _) _⟩
  · have hzb : (c0 != 0) = true := by rw [bne_iff_ne]; exact hz
    have hS : c0 = c := by
      rw [hc0, HCD.out, HS.out.1, HS.out.2]
      exact cmp_sgn (by rw [← HS.out.1, ← HS.out.2, ← hc0]; exact hz)
    have HC := Lib.hid hS
    clear hS hc0
    go_wp2
    go_ret
    exact ⟨by rw [HC.out]; rfl, Below.refl _ _⟩
end Go.Proofs.YtjghgbfagjhdgaaGreatDoor
namespace Go.Proofs.YtjghgbfagjhdgaaGreatDoor
open Go Go.RowKit

set_option maxHeartbeats 800000 in
set_option maxRecDepth 100000 in
theorem small_any {w : World} {s : ByteArray} {n : Int} (hs : s.data.toList = Lib.itoa n) (h0 : -9223372036854775808 ≤ n) (h1 : n ≤ 9223372036854775807) :
    Calls Tryz.prog 196 #[.string s] w fun e w' => ∃ k ok, e = .returned (.tuple #[.int .i64 k, .bool ok]) ∧ (ok = true → k = n) ∧ ok = decide (-4611686018427387904 ≤ n ∧ n ≤ 4611686018427387904) ∧ Below w.heap.size w w' := by
  have hnd : Lib.nDigits n.natAbs ≤ 400 := Nat.le_trans (nDigits_le (k := 19) (by decide) (by omega)) (by decide)
  have hsz : s.size ≤ 500 := by
    rw [Lib.size_eq, hs]
    by_cases hn : n < 0
    · rw [T.itoa_neg hn, List.length_cons, Lib.decDigits_length]; omega
    · rw [T.itoa_nonneg hn, Lib.decDigits_length]; omega
  have hv : vld s.data.toList = true := by rw [hs]; exact vld_itoa hnd
  have hat : Lib.atoiAll s.data.toList = .ok n := by rw [hs]; exact atoi_itoa h0 h1
  have H := Lib.hid (And.intro hv hat)
  clear hv hat hs hnd
  go_enter Tryz.func196, Tryz.ntmps196
  go_wp2_with fail
  refine (valid_c s H.out.1).mono ?_
  rintro e w1 ⟨rfl, rfl⟩
  go_wp2_with fail
  refine (Tryz.strconv_Atoi_ok s (by omega) n H.out.2 w).mono ?_
  rintro e w1 ⟨rfl, hw⟩
  have hb : Below w.heap.size w w1 := by
    rcases hw with rfl | ⟨t, rfl⟩
    · exact Below.refl _ _
    · exact bytesWorld_below _ _ _
  have HB := Lib.hid hb
  clear hb hw
  by_cases hl : n < -4611686018427387904
  · go_wp2
    go_ret2
    exact ⟨_, false, rfl, fun h => (by cases h), (decide_eq_false (by omega)).symm, HB.out⟩
  · by_cases hg : 4611686018427387904 < n
    · go_wp2
      go_ret2
      exact ⟨_, false, rfl, fun h => (by cases h), (decide_eq_false (by omega)).symm, HB.out⟩
    · go_wp2
      go_ret2
      exact ⟨n, true, rfl, fun _ => rfl, (decide_eq_true (by omega)).symm, HB.out⟩

theorem Run.cmp {w w1 : World} {g : Nat} (h : Run w g w1) {s t : ByteArray} {p q : Int} {k : Nat} {c : Int} (hs : Num s p k) (ht : Num t q k) (h1 : 1 ≤ k) (hk : k ≤ 400) (hc : c = cmpI p q) :
    Calls Tryz.prog 193 #[.string s, .string t] w1 fun e w' => e = .returned (.int .i64 c) ∧ Hid (Run w g w') := by
  subst hc
  exact (compare_num hs ht h1 hk).mono fun _ _ ⟨he, hb⟩ => ⟨he, Lib.hid (h.op hb)⟩
theorem sign_c {w : World} {s : ByteArray} {z c : Int} {k : Nat} (h : Num s z k) (h1 : 1 ≤ k) (hk : k ≤ 400) (hc : c = sgn z) :
    Calls Tryz.prog 217 #[.string s] w fun e w' => e = .returned (.int .i64 c) ∧ w = w' := by
  subst hc
  exact sign_num h h1 hk
theorem Run.small {w w1 : World} {g : Nat} (h : Run w g w1) {s : ByteArray} {n : Int} (hs : s.data.toList = Lib.itoa n) (h0 : -9223372036854775808 ≤ n) (h1 : n ≤ 9223372036854775807) :
    Calls Tryz.prog 196 #[.string s] w1 fun e w' => ∃ k ok, e = .returned (.tuple #[.int .i64 k, .bool ok]) ∧ (ok = true → k = n) ∧ ok = decide (-4611686018427387904 ≤ n ∧ n ≤ 4611686018427387904) ∧ Hid (Run w g w') :=
  (small_any hs h0 h1).mono fun _ _ ⟨k, ok, he, h2, h3, hb⟩ => ⟨k, ok, he, h2, h3, Lib.hid (h.op hb)⟩
theorem cmp_sub (a b : Int) : cmpI a b = sgn (a - b) := by
  unfold cmpI sgn
  rcases Int.lt_trichotomy a b with h | h | h
  · rw [if_pos h, if_pos (by omega)]
  · rw [if_neg (by omega), if_neg (by omega), if_neg (by omega), if_neg (by omega)]
  · rw [if_neg (by omega), if_pos h, if_neg (by omega), if_pos (by omega)]
theorem cmp_swap (a b : Int) : cmpI b a = -cmpI a b := by
  unfold cmpI
  rcases Int.lt_trichotomy a b with h | h | h
  · rw [if_neg (by omega), if_pos h, if_pos h]; rfl
  · rw [if_neg (by omega), if_neg (by omega), if_neg (by omega), if_neg (by omega)]; rfl
  · rw [if_pos h, if_neg (by omega), if_pos h]
theorem cmp_le {a b : Int} : cmpI a b ≤ 0 ↔ a ≤ b := by
  unfold cmpI
  split
  · omega
  · split <;> omega

end Go.Proofs.YtjghgbfagjhdgaaGreatDoor
