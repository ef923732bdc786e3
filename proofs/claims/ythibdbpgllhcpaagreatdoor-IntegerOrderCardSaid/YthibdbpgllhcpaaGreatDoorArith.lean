/- combine, Add, Sub, Mul. -/
import Derived.Test.YthibdbpgllhcpaaGreatDoorDigits
import Derived.Test.YthibdbpgllhcpaaGreatDoorIntE
namespace Go.Proofs.YthibdbpgllhcpaaGreatDoor
open Go Go.RowKit

theorem lt_ten (n : Nat) (h : Lib.nDigits n ≤ 400) : n < M.B ^ 42 := by
  have h1 := Lib.lt_pow_nDigits n
  have h2 := Nat.pow_le_pow_right (n := 10) (by decide) h
  have h3 : 10 ^ 400 ≤ M.B ^ 42 := by rw [M.B_eq]; decide +kernel
  omega

/-- What an operation of package wide does with two numbers of at most 400 digits. -/
def OpOk (f : Nat) (op : Int → Int → Int) : Prop :=
  ∀ (w : World) (a b : Value) (p q : Int), IsInt w a p → IsInt w b q → p.natAbs < M.B ^ 42 → q.natAbs < M.B ^ 42 →
    Calls Tryz.prog f #[a, b] w fun e w' => ∃ v, e = .returned v ∧ IsInt w' v (op p q) ∧ Below w.heap.size w w'

set_option maxHeartbeats 800000 in
set_option maxRecDepth 100000 in
theorem combine_ok {f : Nat} {op : Int → Int → Int} (hcf : ∀ (args : Array Value) (w : World), (callFunc f args).run Tryz.prog w = .ok (.enter f args) w) (hop : OpOk f op) {w : World} (s t : ByteArray) {p q : Int} (hs : s.data.toList = Lib.itoa p) (ht : t.data.toList = Lib.itoa q) (hp : Lib.nDigits p.natAbs ≤ 400) (hq : Lib.nDigits q.natAbs ≤ 400) (hr : (op p q).natAbs < M.B ^ 100) (htab : Tab w) :
    Calls Tryz.prog 35 #[.func (.func f) #[] #[], .string s, .string t] w fun e w' => e = .returned (give (op p q)) ∧ Below w.heap.size w w' := by
  have HTB := Lib.hid htab
  clear htab
  have H := Lib.hid (And.intro hs (And.intro ht (And.intro hop (And.intro (lt_ten _ hp) (lt_ten _ hq)))))
  have v1 := vld_itoa hp
  have v2 := vld_itoa hq
  rw [← hs] at v1
  rw [← ht] at v2
  have HV := Lib.hid (And.intro v1 v2)
  clear hop hs ht v1 v2
  go_enter Tryz.func35, Tryz.ntmps35
  go_wp2_with fail
  refine (valid_any s).mono ?_
  rw [HV.out.1]
  rintro e w1 ⟨rfl, rfl⟩
  go_wp2_with fail
  refine (valid_any t).mono ?_
  rw [HV.out.2]
  rintro e w1 ⟨rfl, rfl⟩
  go_wp2_with fail
  refine (read_any s H.out.1 (by omega)).mono ?_
  rintro e w1 ⟨a, rfl, ha, hb1⟩
  have H1 := Lib.hid (And.intro ha hb1)
  clear ha hb1
  go_wp2_with fail
  refine (read_any t H.out.2.1 (by omega)).mono ?_
  rintro e w2 ⟨b, rfl, hb, hb2⟩
  have H2 := Lib.hid (And.intro (H1.out.1.below hb2 (Nat.le_refl _)) (And.intro hb (H1.out.2.trans (hb2.mono H1.out.2.size))))
  clear hb hb2
  go_wp2_with fail
  refine (H.out.2.2.1 _ _ _ _ _ H2.out.1 H2.out.2.1 H.out.2.2.2.1 H.out.2.2.2.2).mono ?_
  rintro e w3 ⟨c, rfl, hc, hb3⟩
  have H3 := Lib.hid (And.intro hc (H2.out.2.2.trans (hb3.mono H2.out.2.2.size)))
  clear hc hb3
  go_wp2_with fail
  refine (write_any (HTB.out.below H3.out.2) H3.out.1 hr (by omega)).mono ?_
  rintro e w4 ⟨rfl, hb4⟩
  have H4 := Lib.hid (H3.out.2.trans (hb4.mono H3.out.2.size))
  clear hb4
  unfold give
  by_cases hg : Lib.nDigits (op p q).natAbs ≤ 400
  · rw [if_pos hg]
    have HG := Lib.hid hg
    clear hg
    go_wp2
    go_ret2
    refine ⟨?_, H4.out⟩
    unfold give
    rw [if_pos HG.out]
    rfl
  · rw [if_neg hg]
    have HG := Lib.hid hg
    clear hg
    go_wp2
    go_ret2
    refine ⟨?_, H4.out⟩
    unfold give
    rw [if_neg HG.out]
    rfl

set_option maxHeartbeats 400000 in
theorem combine_bad {f : Nat} {w : World} (s t : ByteArray) (h : (vld s.data.toList && vld t.data.toList) = false) :
    Calls Tryz.prog 35 #[.func (.func f) #[] #[], .string s, .string t] w fun e w' => e = .returned (.tuple #[.string ⟨#[]⟩, .int .i64 1]) ∧ Below w.heap.size w w' := by
  have H := Lib.hid h
  clear h
  by_cases h1 : vld s.data.toList = true
  · have h2 : vld t.data.toList = false := by have := H.out; rw [h1, Bool.true_and] at this; exact this
    have HV := Lib.hid (And.intro h1 h2)
    clear h1 h2
    go_enter Tryz.func35, Tryz.ntmps35
    go_wp2_with fail
    refine (valid_any s).mono ?_
    rw [HV.out.1]
    rintro e w1 ⟨rfl, rfl⟩
    go_wp2_with fail
    refine (valid_any t).mono ?_
    rw [HV.out.2]
    rintro e w1 ⟨rfl, rfl⟩
    go_wp2
    go_ret2
    exact ⟨rfl, Below.refl _ _⟩
  · have h2 : vld s.data.toList = false := by simpa using h1
    have HV := Lib.hid h2
    clear h1 h2
    go_enter Tryz.func35, Tryz.ntmps35
    go_wp2_with fail
    refine (valid_any s).mono ?_
    rw [HV.out]
    rintro e w1 ⟨rfl, rfl⟩
    go_wp2
    go_ret2
    exact ⟨rfl, Below.refl _ _⟩

theorem cf_plus (args : Array Value) (w : World) : (callFunc 36 args).run Tryz.prog w = .ok (.enter 36 args) w := by kernel_rfl
theorem cf_minus (args : Array Value) (w : World) : (callFunc 37 args).run Tryz.prog w = .ok (.enter 37 args) w := by kernel_rfl
theorem cf_times (args : Array Value) (w : World) : (callFunc 38 args).run Tryz.prog w = .ok (.enter 38 args) w := by kernel_rfl
theorem op_plus : OpOk 36 (· + ·) := fun _ _ _ _ _ ha hb hp hq => plus_int ha hb hp hq (by omega)
theorem op_minus : OpOk 37 (· - ·) := fun _ _ _ _ _ ha hb hp hq => minus_int ha hb hp hq (by omega)
theorem op_times : OpOk 38 (· * ·) := fun _ _ _ _ _ ha hb hp hq => times_int ha hb hp hq (by omega)

theorem sum_big {p q : Int} (hp : Lib.nDigits p.natAbs ≤ 400) (hq : Lib.nDigits q.natAbs ≤ 400) : (p + q).natAbs < M.B ^ 100 ∧ (p - q).natAbs < M.B ^ 100 ∧ (p * q).natAbs < M.B ^ 100 := by
  have h1 := lt_ten _ hp
  have h2 := lt_ten _ hq
  have h3 : M.B ^ 42 + M.B ^ 42 ≤ M.B ^ 100 := by
    have e1 : M.B ^ 100 = M.B ^ 42 * M.B ^ 58 := by rw [← Nat.pow_add]
    have e2 := M.pow_mono (show 1 ≤ 58 by omega)
    rw [Nat.pow_one] at e2
    have e3 := Nat.mul_le_mul_left (M.B ^ 42) (Nat.le_trans M.B_two e2)
    omega
  refine ⟨by omega, by omega, ?_⟩
  rw [Int.natAbs_mul]
  have e4 := Nat.mul_lt_mul'' h1 h2
  rw [← Nat.pow_add] at e4
  exact Nat.lt_of_lt_of_le e4 (M.pow_mono (by omega))

set_option maxHeartbeats 400000 in
theorem add_ok {w : World} (htab : Tab w) (s t : ByteArray) {p q : Int} (hs : s.data.toList = Lib.itoa p) (ht : t.data.toList = Lib.itoa q) (hp : Lib.nDigits p.natAbs ≤ 400) (hq : Lib.nDigits q.natAbs ≤ 400) :
    Calls Tryz.prog 12 #[.string s, .string t] w fun e w' => e = .returned (give (p + q)) ∧ Below w.heap.size w w' := by
  have hc := fun w (ht0 : Tab w) => combine_ok (w := w) cf_plus op_plus s t hs ht hp hq (sum_big hp hq).1 ht0
  have HTB := Lib.hid htab
  clear htab
  have HC := Lib.hid hc
  clear hc
  by_cases hg : Lib.nDigits (p + q).natAbs ≤ 400
  · have hgv : give (p + q) = .tuple #[.string ⟨(Lib.itoa (p + q)).toArray⟩, .int .i64 0] := if_pos hg
    have HG := Lib.hid hgv
    clear hg hgv hs ht
    go_enter Tryz.func12, Tryz.ntmps12
    go_wp2_with fail
    refine (HC.out _ HTB.out).mono ?_
    rw [HG.out]
    rintro e w' ⟨rfl, hb⟩
    go_wp2
    go_ret2
    refine ⟨?_, hb⟩
    rw [HG.out]
    rfl
  · have hgv : give (p + q) = .tuple #[.string ⟨#[]⟩, .int .i64 3] := if_neg hg
    have HG := Lib.hid hgv
    clear hg hgv hs ht
    go_enter Tryz.func12, Tryz.ntmps12
    go_wp2_with fail
    refine (HC.out _ HTB.out).mono ?_
    rw [HG.out]
    rintro e w' ⟨rfl, hb⟩
    go_wp2
    go_ret2
    refine ⟨?_, hb⟩
    rw [HG.out]
    rfl
set_option maxHeartbeats 400000 in
theorem add_bad {w : World} (s t : ByteArray) (h : (vld s.data.toList && vld t.data.toList) = false) :
    Calls Tryz.prog 12 #[.string s, .string t] w fun e w' => e = .returned (.tuple #[.string ⟨#[]⟩, .int .i64 1]) ∧ Below w.heap.size w w' := by
  have H := Lib.hid h
  clear h
  go_enter Tryz.func12, Tryz.ntmps12
  go_wp2_with fail
  refine (combine_bad s t H.out).mono ?_
  rintro e w' ⟨rfl, hb⟩
  go_wp2
  go_ret2
  exact ⟨rfl, hb⟩

set_option maxHeartbeats 400000 in
theorem sub_ok {w : World} (htab : Tab w) (s t : ByteArray) {p q : Int} (hs : s.data.toList = Lib.itoa p) (ht : t.data.toList = Lib.itoa q) (hp : Lib.nDigits p.natAbs ≤ 400) (hq : Lib.nDigits q.natAbs ≤ 400) :
    Calls Tryz.prog 13 #[.string s, .string t] w fun e w' => e = .returned (give (p - q)) ∧ Below w.heap.size w w' := by
  have hc := fun w (ht0 : Tab w) => combine_ok (w := w) cf_minus op_minus s t hs ht hp hq (sum_big hp hq).2.1 ht0
  have HTB := Lib.hid htab
  clear htab
  have HC := Lib.hid hc
  clear hc
  by_cases hg : Lib.nDigits (p - q).natAbs ≤ 400
  · have hgv : give (p - q) = .tuple #[.string ⟨(Lib.itoa (p - q)).toArray⟩, .int .i64 0] := if_pos hg
    have HG := Lib.hid hgv
    clear hg hgv hs ht
    go_enter Tryz.func13, Tryz.ntmps13
    go_wp2_with fail
    refine (HC.out _ HTB.out).mono ?_
    rw [HG.out]
    rintro e w' ⟨rfl, hb⟩
    go_wp2
    go_ret2
    refine ⟨?_, hb⟩
    rw [HG.out]
    rfl
  · have hgv : give (p - q) = .tuple #[.string ⟨#[]⟩, .int .i64 3] := if_neg hg
    have HG := Lib.hid hgv
    clear hg hgv hs ht
    go_enter Tryz.func13, Tryz.ntmps13
    go_wp2_with fail
    refine (HC.out _ HTB.out).mono ?_
    rw [HG.out]
    rintro e w' ⟨rfl, hb⟩
    go_wp2
    go_ret2
    refine ⟨?_, hb⟩
    rw [HG.out]
    rfl
set_option maxHeartbeats 400000 in
theorem sub_bad {w : World} (s t : ByteArray) (h : (vld s.data.toList && vld t.data.toList) = false) :
    Calls Tryz.prog 13 #[.string s, .string t] w fun e w' => e = .returned (.tuple #[.string ⟨#[]⟩, .int .i64 1]) ∧ Below w.heap.size w w' := by
  have H := Lib.hid h
  clear h
  go_enter Tryz.func13, Tryz.ntmps13
  go_wp2_with fail
  refine (combine_bad s t H.out).mono ?_
  rintro e w' ⟨rfl, hb⟩
  go_wp2
  go_ret2
  exact ⟨rfl, hb⟩

set_option maxHeartbeats 400000 in
theorem mul_ok {w : World} (htab : Tab w) (s t : ByteArray) {p q : Int} (hs : s.data.toList = Lib.itoa p) (ht : t.data.toList = Lib.itoa q) (hp : Lib.nDigits p.natAbs ≤ 400) (hq : Lib.nDigits q.natAbs ≤ 400) :
    Calls Tryz.prog 14 #[.string s, .string t] w fun e w' => e = .returned (give (p * q)) ∧ Below w.heap.size w w' := by
  have hc := fun w (ht0 : Tab w) => combine_ok (w := w) cf_times op_times s t hs ht hp hq (sum_big hp hq).2.2 ht0
  have HTB := Lib.hid htab
  clear htab
  have HC := Lib.hid hc
  clear hc
  by_cases hg : Lib.nDigits (p * q).natAbs ≤ 400
  · have hgv : give (p * q) = .tuple #[.string ⟨(Lib.itoa (p * q)).toArray⟩, .int .i64 0] := if_pos hg
    have HG := Lib.hid hgv
    clear hg hgv hs ht
    go_enter Tryz.func14, Tryz.ntmps14
    go_wp2_with fail
    refine (HC.out _ HTB.out).mono ?_
    rw [HG.out]
    rintro e w' ⟨rfl, hb⟩
    go_wp2
    go_ret2
    refine ⟨?_, hb⟩
    rw [HG.out]
    rfl
  · have hgv : give (p * q) = .tuple #[.string ⟨#[]⟩, .int .i64 3] := if_neg hg
    have HG := Lib.hid hgv
    clear hg hgv hs ht
    go_enter Tryz.func14, Tryz.ntmps14
    go_wp2_with fail
    refine (HC.out _ HTB.out).mono ?_
    rw [HG.out]
    rintro e w' ⟨rfl, hb⟩
    go_wp2
    go_ret2
    refine ⟨?_, hb⟩
    rw [HG.out]
    rfl
set_option maxHeartbeats 400000 in
theorem mul_bad {w : World} (s t : ByteArray) (h : (vld s.data.toList && vld t.data.toList) = false) :
    Calls Tryz.prog 14 #[.string s, .string t] w fun e w' => e = .returned (.tuple #[.string ⟨#[]⟩, .int .i64 1]) ∧ Below w.heap.size w w' := by
  have H := Lib.hid h
  clear h
  go_enter Tryz.func14, Tryz.ntmps14
  go_wp2_with fail
  refine (combine_bad s t H.out).mono ?_
  rintro e w' ⟨rfl, hb⟩
  go_wp2
  go_ret2
  exact ⟨rfl, hb⟩
end Go.Proofs.YthibdbpgllhcpaaGreatDoor
