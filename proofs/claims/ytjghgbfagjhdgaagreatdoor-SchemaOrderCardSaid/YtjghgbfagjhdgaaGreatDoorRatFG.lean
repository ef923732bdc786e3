/- Package rational: what its functions give for any texts. Package rational: Parts, Floor, Digits, Make, Whole for any texts. -/
import Derived.Test.YtjghgbfagjhdgaaGreatDoorPair
namespace Go.Proofs.YtjghgbfagjhdgaaGreatDoor
open Go Go.RowKit

/-- What the program's variables hold that these walks read. -/
def Env (w : World) : Prop := Tab w ∧ Lx w
theorem Env.below {w w' : World} (h : Env w) (hb : Below w.heap.size w w') : Env w' := ⟨h.1.below hb, h.2.below hb⟩
theorem rd_lt {s : ByteArray} {x : Rat} (h : Rd s (some x)) : F.Lt (M.B ^ 42) x := by
  have h' : RatIs s.data.toList x := h
  refine ⟨lt_ten _ h'.2.1, ?_⟩
  exact lt_ten _ h'.2.2
def qres (op : Rat → Rat → Rat) : Option Rat → Option Rat → Value
  | some x, some y => qgive (op x y)
  | _, _ => .tuple #[.string ⟨#[]⟩, .int .i64 1]
/-- What an operation of package wide does with two fractions. -/
def QOp (f : Nat) (op : Rat → Rat → Rat) (x y : Rat) : Prop :=
  F.Lt (M.B ^ 100) (op x y) ∧ ∀ (w : World) (a b : Value), IsRat w a x → IsRat w b y → Calls Tryz.prog f #[a, b] w fun e w' => ∃ v, e = .returned v ∧ IsRat w' v (op x y) ∧ Below w.heap.size w w'

set_option maxHeartbeats 4000000 in
set_option maxRecDepth 100000 in
theorem qcombine_any {f : Nat} {op : Rat → Rat → Rat} (hcf : ∀ (args : Array Value) (w : World), (callFunc f args).run Tryz.prog w = .ok (.enter f args) w) {w : World} (s t : ByteArray) {r q : Option Rat} (he : Env w) (hs : Short s) (ht : Short t) (hr : Rd s r) (hq : Rd t q) (hop : ∀ x y, r = some x → q = some y → QOp f op x y) :
    Calls Tryz.prog 139 #[.func (.func f) #[] #[], .string s, .string t] w fun e w' => e = .returned (qres op r q) ∧ Below w.heap.size w w' := by
  have H := Lib.hid (And.intro he (And.intro hs (And.intro ht (And.intro hr (And.intro hq hop)))))
  clear he hs ht hr hq hop
  go_enter Tryz.func139, Tryz.ntmps139
  go_wp2_with fail
  refine (readPair_any s t H.out.1.2 H.out.2.1 H.out.2.2.1 H.out.2.2.2.1 H.out.2.2.2.2.1).mono ?_
  rintro e w1 ⟨v, u, rfl, hv, hu, hb⟩
  obtain ⟨sx, Ax, lx, cx, tx, Ax', lx', cx', rfl⟩ := hv.shape
  obtain ⟨sy, Ay, ly, cy, ty, Ay', ly', cy', rfl⟩ := hu.shape
  have HV := Lib.hid (And.intro hv (And.intro hu hb))
  clear hv hu hb
  cases r with
  | none =>
    go_wp2
    go_ret2
    exact ⟨rfl, (HV.out.2.2.alloc HV.out.2.2.size _).alloc (by have := HV.out.2.2.size; simp; omega) _⟩
  | some x =>
    cases q with
    | none =>
      go_wp2
      go_ret2
      exact ⟨rfl, (HV.out.2.2.alloc HV.out.2.2.size _).alloc (by have := HV.out.2.2.size; simp; omega) _⟩
    | some y =>
      have HO := Lib.hid (H.out.2.2.2.2.2 x y rfl rfl)
      have hB := (HV.out.2.2.alloc HV.out.2.2.size (.cells #[.int .i64 sx, .slice Ax lx cx, .int .i64 tx, .slice Ax' lx' cx'] 90)).alloc (by have := HV.out.2.2.size; simp; omega) (.cells #[.int .i64 sy, .slice Ay ly cy, .int .i64 ty, .slice Ay' ly' cy'] 90)
      have hC := ((Below.refl w1.heap.size w1).alloc (Nat.le_refl _) (.cells #[.int .i64 sx, .slice Ax lx cx, .int .i64 tx, .slice Ax' lx' cx'] 90)).alloc (by simp) (.cells #[.int .i64 sy, .slice Ay ly cy, .int .i64 ty, .slice Ay' ly' cy'] 90)
      have HB := Lib.hid (And.intro hB (And.intro (HV.out.1.below hC) (HV.out.2.1.below hC)))
      clear hB hC
      go_wp2_with fail
      refine (HO.out.2 _ _ _ HB.out.2.1 HB.out.2.2).mono ?_
      rintro e w3 ⟨z, rfl, hz, hb⟩
      have H3 := Lib.hid (And.intro hz (HB.out.1.trans (hb.mono HB.out.1.size)))
      clear hz hb
      obtain ⟨o, c, hoc⟩ : ∃ o c, qgive (op x y) = .tuple #[.string o, .int .i64 c] := by
        unfold qgive
        split
        · exact ⟨_, _, rfl⟩
        · exact ⟨_, _, rfl⟩
      have HOC := Lib.hid hoc
      clear hoc
      go_wp2_with fail
      refine (qwrite_any (H.out.1.1.below H3.out.2) H3.out.1 HO.out.1 (by omega)).mono ?_
      rw [HOC.out]
      rintro e w4 ⟨rfl, hb⟩
      have H4 := Lib.hid (H3.out.2.trans (hb.mono H3.out.2.size))
      clear hb
      go_wp2
      go_ret2
      exact ⟨by show _ = Ending.returned (qgive (op x y)); rw [HOC.out]; rfl, H4.out⟩

theorem cf_qplus (args : Array Value) (w : World) : (callFunc 140 args).run Tryz.prog w = .ok (.enter 140 args) w := by kernel_rfl
theorem cf_qtimes (args : Array Value) (w : World) : (callFunc 143 args).run Tryz.prog w = .ok (.enter 143 args) w := by kernel_rfl
theorem B42 : M.B ^ 42 * M.B ^ 42 ≤ M.B ^ 100 ∧ 2 * (M.B ^ 42 * M.B ^ 42) ≤ M.B ^ 100 := by
  rw [B_sq]
  exact ⟨M.pow_mono (by omega), Nat.le_trans (B_double _) (M.pow_mono (by omega))⟩
theorem qop_plus {x y : Rat} (hx : F.Lt (M.B ^ 42) x) (hy : F.Lt (M.B ^ 42) y) : QOp 140 (· + ·) x y :=
  ⟨(F.plus_lt hx hy).mono B42.2, fun _ _ _ ha hb => qplus_any ha hb hx hy (by omega) (by omega)⟩
theorem qop_times {x y : Rat} (hx : F.Lt (M.B ^ 42) x) (hy : F.Lt (M.B ^ 42) y) : QOp 143 (· * ·) x y :=
  ⟨(F.times_lt hx hy).mono B42.1, fun _ _ _ ha hb => qtimes_any ha hb hx hy (by omega) (by omega)⟩
theorem qgive_two (x : Rat) : ∃ o c, qgive x = .tuple #[.string o, .int .i64 c] := by
  unfold qgive
  by_cases h : Lib.nDigits x.num.natAbs ≤ 400 ∧ Lib.nDigits x.den ≤ 400
  · rw [if_pos h]; exact ⟨_, _, rfl⟩
  · rw [if_neg h]; exact ⟨_, _, rfl⟩
theorem qres_two (op : Rat → Rat → Rat) (r q : Option Rat) : ∃ o c, qres op r q = .tuple #[.string o, .int .i64 c] := by
  cases r <;> cases q <;> (try exact ⟨_, _, rfl⟩)
  exact qgive_two _
set_option maxHeartbeats 400000 in
theorem qadd_any {w : World} (s t : ByteArray) {r q : Option Rat} (he : Env w) (hs : Short s) (ht : Short t) (hr : Rd s r) (hq : Rd t q) :
    Calls Tryz.prog 69 #[.string s, .string t] w fun e w' => e = .returned (qres (· + ·) r q) ∧ Below w.heap.size w w' := by
  have hc := fun w (h0 : Env w) => qcombine_any (w := w) cf_qplus s t h0 hs ht hr hq (fun x y hx hy => qop_plus (rd_lt (hx ▸ hr)) (rd_lt (hy ▸ hq)))
  obtain ⟨o, c, hoc⟩ := qres_two (· + ·) r q
  have HC := Lib.hid (And.intro hc (And.intro he hoc))
  clear hc he hs ht hr hq hoc
  go_enter Tryz.func69, Tryz.ntmps69
  go_wp2_with fail
  refine (HC.out.1 _ HC.out.2.1).mono ?_
  rw [HC.out.2.2]
  rintro e w' ⟨rfl, hb⟩
  go_wp2
  go_ret2
  exact ⟨by rw [HC.out.2.2]; rfl, hb⟩
set_option maxHeartbeats 400000 in
theorem qmul_any {w : World} (s t : ByteArray) {r q : Option Rat} (he : Env w) (hs : Short s) (ht : Short t) (hr : Rd s r) (hq : Rd t q) :
    Calls Tryz.prog 86 #[.string s, .string t] w fun e w' => e = .returned (qres (· * ·) r q) ∧ Below w.heap.size w w' := by
  have hc := fun w (h0 : Env w) => qcombine_any (w := w) cf_qtimes s t h0 hs ht hr hq (fun x y hx hy => qop_times (rd_lt (hx ▸ hr)) (rd_lt (hy ▸ hq)))
  obtain ⟨o, c, hoc⟩ := qres_two (· * ·) r q
  have HC := Lib.hid (And.intro hc (And.intro he hoc))
  clear hc he hs ht hr hq hoc
  go_enter Tryz.func86, Tryz.ntmps86
  go_wp2_with fail
  refine (HC.out.1 _ HC.out.2.1).mono ?_
  rw [HC.out.2.2]
  rintro e w' ⟨rfl, hb⟩
  go_wp2
  go_ret2
  exact ⟨by rw [HC.out.2.2]; rfl, hb⟩
theorem rd_zero {s : ByteArray} {q : Option Rat} (hq : Rd s q) : (s.toList == [48]) = decide (q = some 0) := by
  rw [Lib.toList_data]
  cases q with
  | none =>
    rw [decide_eq_false (by simp), beq_eq_false_iff_ne]
    intro e
    have e0 : Lib.itoa 0 = [48] := by decide +kernel
    have hb : BadR s.data.toList := hq
    have hcut : Lib.cut s.data.toList [47] = (Lib.itoa 0, [], false) := by rw [e, e0]; decide +kernel
    rcases hb with ⟨a, b, k, hc, hv⟩ | ⟨n, b, hc, hn, hv⟩ | ⟨n, d, hc, hn, hd, h2⟩ | ⟨n, d, hc, hn, hd, h2, hg⟩
    · rw [hcut] at hc; injection hc with h1 _
      rw [← h1] at hv
      exact absurd hv (by decide +kernel)
    · rw [hcut] at hc; injection hc with _ h1; injection h1 with _ h1; cases h1
    · rw [hcut] at hc; injection hc with _ h1; injection h1 with _ h1; cases h1
    · rw [hcut] at hc; injection hc with _ h1; injection h1 with _ h1; cases h1
  | some x =>
    have h' : RatIs s.data.toList x := hq
    have e0 : rtx 0 = [48] := by decide +kernel
    by_cases hx : x = 0
    · rw [decide_eq_true (by rw [hx]), beq_iff_eq, h'.1, hx, e0]
    · rw [decide_eq_false (by intro e; injection e with e; exact hx e), beq_eq_false_iff_ne, h'.1]
      intro e
      exact hx (rtx_inj (e.trans e0.symm))
/-- How a quotient comes out. -/
def qdivres : Option Rat → Option Rat → Value
  | some x, some y => if y = 0 then .tuple #[.string ⟨#[]⟩, .int .i64 4] else qgive (x / y)
  | _, _ => .tuple #[.string ⟨#[]⟩, .int .i64 1]
set_option maxHeartbeats 1600000 in
set_option maxRecDepth 100000 in
theorem qvalid_any {w : World} (s : ByteArray) {r : Option Rat} (hm : Lx w) (hs : Short s) (hr : Rd s r) :
    Calls Tryz.prog 84 #[.string s] w fun e w' => e = .returned (.bool r.isSome) ∧ Below w.heap.size w w' := by
  have H := Lib.hid (And.intro hm (And.intro hs hr))
  clear hm hs hr
  go_enter Tryz.func84, Tryz.ntmps84
  go_wp2_with fail
  refine (read_any2 s H.out.1 H.out.2.1 H.out.2.2).mono ?_
  rintro e w1 ⟨v, rfl, hv, hb⟩
  obtain ⟨sx, Ax, lx, cx, tx, Ax', lx', cx', rfl⟩ := hv.shape
  have HB := Lib.hid hb
  clear hv hb
  go_wp2
  go_ret
  exact ⟨rfl, HB.out.alloc HB.out.size _⟩
/-- How two texts compare. -/
def qcmp : Option Rat → Option Rat → Int
  | some x, some y => cmpI (x.num * y.den) (y.num * x.den)
  | _, _ => 0
theorem qdivres_zero (x : Rat) : qdivres (some x) (some 0) = .tuple #[.string ⟨#[]⟩, .int .i64 4] := by
  show (if (0 : Rat) = 0 then (.tuple #[.string ⟨#[]⟩, .int .i64 4] : Value) else qgive (x / 0)) = _
  exact if_pos rfl
end Go.Proofs.YtjghgbfagjhdgaaGreatDoor
namespace Go.Proofs.YtjghgbfagjhdgaaGreatDoor
open Go Go.RowKit

theorem itoa_one : Lib.itoa ((1 : Nat) : Int) = [49] := by decide +kernel
/-- The two sides of a fraction's text as strings. -/
theorem cut_rd {s : ByteArray} {x : Rat} (h : RatIs s.data.toList x) : ∃ (sb : ByteArray) (k : Bool), Lib.cut s.data.toList [47] = ((⟨(Lib.itoa x.num).toArray⟩ : ByteArray).data.toList, sb.data.toList, k) ∧
    ((k = false ∧ x.den = 1 ∧ sb = ⟨#[]⟩) ∨ (k = true ∧ 2 ≤ x.den ∧ sb = ⟨(Lib.itoa (x.den : Int)).toArray⟩)) := by
  have hc := cut_rtx x
  rw [← h.1] at hc
  have hp := x.den_pos
  by_cases hd : x.den = 1
  · rw [if_pos hd] at hc
    exact ⟨⟨#[]⟩, false, by rw [hc], .inl ⟨rfl, hd, rfl⟩⟩
  · rw [if_neg hd] at hc
    exact ⟨⟨(Lib.itoa (x.den : Int)).toArray⟩, true, by rw [hc], .inr ⟨rfl, by omega, rfl⟩⟩
def qparts : Option Rat → Value
  | some x => .tuple #[.string ⟨(Lib.itoa x.num).toArray⟩, .string ⟨(Lib.itoa (x.den : Int)).toArray⟩, .bool true]
  | none => .tuple #[.string ⟨#[]⟩, .string ⟨#[]⟩, .bool false]
set_option maxHeartbeats 1600000 in
set_option maxRecDepth 100000 in
theorem qparts_any {w : World} (s : ByteArray) {r : Option Rat} (hm : Lx w) (hs : Short s) (hr : Rd s r) :
    Calls Tryz.prog 197 #[.string s] w fun e w' => e = .returned (qparts r) ∧ Below w.heap.size w w' := by
  cases r with
  | none =>
    have H := Lib.hid (And.intro hm (And.intro hs hr))
    clear hm hs hr
    go_enter Tryz.func197, Tryz.ntmps197
    go_wp2_with fail
    refine (qvalid_any s H.out.1 H.out.2.1 H.out.2.2).mono ?_
    rintro e w1 ⟨rfl, hb⟩
    have HB := Lib.hid hb
    clear hb
    go_wp2
    go_ret3
    exact ⟨rfl, HB.out⟩
  | some x =>
    obtain ⟨sb, k, hc, hk⟩ := cut_rd (show RatIs s.data.toList x from hr)
    obtain ⟨sa, hsa⟩ : ∃ sa : ByteArray, sa = ⟨(Lib.itoa x.num).toArray⟩ := ⟨_, rfl⟩
    rw [← hsa] at hc
    have H := Lib.hid (And.intro hm (And.intro hs (And.intro hr (And.intro hc hsa))))
    clear hm hs hr hc hsa
    rcases hk with ⟨rfl, hd, hb⟩ | ⟨rfl, hd, hb⟩
    · have HD := Lib.hid (And.intro hd hb)
      clear hd hb
      go_enter Tryz.func197, Tryz.ntmps197
      go_wp2_with fail
      refine (qvalid_any s H.out.1 H.out.2.1 H.out.2.2.1).mono ?_
      rintro e w1 ⟨rfl, hb⟩
      have HB := Lib.hid hb
      clear hb
      go_wp2_with fail
      refine (cut_any s (H.out.1.below HB.out) H.out.2.1 H.out.2.2.2.1).mono ?_
      rintro e w2 ⟨rfl, hb⟩
      have H2 := Lib.hid (HB.out.trans (hb.mono HB.out.size))
      clear hb
      go_wp2
      go_ret3
      exact ⟨by show _ = Ending.returned (.tuple #[.string ⟨(Lib.itoa x.num).toArray⟩, .string ⟨(Lib.itoa (x.den : Int)).toArray⟩, .bool true]); rw [← H.out.2.2.2.2, HD.out.1, itoa_one]; rfl, H2.out⟩
    · have HD := Lib.hid (And.intro hd hb)
      clear hd hb
      go_enter Tryz.func197, Tryz.ntmps197
      go_wp2_with fail
      refine (qvalid_any s H.out.1 H.out.2.1 H.out.2.2.1).mono ?_
      rintro e w1 ⟨rfl, hb⟩
      have HB := Lib.hid hb
      clear hb
      go_wp2_with fail
      refine (cut_any s (H.out.1.below HB.out) H.out.2.1 H.out.2.2.2.1).mono ?_
      rintro e w2 ⟨rfl, hb⟩
      have H2 := Lib.hid (HB.out.trans (hb.mono HB.out.size))
      clear hb
      go_wp2
      go_ret3
      exact ⟨by show _ = Ending.returned (.tuple #[.string ⟨(Lib.itoa x.num).toArray⟩, .string ⟨(Lib.itoa (x.den : Int)).toArray⟩, .bool true]); rw [← H.out.2.2.2.2, ← HD.out.2]; rfl, H2.out⟩
def qfloor : Option Rat → Value
  | some x => .tuple #[.string ⟨(Lib.itoa (x.num / (x.den : Int))).toArray⟩, .int .i64 0]
  | none => .tuple #[.string ⟨#[]⟩, .int .i64 1]
theorem divInt_lt {b : Nat} {p q : Int} (hp : p.natAbs < b) (hq : q.natAbs < b) (h0 : q ≠ 0) : F.Lt b (Rat.divInt p q) := by
  have e1 : ∀ z : Int, (z / ((Nat.gcd p.natAbs q.natAbs : Nat) : Int)).natAbs ≤ z.natAbs := fun z => Int.natAbs_ediv_le_natAbs _ _
  have h1 := e1 p
  have h2 := e1 q
  rcases Int.lt_or_gt_of_ne h0 with h | h
  · obtain ⟨a, c⟩ := F.new_neg (n := p) h
    refine ⟨by rw [a, Int.natAbs_neg]; omega, ?_⟩
    have : ((Rat.divInt p q).den : Int).natAbs < b := by rw [c, Int.natAbs_neg]; omega
    rwa [Int.natAbs_natCast] at this
  · obtain ⟨a, c⟩ := F.new_pos (n := p) h
    refine ⟨by rw [a]; omega, ?_⟩
    have : ((Rat.divInt p q).den : Int).natAbs < b := by rw [c]; omega
    rwa [Int.natAbs_natCast] at this
/-- How num over den comes out. -/
def qmake (p q : Int) : Value := if q = 0 then .tuple #[.string ⟨#[]⟩, .int .i64 4] else qgive (Rat.divInt p q)
theorem sgn_eq_zero {q : Int} : (sgn q == 0) = decide (q = 0) := by
  unfold sgn
  by_cases h : q = 0
  · rw [decide_eq_true h, if_neg (by omega), if_neg (by omega)]; rfl
  · rw [decide_eq_false h, beq_eq_false_iff_ne]; split <;> (try split) <;> omega
end Go.Proofs.YtjghgbfagjhdgaaGreatDoor
