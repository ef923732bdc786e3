/- Package acyclic: the least witness of a relation. -/
import Derived.Test.YtiakgcaflnpmeaaAcA
namespace Go.Proofs.Ytiakgcaflnpmeaa
open Go Go.RowKit

def castL (E : List Nat) : List Int := E.map fun (x : Nat) => (x : Int)
theorem castL_len (E : List Nat) : (castL E).length = E.length := by simp [castL]
theorem castL_get {E : List Nat} {j : Nat} (h : j < E.length) : (castL E).getD j 0 = ((E.getD j 0 : Nat) : Int) := by simp [castL, List.getD, h]
theorem castL_mem {E : List Nat} {k : Nat} : (k : Int) ∈ castL E ↔ k ∈ E := by
  unfold castL
  rw [List.mem_map]
  exact ⟨fun ⟨a, h, e⟩ => by have : a = k := by omega
                             rw [← this]; exact h, fun h => ⟨k, h, rfl⟩⟩
theorem castL_nat {E : List Nat} {x : Int} (h : x ∈ castL E) : ∃ k : Nat, x = (k : Int) ∧ k ∈ E := by
  obtain ⟨k, hk, rfl⟩ := List.mem_map.1 h
  exact ⟨k, rfl, hk⟩
theorem castL_oth (E : List Nat) (r : Nat) : (castL E).filter (fun x => x != (r : Int)) = castL (Acy.oth E r) := by
  unfold castL Acy.oth
  rw [List.filter_map]
  congr 1
  apply List.filter_congr
  intro x _
  simp only [Function.comp]
  rw [Bool.eq_iff_iff, bne_iff_ne, bne_iff_ne]
  omega
theorem pred_w11 {W : World} {S : Sc} {V : Sv} {B C : Nat} {a : Int} {l : List Int} (hS : SchIn W S V) (hB : Box4 W B S V) (hC : C < W.heap.size) (hc : W.cell? ⟨C, 0, none⟩ = some (.int .i64 a)) (hl : ∀ x, x ∈ l → ∃ k : Nat, x = (k : Int) ∧ k < S.nr) :
    PredI 60 #[.pointer (some ⟨B, 0, none⟩), .pointer (some ⟨C, 0, none⟩)] l (fun x => hasB S x.toNat a) W := fun w x hx hb => by
  obtain ⟨k, rfl, hk⟩ := hl x hx
  have c0 := (hb.cell (p := ⟨C, 0, none⟩) hC).trans hc
  have hB' := hB.below hb
  have q0 := hB'.c0
  have q1 := hB'.c1
  have q2 := hB'.c2
  have q3 := hB'.c3
  have hcon := ahas_any (hS.below hb) hk a
  show Calls Try.prog 60 #[.int .i64 (k : Int), .pointer (some ⟨B, 0, none⟩), .pointer (some ⟨C, 0, none⟩)] w fun e w' => e = .returned (.bool (hasB S ((k : Nat) : Int).toNat a)) ∧ Below w.heap.size w w'
  rw [Int.toNat_natCast]
  generalize hasB S k a = q at hcon ⊢
  clear hb hc hx hB' hB hS hl
  go_enter Try.func60, Try.ntmps60
  go_wp2_with fail
  refine hcon.mono ?_
  rintro e w' ⟨rfl, hb⟩
  go_wp2
  go_ret
  exact ⟨rfl, hb⟩
theorem eg_w11 : ∀ args w, (callFunc 60 args).run Try.prog w = .ok (.enter 60 args) w := enters_of Try.func60 (by kernel_rfl) rfl
theorem eg_w1 : ∀ args w, (callFunc 58 args).run Try.prog w = .ok (.enter 58 args) w := enters_of Try.func58 (by kernel_rfl) rfl
theorem eg_w2 : ∀ args w, (callFunc 62 args).run Try.prog w = .ok (.enter 62 args) w := enters_of Try.func62 (by kernel_rfl) rfl
theorem pred_w1 {W : World} {S : Sc} {V : Sv} {B D c : Nat} {A : Option Addr} {lo l : List Int} (hS : SchIn W S V) (hB : Box4 W B S V) (hD : D < W.heap.size) (hc : W.cell? ⟨D, 0, none⟩ = some (.slice A lo.length c)) (hlo : lo.length ≤ 1000) (hi : IntAt W A lo.length (fun i => lo.getD i 0)) (hl : ∀ x, x ∈ lo → ∃ k : Nat, x = (k : Int) ∧ k < S.nr) :
    PredI 58 #[.pointer (some ⟨D, 0, none⟩), .pointer (some ⟨B, 0, none⟩)] l (fun a => lo.any fun x => hasB S x.toNat a) W := fun w a _ hb => by
  have c0 := (hb.cell (p := ⟨D, 0, none⟩) hD).trans hc
  have hB' := hB.below hb
  have hg : Below w.heap.size w (w.alloc (.cells #[.int .i64 a] 3)) := (Below.refl _ _).alloc (Nat.le_refl _) _
  have hp := pred_w11 (W := w.alloc (.cells #[.int .i64 a] 3)) (B := B) (C := w.heap.size) (a := a) ((hS.below hb).below hg) (hB'.below hg) (by simp) (by simp) hl
  have hcon := any_intL (c := c) eg_w11 hlo ((hi.below hb).below hg) hp
  have H := Lib.hid hg
  have hDw : D < w.heap.size := Nat.lt_of_lt_of_le hD hb.size
  have hne : D ≠ w.heap.size := by omega
  show Calls Try.prog 58 #[.int .i64 a, .pointer (some ⟨D, 0, none⟩), .pointer (some ⟨B, 0, none⟩)] w fun e w' => e = .returned (.bool (lo.any fun x => hasB S x.toNat a)) ∧ Below w.heap.size w w'
  generalize (lo.any fun x => hasB S x.toNat a) = q at hcon ⊢
  clear hb hc hB' hB hS hl hg hp hi
  go_enter Try.func58, Try.ntmps58
  go_wp2_with fail
  refine hcon.mono ?_
  rintro e w' ⟨rfl, hb⟩
  go_wp2
  go_ret
  exact ⟨rfl, Below.step H.out hb⟩
theorem pred_w2 {W : World} {S : Sc} {V : Sv} {B C k : Nat} {l : List Int} (hS : SchIn W S V) (hB : Box4 W B S V) (hC : C < W.heap.size) (hc : W.cell? ⟨C, 0, none⟩ = some (.int .i64 (k : Int))) (hk : k < S.nr) :
    PredI 62 #[.pointer (some ⟨B, 0, none⟩), .pointer (some ⟨C, 0, none⟩)] l (fun a => !hasB S k a) W := fun w a _ hb => by
  have c0 := (hb.cell (p := ⟨C, 0, none⟩) hC).trans hc
  have hB' := hB.below hb
  have q0 := hB'.c0
  have q1 := hB'.c1
  have q2 := hB'.c2
  have q3 := hB'.c3
  have hcon := ahas_any (hS.below hb) hk a
  show Calls Try.prog 62 #[.int .i64 a, .pointer (some ⟨B, 0, none⟩), .pointer (some ⟨C, 0, none⟩)] w fun e w' => e = .returned (.bool (!hasB S k a)) ∧ Below w.heap.size w w'
  generalize hasB S k a = q at hcon ⊢
  clear hb hc hB' hB hS
  go_enter Try.func62, Try.ntmps62
  go_wp2_with fail
  refine hcon.mono ?_
  rintro e w' ⟨rfl, hb⟩
  go_wp2
  go_ret
  exact ⟨rfl, hb⟩
def witV : Option Nat → Value
  | none => .tuple #[.int .i64 (-1), .bool false]
  | some w => .tuple #[.int .i64 (w : Int), .bool true]
/-- What a relation shares with the others. -/
def sharedL (S : Sc) (E : List Nat) (k : Nat) : List Int := (attrs S k).filter fun a => (castL (Acy.oth E k)).any fun x => hasB S x.toNat a
theorem shared_ok (S : Sc) (E : List Nat) (k w : Nat) : ((sharedL S E k).any fun a => !hasB S w a) = !Acy.okW (attrs S) E k w := by
  unfold sharedL Acy.okW
  rw [List.any_filter, List.not_all_eq_any_not]
  congr 1
  funext a
  rw [attrs_mem]
  have : ((castL (Acy.oth E k)).any fun x => hasB S x.toNat a) = (Acy.oth E k).any fun t => (attrs S t).contains a := by
    unfold castL
    rw [List.any_map]
    congr 1
    funext t
    simp only [Function.comp, Int.toNat_natCast, attrs_mem]
  rw [this]
  cases (Acy.oth E k).any fun t => (attrs S t).contains a <;> simp
theorem find_hit {p : Nat → Bool} {l : List Nat} {i : Nat} (h : i < l.length) (hp : p (l.getD i 0) = true) (hn : ∀ j, j < i → p (l.getD j 0) = false) : l.find? p = some (l.getD i 0) := by
  rw [List.find?_eq_some_iff_getElem]
  refine ⟨hp, i, h, by simp [List.getD, h], fun j hj => ?_⟩
  have := hn j hj
  rw [show l.getD j 0 = l[j] by simp [List.getD, (by omega : j < l.length)]] at this
  rw [this]; rfl
theorem find_miss {p : Nat → Bool} {l : List Nat} (hn : ∀ j, j < l.length → p (l.getD j 0) = false) : l.find? p = none := by
  rw [List.find?_eq_none]
  intro x hx
  obtain ⟨j, hj, e⟩ := List.getElem_of_mem hx
  have := hn j hj
  rw [show l.getD j 0 = l[j] by simp [List.getD, hj], e] at this
  rw [this]; simp
set_option maxHeartbeats 3200000 in
set_option maxRecDepth 100000 in
theorem witness_any {w : World} {S : Sc} {V : Sv} {A : Option Addr} {c : Nat} {E : List Nat} (r : Int) (h : SchIn w S V) (hE : E.length ≤ 1000) (hi : IntAt w A E.length (fun i => (castL E).getD i 0)) (hin : ∀ x, x ∈ E → x < S.nr) :
    Calls Try.prog 38 #[.agg #[.slice V.A S.na V.ca, .slice V.R S.nr V.cr, .slice V.F S.nf V.cf, .int .i64 S.label], .slice A E.length c, .int .i64 r] w fun e w' => e = .returned (witV (Acy.witI (attrs S) E r)) ∧ Below w.heap.size w w' := by
  have hg : Below w.heap.size w (w.alloc (.cells #[.slice V.A S.na V.ca, .slice V.R S.nr V.cr, .slice V.F S.nf V.cf, .int .i64 S.label] 28)) := (Below.refl _ _).alloc (Nat.le_refl _) _
  have hcon := contains_ints (c := c) (a := r) hE (hi.below hg)
  rw [show (anyB E.length fun j => decide (r = (castL E).getD j 0)) = decide (r ∈ castL E) by
    have := any_getD (q := fun x => decide (r = x)) (castL E)
    rw [castL_len] at this
    rw [this, Bool.eq_iff_iff, List.any_eq_true, decide_eq_true_eq]
    exact ⟨fun ⟨x, h1, h2⟩ => by rw [of_decide_eq_true h2]; exact h1, fun h1 => ⟨r, h1, by simp⟩⟩] at hcon
  have H := Lib.hid (And.intro h (And.intro hg (And.intro hi hin)))
  clear h hg hi hin
  go_enter Try.func38, Try.ntmps38
  go_wp2_with fail
  refine hcon.mono ?_
  rintro e w1 ⟨rfl, rfl⟩
  cases hm : decide (r ∈ castL E) with
  | false =>
    have HM := Lib.hid (show Acy.witI (attrs S) E r = none by
      unfold Acy.witI
      rw [if_neg]
      rintro ⟨h1, h2⟩
      exact of_decide_eq_false hm (by have := castL_mem.2 h2; rwa [Int.toNat_of_nonneg h1] at this))
    clear hm hcon
    go_wp2
    go_ret2
    exact ⟨by rw [HM.out]; rfl, H.out.2.1⟩
  | true =>
    obtain ⟨k, rfl, hk⟩ := castL_nat (of_decide_eq_true hm)
    have hkr := H.out.2.2.2 k hk
    have HK := Lib.hid (show Acy.witI (attrs S) E (k : Int) = (Acy.oth E k).find? fun w => Acy.okW (attrs S) E k w by
      unfold Acy.witI
      rw [if_pos ⟨by omega, by simpa using hk⟩]
      rfl)
    have hB1 := Box4.new (w := w) (S := S) (V := V)
    have hin1 := H.out.2.2.1.below H.out.2.1
    have hw1 := without_any (w := w.alloc (.cells #[.slice V.A S.na V.ca, .slice V.R S.nr V.cr, .slice V.F S.nf V.cf, .int .i64 S.label] 28)) (c := c) (l := castL E) (a := (k : Int)) (by rw [castL_len]; exact hE) (by rw [castL_len]; exact hin1)
    rw [castL_oth, castL_len] at hw1
    have H1 := Lib.hid (And.intro hB1 hk)
    clear hm hcon hk hB1 hin1
    go_wp2_with fail
    refine hw1.mono ?_
    rintro e w2 ⟨v, rfl, ⟨A2, c2, rfl, hl2, hi2⟩, hb⟩
    have hB2 := Below.step H.out.2.1 hb
    have hX2 := H1.out.1.below hb
    have hg3 : Below w2.heap.size w2 (w2.alloc (.cells #[.slice A2 (castL (Acy.oth E k)).length c2] 22)) := (Below.refl _ _).alloc (Nat.le_refl _) _
    have hB3 := Below.step hB2 hg3
    have hS3 := H.out.1.below hB3
    have hX3 := hX2.below hg3
    have hp := pred_w1 (W := w2.alloc (.cells #[.slice A2 (castL (Acy.oth E k)).length c2] 22)) (B := w.heap.size) (D := w2.heap.size) (A := A2) (c := c2) (l := attrs S k) hS3 hX3 (by simp) (by simp) hl2 (hi2.below hg3) fun x hx => by
      obtain ⟨j, e, hj⟩ := castL_nat hx
      exact ⟨j, e, H.out.2.2.2 j (Acy.mem_oth.1 hj).1⟩
    obtain ⟨b, off, IA, lc, hA, hbl, c0, c1, hrn, hx⟩ := rel_at hS3 hkr
    have hkp := kept_any (c := lc) eg_w1 (by rw [attrs_len]; exact hrn) hx.attrs hp
    have q1 := hX2.c1
    have hlt2 := hX2.lt
    rw [hA] at q1
    rw [attrs_len] at hkp
    have HP := Lib.hid (And.intro hB3 (And.intro hX3 (And.intro hS3 (And.intro (hi2.below hg3) hx))))
    have h0 : (0 : Int) ≤ (k : Int) := by omega
    have h1 : (k : Int) < (S.nr : Int) := by omega
    have hcr := HP.out.2.2.1.cr
    have hcrm := HP.out.2.2.1.crm
    unfold maxLen at hcrm
    clear hw1 hb hB2 hg3 hB3 hS3 hX2 hX3 hp hA hx hi2 c0
    obtain ⟨n, hn⟩ : ∃ n, n = (castL (Acy.oth E k)).length := ⟨_, rfl⟩
    rw [← hn] at hkp c1 hl2 hbl HP ⊢
    have hn2 := hn
    rw [castL_len] at hn2
    have HN := Lib.hid (And.intro hn hn2)
    clear hn hn2
    go_wp2_with fail
    refine hkp.mono ?_
    rintro e w3 ⟨v, rfl, ⟨A3, c3, rfl, hl3, hi3⟩, hb⟩
    have hB4 := Below.step HP.out.1 hb
    have hX4 := HP.out.2.1.below hb
    have d0 := (hb.cell (p := ⟨w2.heap.size, 0, none⟩) (by simp)).trans (by simp; rfl)
    have hsz2 : w2.heap.size < w3.heap.size := by have := hb.size; simp at this; omega
    obtain ⟨m, hm⟩ : ∃ m, m = (sharedL S E k).length := ⟨_, rfl⟩
    have hl3' : m ≤ 1000 := by rw [hm]; exact hl3
    have hi3' : IntAt w3 A3 m fun i => (sharedL S E k).getD i 0 := by rw [hm]; exact hi3
    rw [show ((attrs S k).filter fun a => (castL (Acy.oth E k)).any fun x => hasB S x.toNat a).length = m from hm.symm]
    have H4 := Lib.hid (And.intro hB4 (And.intro hX4 (And.intro hi3' (And.intro hm (HP.out.2.2.2.1.below hb)))))
    clear hkp q1 c1 hb hB4 hX4 hi3 hi3' hl3 hm hcr hcrm hbl h0 h1
    go_wp2_with fail
    go_loopg [29] n (fun gg s29 wr => ∃ i : Nat, i + gg = n ∧ s29 = .int .i64 (i : Int) ∧ Hid (Below w3.heap.size w3 wr ∧ ∀ j, j < i → Acy.okW (attrs S) E k ((Acy.oth E k).getD j 0) = false))
    case atStart => exact ⟨0, by omega, rfl, Lib.hid ⟨Below.refl _ _, fun _ h => absurd h (by omega)⟩⟩
    case round =>
      obtain ⟨i, hi, rfl, HR⟩ := hrel
      by_cases hlt : i < n
      · have hBr := Below.step H4.out.1 HR.out.1
        obtain ⟨b, off, rfl, hbl, hc⟩ := (H4.out.2.2.2.2.below HR.out.1) (by omega)
        have c0 : wr.cell? ⟨b, off + i, none⟩ = some (.int .i64 ((castL (Acy.oth E k)).getD i 0)) := hc i hlt
        obtain ⟨u, hu⟩ : ∃ u, u = (Acy.oth E k).getD i 0 := ⟨_, rfl⟩
        rw [show (castL (Acy.oth E k)).getD i 0 = (u : Int) by rw [castL_get (by rw [← HN.out.2]; exact hlt), hu]] at c0
        have hur : u < S.nr := by
          have h1 : u ∈ Acy.oth E k := by
            rw [hu, show (Acy.oth E k).getD i 0 = (Acy.oth E k)[i]'(by rw [← HN.out.2]; exact hlt) by simp [List.getD, (by rw [← HN.out.2]; exact hlt : i < (Acy.oth E k).length)]]
            exact List.getElem_mem _
          exact H.out.2.2.2 u (Acy.mem_oth.1 h1).1
        have hg5 : Below wr.heap.size wr (wr.alloc (.cells #[.int .i64 (u : Int)] 3)) := (Below.refl _ _).alloc (Nat.le_refl _) _
        have hp := pred_w2 (W := wr.alloc (.cells #[.int .i64 (u : Int)] 3)) (B := w.heap.size) (C := wr.heap.size) (k := u) (l := sharedL S E k) ((H.out.1.below hBr).below hg5) ((H4.out.2.1.below HR.out.1).below hg5) (by simp) (by simp) hur
        have hcon := any_intL (c := c3) eg_w2 (by rw [← H4.out.2.2.2.1]; exact hl3') (by rw [← H4.out.2.2.2.1]; exact (H4.out.2.2.1.below HR.out.1).below hg5) hp
        rw [shared_ok, ← H4.out.2.2.2.1] at hcon
        have H5 := Lib.hid (And.intro hu hg5)
        clear hBr hbl hc hu hg5 hp
        cases hq : Acy.okW (attrs S) E k u with
        | true =>
          rw [hq] at hcon
          have HQ := Lib.hid hq
          clear hq
          go_wp2_with fail
          refine hcon.mono ?_
          rintro e w6 ⟨rfl, hb⟩
          have e0 := (hb.cell (p := ⟨wr.heap.size, 0, none⟩) (by simp)).trans (by simp; rfl)
          have HB := Lib.hid (Below.step HR.out.1 (Below.step H5.out.2 hb))
          clear hb
          go_wp2
          go_ret2
          exact ⟨by rw [HK.out, find_hit (by rw [← HN.out.2]; exact hlt) (by rw [← H5.out.1]; exact HQ.out) HR.out.2, ← H5.out.1]; rfl, Below.step H4.out.1 HB.out⟩
        | false =>
          rw [hq] at hcon
          have HQ := Lib.hid hq
          clear hq
          go_wp2_with fail
          refine hcon.mono ?_
          rintro e w6 ⟨rfl, hb⟩
          have HB := Lib.hid (Below.step HR.out.1 (Below.step H5.out.2 hb))
          clear hb
          go_wp2
          go_roundg (n - (i + 1))
          case measure => omega
          case rel => exact ⟨i + 1, by omega, by go_num, Lib.hid ⟨HB.out, fun j hj => by
            by_cases e : j = i
            · rw [e, ← H5.out.1]; exact HQ.out
            · exact HR.out.2 j (by omega)⟩⟩
      · have ein : i = n := by omega
        have HF := Lib.hid (show (Acy.oth E k).find? (fun w => Acy.okW (attrs S) E k w) = none from find_miss fun j hj => HR.out.2 j (by have := HN.out.2; omega))
        rw [ein]
        clear hlt hi ein
        go_wp2
        go_ret2
        exact ⟨by rw [HK.out, HF.out]; rfl, Below.step H4.out.1 HR.out.1⟩
end Go.Proofs.Ytiakgcaflnpmeaa
