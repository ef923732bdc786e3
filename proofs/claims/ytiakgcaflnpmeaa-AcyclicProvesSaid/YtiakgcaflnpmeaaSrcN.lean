/- The source of numbers: Mod, N and New; it changes its own block alone. -/
import Derived.Test.YtiakgcaflnpmeaaDrw
import Derived.IntWalk
import Derived.Lib.BufferMore
namespace Go.Proofs.Ytiakgcaflnpmeaa
open Go Go.RowKit

theorem cell_at {w : World} {g j : Nat} {cs : Array Value} {t : TypeId} {v : Value} (h : w.heap[g]? = some (.cells cs t (0, 0))) (hj : cs[j]? = some v) : w.cell? ⟨g, j, none⟩ = some v := by
  simp [World.cell?, h, hj]
def modv (x n : Int) : Int := (x.tmod n + n).tmod n
theorem modv_range (x n : Int) (hn : 1 ≤ n) : 0 ≤ modv x n ∧ modv x n < n := by
  have h1 := Int.tmod_lt_of_pos x (show 0 < n by omega)
  have h2 : -n < x.tmod n := by
    rcases Int.le_total 0 x with h | h
    · have := Int.tmod_nonneg n h; omega
    · have h3 := Int.tmod_lt_of_pos (-x) (show 0 < n by omega)
      rw [Int.neg_tmod] at h3; omega
  unfold modv
  rw [Int.tmod_eq_emod_of_nonneg (by omega)]
  exact ⟨Int.emod_nonneg _ (by omega), Int.emod_lt_of_pos _ (by omega)⟩
set_option maxHeartbeats 400000 in
theorem mod_any {w : World} (x n : Int) (hn : 1 ≤ n) (hn' : n ≤ 1000) (_ : -9223372036854775808 ≤ x) (_ : x ≤ 9223372036854775807) :
    Calls Try.prog 43 #[.int .i64 x, .int .i64 n] w fun e w' => e = .returned (.int .i64 (modv x n)) ∧ w = w' := by
  have h1 := Int.tmod_lt_of_pos x (show 0 < n by omega)
  have h2 : -n < x.tmod n := by
    rcases Int.le_total 0 x with h | h
    · have := Int.tmod_nonneg n h; omega
    · have h3 := Int.tmod_lt_of_pos (-x) (show 0 < n by omega)
      rw [Int.neg_tmod] at h3; omega
  go_enter Try.func43, Try.ntmps43
  go_wp2
  go_ret
  exact ⟨by unfold modv; rw [Int.tmod_eq_emod_of_nonneg (a := x.tmod n + n) (by omega)]; rfl, rfl⟩

/-- Block g is a source of numbers. -/
def SrcIn (w : World) (g : Nat) : Prop :=
  ∃ A n c at_, w.heap[g]? = some (.cells #[.slice A n c, .int .i64 ((at_ : Nat) : Int)] 66 (0, 0)) ∧ at_ ≤ n ∧ n ≤ 600 ∧
    (0 < n → ∃ b off, A = some ⟨b, off, none⟩ ∧ b < g ∧ ∀ i, i < n → ∃ z : Int, w.cell? ⟨b, off + i, none⟩ = some (.int .i64 z) ∧ -9223372036854775808 ≤ z ∧ z ≤ 9223372036854775807)
theorem SrcIn.lt {w : World} {g : Nat} (h : SrcIn w g) : g < w.heap.size := by obtain ⟨A, n, c, a, h, _⟩ := h; exact lt_of_block h
theorem SrcIn.below {w w' : World} {g : Nat} (h : SrcIn w g) (hb : Below w.heap.size w w') : SrcIn w' g := by
  obtain ⟨A, n, c, a, hh, h1, h2, h3⟩ := h
  refine ⟨A, n, c, a, (hb.block g (lt_of_block hh)).trans hh, h1, h2, fun h0 => ?_⟩
  obtain ⟨b, off, e, hbl, hc⟩ := h3 h0
  refine ⟨b, off, e, hbl, fun i hi => ?_⟩
  obtain ⟨z, hz, hr⟩ := hc i hi
  exact ⟨z, (hb.cell (Nat.lt_trans hbl (lt_of_block hh))).trans hz, hr⟩

/-- What the law is handed: a slice of whole numbers. -/
def Nums (w : World) (A : Option Addr) (n : Nat) : Prop :=
  n ≤ maxLen ∧ (0 < n → ∃ b off, A = some ⟨b, off, none⟩ ∧ b < w.heap.size ∧ ∀ i, i < n → ∃ z : Int, w.cell? ⟨b, off + i, none⟩ = some (.int .i64 z) ∧ -9223372036854775808 ≤ z ∧ z ≤ 9223372036854775807)

set_option maxHeartbeats 800000 in
set_option maxRecDepth 100000 in
theorem new_any {w : World} {A : Option Addr} {n c : Nat} (h : Nums w A n) (hc : n ≤ c) (_ : c ≤ maxLen) :
    Calls Try.prog 10 #[.slice A n c] w fun e w' => ∃ g, e = .returned (.pointer (some ⟨g, 0, none⟩)) ∧ w.heap.size ≤ g ∧ SrcIn w' g ∧ Below w.heap.size w w' := by
  have H := Lib.hid h
  have hn := h.1
  clear h
  go_enter Try.func10, Try.ntmps10
  go_wp2_with fail
  go_ret
  refine ⟨w.heap.size, rfl, Nat.le_refl _, ?_, (Below.refl _ _).alloc (Nat.le_refl _) _⟩
  refine ⟨A, (min (n : Int) 600).toNat, c, 0, heap_alloc_new w _, Nat.zero_le _, by omega, fun h0 => ?_⟩
  obtain ⟨b, off, e, hb, hc⟩ := H.out.2 (by omega)
  refine ⟨b, off, e, hb, fun i hi => ?_⟩
  obtain ⟨z, hz, hr⟩ := hc i (by omega)
  exact ⟨z, (Below.cell ((Below.refl w.heap.size w).alloc (Nat.le_refl _) _) hb).trans hz, hr⟩

theorem conv_one (w : World) {d : Int} (h0 : 0 ≤ d) (h1 : d < 256) :
    (convert 95 9 (.slice (some ⟨w.heap.size, 0, none⟩) 1 1)).run Try.prog (w.alloc (.cells #[.int .u8 d] 5)) = .ok (.string ⟨[UInt8.ofNat d.toNat].toArray⟩) (w.alloc (.cells #[.int .u8 d] 5)) := by
  refine run_convert_bytes_back (P := Try.prog) (w.alloc (.cells #[.int .u8 d] 5)) 95 9 5 ⟨w.heap.size, 0, none⟩ 1 [UInt8.ofNat d.toNat] Try.underlying95 Try.underlying5 Try.underlying9 (fun j hj => ?_)
  obtain rfl : j = 0 := by simpa using hj
  have e : (([UInt8.ofNat d.toNat][0]).toNat : Int) = d := by
    show ((UInt8.ofNat d.toNat).toNat : Int) = d
    rw [UInt8.toNat_ofNat']; omega
  rw [e]
  exact cell_at (heap_alloc_new w _) rfl
theorem bytes_app (l r : List UInt8) : (⟨l.toArray⟩ : ByteArray) ++ ⟨r.toArray⟩ = ⟨(l ++ r).toArray⟩ := by
  apply ByteArray.ext
  simp
theorem SrcIn.alloc {w : World} {g : Nat} (h : SrcIn w g) (o : Obj) : SrcIn (w.alloc o) g := h.below ((Below.refl _ _).alloc (Nat.le_refl _) _)
/-- Of the blocks that were there only g has changed. -/
def Src1 (g : Nat) (w w' : World) : Prop := Below g w w' ∧ ∀ k, k < w.heap.size → k ≠ g → w'.heap[k]? = w.heap[k]?
section
variable {g : Nat} {w w' w'' : World}
theorem Src1.refl (g : Nat) (w : World) : Src1 g w w := ⟨Below.refl _ _, fun _ _ _ => rfl⟩
theorem Src1.trans (h : Src1 g w w') (h' : Src1 g w' w'') : Src1 g w w'' := ⟨h.1.trans h'.1, fun k hk hne => (h'.2 k (Nat.lt_of_lt_of_le hk h.1.size) hne).trans (h.2 k hk hne)⟩
theorem Src1.below (h : Below w.heap.size w w') (hg : g ≤ w.heap.size) : Src1 g w w' := ⟨h.mono hg, fun k hk _ => h.block k hk⟩
theorem Src1.alloc (h : Src1 g w w') (hg : g ≤ w'.heap.size) (o : Obj) : Src1 g w (w'.alloc o) := h.trans (Src1.below ((Below.refl _ _).alloc (Nat.le_refl _) o) hg)
theorem Src1.drawn (h : Drawn w w') : Src1 g w w' := ⟨h.below g, fun k _ _ => (h.below (k + 1)).block k (Nat.lt_succ_self k)⟩
theorem Src1.set (w : World) (j : Nat) (v : Value) : Src1 g w (w.setCell ⟨g, j, none⟩ v) := ⟨(Below.refl g w).setCell (p := ⟨g, j, none⟩) (Nat.le_refl _) v, fun _ _ hne => Below.heap_setCell _ _ _ _ hne⟩
theorem Src1.cell (h : Src1 g w w') {b i : Nat} (hb : b < w.heap.size) (hne : b ≠ g) : w'.cell? ⟨b, i, none⟩ = w.cell? ⟨b, i, none⟩ := by
  unfold World.cell?
  rw [h.2 b hb hne]
end
set_option maxHeartbeats 800000 in
set_option maxRecDepth 100000 in
theorem n_src {w : World} {g : Nat} (m : Int) (h : SrcIn w g) (hm : 1 ≤ m) (hm' : m ≤ 1000) :
    Calls Try.prog 17 #[.pointer (some ⟨g, 0, none⟩), .int .i64 m] w fun e w' => ∃ r : Int, e = .returned (.int .i64 r) ∧ (0 ≤ r ∧ r < m) ∧ SrcIn w' g ∧ Src1 g w w' := by
  have hg := h.lt
  have HS := Lib.hid h
  obtain ⟨A, n, c, a, hh, h1, h2, h3⟩ := h
  have c0 : w.cell? ⟨g, 0, none⟩ = some (.slice A n c) := cell_at hh rfl
  have c1 : w.cell? ⟨g, 1, none⟩ = some (.int .i64 (a : Int)) := cell_at hh rfl
  have f1 : w.frozen? ⟨g, 1, none⟩ = false := by simp [World.frozen?, hh]
  have H := Lib.hid (And.intro hh h3)
  clear hh h3
  by_cases hlt : a < n
  · obtain ⟨b, off, rfl, hbl, hc⟩ := H.out.2 (by omega)
    obtain ⟨z, hz, hz1, hz2⟩ := hc a hlt
    have hge : decide ((n : Int) ≤ (a : Int)) = false := decide_eq_false (by omega)
    have HC := Lib.hid (And.intro hc (And.intro hz1 hz2))
    clear hc hz1 hz2
    go_enter Try.func17, Try.ntmps17
    go_wp2_with fail
    go_quiet (fail)
    go_wp2_with fail
    obtain ⟨w2, hw2⟩ : ∃ w2, w2 = (w.drewN nq).setCell ⟨g, 1, none⟩ (.int .i64 ((a : Int) + 1)) := ⟨_, rfl⟩
    rw [← hw2]
    have hb1 : Src1 g w w2 := by
      rw [hw2]
      exact (Src1.drawn ((Drawn.refl w).drewN nq)).trans (Src1.set _ _ _)
    have hb2 := hb1.1
    have hh2 : w2.heap[g]? = some (.cells #[.slice (some ⟨b, off, none⟩) n c, .int .i64 ((a + 1 : Nat) : Int)] 66 (0, 0)) := by
      rw [hw2]
      exact Lib.heap_setCell_same (i := 1) (show (w.drewN nq).heap[g]? = _ from H.out.1) _
    have d0 : w2.cell? ⟨g, 0, none⟩ = some (.slice (some ⟨b, off, none⟩) n c) := cell_at hh2 rfl
    have d1 : w2.cell? ⟨g, 1, none⟩ = some (.int .i64 ((a : Int) + 1)) := cell_at hh2 rfl
    have dz : w2.cell? ⟨b, off + a, none⟩ = some (.int .i64 z) := (hb2.cell hbl).trans hz
    have hs2 : SrcIn w2 g := by
      refine ⟨_, n, c, a + 1, hh2, hlt, h2, fun _ => ⟨b, off, rfl, hbl, fun i hi => ?_⟩⟩
      obtain ⟨z, hz, hr⟩ := HC.out.1 i hi
      exact ⟨z, (hb2.cell hbl).trans hz, hr⟩
    have H2 := Lib.hid (And.intro hs2 hb1)
    clear hs2 hb1 hb2 hh2 hw2 c0 c1 f1 hz
    have hr := modv_range z m hm
    generalize hv : modv z m = v at *
    have HV := Lib.hid hv
    clear hv
    go_wp2_with fail
    go_quiet ((go_at_call 43; exact Calls.quiet_left (mod_any z m hm hm' HC.out.2.1 HC.out.2.2)))
    go_wp2
    go_ret
    exact ⟨_, rfl, by rw [HV.out]; exact hr, H2.out.1.below ((Drawn.refl w2).drewN nq |>.below _), H2.out.2.trans (Src1.drawn ((Drawn.refl w2).drewN nq))⟩
  · have hge : decide ((n : Int) ≤ (a : Int)) = true := decide_eq_true (by omega)
    go_enter Try.func17, Try.ntmps17
    go_wp2_with fail
    go_quiet (fail)
    go_wp2_with fail
    go_ret
    exact ⟨0, rfl, ⟨by omega, by omega⟩, HS.out.below ((Drawn.refl w).drewN nq |>.below _), Src1.drawn ((Drawn.refl w).drewN nq)⟩
end Go.Proofs.Ytiakgcaflnpmeaa
