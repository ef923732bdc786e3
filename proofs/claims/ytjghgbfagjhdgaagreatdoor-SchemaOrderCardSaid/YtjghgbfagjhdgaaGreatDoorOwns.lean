/- A row of limbs with room behind them; scaleAdd. slices.Clone of limbs; setQuotient on a row with room. -/
import Derived.Test.YtjghgbfagjhdgaaGreatDoorNats
import Derived.WalkSpells
namespace Go.Proofs.YtjghgbfagjhdgaaGreatDoor
open Go Go.RowKit

def digs (L n : Nat) : List Value := (List.range L).map fun i => Value.int .u32 (M.dg n i : Int)
theorem digs_get {L n i : Nat} (hi : i < L) : (digs L n)[i]? = some (.int .u32 (M.dg n i : Int)) := by simp [digs, hi]
theorem digs_length (L n : Nat) : (digs L n).length = L := by simp [digs]
theorem digs_set {L n k d : Nat} (hd : d < M.B) : (digs L n).set k (.int .u32 (d : Int)) = digs L (M.put n k d) := by
  apply List.ext_getElem?
  intro j
  rw [List.getElem?_set, digs_length]
  by_cases hj : j < L
  · rw [digs_get hj]
    by_cases e : k = j
    · subst e; rw [if_pos rfl, if_pos hj, digs_get hj, M.dg_put_same n k hd]
    · rw [if_neg e, digs_get hj, M.dg_put_other n hd (fun h => e h.symm)]
  · rw [List.getElem?_eq_none (by rw [digs_length]; omega), List.getElem?_eq_none (by rw [digs_length]; omega)]
    split <;> simp_all
theorem digs_snoc (L n d : Nat) (hn : n < M.B ^ L) (hd : d < M.B) : digs L n ++ [.int .u32 (d : Int)] = digs (L + 1) (n + d * M.B ^ L) := by
  rw [← M.put_top hn]
  unfold digs
  rw [List.range_succ, List.map_append]
  congr 1
  · apply List.map_congr_left
    intro i hi
    rw [M.dg_put_other n hd (by have := List.mem_range.1 hi; omega)]
  · simp [M.dg_put_same n L hd]

/-- Block g begins with the L limbs of n, and has room for cap. -/
def Own (w : World) (g L cap n : Nat) : Prop := w.ownsRow g 193 1 (.slice (some ⟨g, 0, none⟩) L cap) L (digs L n) ∧ n < M.B ^ L

section
variable {w w' : World} {g L cap n : Nat}
theorem Own.block (h : Own w g L cap n) : ∃ cur, w.heap[g]? = some (.cells cur 193 (0, 0)) ∧ L ≤ cap ∧ cap ≤ maxLen := by
  rcases h.1.2 with ⟨h', _⟩ | ⟨g', cap', cur, h', _, hg, h1, h2, _⟩
  · simp at h'
  · simp only [Value.slice.injEq, Option.some.injEq, Addr.mk.injEq, and_true, true_and] at h'
    obtain ⟨rfl, rfl⟩ := h'
    exact ⟨cur, hg, h1, h2⟩
theorem Own.lt (h : Own w g L cap n) : g < w.heap.size := by obtain ⟨_, h, _⟩ := h.block; exact lt_of_block h
theorem Own.cell (h : Own w g L cap n) {j : Nat} (hj : j < L) : w.cell? ⟨g, j, none⟩ = some (.int .u32 (M.dg n j)) := by
  rw [h.1.cellAt j (by omega), digs_get hj]
theorem Own.free (h : Own w g L cap n) (j : Nat) : w.frozen? ⟨g, j, none⟩ = false := h.1.frozenAt j
theorem Own.set (h : Own w g L cap n) {k d : Nat} (hk : k < L) (hd : d < M.B) : Own (w.setCell ⟨g, k, none⟩ (.int .u32 d)) g L cap (M.put n k d) := by
  have h2 := (h.1.stored k (.int .u32 (d : Int))).1
  rw [digs_set hd] at h2
  exact ⟨h2, M.put_lt h.2 hk hd⟩
theorem Own.limbs (h : Own w g L cap n) : Limbs w (some ⟨g, 0, none⟩) L n :=
  ⟨h.2, fun _ => ⟨g, 0, rfl, h.lt, fun i hi => by rw [Nat.zero_add]; exact h.cell hi⟩⟩
theorem Own.keep (h : Own w g L cap n) (hb : w'.heap[g]? = w.heap[g]?) : Own w' g L cap n := by
  refine ⟨⟨h.1.1, ?_⟩, h.2⟩
  rcases h.1.2 with h1 | ⟨g', cap', cur, h', h2, hg, h3⟩
  · exact .inl h1
  · refine .inr ⟨g', cap', cur, h', h2, ?_, h3⟩
    simp only [Value.slice.injEq, Option.some.injEq, Addr.mk.injEq, and_true, true_and] at h'
    rw [← h'.1, hb, h'.1]; exact hg
theorem Own.below (h : Own w g L cap n) {B : Nat} (hb : Below B w w') (hg : g < B) : Own w' g L cap n := h.keep (hb.block g hg)
theorem Own.alloc (h : Own w g L cap n) (o : Obj) : Own (w.alloc o) g L cap n := h.keep (Below.heap_alloc w o g h.lt)
end

/-- What is there behind i limbs of 'n * f + s', in place. -/
theorem scale_step {Y n f s c i : Nat} (h : Y % M.B ^ i + c * M.B ^ i = n % M.B ^ i * f + s) (hd : Y / M.B ^ i = n / M.B ^ i) :
    M.put Y i ((c + M.dg n i * f) % M.B) % M.B ^ (i + 1) + (c + M.dg n i * f) / M.B * M.B ^ (i + 1) = n % M.B ^ (i + 1) * f + s ∧
    M.put Y i ((c + M.dg n i * f) % M.B) / M.B ^ (i + 1) = n / M.B ^ (i + 1) := by
  have hm := Nat.mod_add_div (c + M.dg n i * f) M.B
  have hlt := Nat.mod_lt (c + M.dg n i * f) M.B_pos
  generalize hq : (c + M.dg n i * f) / M.B = q at *
  generalize hr : (c + M.dg n i * f) % M.B = r at *
  constructor
  · rw [M.mod_succ, M.put_mod, M.dg_put_same _ _ hlt, M.mod_succ, M.pow_succ']
    have e1 : q * (M.B ^ i * M.B) = (M.B * q) * M.B ^ i := by rw [Nat.mul_comm (M.B ^ i), ← Nat.mul_assoc, Nat.mul_comm q]
    have e2 : (n % M.B ^ i + M.B ^ i * M.dg n i) * f = n % M.B ^ i * f + (M.dg n i * f) * M.B ^ i := by rw [Nat.add_mul, Nat.mul_assoc, Nat.mul_comm (M.B ^ i)]
    have e3 : (r + M.B * q) * M.B ^ i = (c + M.dg n i * f) * M.B ^ i := by rw [hm]
    rw [Nat.add_mul, Nat.add_mul] at e3
    rw [e1, e2, Nat.mul_comm (M.B ^ i) r]
    omega
  · rw [M.put_div_succ Y i hlt]
    have h1 := M.div_succ Y i
    have h2 := M.div_succ n i
    have h3 := M.dg_lt Y i
    have h4 := M.dg_lt n i
    have e5 : M.dg Y i = M.dg n i := by unfold M.dg; rw [hd]
    rw [hd, h2, e5] at h1
    have := Nat.eq_of_mul_eq_mul_left M.B_pos (show M.B * (n / M.B ^ (i + 1)) = M.B * (Y / M.B ^ (i + 1)) by omega)
    exact this.symm
theorem add_wrap {c a f : Nat} (hc : c ≤ 4294967295) (ha : a ≤ 4294967295) (hf : f ≤ 4294967295) :
    IntKind.u64.wrap ((c : Int) + IntKind.u64.wrap ((a : Int) * (f : Int))) = ((c + a * f : Nat) : Int) := by
  have h := Nat.mul_le_mul ha hf
  rw [IntKind.wrap_u64, IntKind.wrap_u64]
  push_cast
  rw [← Int.natCast_mul]
  generalize a * f = t at *
  omega
theorem add_bound {c a f : Nat} (hc : c ≤ 4294967295) (ha : a ≤ 4294967295) (hf : f ≤ 4294967295) : (c + a * f) / M.B ≤ 4294967295 := by
  have h := Nat.mul_le_mul ha hf
  rw [M.B_eq]
  generalize a * f = t at *
  omega

set_option maxHeartbeats 800000 in
set_option maxRecDepth 100000 in
theorem scaleAdd_any {w : World} {g L cap n f s : Nat} (h : Own w g L cap n) (hroom : L < cap) (hf : f ≤ 4294967295) (hs : s ≤ 4294967295) (hL : L ≤ 100000) :
    Calls Tryz.prog 258 #[.slice (some ⟨g, 0, none⟩) L cap, .int .u64 (f : Int), .int .u64 (s : Int)] w fun e w' => ∃ L', e = .returned (.slice (some ⟨g, 0, none⟩) L' cap) ∧ Own w' g L' cap (n * f + s) ∧ w.grownBy w' (some g) ∧ L ≤ L' ∧ L' ≤ L + 1 ∧ (L' = L ∨ M.B ^ L ≤ n * f + s) := by
  have H := Lib.hid h
  clear h
  go_enter Tryz.func258, Tryz.ntmps258
  go_wp2_with fail
  go_loopw [2, 10] (fun cv iv wr => ∃ i Y c : Nat, i ≤ L ∧ iv = .int .i64 (i : Int) ∧ cv = .int .u64 (c : Int) ∧ c ≤ 4294967295 ∧ Own wr g L cap Y ∧ w.grownBy wr (some g) ∧ Y % M.B ^ i + c * M.B ^ i = n % M.B ^ i * f + s ∧ Y / M.B ^ i = n / M.B ^ i) (fun _ iv _ => L - (intOf iv).toNat)
  case atStart => exact ⟨0, n, s, by omega, rfl, rfl, hs, H.out, only_refl _ _, by simp [Nat.mod_one], rfl⟩
  case round =>
    obtain ⟨i, Y, c, hi, rfl, rfl, hc, ho, hg, hE, hD⟩ := hrel
    by_cases hlt : i < L
    · have hcell := ho.cell hlt
      have hfree := ho.free i
      have e5 : M.dg Y i = M.dg n i := by unfold M.dg; rw [hD]
      rw [e5] at hcell
      clear e5
      have hdn := M.dg_le n i
      have HO := Lib.hid (And.intro ho (And.intro hg (scale_step hE hD)))
      clear ho hg hE hD
      go_wp2
      go_roundw
      case rel =>
        have R := HO.out.1.set hlt (Nat.mod_lt (c + M.dg n i * f) M.B_pos)
        refine ⟨i + 1, _, (c + M.dg n i * f) / M.B, by omega, by go_num, ?_, add_bound hc hdn hf, ?_, only_set HO.out.2.1 _ _, HO.out.2.2.1, HO.out.2.2.2⟩
        · rw [add_wrap hc hdn hf, cast_div]
        · rw [add_wrap hc hdn hf, cast_mod]; exact R
      case measure => simp [intOf]; omega
    · obtain rfl : i = L := by omega
      rw [Nat.mod_eq_of_lt ho.2, Nat.mod_eq_of_lt H.out.2] at hE
      have HO := Lib.hid (And.intro ho (And.intro hg hE))
      clear ho hg hE hD hlt hi
      by_cases h0 : c = 0
      · subst h0
        have HE := Lib.hid (show Y = n * f + s by have := HO.out.2.2; omega)
        go_wp2
        go_ret
        refine ⟨i, rfl, ?_, HO.out.2.1, Nat.le_refl _, Nat.le_succ _, .inl rfl⟩
        rw [← HE.out]
        exact HO.out.1
      · have hpos : 1 ≤ c := by omega
        clear h0
        obtain ⟨ei, hi0, hz0, hz1, hz2⟩ := info_parts info32
        have HI := Lib.hid (And.intro hi0 hz1)
        clear hi0 hz0 hz1 hz2
        have hm : (c : Int) % 4294967296 = c := by omega
        go_wp2_with (at_builtin; refine wpList_append_fits _ rfl (.tmp 32) (.tmp 35) _ rfl g 193 ei 1 Tryz.underlying75 HI.out.1 HI.out.2 g i cap (digs i Y) rfl (HO.out.1.alloc _).1 ⟨wr.heap.size, 0, none⟩ 1 1 [.int .u32 (c : Int)] rfl rfl (by intro j u hj; match j, hj with | 0, hj => simp at hj; subst hj; simp [Addr.add]) (by intro u hu; simp at hu; subst hu; rfl) (by omega) ?_; intro w1 hown1 hgrow1)
        go_ret
        have hd : c < M.B := by rw [M.B_eq]; omega
        rw [digs_snoc i Y c HO.out.1.2 hd] at hown1
        refine ⟨i + 1, rfl, ⟨?_, ?_⟩, ?_, by omega, Nat.le_refl _, .inr ?_⟩
        · rw [← HO.out.2.2]; exact hown1
        · rw [← HO.out.2.2, ← M.put_top HO.out.1.2]; exact M.put_lt (Nat.lt_of_lt_of_le HO.out.1.2 (M.pow_mono (Nat.le_succ _))) (Nat.lt_succ_self _) hd
        · have hg := HO.out.2.1
          exact ⟨hgrow1.os.trans hg.os, hgrow1.tape.trans hg.tape, hgrow1.output.trans hg.output, Nat.le_trans hg.size (Nat.le_trans (by simp) hgrow1.size), fun k hk hne => (hgrow1.block k (by have := hg.size; simp; omega) hne).trans ((Below.heap_alloc wr _ k (by have := hg.size; omega)).trans (hg.block k hk hne))⟩
        · rw [← HO.out.2.2]
          have := Nat.mul_le_mul_right (M.B ^ i) hpos
          omega
end Go.Proofs.YtjghgbfagjhdgaaGreatDoor
namespace Go.Proofs.YtjghgbfagjhdgaaGreatDoor
open Go Go.RowKit

theorem digs_take {k L n : Nat} (hk : k ≤ L) : (digs L n).take k = digs k n := by
  apply List.ext_getElem?
  intro j
  rw [List.getElem?_take]
  by_cases hj : j < k
  · rw [if_pos hj, digs_get (by omega), digs_get hj]
  · rw [if_neg hj, List.getElem?_eq_none (by rw [digs_length]; omega)]
theorem Own.cut {w : World} {g L cap n k : Nat} (h : Own w g L cap n) (hk : k ≤ L) (hn : n < M.B ^ k) : Own w g k cap n := by
  refine ⟨⟨by rw [digs_length]; omega, ?_⟩, hn⟩
  rcases h.1.2 with ⟨h', _⟩ | ⟨g', cap', cur, h', hb, hg, h1, h2, h3, h4⟩
  · simp at h'
  · simp only [Value.slice.injEq, Option.some.injEq, Addr.mk.injEq, and_true, true_and] at h'
    obtain ⟨rfl, rfl⟩ := h'
    refine .inr ⟨g, cap, cur, rfl, hb, hg, by omega, h2, h3, ?_⟩
    rw [Nat.mul_one] at h4 ⊢
    rw [← digs_take hk, ← h4, List.take_take, Nat.min_eq_left hk]

theorem sq_dg (X y Q j : Nat) : M.dg (sq X y Q (j + 1)) j = M.dg Q j := by
  have h1 : sq X y Q (j + 1) % M.B ^ (j + 1) = Q % M.B ^ (j + 1) := by
    unfold sq
    rw [Nat.add_mul_mod_self_left, Nat.mod_mod]
  rw [← M.dg_mod (show j < j + 1 by omega), h1, M.dg_mod (by omega)]
theorem sq_own {wr : World} {g L cap X y Q k r : Nat} (hk : k < L) (hy : 0 < y) (hr : r = X / M.B ^ (k + 1) % y) (hb : r ≤ 4294967295) (hrow : Own wr g L cap (sq X y Q (k + 1))) :
    Own (wr.setCell ⟨g, k, none⟩ (.int .u32 (IntKind.u64.wrap ((bits .or .u64 ((r : Int) * 4294967296) (M.dg X k : Int)).tdiv (y : Int)) % 4294967296))) g L cap (sq X y Q k) := by
  have h := hrow.set hk (M.dg_lt (X / y) k)
  rw [sq_step] at h
  have h2 := M.dg_le (X / y) k
  rw [or_plain hb (M.dg_le X k), tdiv_nat, hr, quo_step hy]
  rwa [show IntKind.u64.wrap (M.dg (X / y) k : Int) % 4294967296 = (M.dg (X / y) k : Int) by rw [IntKind.wrap_u64]; omega]
theorem neq_nil_slice (b off n c : Nat) (w : World) : (binOp .eql 75 (.slice (some ⟨b, off, none⟩) n c) (.slice none 0 0)).run Tryz.prog w = .ok (.bool false) w := by
  simpa using Lib.run_eql_slice_nil (P := Tryz.prog) w 75 193 (some ⟨b, off, none⟩) n c 0 0 Tryz.underlying75
set_option maxHeartbeats 400000 in
theorem clone_any {w : World} {b off l c n : Nat} (h : Limbs w (some ⟨b, off, none⟩) l n) (h0 : 0 < l) (hl : l ≤ 100000) :
    Calls Tryz.prog 176 #[.slice (some ⟨b, off, none⟩) l c] w fun e w' => ∃ g cap, e = .returned (.slice (some ⟨g, 0, none⟩) l cap) ∧ Own w' g l cap n ∧ w.heap.size ≤ g ∧ Below w.heap.size w w' := by
  obtain ⟨i, hi, hz, hs, hb⟩ := info_parts info32
  obtain ⟨b', off', e, hbw, hc⟩ := h.2 h0
  injection e with e
  injection e with e1 e2 _
  subst e1 e2
  have H := Lib.hid (And.intro hi (And.intro hz (And.intro hs (And.intro hb (And.intro h hc)))))
  clear hi hz hs hb h hc
  have hnn := fun w => neq_nil_slice b off l c w
  have hown : (w.alloc (.cells #[] 193)).ownsRow w.heap.size 193 1 (.slice (some ⟨w.heap.size, 0, none⟩) 0 0) 0 [] := by
    have := World.ownsRow_lit (base := w.heap.size) (e := 193) (size := 1) w #[] 0 (Nat.le_refl _) (by omega) (by simp)
    simpa using this
  have hb0 : Below w.heap.size w (w.alloc (.cells #[] 193)) := (Below.refl _ _).alloc (Nat.le_refl _) _
  have hsz : w.heap.size ≤ (w.alloc (.cells #[] 193)).heap.size := hb0.size
  have hcell : ∀ j u, (digs l n)[j]? = some u → (w.alloc (.cells #[] 193)).cell? ((⟨b, off, none⟩ : Addr).add j) = some u := by
    intro j u hj
    have hjl : j < l := by
      rcases Nat.lt_or_ge j l with h1 | h1
      · exact h1
      · rw [List.getElem?_eq_none (by rw [digs_length]; omega)] at hj; cases hj
    rw [digs_get hjl] at hj
    injection hj with hj
    subst hj
    rw [show ((⟨b, off, none⟩ : Addr).add j) = ⟨b, off + j, none⟩ by unfold Addr.add; split <;> simp_all]
    exact (hb0.cell (p := ⟨b, off + j, none⟩) hbw).trans (H.out.2.2.2.2.2 j hjl)
  have H2 := Lib.hid (And.intro hown (And.intro hb0 (And.intro hsz hcell)))
  clear hown hb0 hsz hcell hbw
  go_enter Tryz.func176, Tryz.ntmps176
  go_wp2_with (at_builtin; refine wpList_append_own _ rfl (.tmp 5) (.tmp 6) 75 rfl w.heap.size 193 i (.int .u32 0) 1 4 Tryz.underlying75 H.out.1 H.out.2.1 H.out.2.2.1 H.out.2.2.2.1 rfl (by decide) _ 0 [] rfl H2.out.1 ⟨b, off, none⟩ l c (digs l n) rfl (by rw [digs_length]; omega) H2.out.2.2.2 (by intro u hu; obtain ⟨j, _, rfl⟩ := List.mem_map.1 hu; rfl) (by unfold maxLen; omega) (by omega) H2.out.2.2.1 ?_; intro v' w1 hown1 hgrow1 hnil)
  go_ret
  rw [Nat.zero_add, List.nil_append] at hown1
  have hg1 := H2.out.2.1.grown hgrow1 H2.out.2.2.1 (by intro k hk; exact Nat.le_of_eq (Option.some.inj hk))
  rcases hown1.2 with ⟨_, e⟩ | ⟨g, cap, cur, rfl, hbg, hg, h1, h2, h3, h4⟩
  · omega
  · exact ⟨g, cap, rfl, ⟨⟨by rw [digs_length]; omega, .inr ⟨g, cap, cur, rfl, Nat.le_refl _, hg, h1, h2, h3, h4⟩⟩, H.out.2.2.2.2.1.1⟩, hbg, hg1⟩

set_option maxHeartbeats 800000 in
set_option maxRecDepth 100000 in
theorem setQuotient_own {w : World} {g L cap X y : Nat} (h : Own w g L cap X) (hy : 0 < y) (hy' : y ≤ 4294967295) (hL : L ≤ 100000) :
    Calls Tryz.prog 177 #[.slice (some ⟨g, 0, none⟩) L cap, .slice (some ⟨g, 0, none⟩) L cap, .int .u32 (y : Int)] w fun e w' => e = .returned (.int .u32 ((X % y : Nat) : Int)) ∧ Own w' g L cap (X / y) ∧ w.grownBy w' (some g) := by
  have H := Lib.hid h
  clear h
  go_enter Tryz.func177, Tryz.ntmps177
  go_wp2_with fail
  go_loopw [7, 8] (fun rv iv wr => ∃ k r : Nat, k ≤ L ∧ iv = .int .i64 ((k : Int) - 1) ∧ rv = .int .u64 (r : Int) ∧ r = X / M.B ^ k % y ∧ Own wr g L cap (sq X y X k) ∧ w.grownBy wr (some g)) (fun _ iv _ => (intOf iv + 1).toNat)
  case atStart =>
    refine ⟨L, 0, Nat.le_refl _, rfl, rfl, by rw [Nat.div_eq_of_lt H.out.2, Nat.zero_mod], ?_, only_refl _ _⟩
    rw [sq_start H.out.2 H.out.2]; exact H.out
  case round =>
    obtain ⟨k, r, hk, rfl, rfl, hre, hr, hb⟩ := hrel
    have hlt := Nat.mod_lt (X / M.B ^ k) hy
    rw [← hre] at hlt
    have HE := Lib.hid hre
    clear hre
    have hr2 : (r : Int) % 4294967296 = r := by omega
    by_cases h0 : k = 0
    · subst h0
      rw [sq_end] at hr
      have HF := Lib.hid (show r = X % y by have h := HE.out; rwa [Nat.pow_zero, Nat.div_one] at h)
      have HR := Lib.hid (And.intro hr hb)
      clear hr hb
      go_wp2
      go_ret
      refine ⟨?_, HR.out.1, HR.out.2⟩
      rw [← HF.out]
      rfl
    · obtain ⟨j, rfl⟩ : ∃ j, k = j + 1 := ⟨k - 1, by omega⟩
      rw [show (((j + 1 : Nat) : Int) - 1) = (j : Int) by omega]
      have hxc := hr.cell (show j < L by omega)
      rw [sq_dg] at hxc
      have hqf := hr.free j
      have hdx := M.dg_le X j
      have HR := Lib.hid (And.intro hr hb)
      clear hr hb
      go_wp2
      go_roundw
      case rel =>
        have R := sq_own (show j < L by omega) hy HE.out (by omega) HR.out.1
        have E := sq_rem HE.out (show r ≤ 4294967295 by omega)
        refine ⟨j, X / M.B ^ j % y, by omega, rfl, ?_, Eq.refl _, R, only_set HR.out.2 _ _⟩
        rw [E]
      case measure => simp [intOf]
end Go.Proofs.YtjghgbfagjhdgaaGreatDoor
