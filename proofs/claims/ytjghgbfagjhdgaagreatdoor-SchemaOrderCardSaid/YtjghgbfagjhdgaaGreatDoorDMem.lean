/- Words for memory: the limbs of the reference (base 10^9). The reference's size: it compares numbers. The reference's trim. The reference's plus: it adds numbers. Words for the reference's numbers: a Big; two of them as arguments. The reference's Minus, Digits and Cmp of numbers. The reference's Cmp of numbers. -/
import Derived.Test.YtjghgbfagjhdgaaGreatDoorOwns
import Derived.Test.YtjghgbfagjhdgaaGreatDoorPure
import Derived.IntWalk
namespace Go.Proofs.YtjghgbfagjhdgaaGreatDoor
open Go Go.RowKit

/-- The len limbs at A hold the digits of n. -/
def DL (w : World) (A : Option Addr) (len n : Nat) : Prop :=
  n < D.B ^ len ∧ (0 < len → ∃ b off, A = some ⟨b, off, none⟩ ∧ b < w.heap.size ∧ ∀ i, i < len → w.cell? ⟨b, off + i, none⟩ = some (.int .i64 (D.dg n i)))

/-- v is the natural n: as few limbs as there can be. -/
def DNat (w : World) (v : Value) (n : Nat) : Prop :=
  ∃ A len cap, v = .slice A len cap ∧ DL w A len n ∧ (len = 0 ∨ D.B ^ (len - 1) ≤ n) ∧ len ≤ cap ∧ cap ≤ 9223372036854775807

theorem DL.at_ {w : World} {A : Option Addr} {len n i : Nat} (h : DL w A len n) (hi : i < len) :
    ∃ b off, A = some ⟨b, off, none⟩ ∧ b < w.heap.size ∧ ∀ i, i < len → w.cell? ⟨b, off + i, none⟩ = some (.int .i64 (D.dg n i)) := h.2 (by omega)
theorem DL.big {w : World} {A : Option Addr} {len n i : Nat} (h : DL w A len n) (hi : len ≤ i) : D.dg n i = 0 := D.dg_big h.1 hi
theorem DL.none_ (w : World) (A : Option Addr) : DL w A 0 0 := ⟨by simp, fun h => absurd h (by omega)⟩
theorem DL.keep {w w' : World} {A : Option Addr} {len n : Nat} (h : DL w A len n) (hs : w.heap.size ≤ w'.heap.size) (hc : ∀ p : Addr, p.block < w.heap.size → w'.cell? p = w.cell? p) : DL w' A len n :=
  ⟨h.1, fun hl => by
    obtain ⟨b, off, e, hb, hh⟩ := h.2 hl
    exact ⟨b, off, e, by omega, fun i hi => (hc _ hb).trans (hh i hi)⟩⟩
theorem DL.below {w w' : World} {A : Option Addr} {len n B : Nat} (h : DL w A len n) (hb : Below B w w') (hB : w.heap.size ≤ B) : DL w' A len n :=
  h.keep hb.size fun _ hp => hb.cell (by omega)
theorem DL.drew {w : World} {A : Option Addr} {len n : Nat} (h : DL w A len n) : DL w.drew A len n := h
theorem DL.drewN {w : World} {A : Option Addr} {len n : Nat} (h : DL w A len n) (k : Nat) : DL (w.drewN k) A len n := h
theorem DL.alloc {w : World} {A : Option Addr} {len n : Nat} (h : DL w A len n) (o : Obj) : DL (w.alloc o) A len n :=
  h.below ((Below.refl w.heap.size w).alloc (Nat.le_refl _) o) (Nat.le_refl _)
/-- The lowest limbs alone. -/
theorem DL.cut {w : World} {A : Option Addr} {len n k : Nat} (h : DL w A len n) (hk : k ≤ len) (hn : n < D.B ^ k) : DL w A k n :=
  ⟨hn, fun h0 => by
    obtain ⟨b, off, e, hb, hh⟩ := h.2 (by omega)
    exact ⟨b, off, e, hb, fun i hi => hh i (by omega)⟩⟩

theorem DNat.keep {w w' : World} {v : Value} {n : Nat} (h : DNat w v n) (hs : w.heap.size ≤ w'.heap.size) (hc : ∀ p : Addr, p.block < w.heap.size → w'.cell? p = w.cell? p) : DNat w' v n := by
  obtain ⟨A, len, cap, e, hl, r⟩ := h
  exact ⟨A, len, cap, e, hl.keep hs hc, r⟩
theorem DNat.below {w w' : World} {v : Value} {n B : Nat} (h : DNat w v n) (hb : Below B w w') (hB : w.heap.size ≤ B) : DNat w' v n :=
  h.keep hb.size fun _ hp => hb.cell (by omega)
theorem DNat.drewN {w : World} {v : Value} {n : Nat} (h : DNat w v n) (k : Nat) : DNat (w.drewN k) v n := h
theorem DNat.drew {w : World} {v : Value} {n : Nat} (h : DNat w v n) : DNat w.drew v n := h
theorem DNat.alloc {w : World} {v : Value} {n : Nat} (h : DNat w v n) (o : Obj) : DNat (w.alloc o) v n :=
  h.below ((Below.refl w.heap.size w).alloc (Nat.le_refl _) o) (Nat.le_refl _)
theorem dlen_le {len n k : Nat} (h : len = 0 ∨ D.B ^ (len - 1) ≤ n) (hn : n < D.B ^ k) : len ≤ k := by
  rcases h with h | h
  · omega
  · rcases Nat.lt_or_ge k len with h1 | h1
    · have := D.pow_mono (show k ≤ len - 1 by omega); omega
    · exact h1
theorem dlen_zero {len n : Nat} (h : len = 0 ∨ D.B ^ (len - 1) ≤ n) (hn : n < D.B ^ len) : len = 0 ↔ n = 0 := by
  constructor
  · rintro rfl; simpa using hn
  · rintro rfl
    rcases h with h | h
    · exact h
    · have := D.pow_pos (len - 1); omega
theorem DNat.zero (w : World) : DNat w (.slice none 0 0) 0 := ⟨none, 0, 0, rfl, DL.none_ _ _, .inl rfl, by omega, by omega⟩

/-- Block g is just the L limbs of n, none frozen. -/
def DRow (w : World) (g L n : Nat) : Prop :=
  ∃ cs : Array Value, w.heap[g]? = some (.cells cs 3 (0, 0)) ∧ cs.size = L ∧ n < D.B ^ L ∧ ∀ j, j < L → cs[j]? = some (.int .i64 (D.dg n j))

theorem DRow.lt {w : World} {g L n : Nat} (h : DRow w g L n) : g < w.heap.size := by
  obtain ⟨cs, h, _⟩ := h
  exact lt_of_block h
theorem DRow.bound {w : World} {g L n : Nat} (h : DRow w g L n) : n < D.B ^ L := by
  obtain ⟨cs, _, _, h, _⟩ := h
  exact h
theorem DRow.cell {w : World} {g L n : Nat} (h : DRow w g L n) {j : Nat} (hj : j < L) : w.cell? ⟨g, j, none⟩ = some (.int .i64 (D.dg n j)) := by
  obtain ⟨cs, h, _, _, hc⟩ := h
  simp [World.cell?, h, hc j hj]
theorem DRow.free {w : World} {g L n : Nat} (h : DRow w g L n) (j : Nat) : w.frozen? ⟨g, j, none⟩ = false := by
  obtain ⟨cs, h, _⟩ := h
  simp [World.frozen?, h]
theorem DRow.limbs {w : World} {g L n : Nat} (h : DRow w g L n) : DL w (some ⟨g, 0, none⟩) L n :=
  ⟨h.bound, fun _ => ⟨g, 0, rfl, h.lt, fun i hi => by rw [Nat.zero_add]; exact h.cell hi⟩⟩
theorem DRow.drew {w : World} {g L n : Nat} (h : DRow w g L n) : DRow w.drew g L n := h
theorem DRow.drewN {w : World} {g L n : Nat} (h : DRow w g L n) (k : Nat) : DRow (w.drewN k) g L n := h
theorem DRow.block {w w' : World} {g L n : Nat} (h : DRow w g L n) (hb : w'.heap[g]? = w.heap[g]?) : DRow w' g L n := by
  obtain ⟨cs, h, r⟩ := h
  exact ⟨cs, hb.trans h, r⟩
theorem DRow.below {w w' : World} {g L n B : Nat} (h : DRow w g L n) (hb : Below B w w') (hg : g < B) : DRow w' g L n := h.block (hb.block g hg)
theorem DRow.alloc {w : World} {g L n : Nat} (h : DRow w g L n) (o : Obj) : DRow (w.alloc o) g L n := h.block (Below.heap_alloc w o g h.lt)
theorem DRow.far {w : World} {g L n : Nat} (h : DRow w g L n) {p : Addr} (hp : g ≠ p.block) (u : Value) : DRow (w.setCell p u) g L n := h.block (Below.heap_setCell w p u g hp)
theorem DRow.set {w : World} {g L n k d : Nat} (h : DRow w g L n) (hk : k < L) (hd : d < D.B) : DRow (w.setCell ⟨g, k, none⟩ (.int .i64 d)) g L (D.put n k d) := by
  obtain ⟨cs, hh, hs, hn, hc⟩ := h
  refine ⟨cs.setIfInBounds k (.int .i64 d), ?_, by simp [hs], D.put_lt hn hk hd, fun j hj => ?_⟩
  · simp [World.setCell, Array.getElem?_modify, hh]
  · rw [Array.getElem?_setIfInBounds]
    by_cases e : k = j
    · subst e
      rw [if_pos rfl, if_pos (by omega), D.dg_put_same n k hd]
    · rw [if_neg e, hc j hj, D.dg_put_other n hd (fun h => e h.symm)]
theorem DRow.new (w : World) (L : Nat) : DRow (w.alloc (.cells (madeCells #[Value.int .i64 0] L) 3)) w.heap.size L 0 := by
  refine ⟨_, heap_alloc_new w _, by simp [madeCells], D.pow_pos L, fun j hj => ?_⟩
  rw [D.dg_zero]
  simp [madeCells, hj, Nat.mod_one]
def ddigs (L n : Nat) : List Value := (List.range L).map fun i => Value.int .i64 (D.dg n i : Int)
theorem ddigs_get {L n i : Nat} (hi : i < L) : (ddigs L n)[i]? = some (.int .i64 (D.dg n i : Int)) := by simp [ddigs, hi]
theorem ddigs_length (L n : Nat) : (ddigs L n).length = L := by simp [ddigs]
theorem ddigs_set {L n k d : Nat} (hd : d < D.B) : (ddigs L n).set k (.int .i64 (d : Int)) = ddigs L (D.put n k d) := by
  apply List.ext_getElem?
  intro j
  rw [List.getElem?_set, ddigs_length]
  by_cases hj : j < L
  · rw [ddigs_get hj]
    by_cases e : k = j
    · subst e; rw [if_pos rfl, if_pos hj, ddigs_get hj, D.dg_put_same n k hd]
    · rw [if_neg e, ddigs_get hj, D.dg_put_other n hd (fun h => e h.symm)]
  · rw [List.getElem?_eq_none (by rw [ddigs_length]; omega), List.getElem?_eq_none (by rw [ddigs_length]; omega)]
    split <;> simp_all
theorem ddigs_snoc (L n d : Nat) (hn : n < D.B ^ L) (hd : d < D.B) : ddigs L n ++ [.int .i64 (d : Int)] = ddigs (L + 1) (n + d * D.B ^ L) := by
  rw [← D.put_top hn]
  unfold ddigs
  rw [List.range_succ, List.map_append]
  congr 1
  · apply List.map_congr_left
    intro i hi
    rw [D.dg_put_other n hd (by have := List.mem_range.1 hi; omega)]
  · simp [D.dg_put_same n L hd]

/-- Block g begins with the L limbs of n, and has room for cap. -/
def DOwn (w : World) (g L cap n : Nat) : Prop := w.ownsRow g 3 1 (.slice (some ⟨g, 0, none⟩) L cap) L (ddigs L n) ∧ n < D.B ^ L

section
variable {w w' : World} {g L cap n : Nat}
theorem DOwn.block (h : DOwn w g L cap n) : ∃ cur, w.heap[g]? = some (.cells cur 3 (0, 0)) ∧ L ≤ cap ∧ cap ≤ maxLen := by
  rcases h.1.2 with ⟨h', _⟩ | ⟨g', cap', cur, h', _, hg, h1, h2, _⟩
  · simp at h'
  · simp only [Value.slice.injEq, Option.some.injEq, Addr.mk.injEq, and_true, true_and] at h'
    obtain ⟨rfl, rfl⟩ := h'
    exact ⟨cur, hg, h1, h2⟩
theorem DOwn.lt (h : DOwn w g L cap n) : g < w.heap.size := by obtain ⟨_, h, _⟩ := h.block; exact lt_of_block h
theorem DOwn.cell (h : DOwn w g L cap n) {j : Nat} (hj : j < L) : w.cell? ⟨g, j, none⟩ = some (.int .i64 (D.dg n j)) := by
  rw [h.1.cellAt j (by omega), ddigs_get hj]
theorem DOwn.free (h : DOwn w g L cap n) (j : Nat) : w.frozen? ⟨g, j, none⟩ = false := h.1.frozenAt j
theorem DOwn.set (h : DOwn w g L cap n) {k d : Nat} (hk : k < L) (hd : d < D.B) : DOwn (w.setCell ⟨g, k, none⟩ (.int .i64 d)) g L cap (D.put n k d) := by
  have h2 := (h.1.stored k (.int .i64 (d : Int))).1
  rw [ddigs_set hd] at h2
  exact ⟨h2, D.put_lt h.2 hk hd⟩
theorem DOwn.limbs (h : DOwn w g L cap n) : DL w (some ⟨g, 0, none⟩) L n :=
  ⟨h.2, fun _ => ⟨g, 0, rfl, h.lt, fun i hi => by rw [Nat.zero_add]; exact h.cell hi⟩⟩
theorem DOwn.keep (h : DOwn w g L cap n) (hb : w'.heap[g]? = w.heap[g]?) : DOwn w' g L cap n := by
  refine ⟨⟨h.1.1, ?_⟩, h.2⟩
  rcases h.1.2 with h1 | ⟨g', cap', cur, h', h2, hg, h3⟩
  · exact .inl h1
  · refine .inr ⟨g', cap', cur, h', h2, ?_, h3⟩
    simp only [Value.slice.injEq, Option.some.injEq, Addr.mk.injEq, and_true, true_and] at h'
    rw [← h'.1, hb, h'.1]; exact hg
theorem DOwn.below (h : DOwn w g L cap n) {B : Nat} (hb : Below B w w') (hg : g < B) : DOwn w' g L cap n := h.keep (hb.block g hg)
theorem DOwn.alloc (h : DOwn w g L cap n) (o : Obj) : DOwn (w.alloc o) g L cap n := h.keep (Below.heap_alloc w o g h.lt)
end

end Go.Proofs.YtjghgbfagjhdgaaGreatDoor
namespace Go.Proofs.YtjghgbfagjhdgaaGreatDoor
open Go Go.RowKit

theorem DL.drawn {w w' : World} {A : Option Addr} {len n : Nat} (h : DL w A len n) (hd : Drawn w w') : DL w' A len n := by
  obtain ⟨k, rfl⟩ := hd
  exact h
theorem dcmp_lens {l l' x y : Nat} (hx : x < D.B ^ l) (hy : y < D.B ^ l') (nx : l = 0 ∨ D.B ^ (l - 1) ≤ x) (ny : l' = 0 ∨ D.B ^ (l' - 1) ≤ y) (h : l ≠ l') : (l < l' ↔ x < y) ∧ x ≠ y := by
  rcases Nat.lt_or_ge l l' with h1 | h1
  · have h2 := D.pow_mono (show l ≤ l' - 1 by omega)
    have : x < y := by rcases ny with h3 | h3 <;> omega
    omega
  · have h2 := D.pow_mono (show l' ≤ l - 1 by omega)
    have : y < x := by rcases nx with h3 | h3 <;> omega
    omega
theorem dcmp_at {x y i : Nat} (h : x / D.B ^ (i + 1) = y / D.B ^ (i + 1)) : (D.dg x i < D.dg y i → x < y) ∧ (D.dg y i < D.dg x i → y < x) := by
  have h1 := D.div_succ x i
  have h2 := D.div_succ y i
  rw [h] at h1
  exact ⟨fun h3 => div_lt_of (p := D.B ^ i) (by omega), fun h3 => div_lt_of (p := D.B ^ i) (by omega)⟩
theorem dcmp_go {x y i : Nat} (h : x / D.B ^ (i + 1) = y / D.B ^ (i + 1)) (he : D.dg x i = D.dg y i) : x / D.B ^ i = y / D.B ^ i := by
  rw [D.div_succ x i, D.div_succ y i, h, he]
theorem cmpI_lt {a b : Int} (h : a < b) : cmpI a b = -1 := by unfold cmpI; rw [if_pos h]
theorem cmpI_gt {a b : Int} (h : b < a) : cmpI a b = 1 := by unfold cmpI; rw [if_neg (by omega), if_pos h]
theorem cmpI_eq {a b : Int} (h : a = b) : cmpI a b = 0 := by unfold cmpI; rw [if_neg (by omega), if_neg (by omega)]

set_option maxHeartbeats 400000 in
set_option maxRecDepth 100000 in
theorem dsize_any {w : World} {A A' : Option Addr} {l l' x y : Nat} (c c' : Nat) (hx : DL w A l x) (hy : DL w A' l' y) (nx : l = 0 ∨ D.B ^ (l - 1) ≤ x) (ny : l' = 0 ∨ D.B ^ (l' - 1) ≤ y) (hl : l ≤ 60000) (hl' : l' ≤ 60000) :
    Calls Tryz.prog 181 #[.slice A l c, .slice A' l' c'] w fun e w' => e = .returned (.int .i64 (cmpI x y)) ∧ Drawn w w' := by
  by_cases he : l = l'
  · subst he
    have H := Lib.hid (And.intro hx hy)
    clear hx hy nx ny
    have hne : ((l : Int) != (l : Int)) = false := by simp
    go_enter Tryz.func181, Tryz.ntmps181
    go_wp2_with fail
    go_loopw [5] (fun iv wr => ∃ k, k ≤ l ∧ iv = .int .i64 ((k : Int) - 1) ∧ x / D.B ^ k = y / D.B ^ k ∧ Drawn w wr) (fun iv _ => (intOf iv + 1).toNat)
    case atStart => exact ⟨l, Nat.le_refl _, rfl, by rw [Nat.div_eq_of_lt H.out.1.1, Nat.div_eq_of_lt H.out.2.1], 0, rfl⟩
    case round =>
      obtain ⟨k, hk, rfl, hq, hdr⟩ := hrel
      by_cases h0 : k = 0
      · subst h0
        have hxy : x = y := by simpa using hq
        have HE := Lib.hid hxy
        clear hxy hq
        go_wp2
        go_ret
        exact ⟨by rw [cmpI_eq (by rw [HE.out] : (x : Int) = y)]; rfl, hdr⟩
      · obtain ⟨j, rfl⟩ : ∃ j, k = j + 1 := ⟨k - 1, by omega⟩
        rw [show (((j + 1 : Nat) : Int) - 1) = (j : Int) by omega]
        obtain ⟨b, off, rfl, hb, hc⟩ := (H.out.1.drawn hdr).at_ (show j < l by omega)
        obtain ⟨b', off', rfl, hb', hc'⟩ := (H.out.2.drawn hdr).at_ (show j < l by omega)
        have hj := hc j (by omega)
        have hj' := hc' j (by omega)
        clear hc hc'
        have HQ := Lib.hid hq
        clear hq
        obtain ⟨dx, hdx⟩ : ∃ dx, dx = D.dg x j := ⟨_, rfl⟩
        obtain ⟨dy, hdy⟩ : ∃ dy, dy = D.dg y j := ⟨_, rfl⟩
        rw [← hdx] at hj
        rw [← hdy] at hj'
        have HD := Lib.hid (And.intro hdx hdy)
        clear hdx hdy
        rcases Nat.lt_trichotomy dx dy with hd | hd | hd
        · have HC := Lib.hid ((dcmp_at HQ.out).1 (by rw [← HD.out.1, ← HD.out.2]; exact hd))
          go_wp2_with fail
          go_quiet (fail)
          go_wp2
          go_ret
          exact ⟨by rw [cmpI_lt (by have := HC.out; omega : (x : Int) < y)]; rfl, hdr.drewN _⟩
        · subst hd
          have HE := Lib.hid (dcmp_go HQ.out (HD.out.1.symm.trans HD.out.2))
          go_wp2_with fail
          go_quiet (fail)
          have hdr2 := hdr.drewN nq
          have hj2 : (wr.drewN nq).cell? ⟨b, off + j, none⟩ = some (.int .i64 (dx : Int)) := hj
          have hj2' : (wr.drewN nq).cell? ⟨b', off' + j, none⟩ = some (.int .i64 (dx : Int)) := hj'
          clear hj hj'
          generalize wr.drewN nq = w2 at *
          go_wp2_with fail
          go_quiet (fail)
          go_wp2
          go_roundw
          case rel => exact ⟨j, by omega, rfl, HE.out, hdr2.drewN _⟩
          case measure => simp [intOf]
        · have HC := Lib.hid ((dcmp_at HQ.out).2 (by rw [← HD.out.1, ← HD.out.2]; exact hd))
          go_wp2_with fail
          go_quiet (fail)
          have hdr2 := hdr.drewN nq
          have hj2 : (wr.drewN nq).cell? ⟨b, off + j, none⟩ = some (.int .i64 (dx : Int)) := hj
          have hj2' : (wr.drewN nq).cell? ⟨b', off' + j, none⟩ = some (.int .i64 (dy : Int)) := hj'
          clear hj hj'
          generalize wr.drewN nq = w2 at *
          go_wp2_with fail
          go_quiet (fail)
          go_wp2
          go_ret
          exact ⟨by rw [cmpI_gt (by have := HC.out; omega : (y : Int) < x)]; rfl, hdr2.drewN _⟩
  · have hne : ((l : Int) != (l' : Int)) = true := by rw [bne_iff_ne]; omega
    have hcm := dcmp_lens hx.1 hy.1 nx ny he
    by_cases h1 : l < l'
    · have HC := Lib.hid (hcm.1.1 h1)
      clear hx hy nx ny hcm
      go_enter Tryz.func181, Tryz.ntmps181
      go_wp2
      go_ret
      exact ⟨by rw [cmpI_lt (by have := HC.out; omega : (x : Int) < y)]; rfl, Drawn.refl _⟩
    · have HC := Lib.hid (show y < x by omega)
      clear hx hy nx ny hcm
      go_enter Tryz.func181, Tryz.ntmps181
      go_wp2
      go_ret
      exact ⟨by rw [cmpI_gt (by have := HC.out; omega : (y : Int) < x)]; rfl, Drawn.refl _⟩
end Go.Proofs.YtjghgbfagjhdgaaGreatDoor
namespace Go.Proofs.YtjghgbfagjhdgaaGreatDoor
open Go Go.RowKit

/-- A Big of the reference in a new block, and its result's behind it. -/
structure Bx (w0 w : World) (b : Bool) (v : Value) : Prop where
  blk : w.heap[w0.heap.size]? = some (.cells #[.bool b, v] 94 (0, 0))
  res : ∃ x y, w.heap[w0.heap.size + 1]? = some (.cells #[x, y] 94 (0, 0))
  below : Below w0.heap.size w0 w
def bx2 (w : World) (b : Bool) (v : Value) : World := (w.alloc (.cells #[.bool b, v] 94)).alloc (.cells #[.bool false, .slice none 0 0] 94)
theorem bx2_bx (w : World) (b : Bool) (v : Value) : Bx w (bx2 w b v) b v := by
  have e : (bx2 w b v).heap = (w.heap.push (.cells #[.bool b, v] 94)).push (.cells #[.bool false, .slice none 0 0] 94) := rfl
  refine ⟨?_, ⟨.bool false, .slice none 0 0, ?_⟩, ((Below.refl _ _).alloc (Nat.le_refl _) _).alloc (by simp) _⟩
  · rw [e, Array.getElem?_push, if_neg (by simp), Array.getElem?_push, if_pos rfl]
  · rw [e, Array.getElem?_push, if_pos (by simp)]
section
variable {w0 w : World} {b : Bool} {v : Value}
theorem Bx.c0 (h : Bx w0 w b v) : w.cell? ⟨w0.heap.size, 0, none⟩ = some (.bool b) := by simp [World.cell?, h.blk]
theorem Bx.c1 (h : Bx w0 w b v) : w.cell? ⟨w0.heap.size, 1, none⟩ = some v := by simp [World.cell?, h.blk]
theorem Bx.f (h : Bx w0 w b v) (i : Nat) : w.frozen? ⟨w0.heap.size, i, none⟩ = false := by simp [World.frozen?, h.blk]
theorem Bx.rf (h : Bx w0 w b v) (i : Nat) : w.frozen? ⟨w0.heap.size + 1, i, none⟩ = false := by
  obtain ⟨x, y, h⟩ := h.res
  simp [World.frozen?, h]
theorem Bx.r0 (h : Bx w0 w b v) : ∃ x, w.cell? ⟨w0.heap.size + 1, 0, none⟩ = some x := by
  obtain ⟨x, y, h⟩ := h.res
  exact ⟨x, by simp [World.cell?, h]⟩
theorem Bx.r1 (h : Bx w0 w b v) : ∃ x, w.cell? ⟨w0.heap.size + 1, 1, none⟩ = some x := by
  obtain ⟨x, y, h⟩ := h.res
  exact ⟨y, by simp [World.cell?, h]⟩
theorem Bx.put1 (h : Bx w0 w b v) (v' : Value) : Bx w0 (w.setCell ⟨w0.heap.size, 1, none⟩ v') b v' := by
  obtain ⟨x, y, hr⟩ := h.res
  refine ⟨?_, ⟨x, y, ?_⟩, h.below.setCell (Nat.le_refl _) _⟩
  · simp [World.setCell, Array.getElem?_modify, h.blk]
  · simp [World.setCell, Array.getElem?_modify, hr]
theorem Bx.put0 (h : Bx w0 w b v) (b' : Bool) : Bx w0 (w.setCell ⟨w0.heap.size, 0, none⟩ (.bool b')) b' v := by
  obtain ⟨x, y, hr⟩ := h.res
  refine ⟨?_, ⟨x, y, ?_⟩, h.below.setCell (Nat.le_refl _) _⟩
  · simp [World.setCell, Array.getElem?_modify, h.blk]
  · simp [World.setCell, Array.getElem?_modify, hr]
/-- The result's block written. -/
theorem Bx.done (h : Bx w0 w b v) (b' : Bool) (v' : Value) : ((w.setCell ⟨w0.heap.size + 1, 0, none⟩ (.bool b')).setCell ⟨w0.heap.size + 1, 1, none⟩ v').cell? ⟨w0.heap.size + 1, 0, none⟩ = some (.bool b') ∧
    ((w.setCell ⟨w0.heap.size + 1, 0, none⟩ (.bool b')).setCell ⟨w0.heap.size + 1, 1, none⟩ v').cell? ⟨w0.heap.size + 1, 1, none⟩ = some v' ∧ Below w0.heap.size w0 ((w.setCell ⟨w0.heap.size + 1, 0, none⟩ (.bool b')).setCell ⟨w0.heap.size + 1, 1, none⟩ v') := by
  obtain ⟨x, y, hr⟩ := h.res
  refine ⟨?_, ?_, (h.below.setCell (by simp) _).setCell (by simp) _⟩
  · simp [World.cell?, World.setCell, Array.getElem?_modify, hr]
  · simp [World.cell?, World.setCell, Array.getElem?_modify, hr]
end
def cellLen (o : Option Value) : Nat := match o with
  | some (.slice _ l _) => l
  | _ => 0

set_option maxHeartbeats 800000 in
set_option maxRecDepth 100000 in
theorem dtrim_any {w : World} {A : Option Addr} {L c n : Nat} (b : Bool) (h : DL w A L n) (hL : L ≤ 100000) (hc : L ≤ c) :
    Calls Tryz.prog 180 #[.agg #[.bool b, .slice A L c]] w fun e w' => ∃ k, k ≤ L ∧ e = .returned (.agg #[.bool (b && decide (0 < k)), .slice A k c]) ∧ DL w' A k n ∧ (k = 0 ∨ D.B ^ (k - 1) ≤ n) ∧ Below w.heap.size w w' := by
  have H := Lib.hid h
  clear h
  go_enter Tryz.func180, Tryz.ntmps180
  go_wp2_with fail
  obtain ⟨W, hW⟩ : ∃ W, W = bx2 w b (.slice A L c) := ⟨_, rfl⟩
  have hB0 : Bx w W b (.slice A L c) := by rw [hW]; exact bx2_bx _ _ _
  change Code.wp _ _ _ _ (bx2 w b (.slice A L c))
  rw [← hW]
  have H0 := Lib.hid hB0
  clear hB0 hW
  go_loopw [] (fun wr => ∃ k, k ≤ L ∧ n < D.B ^ k ∧ Bx w wr b (.slice A k c)) (fun wr => cellLen (wr.cell? ⟨w.heap.size, 1, none⟩))
  case atStart => exact ⟨L, Nat.le_refl _, H.out.1, H0.out⟩
  case round =>
    obtain ⟨k, hk, hn, hB⟩ := hrel
    have c1 := hB.c1
    have c0 := hB.c0
    have f1 := hB.f 1
    have f0 := hB.f 0
    have HB := Lib.hid hB
    have HN := Lib.hid hn
    clear hB hn
    by_cases hk0 : k = 0
    · subst hk0
      have h1 := HB.out.put0 false
      obtain ⟨v0, r0⟩ := h1.r0
      obtain ⟨v1, r1⟩ := h1.r1
      have rf0 := h1.rf 0
      have rf1 := h1.rf 1
      have a0 := h1.c0
      have a1 := h1.c1
      have hb := h1.below
      have hdn := h1.done false (.slice A 0 c)
      have HB2 := Lib.hid hdn
      clear hdn
      have HD := Lib.hid (show DL (wr.setCell ⟨w.heap.size, 0, none⟩ (.bool false)) A 0 n from (H.out.cut (Nat.zero_le _) HN.out).below hb (Nat.le_refl _))
      clear h1 hb
      go_wp2_with fail
      obtain ⟨z0, z1, z2⟩ := HB2.out
      have HE := Lib.hid ((H.out.cut (Nat.zero_le _) HN.out).below z2 (Nat.le_refl _))
      generalize ((wr.setCell ⟨w.heap.size, 0, none⟩ (.bool false)).setCell ⟨w.heap.size + 1, 0, none⟩ (.bool false)).setCell ⟨w.heap.size + 1, 1, none⟩ (.slice A 0 c) = W3 at *
      exact bodyPost_ret (v := .agg #[.bool false, .slice A 0 c]) (by simp [results, Tryz.results180, go_sem, z0, z1]) rfl ⟨0, Nat.zero_le _, by simp, HE.out, .inl rfl, z2⟩
    · obtain ⟨j, rfl⟩ : ∃ j, k = j + 1 := ⟨k - 1, by omega⟩
      have hd := (H.out.cut hk HN.out).below HB.out.below (Nat.le_refl _)
      obtain ⟨bA, off, rfl, hbA, hcA⟩ := hd.at_ (show j < j + 1 by omega)
      have hcj := hcA j (by omega)
      clear hcA
      have HDD := Lib.hid hd
      clear hd
      have hsub : ((j + 1 : Nat) : Int) - 1 = (j : Int) := by omega
      by_cases hz : D.dg n j = 0
      · have HN2 := Lib.hid (show n < D.B ^ j by
          have := D.mod_succ n j
          rw [hz, Nat.mul_zero, D.mod_of_lt HN.out] at this
          rw [this]; exact D.mod_lt _ _)
        rw [hz] at hcj
        clear hz
        have hp := HB.out.put1 (.slice (some ⟨bA, off, none⟩) j c)
        have HP := Lib.hid (And.intro hp hp.c1)
        clear hp
        go_wp2_with fail
        go_roundw
        case rel => exact ⟨j, by omega, HN2.out, HP.out.1⟩
        case measure => rw [HP.out.2, c1]; exact Nat.lt_succ_self j
      · have hzb : ((D.dg n j : Int) == 0) = false := by rw [beq_eq_false_iff_ne]; omega
        have HZ := Lib.hid (show D.B ^ j ≤ n by
          rcases Nat.lt_or_ge n (D.B ^ j) with h | h
          · exact absurd (D.dg_of_lt h) hz
          · exact h)
        obtain ⟨v0, r0⟩ := HB.out.r0
        obtain ⟨v1, r1⟩ := HB.out.r1
        have rf0 := HB.out.rf 0
        have rf1 := HB.out.rf 1
        clear hz
        go_wp2_with fail
        obtain ⟨z0, z1, z2⟩ := HB.out.done b (.slice (some ⟨bA, off, none⟩) (j + 1) c)
        have HE := Lib.hid ((H.out.cut hk HN.out).below z2 (Nat.le_refl _))
        generalize (wr.setCell ⟨w.heap.size + 1, 0, none⟩ (.bool b)).setCell ⟨w.heap.size + 1, 1, none⟩ (.slice (some ⟨bA, off, none⟩) (j + 1) c) = W3 at *
        exact bodyPost_ret (v := .agg #[.bool b, .slice (some ⟨bA, off, none⟩) (j + 1) c]) (by simp [results, Tryz.results180, go_sem, z0, z1]) rfl ⟨j + 1, hk, by simp, HE.out, .inr HZ.out, z2⟩
end Go.Proofs.YtjghgbfagjhdgaaGreatDoor
namespace Go.Proofs.YtjghgbfagjhdgaaGreatDoor
open Go Go.RowKit

/-- v is a row of the call's own (from block base on), of L limbs of n. -/
def DGrow (w : World) (base : Nat) (v : Value) (L n : Nat) : Prop := w.ownsRow base 3 1 v L (ddigs L n) ∧ n < D.B ^ L
/-- v is a slice of limbs of n. -/
def DV (w : World) (v : Value) (n k : Nat) : Prop := ∃ A L c, v = .slice A L c ∧ DL w A L n ∧ L ≤ k ∧ L ≤ c ∧ c ≤ maxLen
theorem DGrow.dv {w : World} {base : Nat} {v : Value} {L n : Nat} (h : DGrow w base v L n) : DV w v n L := by
  rcases h.1.2 with ⟨h1, h2⟩ | ⟨g, cap, cur, rfl, h2, hg, h3, h4, h5⟩
  · subst h1
    have h2 : L = 0 := h2
    subst h2
    exact ⟨none, 0, 0, rfl, ⟨h.2, fun h0 => absurd h0 (by omega)⟩, Nat.le_refl _, Nat.le_refl _, Nat.zero_le _⟩
  · have ho : DOwn w g L cap n := ⟨⟨h.1.1, .inr ⟨g, cap, cur, rfl, Nat.le_refl _, hg, h3, h4, h5⟩⟩, h.2⟩
    exact ⟨some ⟨g, 0, none⟩, L, cap, rfl, ho.limbs, Nat.le_refl _, h3, h4⟩
/-- A slice's limbs (if it has any) lie in no block below n0. -/
def FreshV (n0 : Nat) (v : Value) : Prop := ∀ A L c, v = .slice A L c → ∀ p : Addr, A = some p → n0 ≤ p.block
theorem FreshV.mono {n0 n1 : Nat} {v : Value} (h : FreshV n0 v) (hn : n1 ≤ n0) : FreshV n1 v := fun A L c e p hp => Nat.le_trans hn (h A L c e p hp)
theorem DGrow.fresh {w : World} {base : Nat} {v : Value} {L n : Nat} (h : DGrow w base v L n) : FreshV base v := by
  intro A L' c e p hp
  rcases h.1.2 with ⟨h1, _⟩ | ⟨g, cap, cur, h1, h2, _⟩
  · rw [h1] at e
    injection e with e _
    rw [hp] at e
    cases e
  · rw [h1] at e
    injection e with e _
    rw [hp] at e
    injection e with e
    rw [← e]; exact h2
theorem DGrow.nil (w : World) (base : Nat) : DGrow w base (.slice none 0 0) 0 0 := ⟨⟨rfl, .inl ⟨rfl, rfl⟩⟩, by simp⟩
theorem info64 : (Tryz.prog.info? 3).map (fun i => (i.zero, i.size, i.bytes)) = some (some (.int .i64 0), 1, 8) := by kernel_rfl
theorem dcast_mod (t : Nat) : ((t : Int) % 1000000000) = ((t % D.B : Nat) : Int) := by rw [D.B_eq]; omega
theorem dcast_div (t : Nat) : ((t : Int) / 1000000000) = ((t / D.B : Nat) : Int) := by rw [D.B_eq]; omega
theorem DGrow.alloc {w : World} {base : Nat} {v : Value} {L n : Nat} (h : DGrow w base v L n) (o : Obj) : DGrow (w.alloc o) base v L n := ⟨h.1.alloc o, h.2⟩

theorem DGrow.base {w : World} {base : Nat} {v : Value} {L n : Nat} (h : DGrow w base v L n) : ∀ k, v.ownBlock = some k → base ≤ k := by
  intro k hk
  rcases h.1.2 with ⟨h1, _⟩ | ⟨g, cap, cur, rfl, h2, _⟩
  · subst h1; cases hk
  · obtain rfl : g = k := Option.some.inj hk
    exact h2
theorem DGrow.step {w w1 : World} {base i S N r : Nat} {v v' : Value} {o : Obj} {w0 : World} (h : DGrow w base v i S) (hB : Below base w0 w) (hsz : base ≤ w.heap.size) (he : ddigs i S ++ [.int .i64 (r : Int)] = ddigs (i + 1) N) (hN : N < D.B ^ (i + 1))
    (hown : w1.ownsRow base 3 1 v' (i + 1) (ddigs i S ++ [.int .i64 (r : Int)])) (hg : (w.alloc o).grownBy w1 v.ownBlock) : DGrow w1 base v' (i + 1) N ∧ Below base w0 w1 := by
  rw [he] at hown
  exact ⟨⟨hown, hN⟩, (hB.alloc hsz o).grown hg (Nat.le_trans hsz ((Below.refl w.heap.size w).alloc (Nat.le_refl _) o).size) h.base⟩

theorem w64 (n : Int) (h : -9223372036854775808 ≤ n ∧ n ≤ 9223372036854775807) : wrap64 n = n := by unfold wrap64; omega
/-- A step: the limb t % B goes on top, t / B is carried. -/
theorem dplus_step {x y i t : Nat} (ht : t = D.carry x y i + (D.dg x i + D.dg y i)) :
    t / D.B = D.carry x y (i + 1) ∧ ddigs i ((x + y) % D.B ^ i) ++ [.int .i64 ((t % D.B : Nat) : Int)] = ddigs (i + 1) ((x + y) % D.B ^ (i + 1)) := by
  subst ht
  refine ⟨(D.carry_succ x y i).symm, ?_⟩
  rw [ddigs_snoc _ _ _ (D.mod_lt _ _) (Nat.mod_lt _ D.B_pos), D.mod_succ_add, D.put_top (D.mod_lt _ _)]
theorem dplus_end {l l' x y i : Nat} (hx : x < D.B ^ l) (hy : y < D.B ^ l') (h : l ≤ i) (h' : l' ≤ i) : (0 < D.carry x y i → i < max l l' + 1) ∧ (D.carry x y i = 0 → (x + y) % D.B ^ i = x + y) := by
  have h1 := D.pow_mono h
  have h2 := D.pow_mono h'
  have e1 := D.mod_of_lt (Nat.lt_of_lt_of_le hx h1)
  have e2 := D.mod_of_lt (Nat.lt_of_lt_of_le hy h2)
  constructor
  · intro h0
    rcases Nat.lt_or_ge i (max l l' + 1) with h3 | h3
    · exact h3
    · exfalso
      have h4 := D.pow_mono (show l ≤ max l l' by omega)
      have h5 := D.pow_mono (show l' ≤ max l l' by omega)
      have h6 := D.pow_mono h3
      have h7 := Nat.mul_le_mul_left (D.B ^ max l l') D.B_two
      rw [← D.pow_succ'] at h7
      unfold D.carry at h0
      rw [e1, e2, Nat.div_eq_of_lt (by omega)] at h0
      omega
  · intro h0
    unfold D.carry at h0
    rw [e1, e2] at h0
    rcases Nat.div_eq_zero_iff.1 h0 with h3 | h3
    · have := D.pow_pos i; omega
    · exact Nat.mod_eq_of_lt h3

set_option maxHeartbeats 1600000 in
set_option maxRecDepth 100000 in
theorem dplus_any {w : World} {A A' : Option Addr} {l l' x y : Nat} (c c' : Nat) (hx : DL w A l x) (hy : DL w A' l' y) (hl : l ≤ 60000) (hl' : l' ≤ 60000) :
    Calls Tryz.prog 187 #[.slice A l c, .slice A' l' c'] w fun e w' => ∃ v, e = .returned v ∧ DV w' v (x + y) (max l l' + 1) ∧ Below w.heap.size w w' := by
  obtain ⟨ei, hi, hz, hs, hbs⟩ := info_parts info64
  have HI := Lib.hid (And.intro hi (And.intro hz (And.intro hs hbs)))
  clear hi hz hs hbs
  obtain ⟨W, hW⟩ : ∃ W, W = w.heap.size := ⟨_, rfl⟩
  have H0 := Lib.hid (show DGrow w W (.slice none 0 0) 0 ((x + y) % D.B ^ 0) ∧ Below W w w ∧ w.heap.size ≤ W ∧ W ≤ w.heap.size by
    rw [Nat.pow_zero, Nat.mod_one]
    exact ⟨DGrow.nil _ _, Below.refl _ _, by omega, by omega⟩)
  rw [← hW]
  have HX := Lib.hid hx
  have HY := Lib.hid hy
  clear hx hy hW
  go_enter Tryz.func187, Tryz.ntmps187
  go_wp2_with fail
  go_loopw [5, 6, 7] (fun ov cv iv wr => ∃ i, i ≤ max l l' + 1 ∧ iv = .int .i64 (i : Int) ∧ cv = .int .i64 (D.carry x y i : Int) ∧ DGrow wr W ov i ((x + y) % D.B ^ i) ∧ Below W w wr) (fun _ _ iv _ => max l l' + 1 - (intOf iv).toNat)
  case atStart => exact ⟨0, by omega, rfl, by rw [D.carry_zero]; rfl, H0.out.1, H0.out.2.1⟩
  case round =>
    obtain ⟨i, hi, rfl, rfl, hr, hb⟩ := hrel
    have hx' := HX.out.below hb H0.out.2.2.1
    have hy' := HY.out.below hb H0.out.2.2.1
    have hcl := D.carry_le x y i
    have hdx := D.dg_le x i
    have hdy := D.dg_le y i
    have hbx := fun h => D.dg_big HX.out.1 (show l ≤ i from h)
    have hby := fun h => D.dg_big HY.out.1 (show l' ≤ i from h)
    have hend := fun h h' => dplus_end HX.out.1 HY.out.1 (show l ≤ i from h) (show l' ≤ i from h')
    obtain ⟨t, ht⟩ : ∃ t, t = D.carry x y i + (D.dg x i + D.dg y i) := ⟨_, rfl⟩
    have hstep := dplus_step ht
    obtain ⟨S, hS⟩ : ∃ S, S = (x + y) % D.B ^ i := ⟨_, rfl⟩
    rw [← hS] at hr hstep
    obtain ⟨r, hr0⟩ : ∃ r, r = t % D.B := ⟨_, rfl⟩
    obtain ⟨q, hq0⟩ : ∃ q, q = t / D.B := ⟨_, rfl⟩
    rw [← hr0, ← hq0] at hstep
    have htm : Int.tmod (t : Int) 1000000000 = (r : Int) := by rw [hr0, D.B_eq]; rfl
    have htd : Int.tdiv (t : Int) 1000000000 = (q : Int) := by rw [hq0, D.B_eq]; rfl
    have htm2 : (t : Int) % 1000000000 = (r : Int) := by rw [hr0, D.B_eq]; rfl
    have htd2 : (t : Int) / 1000000000 = (q : Int) := by rw [hq0, D.B_eq]; rfl
    have HR := Lib.hid (And.intro hr (And.intro hb (And.intro hstep hS)))
    clear hr hb hstep hS hr0 hq0
    by_cases h1 : i < l
    · obtain ⟨b, off, rfl, hbx0, hcx0⟩ := hx'.at_ h1
      have hcx := hcx0 i h1
      clear hcx0 hx' hend
      by_cases h2 : i < l'
      · obtain ⟨b', off', rfl, hby0, hcy0⟩ := hy'.at_ h2
        have hcy := hcy0 i h2
        clear hcy0 hy'
        have hsum : (D.carry x y i : Int) + (D.dg x i : Int) + (D.dg y i : Int) = (t : Int) := by omega
        clear ht hbx hby
        generalize D.carry x y i = k at *
        generalize D.dg x i = dx at *
        generalize D.dg y i = dy at *
        have HW := Lib.hid (And.intro hsum (And.intro htm2 htd2))
        clear htm htd htm2 htd2 hsum
        go_wp2_with (at_builtin; refine wpList_append_own _ rfl (.tmp 44) (.tmp 47) 22 rfl W 3 ei (.int .i64 0) 1 8 Tryz.underlying22 HI.out.1 HI.out.2.1 HI.out.2.2.1 HI.out.2.2.2 rfl (by decide) _ i (ddigs i S) rfl (HR.out.1.alloc _).1 ⟨wr.heap.size, 0, none⟩ 1 1 [.int .i64 (r : Int)] rfl rfl (by intro j u hj; match j, hj with | 0, hj => simp at hj; subst hj; simp [Addr.add, HW.out.1, HW.out.2.1]) (by intro u hu; simp at hu; subst hu; rfl) (by unfold maxLen; omega) (by omega) (by have := HR.out.2.1.size; have := H0.out.2.2.2; simp; omega) ?_; intro v' w1 hown1 hgrow1 hnil)
        have hfin := HR.out.1.step HR.out.2.1 (by have := HR.out.2.1.size; have := H0.out.2.2.2; omega) HR.out.2.2.1.2 (D.mod_lt _ _) hown1 hgrow1
        go_roundw
        case rel => exact ⟨i + 1, by omega, by go_num, by rw [← HR.out.2.2.1.1]; simp [HW.out.1, HW.out.2.2], hfin.1, hfin.2⟩
        case measure => simp [intOf]; omega
      · have hd0 := hby (by omega)
        clear hy'
        have hsum : (D.carry x y i : Int) + (D.dg x i : Int) = (t : Int) := by omega
        clear ht hbx hby
        rw [hd0] at hdy
        generalize D.carry x y i = k at *
        generalize D.dg x i = dx at *
        clear hd0
        have HW := Lib.hid (And.intro hsum (And.intro htm2 htd2))
        clear htm htd htm2 htd2 hsum
        go_wp2_with (at_builtin; refine wpList_append_own _ rfl (.tmp 44) (.tmp 47) 22 rfl W 3 ei (.int .i64 0) 1 8 Tryz.underlying22 HI.out.1 HI.out.2.1 HI.out.2.2.1 HI.out.2.2.2 rfl (by decide) _ i (ddigs i S) rfl (HR.out.1.alloc _).1 ⟨wr.heap.size, 0, none⟩ 1 1 [.int .i64 (r : Int)] rfl rfl (by intro j u hj; match j, hj with | 0, hj => simp at hj; subst hj; simp [Addr.add, HW.out.1, HW.out.2.1]) (by intro u hu; simp at hu; subst hu; rfl) (by unfold maxLen; omega) (by omega) (by have := HR.out.2.1.size; have := H0.out.2.2.2; simp; omega) ?_; intro v' w1 hown1 hgrow1 hnil)
        have hfin := HR.out.1.step HR.out.2.1 (by have := HR.out.2.1.size; have := H0.out.2.2.2; omega) HR.out.2.2.1.2 (D.mod_lt _ _) hown1 hgrow1
        go_roundw
        case rel => exact ⟨i + 1, by omega, by go_num, by rw [← HR.out.2.2.1.1]; simp [HW.out.1, HW.out.2.2], hfin.1, hfin.2⟩
        case measure => simp [intOf]; omega
    · have hd1 := hbx (by omega)
      clear hx'
      by_cases h2 : i < l'
      · obtain ⟨b', off', rfl, hby0, hcy0⟩ := hy'.at_ h2
        have hcy := hcy0 i h2
        clear hcy0 hy' hend
        have hsum : (D.carry x y i : Int) + (D.dg y i : Int) = (t : Int) := by omega
        clear ht hbx hby
        rw [hd1] at hdx
        generalize D.carry x y i = k at *
        generalize D.dg y i = dy at *
        clear hd1
        have HW := Lib.hid (And.intro hsum (And.intro htm2 htd2))
        clear htm htd htm2 htd2 hsum
        go_wp2_with (at_builtin; refine wpList_append_own _ rfl (.tmp 44) (.tmp 47) 22 rfl W 3 ei (.int .i64 0) 1 8 Tryz.underlying22 HI.out.1 HI.out.2.1 HI.out.2.2.1 HI.out.2.2.2 rfl (by decide) _ i (ddigs i S) rfl (HR.out.1.alloc _).1 ⟨wr.heap.size, 0, none⟩ 1 1 [.int .i64 (r : Int)] rfl rfl (by intro j u hj; match j, hj with | 0, hj => simp at hj; subst hj; simp [Addr.add, HW.out.1, HW.out.2.1]) (by intro u hu; simp at hu; subst hu; rfl) (by unfold maxLen; omega) (by omega) (by have := HR.out.2.1.size; have := H0.out.2.2.2; simp; omega) ?_; intro v' w1 hown1 hgrow1 hnil)
        have hfin := HR.out.1.step HR.out.2.1 (by have := HR.out.2.1.size; have := H0.out.2.2.2; omega) HR.out.2.2.1.2 (D.mod_lt _ _) hown1 hgrow1
        go_roundw
        case rel => exact ⟨i + 1, by omega, by go_num, by rw [← HR.out.2.2.1.1]; simp [HW.out.1, HW.out.2.2], hfin.1, hfin.2⟩
        case measure => simp [intOf]; omega
      · have hd2 := hby (by omega)
        have hE := hend (by omega) (by omega)
        clear hy' hend
        have hk0 : D.carry x y i = t := by omega
        clear ht hbx hby hd1 hd2 hdx hdy
        rw [hk0] at hcl hE ⊢
        clear hk0
        by_cases h0 : t = 0
        · subst h0
          have HE := Lib.hid (hE.2 rfl)
          clear hE htm htd htm2 htd2
          go_wp2
          go_ret
          have hdv := HR.out.1.dv
          rw [HR.out.2.2.2, HE.out] at hdv
          obtain ⟨A1, L1, c1, e1, h5, h6, h7, h8⟩ := hdv
          exact ⟨_, rfl, ⟨A1, L1, c1, e1, h5, by omega, h7, h8⟩, HR.out.2.1⟩
        · have hlt := hE.1 (by omega)
          clear hE
          have hpos : 0 < t := by omega
          have HW := Lib.hid (And.intro trivial (And.intro htm2 htd2))
          clear htm htd htm2 htd2
          go_wp2_with (at_builtin; refine wpList_append_own _ rfl (.tmp 44) (.tmp 47) 22 rfl W 3 ei (.int .i64 0) 1 8 Tryz.underlying22 HI.out.1 HI.out.2.1 HI.out.2.2.1 HI.out.2.2.2 rfl (by decide) _ i (ddigs i S) rfl (HR.out.1.alloc _).1 ⟨wr.heap.size, 0, none⟩ 1 1 [.int .i64 (r : Int)] rfl rfl (by intro j u hj; match j, hj with | 0, hj => simp at hj; subst hj; simp [Addr.add,  HW.out.2.1]) (by intro u hu; simp at hu; subst hu; rfl) (by unfold maxLen; omega) (by omega) (by have := HR.out.2.1.size; have := H0.out.2.2.2; simp; omega) ?_; intro v' w1 hown1 hgrow1 hnil)
          have hfin := HR.out.1.step HR.out.2.1 (by have := HR.out.2.1.size; have := H0.out.2.2.2; omega) HR.out.2.2.1.2 (D.mod_lt _ _) hown1 hgrow1
          go_roundw
          case rel => exact ⟨i + 1, by omega, by go_num, by rw [← HR.out.2.2.1.1]; simp [ HW.out.2.2], hfin.1, hfin.2⟩
          case measure => simp [intOf]; omega
end Go.Proofs.YtjghgbfagjhdgaaGreatDoor
namespace Go.Proofs.YtjghgbfagjhdgaaGreatDoor
open Go Go.RowKit

/-- v is the number z. -/
def DBig (w : World) (v : Value) (z : Int) : Prop :=
  ∃ A L c, v = .agg #[.bool (decide (z < 0)), .slice A L c] ∧ DL w A L z.natAbs ∧ (L = 0 ∨ D.B ^ (L - 1) ≤ z.natAbs) ∧ L ≤ c ∧ c ≤ maxLen
/-- The slice v is the size n. -/
def DSz (w : World) (v : Value) (n : Nat) : Prop := ∃ A L c, v = .slice A L c ∧ DL w A L n ∧ (L = 0 ∨ D.B ^ (L - 1) ≤ n) ∧ L ≤ c ∧ c ≤ maxLen
section
variable {w w' : World} {v : Value} {z : Int} {n : Nat}
theorem DBig.size_ (h : DBig w v z) : ∃ s, v = .agg #[.bool (decide (z < 0)), s] ∧ DSz w s z.natAbs := by
  obtain ⟨A, L, c, rfl, h⟩ := h
  exact ⟨_, rfl, A, L, c, rfl, h⟩
theorem DSz.big (h : DSz w v z.natAbs) : DBig w (.agg #[.bool (decide (z < 0)), v]) z := by
  obtain ⟨A, L, c, rfl, h⟩ := h
  exact ⟨A, L, c, rfl, h⟩
theorem DBig.keep (h : DBig w v z) (hs : w.heap.size ≤ w'.heap.size) (hc : ∀ p : Addr, p.block < w.heap.size → w'.cell? p = w.cell? p) : DBig w' v z := by
  obtain ⟨A, L, c, e, hl, r⟩ := h
  exact ⟨A, L, c, e, hl.keep hs hc, r⟩
theorem DBig.below (h : DBig w v z) {B : Nat} (hb : Below B w w') (hB : w.heap.size ≤ B) : DBig w' v z := h.keep hb.size fun _ hp => hb.cell (by omega)
theorem DBig.drew (h : DBig w v z) : DBig w.drew v z := h
theorem DBig.drewN (h : DBig w v z) (k : Nat) : DBig (w.drewN k) v z := h
theorem DBig.drawn (h : DBig w v z) (hd : Drawn w w') : DBig w' v z := by
  obtain ⟨k, rfl⟩ := hd
  exact h
theorem DBig.alloc (h : DBig w v z) (o : Obj) : DBig (w.alloc o) v z := h.below ((Below.refl w.heap.size w).alloc (Nat.le_refl _) o) (Nat.le_refl _)
theorem DSz.keep (h : DSz w v n) (hs : w.heap.size ≤ w'.heap.size) (hc : ∀ p : Addr, p.block < w.heap.size → w'.cell? p = w.cell? p) : DSz w' v n := by
  obtain ⟨A, L, c, e, hl, r⟩ := h
  exact ⟨A, L, c, e, hl.keep hs hc, r⟩
theorem DSz.below (h : DSz w v n) {B : Nat} (hb : Below B w w') (hB : w.heap.size ≤ B) : DSz w' v n := h.keep hb.size fun _ hp => hb.cell (by omega)
theorem DSz.drew (h : DSz w v n) : DSz w.drew v n := h
theorem DSz.drawn (h : DSz w v n) (hd : Drawn w w') : DSz w' v n := by
  obtain ⟨k, rfl⟩ := hd
  exact h
theorem DSz.open_ (h : DSz w v n) {k : Nat} (hn : n < D.B ^ k) : ∃ A L c, v = .slice A L c ∧ DL w A L n ∧ (L = 0 ∨ D.B ^ (L - 1) ≤ n) ∧ L ≤ c ∧ c ≤ 9223372036854775807 ∧ L ≤ k := by
  obtain ⟨A, L, c, rfl, hl, hm, hc, hcm⟩ := h
  unfold maxLen at hcm
  exact ⟨A, L, c, rfl, hl, hm, hc, hcm, dlen_le hm hn⟩
theorem DBig.open_ (h : DBig w v z) {k : Nat} (hn : z.natAbs < D.B ^ k) : ∃ A L c, v = .agg #[.bool (decide (z < 0)), .slice A L c] ∧ DL w A L z.natAbs ∧ (L = 0 ∨ D.B ^ (L - 1) ≤ z.natAbs) ∧ L ≤ c ∧ c ≤ 9223372036854775807 ∧ L ≤ k := by
  obtain ⟨s, rfl, hs⟩ := h.size_
  obtain ⟨A, L, c, rfl, r⟩ := hs.open_ hn
  exact ⟨A, L, c, rfl, r⟩
end

def sg (b : Bool) (n : Nat) : Int := if b = true then -(n : Int) else n
theorem sg_abs (b : Bool) (n : Nat) : (sg b n).natAbs = n := by unfold sg; split <;> omega
theorem sg_neg (b : Bool) (n : Nat) : decide (sg b n < 0) = (b && decide (0 < n)) := by
  unfold sg
  cases b
  · rw [if_neg (by simp), Bool.false_and, decide_eq_false (by omega)]
  · rw [if_pos rfl, Bool.true_and]
    by_cases h : 0 < n
    · rw [decide_eq_true h, decide_eq_true (by omega)]
    · rw [decide_eq_false h, decide_eq_false (by omega)]
theorem trim_at {w : World} {A : Option Addr} {L c n : Nat} (b : Bool) (h : DL w A L n) (hL : L ≤ 100000) (hc : L ≤ c) :
    Calls Tryz.prog 180 #[.agg #[.bool b, .slice A L c]] w fun e w' => ∃ k, k ≤ L ∧ e = .returned (.agg #[.bool (decide (sg b n < 0)), .slice A k c]) ∧ DL w' A k n ∧ (k = 0 ∨ D.B ^ (k - 1) ≤ n) ∧ Below w.heap.size w w' := by
  refine (dtrim_any b h hL hc).mono ?_
  rintro e w' ⟨k, hk, rfl, hd, hm, hb⟩
  refine ⟨k, hk, ?_, hd, hm, hb⟩
  have hz := dlen_zero hm hd.1
  rw [sg_neg]
  congr 5
  by_cases h0 : k = 0
  · rw [decide_eq_false (by omega), decide_eq_false (by omega)]
  · rw [decide_eq_true (by omega), decide_eq_true (by omega)]
theorem DL.farInt {w : World} {A : Option Addr} {L n g j : Nat} (h : DL w A L n) (hA : ∀ p, A = some p → p.block ≠ g) (v : Value) : DL (w.setCell ⟨g, j, none⟩ v) A L n :=
  ⟨h.1, fun h0 => by
    obtain ⟨b, off, rfl, hb, hc⟩ := h.2 h0
    have hne := hA _ rfl
    refine ⟨b, off, rfl, by simpa [World.setCell] using hb, fun i hi => ?_⟩
    rw [World.cell?_setCell_other _ _ _ _ (fun e => hne (by injection e with e; exact e.symm))]
    exact hc i hi⟩
theorem trim_big {w : World} {A : Option Addr} {L c n : Nat} (b : Bool) (h : DL w A L n) (hL : L ≤ 100000) (hc : L ≤ c) (hcm : c ≤ maxLen) :
    Calls Tryz.prog 180 #[.agg #[.bool b, .slice A L c]] w fun e w' => ∃ s, e = .returned (.agg #[.bool (decide (sg b n < 0)), s]) ∧ DSz w' s n ∧ Below w.heap.size w w' := by
  refine (dtrim_any b h hL hc).mono ?_
  rintro e w' ⟨k, hk, rfl, hd, hm, hb⟩
  refine ⟨.slice A k c, ?_, ⟨A, k, c, rfl, hd, hm, by omega, hcm⟩, hb⟩
  have hz := dlen_zero hm hd.1
  rw [sg_neg]
  congr 5
  by_cases h0 : k = 0
  · rw [decide_eq_false (by omega), decide_eq_false (by omega)]
  · rw [decide_eq_true (by omega), decide_eq_true (by omega)]

theorem big_l (b : Bool) (v : Value) (w : World) : (Instr.field 94 (.agg #[.bool b, v]) 1).run Tryz.prog w = .ok v w := by kernel_rfl
/-- Two numbers as arguments, each in a block of its own, and the result's block behind them. -/
structure DTwo (w0 w : World) (s t : Bool) (u v : Value) : Prop where
  b0 : w.heap[w0.heap.size]? = some (.cells #[.bool s, u] 94 (0, 0))
  b1 : w.heap[w0.heap.size + 1]? = some (.cells #[.bool t, v] 94 (0, 0))
  b2 : ∃ (x : Bool) (A : Option Addr) (L c : Nat), w.heap[w0.heap.size + 1 + 1]? = some (.cells #[.bool x, .slice A L c] 94 (0, 0))
  below : Below w0.heap.size w0 w
def dbox3 (w : World) (s t : Bool) (u v : Value) : World := ((w.alloc (.cells #[.bool s, u] 94)).alloc (.cells #[.bool t, v] 94)).alloc (.cells #[.bool false, .slice none 0 0] 94)
theorem dbox3_two (w : World) (s t : Bool) (u v : Value) : DTwo w (dbox3 w s t u v) s t u v := by
  have e : (dbox3 w s t u v).heap = ((w.heap.push (.cells #[.bool s, u] 94)).push (.cells #[.bool t, v] 94)).push (.cells #[.bool false, .slice none 0 0] 94) := rfl
  refine ⟨?_, ?_, ⟨false, none, 0, 0, ?_⟩, (((Below.refl _ _).alloc (Nat.le_refl _) _).alloc (by simp) _).alloc (by simp; omega) _⟩
  · rw [e, Array.getElem?_push, if_neg (by simp; omega), Array.getElem?_push, if_neg (by simp), Array.getElem?_push, if_pos rfl]
  · rw [e, Array.getElem?_push, if_neg (by simp), Array.getElem?_push, if_pos (by simp)]
  · rw [e, Array.getElem?_push, if_pos (by simp)]
section
variable {w0 w w' : World} {s t : Bool} {u v : Value}
theorem DTwo.size (h : DTwo w0 w s t u v) : w0.heap.size + 3 ≤ w.heap.size := by
  obtain ⟨x, A, L, c, h2⟩ := h.b2
  have := lt_of_block h2
  omega
theorem DTwo.c00 (h : DTwo w0 w s t u v) : w.cell? ⟨w0.heap.size, 0, none⟩ = some (.bool s) := by simp [World.cell?, h.b0]
theorem DTwo.c01 (h : DTwo w0 w s t u v) : w.cell? ⟨w0.heap.size, 1, none⟩ = some u := by simp [World.cell?, h.b0]
theorem DTwo.c10 (h : DTwo w0 w s t u v) : w.cell? ⟨w0.heap.size + 1, 0, none⟩ = some (.bool t) := by simp [World.cell?, h.b1]
theorem DTwo.c11 (h : DTwo w0 w s t u v) : w.cell? ⟨w0.heap.size + 1, 1, none⟩ = some v := by simp [World.cell?, h.b1]
theorem DTwo.f0 (h : DTwo w0 w s t u v) (i : Nat) : w.frozen? ⟨w0.heap.size, i, none⟩ = false := by simp [World.frozen?, h.b0]
theorem DTwo.f1 (h : DTwo w0 w s t u v) (i : Nat) : w.frozen? ⟨w0.heap.size + 1, i, none⟩ = false := by simp [World.frozen?, h.b1]
theorem DTwo.f2 (h : DTwo w0 w s t u v) (i : Nat) : w.frozen? ⟨w0.heap.size + 1 + 1, i, none⟩ = false := by
  obtain ⟨x, A, L, c, h2⟩ := h.b2
  simp [World.frozen?, h2]
theorem DTwo.r0 (h : DTwo w0 w s t u v) : ∃ x, w.cell? ⟨w0.heap.size + 1 + 1, 0, none⟩ = some x := by
  obtain ⟨x, A, L, c, h2⟩ := h.b2
  exact ⟨.bool x, by simp [World.cell?, h2]⟩
theorem DTwo.r1 (h : DTwo w0 w s t u v) : ∃ x, w.cell? ⟨w0.heap.size + 1 + 1, 1, none⟩ = some x := by
  obtain ⟨x, A, L, c, h2⟩ := h.b2
  exact ⟨.slice A L c, by simp [World.cell?, h2]⟩
theorem DTwo.next (h : DTwo w0 w s t u v) {B : Nat} (hb : Below B w w') (hB : w0.heap.size + 3 ≤ B) : DTwo w0 w' s t u v := by
  obtain ⟨x, A, L, c, h2⟩ := h.b2
  exact ⟨(hb.block _ (by omega)).trans h.b0, (hb.block _ (by omega)).trans h.b1, ⟨x, A, L, c, (hb.block _ (by omega)).trans h2⟩, h.below.trans (hb.mono (by omega))⟩
theorem DTwo.op (h : DTwo w0 w s t u v) (hb : Below w.heap.size w w') : DTwo w0 w' s t u v := h.next hb h.size
theorem DTwo.drew (h : DTwo w0 w s t u v) : DTwo w0 w.drew s t u v := ⟨h.b0, h.b1, h.b2, h.below.drew⟩
theorem DTwo.drewN (h : DTwo w0 w s t u v) (k : Nat) : DTwo w0 (w.drewN k) s t u v := ⟨h.b0, h.b1, h.b2, ⟨h.below.os, h.below.tape, h.below.output, h.below.size, h.below.block⟩⟩
theorem DTwo.put0 (h : DTwo w0 w s t u v) (s' : Bool) : DTwo w0 (w.setCell ⟨w0.heap.size, 0, none⟩ (.bool s')) s' t u v := by
  obtain ⟨x, A, L, c, hr⟩ := h.b2
  refine ⟨?_, ?_, ⟨x, A, L, c, ?_⟩, h.below.setCell (Nat.le_refl _) _⟩
  · simp [World.setCell, Array.getElem?_modify, h.b0]
  · simp [World.setCell, Array.getElem?_modify, h.b1]
  · simp [World.setCell, Array.getElem?_modify, hr]; omega
theorem DTwo.put01 (h : DTwo w0 w s t u v) (u' : Value) : DTwo w0 (w.setCell ⟨w0.heap.size, 1, none⟩ u') s t u' v := by
  obtain ⟨x, A, L, c, hr⟩ := h.b2
  refine ⟨?_, ?_, ⟨x, A, L, c, ?_⟩, h.below.setCell (Nat.le_refl _) _⟩
  · simp [World.setCell, Array.getElem?_modify, h.b0]
  · simp [World.setCell, Array.getElem?_modify, h.b1]
  · simp [World.setCell, Array.getElem?_modify, hr]; omega
theorem DTwo.put1 (h : DTwo w0 w s t u v) (t' : Bool) : DTwo w0 (w.setCell ⟨w0.heap.size + 1, 0, none⟩ (.bool t')) s t' u v := by
  obtain ⟨x, A, L, c, hr⟩ := h.b2
  refine ⟨?_, ?_, ⟨x, A, L, c, ?_⟩, h.below.setCell (by simp) _⟩
  · simp [World.setCell, Array.getElem?_modify, h.b0]
  · simp [World.setCell, Array.getElem?_modify, h.b1]
  · simp [World.setCell, Array.getElem?_modify, hr]
theorem DTwo.put11 (h : DTwo w0 w s t u v) (v' : Value) : DTwo w0 (w.setCell ⟨w0.heap.size + 1, 1, none⟩ v') s t u v' := by
  obtain ⟨x, A, L, c, hr⟩ := h.b2
  refine ⟨?_, ?_, ⟨x, A, L, c, ?_⟩, h.below.setCell (by simp) _⟩
  · simp [World.setCell, Array.getElem?_modify, h.b0]
  · simp [World.setCell, Array.getElem?_modify, h.b1]
  · simp [World.setCell, Array.getElem?_modify, hr]
theorem DTwo.far (h : DTwo w0 w s t u v) {p : Addr} (hp : w0.heap.size + 3 ≤ p.block) (r : Value) : DTwo w0 (w.setCell p r) s t u v := by
  obtain ⟨x, A, L, c, hr⟩ := h.b2
  exact ⟨(Below.heap_setCell _ _ _ _ (by omega)).trans h.b0, (Below.heap_setCell _ _ _ _ (by omega)).trans h.b1, ⟨x, A, L, c, (Below.heap_setCell _ _ _ _ (by omega)).trans hr⟩, h.below.setCell (by omega) _⟩
theorem DTwo.alloc (h : DTwo w0 w s t u v) (o : Obj) : DTwo w0 (w.alloc o) s t u v := h.op ((Below.refl _ _).alloc (Nat.le_refl _) _)
/-- The result's block written. -/
def dres (w : World) (r : Nat) (b : Bool) (v : Value) : World := (w.setCell ⟨r, 0, none⟩ (.bool b)).setCell ⟨r, 1, none⟩ v
theorem DTwo.res (h : DTwo w0 w s t u v) (b : Bool) (A : Option Addr) (L c : Nat) : DTwo w0 (dres w (w0.heap.size + 1 + 1) b (.slice A L c)) s t u v := by
  obtain ⟨x, A', L', c', hr⟩ := h.b2
  refine ⟨?_, ?_, ⟨b, A, L, c, ?_⟩, (h.below.setCell (by simp; omega) _).setCell (by simp; omega) _⟩
  · exact (Below.heap_setCell _ _ _ _ (by simp; omega)).trans ((Below.heap_setCell _ _ _ _ (by simp; omega)).trans h.b0)
  · exact (Below.heap_setCell _ _ _ _ (by simp)).trans ((Below.heap_setCell _ _ _ _ (by simp)).trans h.b1)
  · simp [dres, World.setCell, Array.getElem?_modify, hr]
theorem DTwo.done (h : DTwo w0 w s t u v) (b : Bool) (A : Option Addr) (L c : Nat) : (dres w (w0.heap.size + 1 + 1) b (.slice A L c)).cell? ⟨w0.heap.size + 1 + 1, 0, none⟩ = some (.bool b) ∧
    (dres w (w0.heap.size + 1 + 1) b (.slice A L c)).cell? ⟨w0.heap.size + 1 + 1, 1, none⟩ = some (.slice A L c) ∧ Below w0.heap.size w0 (dres w (w0.heap.size + 1 + 1) b (.slice A L c)) := by
  obtain ⟨x, A', L', c', hr⟩ := h.b2
  refine ⟨?_, ?_, (h.below.setCell (by simp; omega) _).setCell (by simp; omega) _⟩
  · simp [dres, World.cell?, World.setCell, Array.getElem?_modify, hr]
  · simp [dres, World.cell?, World.setCell, Array.getElem?_modify, hr]
end
/-- What lies elsewhere than in the result's block stays. -/
theorem DSz.far {w : World} {x : Value} {n r : Nat} (hx : DSz w x n) (hr : ∃ (x : Bool) (A : Option Addr) (L c : Nat), w.heap[r]? = some (.cells #[.bool x, .slice A L c] 94 (0, 0))) (b : Bool) (v : Value) : DSz (dres w r b v) x n := by
  obtain ⟨A, L, c, rfl, ⟨hn, hl⟩, r'⟩ := hx
  refine ⟨A, L, c, rfl, ⟨hn, fun h0 => ?_⟩, r'⟩
  obtain ⟨b', off, rfl, hb, hc⟩ := hl h0
  obtain ⟨x, A', L', c', hr⟩ := hr
  have hne : b' ≠ r := by
    rintro rfl
    have h1 := hc 0 h0
    simp [World.cell?, hr] at h1
    match off, h1 with
    | 0, h1 => simp at h1
    | 1, h1 => simp at h1
    | o + 2, h1 => simp at h1
  refine ⟨b', off, rfl, by simpa [dres, World.setCell] using hb, fun i hi => ?_⟩
  unfold dres
  rw [World.cell?_setCell_other _ _ _ _ (fun e => hne (by injection e with e; exact e.symm)), World.cell?_setCell_other _ _ _ _ (fun e => hne (by injection e with e; exact e.symm))]
  exact hc i hi
end Go.Proofs.YtjghgbfagjhdgaaGreatDoor
namespace Go.Proofs.YtjghgbfagjhdgaaGreatDoor
open Go Go.RowKit

theorem DBig.later {w : World} {A : Option Addr} {L c n : Nat} (hl : DL w A L n) (hm : L = 0 ∨ D.B ^ (L - 1) ≤ n) (hc : L ≤ c) (hcm : c ≤ maxLen) (w' : World) (hb : Below w.heap.size w w') : DSz w' (.slice A L c) n :=
  ⟨A, L, c, rfl, hl.below hb (Nat.le_refl _), hm, hc, hcm⟩
set_option maxHeartbeats 400000 in
set_option maxRecDepth 100000 in
theorem rneg_any {w : World} {v : Value} {z : Int} (h : DBig w v z) :
    Calls Tryz.prog 128 #[v] w fun e w' => ∃ s, e = .returned (.agg #[.bool (decide (-z < 0)), s]) ∧ DSz w' s z.natAbs ∧ Below w.heap.size w w' := by
  obtain ⟨A, L, c, rfl, hl, hm, hc, hcm⟩ := h
  have hz := dlen_zero hm hl.1
  have H := Lib.hid (DBig.later hl hm hc hcm)
  clear hl hm hc hcm
  have hB : ∀ s, Below w.heap.size w ((w.alloc (.cells #[.bool s, .slice A L c] 94)).alloc (.cells #[.bool s, .slice A L c] 94)) := fun s => ((Below.refl _ _).alloc (Nat.le_refl _) _).alloc (by simp) _
  have HB := Lib.hid hB
  clear hB
  rcases Int.lt_trichotomy z 0 with h0 | h0 | h0
  · rw [decide_eq_true h0, decide_eq_false (show ¬ -z < 0 by omega)]
    clear hz h0
    go_enter Tryz.func128, Tryz.ntmps128
    go_wp2
    exact bodyPost_ret (v := .agg #[.bool false, .slice A L c]) (by simp [results, Tryz.results128, go_sem]) rfl ⟨_, rfl, H.out _ (HB.out false), HB.out false⟩
  · have hL : L = 0 := hz.2 (by omega)
    subst hL
    rw [decide_eq_false (show ¬ z < 0 by omega), decide_eq_false (show ¬ -z < 0 by omega)]
    clear hz h0
    go_enter Tryz.func128, Tryz.ntmps128
    go_wp2
    exact bodyPost_ret (v := .agg #[.bool false, .slice A 0 c]) (by simp [results, Tryz.results128, go_sem]) rfl ⟨_, rfl, H.out _ (HB.out false), HB.out false⟩
  · have hL : 0 < L := by
      rcases Nat.eq_zero_or_pos L with h1 | h1
      · have := hz.1 h1; omega
      · exact h1
    rw [decide_eq_false (show ¬ z < 0 by omega), decide_eq_true (show -z < 0 by omega)]
    clear hz h0
    go_enter Tryz.func128, Tryz.ntmps128
    go_wp2
    exact bodyPost_ret (v := .agg #[.bool true, .slice A L c]) (by simp [results, Tryz.results128, go_sem]) rfl ⟨_, rfl, H.out _ (HB.out true), HB.out true⟩

set_option maxHeartbeats 400000 in
set_option maxRecDepth 100000 in
theorem rdigits_any {w : World} {v : Value} {z : Int} {k : Nat} (h : DBig w v z) (hz : z.natAbs < D.B ^ k) (hk : k ≤ 50000) :
    Calls Tryz.prog 184 #[v] w fun e w' => e = .returned (.int .i64 (Lib.nDigits z.natAbs : Int)) ∧ Below w.heap.size w w' := by
  obtain ⟨A, L, c, rfl, hl, hm, hc, hcm, hLk⟩ := h.open_ hz
  have hzl := dlen_zero hm hl.1
  have hB : Below w.heap.size w (w.alloc (.cells #[.bool (decide (z < 0)), .slice A L c] 94)) := (Below.refl _ _).alloc (Nat.le_refl _) _
  have HB := Lib.hid hB
  clear hB h hz
  generalize decide (z < 0) = s at *
  by_cases hL : L = 0
  · have h1 : Lib.nDigits z.natAbs = 1 := by rw [hzl.1 hL]; exact Lib.nDigits_small (by decide)
    rw [h1]
    subst hL
    clear hl hm hzl h1
    go_enter Tryz.func184, Tryz.ntmps184
    go_wp2
    go_ret
    exact ⟨rfl, HB.out⟩
  · obtain ⟨l, rfl⟩ : ∃ l, L = l + 1 := ⟨L - 1, by omega⟩
    have hm' : D.B ^ l ≤ z.natAbs := by
      rcases hm with h | h
      · omega
      · exact h
    have hnd := D.nDigits_limbs hl.1 hm'
    have htop := D.top_pos hm' hl.1
    have hle := D.dg_le z.natAbs l
    obtain ⟨b, off, rfl, hbw, hcell⟩ := hl.at_ (show l < l + 1 by omega)
    have hcl := hcell l (by omega)
    obtain ⟨t, ht⟩ : ∃ t, t = D.dg z.natAbs l := ⟨_, rfl⟩
    rw [← ht] at hnd htop hle hcl
    obtain ⟨N, hN⟩ : ∃ N, N = Lib.nDigits z.natAbs := ⟨_, rfl⟩
    rw [← hN] at hnd ⊢
    have hnt : D.nd t = Lib.nDigits t := by unfold D.nd; rw [if_neg (by omega)]
    have hN9 : N ≤ 9 * l + 9 := by
      have := D.nDig_le (k := 8) (a := t) (by rw [show (10 : Nat) ^ (8 + 1) = 1000000000 by rfl]; omega)
      omega
    have HN := Lib.hid (And.intro (show N = 9 * l + D.nd t by omega) hN9)
    have e1 : ((l + 1 : Nat) : Int) - 1 = (l : Int) := by omega
    clear hcell hl hm hzl hm' ht hN hnd hnt hL hN9
    go_enter Tryz.func184, Tryz.ntmps184
    have hcl2 : (w.alloc (.cells #[.bool s, .slice (some ⟨b, off, none⟩) (l + 1) c] 94)).cell? ⟨b, off + l, none⟩ = some (.int .i64 (t : Int)) := (HB.out.cell (p := ⟨b, off + l, none⟩) hbw).trans hcl
    go_wp2_with fail
    go_loop [3, 4] (fun nv kv => ∃ q m : Nat, q ≤ 999999999 ∧ N = m + D.nd q ∧ kv = .int .i64 (q : Int) ∧ nv = .int .i64 (m : Int)) (fun _ kv => (intOf kv).toNat)
    case atStart => exact ⟨t, 9 * l, hle, HN.out.1, rfl, by simp⟩
    case round =>
      obtain ⟨q, m, hq, hNq, rfl, rfl⟩ := hrel
      by_cases h0 : q = 0
      · subst h0
        have HE := Lib.hid (show m = N by rw [hNq]; rfl)
        clear hNq
        go_wp2
        go_ret
        exact ⟨by rw [HE.out]; rfl, HB.out⟩
      · have hq0 : 0 < q := by omega
        have hmN : m ≤ 9 * l + 9 := by have := HN.out.2; omega
        have HS := Lib.hid (show N = m + 1 + D.nd (q / 10) by have := D.nd_step hq0; omega)
        have ed : (q : Int) / 10 = ((q / 10 : Nat) : Int) := by omega
        have HD := Lib.hid ed
        clear hNq h0 ed
        go_wp2
        go_round
        case rel => exact ⟨q / 10, m + 1, by omega, HS.out, by rw [HD.out], by go_num⟩
        case measure => simp [intOf]; omega
end Go.Proofs.YtjghgbfagjhdgaaGreatDoor
namespace Go.Proofs.YtjghgbfagjhdgaaGreatDoor
open Go Go.RowKit

/-- Two arguments laid into blocks, without a result's. -/
def dbox2 (w : World) (s t : Bool) (u v : Value) : World := (w.alloc (.cells #[.bool s, u] 94)).alloc (.cells #[.bool t, v] 94)
theorem dbox2_below (w : World) (s t : Bool) (u v : Value) : Below w.heap.size w (dbox2 w s t u v) := ((Below.refl _ _).alloc (Nat.le_refl _) _).alloc (by simp) _
theorem cmp_diff {x y : Int} (h : decide (x < 0) ≠ decide (y < 0)) : cmpI x y = if decide (x < 0) = true then -1 else 1 := by
  by_cases hx : x < 0
  · have : ¬ y < 0 := fun hy => h (by rw [decide_eq_true hx, decide_eq_true hy])
    rw [decide_eq_true hx, if_pos rfl, cmpI_lt (by omega)]
  · have : y < 0 := by
      by_cases hy : y < 0
      · exact hy
      · exact absurd (by rw [decide_eq_false hx, decide_eq_false hy]) h
    rw [decide_eq_false hx, if_neg Bool.false_ne_true, cmpI_gt (by omega)]
theorem cmp_same {x y : Int} (h : decide (x < 0) = decide (y < 0)) : cmpI x y = if decide (x < 0) = true then -cmpI x.natAbs y.natAbs else cmpI x.natAbs y.natAbs := by
  by_cases hx : x < 0
  · have hy : y < 0 := by rw [decide_eq_true hx] at h; exact of_decide_eq_true h.symm
    rw [decide_eq_true hx, if_pos rfl]
    rcases Int.lt_trichotomy x y with h1 | h1 | h1
    · rw [cmpI_lt h1, cmpI_gt (by omega)]
    · rw [cmpI_eq h1, cmpI_eq (by omega)]; rfl
    · rw [cmpI_gt h1, cmpI_lt (by omega)]; rfl
  · have hy : ¬ y < 0 := by rw [decide_eq_false hx] at h; exact of_decide_eq_false h.symm
    rw [decide_eq_false hx, if_neg Bool.false_ne_true]
    rcases Int.lt_trichotomy x y with h1 | h1 | h1
    · rw [cmpI_lt h1, cmpI_lt (by omega)]
    · rw [cmpI_eq h1, cmpI_eq (by omega)]
    · rw [cmpI_gt h1, cmpI_gt (by omega)]
end Go.Proofs.YtjghgbfagjhdgaaGreatDoor
