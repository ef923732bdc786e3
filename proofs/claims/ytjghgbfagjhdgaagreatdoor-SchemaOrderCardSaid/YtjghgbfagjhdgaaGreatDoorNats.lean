/- Words for memory: a slice of limbs that holds a number; a block of limbs that the call itself has made. limb, trim, natural64, word: the small methods of wide.natural. plus, minus, compare. cmp.Compare at int, uint32; compare. times. setQuotient, natural64, word, the shifts. natural64, word; a division by one limb. Natural numbers that fit: plus, minus, times, compare by their values; the low 64 bits. -/
import Derived.Handy
import Derived.Lib.Hide
import Derived.Deep.Draws
import Derived.Test.YtjghgbfagjhdgaaGreatDoorPure
import Derived.Test.YtjghgbfagjhdgaaGreatDoorChecked
import Derived.BigQuiet
import Derived.Deep.QuietTactic
import Derived.Lib.MinMax
import Derived.WalkLawsBesides
namespace Go.Proofs.YtjghgbfagjhdgaaGreatDoor
open Go Go.RowKit

/-- The len limbs at A hold the digits of n. -/
def Limbs (w : World) (A : Option Addr) (len n : Nat) : Prop :=
  n < M.B ^ len ∧ (0 < len → ∃ b off, A = some ⟨b, off, none⟩ ∧ b < w.heap.size ∧ ∀ i, i < len → w.cell? ⟨b, off + i, none⟩ = some (.int .u32 (M.dg n i)))

/-- v is the natural n: as few limbs as there can be. -/
def IsNat (w : World) (v : Value) (n : Nat) : Prop :=
  ∃ A len cap, v = .slice A len cap ∧ Limbs w A len n ∧ (len = 0 ∨ M.B ^ (len - 1) ≤ n) ∧ len ≤ cap ∧ cap ≤ 9223372036854775807

theorem Limbs.at_ {w : World} {A : Option Addr} {len n i : Nat} (h : Limbs w A len n) (hi : i < len) :
    ∃ b off, A = some ⟨b, off, none⟩ ∧ b < w.heap.size ∧ ∀ i, i < len → w.cell? ⟨b, off + i, none⟩ = some (.int .u32 (M.dg n i)) := h.2 (by omega)
theorem Limbs.big {w : World} {A : Option Addr} {len n i : Nat} (h : Limbs w A len n) (hi : len ≤ i) : M.dg n i = 0 := M.dg_big h.1 hi
theorem Limbs.none_ (w : World) (A : Option Addr) : Limbs w A 0 0 := ⟨by simp, fun h => absurd h (by omega)⟩
theorem Limbs.keep {w w' : World} {A : Option Addr} {len n : Nat} (h : Limbs w A len n) (hs : w.heap.size ≤ w'.heap.size) (hc : ∀ p : Addr, p.block < w.heap.size → w'.cell? p = w.cell? p) : Limbs w' A len n :=
  ⟨h.1, fun hl => by
    obtain ⟨b, off, e, hb, hh⟩ := h.2 hl
    exact ⟨b, off, e, by omega, fun i hi => (hc _ hb).trans (hh i hi)⟩⟩
theorem Limbs.below {w w' : World} {A : Option Addr} {len n B : Nat} (h : Limbs w A len n) (hb : Below B w w') (hB : w.heap.size ≤ B) : Limbs w' A len n :=
  h.keep hb.size fun _ hp => hb.cell (by omega)
theorem Limbs.drew {w : World} {A : Option Addr} {len n : Nat} (h : Limbs w A len n) : Limbs w.drew A len n := h
theorem Limbs.drewN {w : World} {A : Option Addr} {len n : Nat} (h : Limbs w A len n) (k : Nat) : Limbs (w.drewN k) A len n := h
theorem Limbs.alloc {w : World} {A : Option Addr} {len n : Nat} (h : Limbs w A len n) (o : Obj) : Limbs (w.alloc o) A len n :=
  h.below ((Below.refl w.heap.size w).alloc (Nat.le_refl _) o) (Nat.le_refl _)
/-- The lowest limbs alone. -/
theorem Limbs.cut {w : World} {A : Option Addr} {len n k : Nat} (h : Limbs w A len n) (hk : k ≤ len) (hn : n < M.B ^ k) : Limbs w A k n :=
  ⟨hn, fun h0 => by
    obtain ⟨b, off, e, hb, hh⟩ := h.2 (by omega)
    exact ⟨b, off, e, hb, fun i hi => hh i (by omega)⟩⟩

theorem IsNat.keep {w w' : World} {v : Value} {n : Nat} (h : IsNat w v n) (hs : w.heap.size ≤ w'.heap.size) (hc : ∀ p : Addr, p.block < w.heap.size → w'.cell? p = w.cell? p) : IsNat w' v n := by
  obtain ⟨A, len, cap, e, hl, r⟩ := h
  exact ⟨A, len, cap, e, hl.keep hs hc, r⟩
theorem IsNat.below {w w' : World} {v : Value} {n B : Nat} (h : IsNat w v n) (hb : Below B w w') (hB : w.heap.size ≤ B) : IsNat w' v n :=
  h.keep hb.size fun _ hp => hb.cell (by omega)
theorem IsNat.drewN {w : World} {v : Value} {n : Nat} (h : IsNat w v n) (k : Nat) : IsNat (w.drewN k) v n := h
theorem IsNat.drew {w : World} {v : Value} {n : Nat} (h : IsNat w v n) : IsNat w.drew v n := h
theorem IsNat.alloc {w : World} {v : Value} {n : Nat} (h : IsNat w v n) (o : Obj) : IsNat (w.alloc o) v n :=
  h.below ((Below.refl w.heap.size w).alloc (Nat.le_refl _) o) (Nat.le_refl _)
theorem len_le {len n k : Nat} (h : len = 0 ∨ M.B ^ (len - 1) ≤ n) (hn : n < M.B ^ k) : len ≤ k := by
  rcases h with h | h
  · omega
  · rcases Nat.lt_or_ge k len with h1 | h1
    · have := M.pow_mono (show k ≤ len - 1 by omega); omega
    · exact h1
theorem len_zero {len n : Nat} (h : len = 0 ∨ M.B ^ (len - 1) ≤ n) (hn : n < M.B ^ len) : len = 0 ↔ n = 0 := by
  constructor
  · rintro rfl; simpa using hn
  · rintro rfl
    rcases h with h | h
    · exact h
    · have := M.pow_pos (len - 1); omega
theorem IsNat.zero (w : World) : IsNat w (.slice none 0 0) 0 := ⟨none, 0, 0, rfl, Limbs.none_ _ _, .inl rfl, by omega, by omega⟩

/-- Block g is just the L limbs of n, none frozen. -/
def Row (w : World) (g L n : Nat) : Prop :=
  ∃ cs : Array Value, w.heap[g]? = some (.cells cs 193 (0, 0)) ∧ cs.size = L ∧ n < M.B ^ L ∧ ∀ j, j < L → cs[j]? = some (.int .u32 (M.dg n j))

theorem Row.lt {w : World} {g L n : Nat} (h : Row w g L n) : g < w.heap.size := by
  obtain ⟨cs, h, _⟩ := h
  exact lt_of_block h
theorem Row.bound {w : World} {g L n : Nat} (h : Row w g L n) : n < M.B ^ L := by
  obtain ⟨cs, _, _, h, _⟩ := h
  exact h
theorem Row.cell {w : World} {g L n : Nat} (h : Row w g L n) {j : Nat} (hj : j < L) : w.cell? ⟨g, j, none⟩ = some (.int .u32 (M.dg n j)) := by
  obtain ⟨cs, h, _, _, hc⟩ := h
  simp [World.cell?, h, hc j hj]
theorem Row.free {w : World} {g L n : Nat} (h : Row w g L n) (j : Nat) : w.frozen? ⟨g, j, none⟩ = false := by
  obtain ⟨cs, h, _⟩ := h
  simp [World.frozen?, h]
theorem Row.limbs {w : World} {g L n : Nat} (h : Row w g L n) : Limbs w (some ⟨g, 0, none⟩) L n :=
  ⟨h.bound, fun _ => ⟨g, 0, rfl, h.lt, fun i hi => by rw [Nat.zero_add]; exact h.cell hi⟩⟩
theorem Row.drew {w : World} {g L n : Nat} (h : Row w g L n) : Row w.drew g L n := h
theorem Row.drewN {w : World} {g L n : Nat} (h : Row w g L n) (k : Nat) : Row (w.drewN k) g L n := h
theorem Row.block {w w' : World} {g L n : Nat} (h : Row w g L n) (hb : w'.heap[g]? = w.heap[g]?) : Row w' g L n := by
  obtain ⟨cs, h, r⟩ := h
  exact ⟨cs, hb.trans h, r⟩
theorem Row.below {w w' : World} {g L n B : Nat} (h : Row w g L n) (hb : Below B w w') (hg : g < B) : Row w' g L n := h.block (hb.block g hg)
theorem Row.alloc {w : World} {g L n : Nat} (h : Row w g L n) (o : Obj) : Row (w.alloc o) g L n := h.block (Below.heap_alloc w o g h.lt)
theorem Row.far {w : World} {g L n : Nat} (h : Row w g L n) {p : Addr} (hp : g ≠ p.block) (u : Value) : Row (w.setCell p u) g L n := h.block (Below.heap_setCell w p u g hp)
theorem Row.set {w : World} {g L n k d : Nat} (h : Row w g L n) (hk : k < L) (hd : d < M.B) : Row (w.setCell ⟨g, k, none⟩ (.int .u32 d)) g L (M.put n k d) := by
  obtain ⟨cs, hh, hs, hn, hc⟩ := h
  refine ⟨cs.setIfInBounds k (.int .u32 d), ?_, by simp [hs], M.put_lt hn hk hd, fun j hj => ?_⟩
  · simp [World.setCell, Array.getElem?_modify, hh]
  · rw [Array.getElem?_setIfInBounds]
    by_cases e : k = j
    · subst e
      rw [if_pos rfl, if_pos (by omega), M.dg_put_same n k hd]
    · rw [if_neg e, hc j hj, M.dg_put_other n hd (fun h => e h.symm)]
theorem Row.new (w : World) (L : Nat) : Row (w.alloc (.cells (madeCells #[Value.int .u32 0] L) 193)) w.heap.size L 0 := by
  refine ⟨_, heap_alloc_new w _, by simp [madeCells], M.pow_pos L, fun j hj => ?_⟩
  rw [M.dg_zero]
  simp [madeCells, hj, Nat.mod_one]
end Go.Proofs.YtjghgbfagjhdgaaGreatDoor
namespace Go.Proofs.YtjghgbfagjhdgaaGreatDoor
open Go Go.RowKit

theorem limb_in (b off len cap i x : Nat) (w : World) (hi : i < len) (_hl : len ≤ 4611686018427387904) (hx : x ≤ 4294967295) (hc : w.cell? ⟨b, off + i, none⟩ = some (.int .u32 (x : Int))) :
    Calls Tryz.prog 206 #[.slice (some ⟨b, off, none⟩) len cap, .int .i64 (i : Int)] w fun e w' => e = .returned (.int .u64 (x : Int)) ∧ w = w' := by
  go_enter Tryz.func206, Tryz.ntmps206
  go_wp2
  go_ret
  exact ⟨rfl, rfl⟩
theorem limb_out (A : Option Addr) (len cap i : Nat) (w : World) (hi : len ≤ i) (_hl : i ≤ 4611686018427387904) :
    Calls Tryz.prog 206 #[.slice A len cap, .int .i64 (i : Int)] w fun e w' => e = .returned (.int .u64 0) ∧ w = w' := by
  go_enter Tryz.func206, Tryz.ntmps206
  go_wp2
  go_ret
  exact ⟨rfl, rfl⟩
theorem limb_any {w : World} {A : Option Addr} {len n : Nat} (cap i : Nat) (h : Limbs w A len n) (hl : len ≤ 4611686018427387904) (hi : i ≤ 4611686018427387904) :
    Calls Tryz.prog 206 #[.slice A len cap, .int .i64 (i : Int)] w fun e w' => e = .returned (.int .u64 (M.dg n i : Int)) ∧ w = w' := by
  rcases Nat.lt_or_ge i len with hlt | hge
  · obtain ⟨b, off, rfl, _, hc⟩ := h.at_ hlt
    exact limb_in b off len cap i _ w hlt hl (M.dg_le _ _) (hc i hlt)
  · rw [h.big hge]
    exact limb_out A len cap i w hge hi

theorem top_zero {n k : Nat} (h : n < M.B ^ (k + 1)) (h0 : M.dg n k = 0) : n < M.B ^ k := by
  unfold M.dg at h0
  rw [M.pow_succ', Nat.mul_comm] at h
  have h1 : n / M.B ^ k < M.B := Nat.div_lt_of_lt_mul (by rw [Nat.mul_comm]; exact h)
  rw [Nat.mod_eq_of_lt h1] at h0
  rcases Nat.lt_or_ge n (M.B ^ k) with h2 | h2
  · exact h2
  · have := Nat.div_pos h2 (M.pow_pos k); omega
theorem top_pos {n k : Nat} (h0 : M.dg n k ≠ 0) : M.B ^ k ≤ n := by
  rcases Nat.lt_or_ge n (M.B ^ k) with h2 | h2
  · exact absurd (M.dg_of_lt h2) h0
  · exact h2
def lenOf : Value → Nat | .slice _ n _ => n | _ => 0

theorem trim_core {w : World} {A : Option Addr} {len n cap : Nat} (h : Limbs w A len n) (hl : len ≤ cap) (hcap : cap ≤ 9223372036854775807) :
    Calls Tryz.prog 172 #[.slice A len cap] w fun e w' => ∃ k, e = .returned (.slice A k cap) ∧ k ≤ len ∧ n < M.B ^ k ∧ (k = 0 ∨ M.B ^ (k - 1) ≤ n) ∧ w = w' := by
  go_enter Tryz.func172, Tryz.ntmps172
  go_wp2
  go_loop [0] (fun s => ∃ k, k ≤ len ∧ s = .slice A k cap ∧ n < M.B ^ k) (fun s => lenOf s)
  case atStart => exact ⟨len, Nat.le_refl _, rfl, h.1⟩
  case round =>
    obtain ⟨k, hk, rfl, hn⟩ := hrel
    by_cases h0 : k = 0
    · subst h0
      clear h
      go_wp2
      go_ret
      exact ⟨0, rfl, Nat.zero_le _, hn, .inl rfl, rfl⟩
    · obtain ⟨j, rfl⟩ : ∃ j, k = j + 1 := ⟨k - 1, by omega⟩
      obtain ⟨b, off, rfl, hb, hc⟩ := h.at_ (show j < len by omega)
      have hj := hc j (by omega)
      have H := Lib.hid h; clear h hc
      by_cases hz : M.dg n j = 0
      · have hn' := Lib.hid (top_zero hn hz)
        rw [hz] at hj
        clear hz
        go_wp2
        go_round
        case rel => exact ⟨j, by omega, rfl, hn'.out⟩
        case measure => simp [lenOf]
      · have hp := Lib.hid (top_pos hz)
        have hle := M.dg_le n j
        have hpos : 1 ≤ M.dg n j := by omega
        generalize M.dg n j = x at *
        have Hn := Lib.hid hn
        clear hn hz h0
        go_wp2
        go_ret
        exact ⟨j + 1, rfl, by omega, Hn.out, .inr (by simpa using hp.out), rfl⟩
theorem trim_any {w : World} {A : Option Addr} {len n cap : Nat} (h : Limbs w A len n) (hl : len ≤ cap) (hcap : cap ≤ 9223372036854775807) :
    Calls Tryz.prog 172 #[.slice A len cap] w fun e w' => ∃ v, e = .returned v ∧ IsNat w v n ∧ w = w' := by
  refine (trim_core h hl hcap).mono ?_
  rintro e w' ⟨k, rfl, hk, hn, hm, rfl⟩
  exact ⟨_, rfl, ⟨A, k, cap, rfl, h.cut hk hn, hm, by omega, hcap⟩, rfl⟩
end Go.Proofs.YtjghgbfagjhdgaaGreatDoor
namespace Go.Proofs.YtjghgbfagjhdgaaGreatDoor
open Go Go.RowKit

theorem info32 : (Tryz.prog.info? 193).map (fun i => (i.zero, i.size, i.bytes)) = some (some (.int .u32 0), 1, 4) := by kernel_rfl
theorem make_nat (n : Nat) (hn : n ≤ 4611686018427387904 / 65536) (w : World) :
    (Instr.makeSlice 75 (.int .i64 (n : Int)) (.int .i64 (n : Int))).run Tryz.prog w = .ok (.slice (some ⟨w.heap.size, 0, none⟩) n n) (w.alloc (.cells (madeCells (Value.int .u32 0).cells (n * 1)) 193)) := by
  obtain ⟨i, hi, hz, hs, hb⟩ := info_parts info32
  have h := run_make (P := Tryz.prog) w 75 193 i _ Tryz.underlying75 hi hz .i64 .i64 n n (by omega) (by omega) (by rw [hb]; omega) (by omega)
  rw [hs] at h
  simpa using h

theorem cast_mod (t : Nat) : ((t : Int) % 4294967296) = ((t % M.B : Nat) : Int) := by rw [M.B_eq]; omega
theorem cast_div (t : Nat) : ((t : Int) / 4294967296) = ((t / M.B : Nat) : Int) := by rw [M.B_eq]; omega
theorem plus_row {wr : World} {g L x y i : Nat} (hi : i < L) (hr : Row wr g L ((x + y) % M.B ^ i)) :
    Row (wr.setCell ⟨g, i, none⟩ (.int .u32 (((M.carry x y i : Int) + ((M.dg x i : Int) + (M.dg y i : Int))) % 4294967296))) g L ((x + y) % M.B ^ (i + 1)) := by
  rw [M.mod_succ_add, show (M.carry x y i : Int) + ((M.dg x i : Int) + (M.dg y i : Int)) = ((M.carry x y i + (M.dg x i + M.dg y i) : Nat) : Int) by omega, cast_mod]
  exact hr.set hi (Nat.mod_lt _ M.B_pos)
theorem plus_carry (x y i : Nat) : ((M.carry x y i : Int) + ((M.dg x i : Int) + (M.dg y i : Int))) / 4294967296 = (M.carry x y (i + 1) : Int) := by
  rw [M.carry_succ, ← cast_div]; omega
theorem sum_lt {x y l l' L : Nat} (hx : x < M.B ^ l) (hy : y < M.B ^ l') (h : l ≤ L) (h' : l' ≤ L) : x + y < M.B ^ (L + 1) := by
  have h1 := M.pow_mono h
  have h2 := M.pow_mono h'
  have h3 := Nat.mul_le_mul_left (M.B ^ L) M.B_two
  rw [M.pow_succ']
  omega

set_option maxHeartbeats 400000 in
set_option maxRecDepth 100000 in
theorem plus_any {w : World} {A A' : Option Addr} {l l' x y : Nat} (c c' : Nat) (hx : Limbs w A l x) (hy : Limbs w A' l' y) (hl : l ≤ 60000) (hl' : l' ≤ 60000) :
    Calls Tryz.prog 203 #[.slice A l c, .slice A' l' c'] w fun e w' => ∃ v, e = .returned v ∧ IsNat w' v (x + y) ∧ Below w.heap.size w w' := by
  have hmk := make_nat (max l l' + 1) (by omega)
  rw [show ((max l l' + 1 : Nat) : Int) = max (l : Int) l' + 1 by omega] at hmk
  go_enter Tryz.func203, Tryz.ntmps203
  go_wp2_with fail
  have hr0 := Row.new w (max l l' + 1)
  have hb0 : Below w.heap.size w (w.alloc (.cells (madeCells #[Value.int .u32 0] (max l l' + 1)) 193)) := (Below.refl _ _).alloc (Nat.le_refl _) _
  have hlL : l ≤ max l l' := Nat.le_max_left _ _
  have hlL' : l' ≤ max l l' := Nat.le_max_right _ _
  have hL : max l l' ≤ 60000 := by omega
  clear hmk
  generalize w.alloc (.cells (madeCells #[Value.int .u32 0] (max l l' + 1)) 193) = w0 at *
  generalize max l l' = L at *
  have H0 := Lib.hid (And.intro hr0 hb0)
  have HX := Lib.hid hx
  have HY := Lib.hid hy
  clear hr0 hb0 hx hy
  go_loopw [6, 17] (fun cv iv wr => ∃ i, i ≤ L + 1 ∧ iv = .int .i64 (i : Int) ∧ cv = .int .u64 (M.carry x y i : Int) ∧ Row wr w.heap.size (L + 1) ((x + y) % M.B ^ i) ∧ Below w.heap.size w wr) (fun _ iv _ => L + 1 - (intOf iv).toNat)
  case atStart => exact ⟨0, by omega, rfl, by rw [M.carry_zero]; rfl, by simpa [Nat.mod_one] using H0.out.1, H0.out.2⟩
  case round =>
    obtain ⟨i, hi, rfl, rfl, hr, hb⟩ := hrel
    have hx' := HX.out.below hb (Nat.le_refl _)
    have hy' := HY.out.below hb (Nat.le_refl _)
    by_cases hlt : i < L + 1
    · have hcl := M.carry_le x y i
      have hdx := M.dg_le x i
      have hdy := M.dg_le y i
      have hcell := hr.cell hlt
      have hfree := hr.free i
      have HR := Lib.hid hr
      have HB := Lib.hid hb
      clear hr hb
      go_wp2_with (go_at_call 206; refine (limb_any _ _ (by assumption) (by omega) (by omega)).mono ?_; rintro e w' ⟨rfl, rfl⟩)
      go_roundw
      case rel => exact ⟨i + 1, by omega, by go_num, by rw [plus_carry], plus_row hlt HR.out, HB.out.setCell (Nat.le_refl _) _⟩
      case measure => simp [intOf]; omega
    · obtain rfl : i = L + 1 := by omega
      have hlim := (Nat.mod_eq_of_lt (sum_lt HX.out.1 HY.out.1 hlL hlL')) ▸ hr.limbs
      have HB := Lib.hid hb
      clear hr hb hx' hy' hlt hi
      go_wp2_with (go_at_call 172; refine (trim_any (n := x + y) (by assumption) (by omega) (by omega)).mono ?_; rintro e w' ⟨v, rfl, hv, rfl⟩)
      go_ret
      exact ⟨_, rfl, hv, HB.out⟩

theorem sub_div (a b r : Int) (ha : 0 ≤ a) (ha' : a ≤ 4294967295) (hb : 0 ≤ b) (hb' : b ≤ 4294967295) (hr : 0 ≤ r) (hr' : r ≤ 1) :
    IntKind.u64.wrap (IntKind.u64.wrap (a - b) - r) / 9223372036854775808 = if a - b - r < 0 then 1 else 0 := by
  rw [IntKind.wrap_u64, IntKind.wrap_u64]; split <;> omega
theorem sub_mod (a b r : Int) : IntKind.u64.wrap (IntKind.u64.wrap (a - b) - r) % 4294967296 = (a - b - r) % 4294967296 := by
  rw [IntKind.wrap_u64, IntKind.wrap_u64]; omega
theorem minus_borrow (x y i : Nat) : IntKind.u64.wrap (IntKind.u64.wrap ((M.dg x i : Int) - M.dg y i) - M.borrow x y i) / 9223372036854775808 = (M.borrow x y (i + 1) : Int) := by
  have h1 := M.dg_le x i
  have h2 := M.dg_le y i
  have h3 := M.borrow_le x y i
  rw [sub_div _ _ _ (by omega) (by omega) (by omega) (by omega) (by omega) (by omega), M.borrow_succ]
  split <;> rfl
theorem minus_row {wr : World} {g L x y i : Nat} (hi : i < L) (hyx : y ≤ x) (hr : Row wr g L ((x - y) % M.B ^ i)) :
    Row (wr.setCell ⟨g, i, none⟩ (.int .u32 (IntKind.u64.wrap (IntKind.u64.wrap ((M.dg x i : Int) - M.dg y i) - M.borrow x y i) % 4294967296))) g L ((x - y) % M.B ^ (i + 1)) := by
  have h := M.dg_sub hyx i
  have hB : (M.B : Int) = 4294967296 := by rw [M.B_eq]; rfl
  rw [hB] at h
  rw [sub_mod, ← h, M.mod_succ_sub hyx i (M.dg (x - y) i) (by rw [hB]; exact h)]
  exact hr.set hi (M.dg_lt _ _)

set_option maxHeartbeats 400000 in
set_option maxRecDepth 100000 in
theorem minus_any {w : World} {A A' : Option Addr} {l l' x y : Nat} (c c' : Nat) (hx : Limbs w A l x) (hy : Limbs w A' l' y) (hyx : y ≤ x) (hl : l ≤ 60000) (hl' : l' ≤ 60000) :
    Calls Tryz.prog 204 #[.slice A l c, .slice A' l' c'] w fun e w' => ∃ v, e = .returned v ∧ IsNat w' v (x - y) ∧ Below w.heap.size w w' := by
  have hmk := make_nat l (by omega)
  go_enter Tryz.func204, Tryz.ntmps204
  go_wp2_with fail
  have hr0 := Row.new w l
  have hb0 : Below w.heap.size w (w.alloc (.cells (madeCells #[Value.int .u32 0] l) 193)) := (Below.refl _ _).alloc (Nat.le_refl _) _
  clear hmk
  generalize w.alloc (.cells (madeCells #[Value.int .u32 0] l) 193) = w0 at *
  have H0 := Lib.hid (And.intro hr0 hb0)
  have HX := Lib.hid hx
  have HY := Lib.hid hy
  have HYX := Lib.hid hyx
  clear hr0 hb0 hx hy hyx
  go_loopw [6, 14] (fun cv iv wr => ∃ i, i ≤ l ∧ iv = .int .i64 (i : Int) ∧ cv = .int .u64 (M.borrow x y i : Int) ∧ Row wr w.heap.size l ((x - y) % M.B ^ i) ∧ Below w.heap.size w wr) (fun _ iv _ => l - (intOf iv).toNat)
  case atStart => exact ⟨0, by omega, rfl, by rw [M.borrow_zero]; rfl, by simpa [Nat.mod_one] using H0.out.1, H0.out.2⟩
  case round =>
    obtain ⟨i, hi, rfl, rfl, hr, hb⟩ := hrel
    have hx' := HX.out.below hb (Nat.le_refl _)
    have hy' := HY.out.below hb (Nat.le_refl _)
    by_cases hlt : i < l
    · have hcl := M.borrow_le x y i
      have hdx := M.dg_le x i
      have hdy := M.dg_le y i
      have hcell := hr.cell hlt
      have hfree := hr.free i
      have HR := Lib.hid hr
      have HB := Lib.hid hb
      clear hr hb
      go_wp2_with (go_at_call 206; refine (limb_any _ _ (by assumption) (by omega) (by omega)).mono ?_; rintro e w' ⟨rfl, rfl⟩)
      go_roundw
      case rel => exact ⟨i + 1, by omega, by go_num, by rw [minus_borrow], minus_row hlt HYX.out HR.out, HB.out.setCell (Nat.le_refl _) _⟩
      case measure => simp [intOf]; omega
    · obtain rfl : i = l := by omega
      have hlim := (Nat.mod_eq_of_lt (Nat.lt_of_le_of_lt (Nat.sub_le x y) HX.out.1)) ▸ hr.limbs
      have HB := Lib.hid hb
      clear hr hb hx' hy' hlt hi
      go_wp2_with (go_at_call 172; refine (trim_any (n := x - y) (by assumption) (by omega) (by omega)).mono ?_; rintro e w' ⟨v, rfl, hv, rfl⟩)
      go_ret
      exact ⟨_, rfl, hv, HB.out⟩
end Go.Proofs.YtjghgbfagjhdgaaGreatDoor
namespace Go.Proofs.YtjghgbfagjhdgaaGreatDoor
open Go Go.RowKit

def cmpI (a b : Int) : Int := if a < b then -1 else if b < a then 1 else 0

theorem cmp_int (a b : Int) (w : World) : Calls Tryz.prog 170 #[.int .i64 a, .int .i64 b] w fun e w' => e = .returned (.int .i64 (cmpI a b)) ∧ w = w' := by
  rcases Int.lt_trichotomy a b with h | h | h
  · go_enter Tryz.func170, Tryz.ntmps170
    go_wp2
    go_ret
    exact ⟨by rw [cmpI, if_pos h]; rfl, rfl⟩
  · subst h
    go_enter Tryz.func170, Tryz.ntmps170
    go_wp2
    go_ret
    exact ⟨by rw [cmpI, if_neg (by omega), if_neg (by omega)]; rfl, rfl⟩
  · go_enter Tryz.func170, Tryz.ntmps170
    go_wp2
    go_ret
    exact ⟨by rw [cmpI, if_neg (by omega), if_pos h]; rfl, rfl⟩
theorem cmp_u32 (a b : Int) (w : World) : Calls Tryz.prog 222 #[.int .u32 a, .int .u32 b] w fun e w' => e = .returned (.int .i64 (cmpI a b)) ∧ w = w' := by
  rcases Int.lt_trichotomy a b with h | h | h
  · go_enter Tryz.func222, Tryz.ntmps222
    go_wp2
    go_ret
    exact ⟨by rw [cmpI, if_pos h]; rfl, rfl⟩
  · subst h
    go_enter Tryz.func222, Tryz.ntmps222
    go_wp2
    go_ret
    exact ⟨by rw [cmpI, if_neg (by omega), if_neg (by omega)]; rfl, rfl⟩
  · go_enter Tryz.func222, Tryz.ntmps222
    go_wp2
    go_ret
    exact ⟨by rw [cmpI, if_neg (by omega), if_pos h]; rfl, rfl⟩

theorem cmp_lens {l l' x y : Nat} (hx : x < M.B ^ l) (hy : y < M.B ^ l') (nx : l = 0 ∨ M.B ^ (l - 1) ≤ x) (ny : l' = 0 ∨ M.B ^ (l' - 1) ≤ y) (h : l ≠ l') : cmpI (l : Int) l' = cmpI (x : Int) y := by
  unfold cmpI
  rcases Nat.lt_or_ge l l' with h1 | h1
  · have h2 := M.pow_mono (show l ≤ l' - 1 by omega)
    have : x < y := by rcases ny with h3 | h3 <;> omega
    rw [if_pos (by omega), if_pos (by omega)]
  · have h2 := M.pow_mono (show l' ≤ l - 1 by omega)
    have : y < x := by rcases nx with h3 | h3 <;> omega
    rw [if_neg (by omega), if_pos (by omega), if_neg (by omega), if_pos (by omega)]
theorem div_lt_of {x y p : Nat} (h : x / p < y / p) : x < y := by
  rcases Nat.lt_or_ge x y with h1 | h1
  · exact h1
  · have := Nat.div_le_div_right (c := p) h1; omega
theorem cmp_at {x y i : Nat} (h : x / M.B ^ (i + 1) = y / M.B ^ (i + 1)) (hne : M.dg x i ≠ M.dg y i) : cmpI (M.dg x i : Int) (M.dg y i) = cmpI (x : Int) y := by
  have h1 := M.div_succ x i
  have h2 := M.div_succ y i
  unfold cmpI
  rw [h] at h1
  rcases Nat.lt_or_ge (M.dg x i) (M.dg y i) with h3 | h3
  · have : x < y := div_lt_of (p := M.B ^ i) (by omega)
    rw [if_pos (by omega), if_pos (by omega)]
  · have : y < x := div_lt_of (p := M.B ^ i) (by omega)
    rw [if_neg (by omega), if_pos (by omega), if_neg (by omega), if_pos (by omega)]
theorem cmp_go {x y i : Nat} (h : x / M.B ^ (i + 1) = y / M.B ^ (i + 1)) (he : M.dg x i = M.dg y i) : x / M.B ^ i = y / M.B ^ i := by
  rw [M.div_succ x i, M.div_succ y i, h, he]

/-- The world, but for some answers drawn. -/
def Drawn (w w' : World) : Prop := ∃ n, w' = w.drewN n
theorem Drawn.refl (w : World) : Drawn w w := ⟨0, rfl⟩
theorem Drawn.drewN {w w' : World} (h : Drawn w w') (k : Nat) : Drawn w (w'.drewN k) := by
  obtain ⟨n, rfl⟩ := h
  exact ⟨n + k, by rw [World.drewN_drewN]⟩
theorem Drawn.trans {a b c : World} (h : Drawn a b) (k : Drawn b c) : Drawn a c := by
  obtain ⟨n, rfl⟩ := k
  exact h.drewN n
theorem Limbs.drawn {w w' : World} {A : Option Addr} {len n : Nat} (h : Limbs w A len n) (hd : Drawn w w') : Limbs w' A len n := by
  obtain ⟨k, rfl⟩ := hd
  exact h
theorem Drawn.below {w w' : World} (h : Drawn w w') (B : Nat) : Below B w w' := by
  obtain ⟨k, rfl⟩ := h
  exact ⟨rfl, rfl, rfl, Nat.le_refl _, fun _ _ => rfl⟩
theorem Calls.quiet_left {P : Program} {f : FuncId} {args : Array Value} {w : World} {n : Nat} {v : Value}
    (h : Calls P f args (w.drewN n) fun e w' => e = .returned v ∧ w.drewN n = w') : Calls P f args (w.drewN n) fun e w'' => e = .returned v ∧ ∃ m, w'' = w.drewN m :=
  h.mono fun _ _ ⟨he, hm⟩ => ⟨he, n, hm.symm⟩

set_option maxHeartbeats 400000 in
set_option maxRecDepth 100000 in
theorem compare_any {w : World} {A A' : Option Addr} {l l' x y : Nat} (c c' : Nat) (hx : Limbs w A l x) (hy : Limbs w A' l' y) (nx : l = 0 ∨ M.B ^ (l - 1) ≤ x) (ny : l' = 0 ∨ M.B ^ (l' - 1) ≤ y) (hl : l ≤ 60000) (hl' : l' ≤ 60000) :
    Calls Tryz.prog 201 #[.slice A l c, .slice A' l' c'] w fun e w' => e = .returned (.int .i64 (cmpI x y)) ∧ Drawn w w' := by
  by_cases he : l = l'
  · subst he
    have H := Lib.hid (And.intro hx hy)
    clear hx hy nx ny
    go_enter Tryz.func201, Tryz.ntmps201
    go_wp2_with fail
    go_loopw [5] (fun iv wr => ∃ k, k ≤ l ∧ iv = .int .i64 ((k : Int) - 1) ∧ x / M.B ^ k = y / M.B ^ k ∧ Drawn w wr) (fun iv _ => (intOf iv + 1).toNat)
    case atStart => exact ⟨l, Nat.le_refl _, rfl, by rw [Nat.div_eq_of_lt H.out.1.1, Nat.div_eq_of_lt H.out.2.1], 0, rfl⟩
    case round =>
      obtain ⟨k, hk, rfl, hq, hdr⟩ := hrel
      by_cases h0 : k = 0
      · subst h0
        have hxy : x = y := by simpa using hq
        have HE := Lib.hid hxy
        clear hxy hq
        go_wp2
        go_ret
        exact ⟨by rw [HE.out, cmpI, if_neg (by omega), if_neg (by omega)]; rfl, hdr⟩
      · obtain ⟨j, rfl⟩ : ∃ j, k = j + 1 := ⟨k - 1, by omega⟩
        rw [show (((j + 1 : Nat) : Int) - 1) = (j : Int) by omega]
        obtain ⟨b, off, rfl, hb, hc⟩ := (H.out.1.drawn hdr).at_ (show j < l by omega)
        obtain ⟨b', off', rfl, hb', hc'⟩ := (H.out.2.drawn hdr).at_ (show j < l by omega)
        have hj := hc j (by omega)
        have hj' := hc' j (by omega)
        clear hc hc'
        have HQ := Lib.hid hq
        clear hq
        by_cases hd : M.dg x j = M.dg y j
        · have HD := Lib.hid hd
          rw [← hd] at hj'
          clear hd
          have hbn : ((M.dg x j : Int) != (M.dg x j : Int)) = false := by simp
          go_wp2_with fail
          go_quiet (fail)
          go_wp2
          go_roundw
          case rel => exact ⟨j, by omega, rfl, cmp_go HQ.out HD.out, hdr.drewN _⟩
          case measure => simp [intOf]
        · have hbn : ((M.dg x j : Int) != (M.dg y j : Int)) = true := by rw [bne_iff_ne]; omega
          have HC := Lib.hid (cmp_at HQ.out hd)
          clear hd
          go_wp2_with fail
          go_quiet (fail)
          have hdr2 := hdr.drewN nq
          have hj2 : (wr.drewN nq).cell? ⟨b, off + j, none⟩ = some (.int .u32 (M.dg x j : Int)) := hj
          have hj2' : (wr.drewN nq).cell? ⟨b', off' + j, none⟩ = some (.int .u32 (M.dg y j : Int)) := hj'
          clear hj hj'
          generalize wr.drewN nq = w2 at *
          go_wp2_with fail
          go_quiet ((go_at_call 222; exact Calls.quiet_left (cmp_u32 _ _ _)))
          go_wp2
          go_ret
          exact ⟨by rw [HC.out]; rfl, hdr2.drewN _⟩
  · have hbn : ((l : Int) != (l' : Int)) = true := by rw [bne_iff_ne]; omega
    have HC := Lib.hid (cmp_lens hx.1 hy.1 nx ny he)
    clear hx hy nx ny he
    go_enter Tryz.func201, Tryz.ntmps201
    go_wp2_with (go_at_call 170; refine (cmp_int _ _ _).mono ?_; rintro e w' ⟨rfl, rfl⟩)
    go_ret
    exact ⟨by rw [HC.out]; rfl, Drawn.refl _⟩
end Go.Proofs.YtjghgbfagjhdgaaGreatDoor
namespace Go.Proofs.YtjghgbfagjhdgaaGreatDoor
open Go Go.RowKit

theorem times_end {x y i l' P c : Nat} (hy : y < M.B ^ l') (h : P + c * M.B ^ (i + l') = x % M.B ^ i * y + M.dg x i * (y % M.B ^ l') * M.B ^ i) (hP : P < M.B ^ (i + l')) :
    M.put P (i + l') c = x % M.B ^ (i + 1) * y := by
  rw [M.put_top hP, h, Nat.mod_eq_of_lt hy, M.mod_succ, Nat.add_mul]
  congr 1
  rw [Nat.mul_assoc, Nat.mul_comm y, ← Nat.mul_assoc, Nat.mul_comm (M.dg x i)]

theorem mul_wrap {q a b p : Nat} (hq : q ≤ 4294967295) (ha : a ≤ 4294967295) (hb : b ≤ 4294967295) (hp : p ≤ 4294967295) :
    IntKind.u64.wrap ((q : Int) + IntKind.u64.wrap (IntKind.u64.wrap ((a : Int) * (b : Int)) + (p : Int))) = ((q + (a * b + p) : Nat) : Int) := by
  have h := Nat.mul_le_mul ha hb
  rw [IntKind.wrap_u64, IntKind.wrap_u64, IntKind.wrap_u64]
  push_cast
  rw [← Int.natCast_mul]
  generalize a * b = t at *
  omega
theorem mul_bound {q a b p : Nat} (hq : q ≤ 4294967295) (ha : a ≤ 4294967295) (hb : b ≤ 4294967295) (hp : p ≤ 4294967295) : (q + (a * b + p)) / M.B ≤ 4294967295 := by
  have h := Nat.mul_le_mul ha hb
  rw [M.B_eq]
  generalize a * b = t at *
  omega
theorem times_row {wr : World} {g L P q a b k i : Nat} (hk : k < L) (hr : Row wr g L P) (hi : k < i) (hP : P < M.B ^ i) (hq : q ≤ 4294967295) (ha : a ≤ 4294967295) (hb : b ≤ 4294967295) (hp : M.dg P k ≤ 4294967295) :
    Row (wr.setCell ⟨g, k, none⟩ (.int .u32 (IntKind.u64.wrap ((q : Int) + IntKind.u64.wrap (IntKind.u64.wrap ((a : Int) * (b : Int)) + (M.dg P k : Int))) % 4294967296))) g L (M.put P k ((q + (a * b + M.dg P k)) % M.B)) ∧
    M.put P k ((q + (a * b + M.dg P k)) % M.B) < M.B ^ i := by
  rw [mul_wrap hq ha hb hp, cast_mod]
  exact ⟨hr.set hk (Nat.mod_lt _ M.B_pos), M.put_lt hP hi (Nat.mod_lt _ M.B_pos)⟩

set_option maxHeartbeats 800000 in
set_option maxRecDepth 100000 in
theorem times_any {w : World} {A A' : Option Addr} {l l' x y : Nat} (c c' : Nat) (hx : Limbs w A l x) (hy : Limbs w A' l' y) (hl : l ≤ 30000) (hl' : l' ≤ 30000) :
    Calls Tryz.prog 120 #[.slice A l c, .slice A' l' c'] w fun e w' => ∃ v, e = .returned v ∧ IsNat w' v (x * y) ∧ Below w.heap.size w w' := by
  have hmk := make_nat (l + l') (by omega)
  rw [show ((l + l' : Nat) : Int) = (l : Int) + l' by omega] at hmk
  go_enter Tryz.func120, Tryz.ntmps120
  go_wp2_with fail
  have hr0 := Row.new w (l + l')
  have hb0 : Below w.heap.size w (w.alloc (.cells (madeCells #[Value.int .u32 0] (l + l')) 193)) := (Below.refl _ _).alloc (Nat.le_refl _) _
  clear hmk
  generalize w.alloc (.cells (madeCells #[Value.int .u32 0] (l + l')) 193) = w0 at *
  have H0 := Lib.hid (And.intro hr0 hb0)
  have HX := Lib.hid hx
  have HY := Lib.hid hy
  clear hr0 hb0 hx hy
  go_loopw [18] (fun iv wr => ∃ i, i ≤ l ∧ iv = .int .i64 (i : Int) ∧ Row wr w.heap.size (l + l') (x % M.B ^ i * y) ∧ Below w.heap.size w wr) (fun iv _ => l - (intOf iv).toNat)
  case atStart => exact ⟨0, by omega, rfl, by simpa [Nat.mod_one] using H0.out.1, H0.out.2⟩
  case round =>
    obtain ⟨i, hi, rfl, hr, hb⟩ := hrel
    by_cases hlt : i < l
    · obtain ⟨b, off, rfl, _, hc⟩ := (HX.out.below hb (Nat.le_refl _)).at_ hlt
      have hxc := hc i hlt
      have HR := Lib.hid hr
      have HB := Lib.hid hb
      have hdx := M.dg_le x i
      clear hr hb hc
      go_wp2_with fail
      obtain ⟨wo, rfl⟩ : ∃ wo : World, wo = wr := ⟨_, rfl⟩
      go_loopw [8, 25] (fun cv jv wr => ∃ j P q : Nat, j ≤ l' ∧ jv = .int .i64 (j : Int) ∧ cv = .int .u64 (q : Int) ∧ q ≤ 4294967295 ∧ Row wr w.heap.size (l + l') P ∧ P < M.B ^ (i + l') ∧
          P + q * M.B ^ (i + j) = x % M.B ^ i * y + M.dg x i * (y % M.B ^ j) * M.B ^ i ∧ Below w.heap.size w wr) (fun _ jv _ => l' - (intOf jv).toNat)
      case atStart =>
        refine ⟨0, x % M.B ^ i * y, 0, by omega, rfl, rfl, by omega, HR.out, ?_, by simp [Nat.mod_one], HB.out⟩
        rw [Nat.pow_add]
        exact Nat.mul_lt_mul'' (M.mod_lt _ _) HY.out.1
      case round =>
        obtain ⟨j, P, q, hj, rfl, rfl, hq, hr, hP, hE, hb⟩ := hrel
        by_cases hjl : j < l'
        · obtain ⟨b', off', rfl, _, hc⟩ := (HY.out.below hb (Nat.le_refl _)).at_ hjl
          have hyc := hc j hjl
          have hpc := hr.cell (show i + j < l + l' by omega)
          have hpf := hr.free (i + j)
          have HR := Lib.hid (And.intro hr (And.intro hP hE))
          have HB := Lib.hid hb
          have hdy := M.dg_le y j
          have hdp := M.dg_le P (i + j)
          clear hr hb hc hP hE
          go_wp2_with fail
          go_quiet (fail)
          go_wp2
          have R := times_row (b := M.dg y j) (show i + j < l + l' by omega) (HR.out.1.drewN nq) (show i + j < i + l' by omega) HR.out.2.1 hq hdx hdy hdp
          go_roundw
          case rel =>
            refine ⟨j + 1, _, (q + (M.dg x i * M.dg y j + M.dg P (i + j))) / M.B, by omega, by go_num, ?_, mul_bound hq hdx hdy hdp, R.1, R.2, M.mul_step HR.out.2.2, ?_⟩
            · rw [mul_wrap hq hdx hdy hdp, cast_div]
            · exact (HB.out.trans (Drawn.below ⟨nq, rfl⟩ _)).setCell (Nat.le_refl _) _
          case measure => simp [intOf]; omega
        · obtain rfl : j = l' := by omega
          have hpc := hr.cell (show i + j < l + j by omega)
          have hpf := hr.free (i + j)
          have R := Lib.hid (And.intro (hr.set (show i + j < l + j by omega) (show q < M.B by rw [M.B_eq]; omega)) (times_end HY.out.1 hE hP))
          have HB := Lib.hid hb
          have hq2 : (q : Int) % 4294967296 = q := by omega
          clear hr hb hE hP
          go_wp2
          go_roundw
          case rel => exact ⟨i + 1, by omega, by go_num, R.out.2 ▸ R.out.1, HB.out.setCell (Nat.le_refl _) _⟩
          case measure => simp [intOf]; omega
    · obtain rfl : i = l := by omega
      have hlim := (Nat.mod_eq_of_lt HX.out.1) ▸ hr.limbs
      have HB := Lib.hid hb
      clear hr hb hlt hi
      go_wp2_with (go_at_call 172; refine (trim_any (n := x * y) (by assumption) (by omega) (by omega)).mono ?_; rintro e w' ⟨v, rfl, hv, rfl⟩)
      go_ret
      exact ⟨_, rfl, hv, HB.out⟩
end Go.Proofs.YtjghgbfagjhdgaaGreatDoor
namespace Go.Proofs.YtjghgbfagjhdgaaGreatDoor
open Go Go.RowKit

/-- Of an elder world only block g has turned. -/
theorem only_set {a w : World} {g : Nat} (h : a.grownBy w (some g)) (k : Nat) (u : Value) : a.grownBy (w.setCell ⟨g, k, none⟩ u) (some g) :=
  ⟨h.os, h.tape, h.output, by simpa [World.setCell] using h.size, fun i hi hne => (Below.heap_setCell w ⟨g, k, none⟩ u i (by rintro rfl; exact hne rfl)).trans (h.block i hi hne)⟩
theorem only_refl (w : World) (g : Nat) : w.grownBy w (some g) := ⟨rfl, rfl, rfl, Nat.le_refl _, fun _ _ _ => rfl⟩

/-- The digits from k on are those of the quotient, those below are what they were. -/
def sq (X y Q k : Nat) : Nat := Q % M.B ^ k + M.B ^ k * (X / y / M.B ^ k)
theorem sq_start {X y Q L : Nat} (hX : X < M.B ^ L) (hQ : Q < M.B ^ L) : sq X y Q L = Q := by
  unfold sq
  rw [Nat.div_eq_of_lt (Nat.lt_of_le_of_lt (Nat.div_le_self _ _) hX), Nat.mod_eq_of_lt hQ]; omega
theorem sq_end (X y Q : Nat) : sq X y Q 0 = X / y := by simp [sq, Nat.mod_one]
theorem sq_step (X y Q k : Nat) : M.put (sq X y Q (k + 1)) k (M.dg (X / y) k) = sq X y Q k := by
  have h1 : sq X y Q (k + 1) % M.B ^ k = Q % M.B ^ k := by
    unfold sq
    rw [M.mod_succ, M.pow_succ', Nat.mul_assoc, Nat.add_assoc, ← Nat.mul_add, Nat.add_mul_mod_self_left, Nat.mod_mod]
  have h2 : sq X y Q (k + 1) / M.B ^ (k + 1) = X / y / M.B ^ (k + 1) := by
    unfold sq
    rw [Nat.add_mul_div_left _ _ (M.pow_pos _), Nat.div_eq_of_lt (M.mod_lt _ _), Nat.zero_add]
  unfold M.put
  rw [h1, h2, ← M.div_succ]
  rfl
theorem rest_step (X y k : Nat) : (X / M.B ^ (k + 1) % y * M.B + M.dg X k) % y = X / M.B ^ k % y := by
  rw [M.div_succ X k]
  generalize M.dg X k = d
  generalize X / M.B ^ (k + 1) = q
  rw [Nat.add_comm d, Nat.mul_comm M.B q]
  simp [Nat.add_mod, Nat.mul_mod]
theorem quo_step {X y k : Nat} (hy : 0 < y) : (X / M.B ^ (k + 1) % y * M.B + M.dg X k) / y = M.dg (X / y) k := by
  have e : X / y / M.B ^ k = (X / M.B ^ k) / y := by rw [Nat.div_div_eq_div_mul, Nat.div_div_eq_div_mul, Nat.mul_comm]
  unfold M.dg
  rw [e, ← show M.dg X k = X / M.B ^ k % M.B from rfl]
  conv => rhs; rw [M.div_succ X k]
  have hd := M.dg_lt X k
  generalize M.dg X k = d at *
  generalize X / M.B ^ (k + 1) = q
  have h1 := Nat.mod_add_div q y
  have h2 := Nat.mod_lt q hy
  generalize q % y = r at *
  generalize q / y = t at *
  subst h1
  rw [show d + M.B * (r + y * t) = (r * M.B + d) + y * (M.B * t) by rw [Nat.mul_add, Nat.mul_comm M.B r, ← Nat.mul_assoc, ← Nat.mul_assoc, Nat.mul_comm M.B y]; omega]
  rw [Nat.add_mul_div_left _ _ hy, Nat.add_mul_mod_self_left]
  refine (Nat.mod_eq_of_lt ?_).symm
  rw [Nat.div_lt_iff_lt_mul hy]
  have h3 : (r + 1) * M.B ≤ y * M.B := Nat.mul_le_mul_right _ h2
  rw [Nat.add_mul, Nat.mul_comm y] at h3
  omega

theorem or_plain {r d : Nat} (hr : r ≤ 4294967295) (hd : d ≤ 4294967295) : bits .or .u64 ((r : Int) * 4294967296) (d : Int) = ((r * M.B + d : Nat) : Int) := by
  rw [M.B_eq, show ((r : Int) * 4294967296) = ((r * 4294967296 : Nat) : Int) by omega, u64_or_nat _ _ (by omega) (by omega)]
  have h := Nat.two_pow_add_eq_or_of_lt (i := 32) (b := d) (by omega) r
  rw [Nat.mul_comm r, show (4294967296 : Nat) = 2 ^ 32 by rfl, ← h]
theorem or_wide {r d : Nat} (hr : r ≤ 4294967295) (hd : d ≤ 4294967295) : bits .or .u64 (IntKind.u64.wrap ((r : Int) * 4294967296)) (d : Int) = ((r * M.B + d : Nat) : Int) := by
  rw [← or_plain hr hd]
  congr 1
  rw [IntKind.wrap_u64]; omega
theorem tmod_nat (a b : Nat) : (a : Int).tmod (b : Int) = ((a % b : Nat) : Int) := by rw [Int.tmod_eq_emod_of_nonneg (by omega)]; rfl
theorem tdiv_nat (a b : Nat) : (a : Int).tdiv (b : Int) = ((a / b : Nat) : Int) := by rw [Int.tdiv_eq_ediv_of_nonneg (by omega)]; rfl
theorem sq_rem {X y k r : Nat} (hr : r = X / M.B ^ (k + 1) % y) (hb : r ≤ 4294967295) : (bits .or .u64 ((r : Int) * 4294967296) (M.dg X k : Int)).tmod (y : Int) = ((X / M.B ^ k % y : Nat) : Int) := by
  rw [or_plain hb (M.dg_le X k), tmod_nat, hr, rest_step]
theorem sq_row {wr : World} {g L X y Q k r : Nat} (hk : k < L) (hy : 0 < y) (hr : r = X / M.B ^ (k + 1) % y) (hb : r ≤ 4294967295) (hrow : Row wr g L (sq X y Q (k + 1))) :
    Row (wr.setCell ⟨g, k, none⟩ (.int .u32 (IntKind.u64.wrap ((bits .or .u64 ((r : Int) * 4294967296) (M.dg X k : Int)).tdiv (y : Int)) % 4294967296))) g L (sq X y Q k) := by
  have h := hrow.set hk (M.dg_lt (X / y) k)
  rw [sq_step] at h
  have h2 := M.dg_le (X / y) k
  rw [or_plain hb (M.dg_le X k), tdiv_nat, hr, quo_step hy]
  rwa [show IntKind.u64.wrap (M.dg (X / y) k : Int) % 4294967296 = (M.dg (X / y) k : Int) by rw [IntKind.wrap_u64]; omega]
theorem sq_old {wr : World} {g b off j k : Nat} {u v : Value} (hne : b ≠ g ∨ off = 0) (hj : j < k) (h : wr.cell? ⟨b, off + j, none⟩ = some v) : (wr.setCell ⟨g, k, none⟩ u).cell? ⟨b, off + j, none⟩ = some v := by
  rw [World.cell?_setCell_other]
  · exact h
  · intro e
    injection e with e1 e2
    rcases hne with h1 | h1
    · exact h1 e1.symm
    · omega

set_option maxHeartbeats 800000 in
set_option maxRecDepth 100000 in
theorem setQuotient_any {w : World} {g L Q b off X y : Nat} (cq cx : Nat) (hr : Row w g L Q) (hx : ∀ j, j < L → w.cell? ⟨b, off + j, none⟩ = some (.int .u32 (M.dg X j))) (hX : X < M.B ^ L)
    (hne : b ≠ g ∨ off = 0) (hy : 0 < y) (hy' : y ≤ 4294967295) (hL : L ≤ 100000) :
    Calls Tryz.prog 177 #[.slice (some ⟨g, 0, none⟩) L cq, .slice (some ⟨b, off, none⟩) L cx, .int .u32 (y : Int)] w fun e w' => e = .returned (.int .u32 ((X % y : Nat) : Int)) ∧ Row w' g L (X / y) ∧ w.grownBy w' (some g) := by
  have H := Lib.hid (And.intro hr (And.intro hx (And.intro hX hne)))
  clear hr hx hX hne
  go_enter Tryz.func177, Tryz.ntmps177
  go_wp2_with fail
  go_loopw [7, 8] (fun rv iv wr => ∃ k r : Nat, k ≤ L ∧ iv = .int .i64 ((k : Int) - 1) ∧ rv = .int .u64 (r : Int) ∧ r = X / M.B ^ k % y ∧ Row wr g L (sq X y Q k) ∧ w.grownBy wr (some g) ∧ (∀ j, j < k → wr.cell? ⟨b, off + j, none⟩ = some (.int .u32 (M.dg X j)))) (fun _ iv _ => (intOf iv + 1).toNat)
  case atStart =>
    refine ⟨L, 0, Nat.le_refl _, rfl, rfl, by rw [Nat.div_eq_of_lt H.out.2.2.1, Nat.zero_mod], ?_, only_refl _ _, H.out.2.1⟩
    rw [sq_start H.out.2.2.1 H.out.1.bound]; exact H.out.1
  case round =>
    obtain ⟨k, r, hk, rfl, rfl, hre, hr, hb, hc⟩ := hrel
    have hlt := Nat.mod_lt (X / M.B ^ k) hy
    rw [← hre] at hlt
    have HE := Lib.hid hre
    clear hre
    have hr2 : (r : Int) % 4294967296 = r := by omega
    by_cases h0 : k = 0
    · subst h0
      rw [sq_end] at hr
      have HF := Lib.hid (show r = X % y by have h := HE.out; rwa [Nat.pow_zero, Nat.div_one] at h)
      have HR := Lib.hid (And.intro hr hb)
      clear hr hb hc
      go_wp2
      go_ret
      refine ⟨?_, HR.out.1, HR.out.2⟩
      rw [← HF.out]
      rfl
    · obtain ⟨j, rfl⟩ : ∃ j, k = j + 1 := ⟨k - 1, by omega⟩
      rw [show (((j + 1 : Nat) : Int) - 1) = (j : Int) by omega]
      have hxc := hc j (by omega)
      have hqc := hr.cell (show j < L by omega)
      have hqf := hr.free j
      have hdx := M.dg_le X j
      have HR := Lib.hid (And.intro hr (And.intro hb hc))
      clear hr hb hc
      go_wp2
      go_roundw
      case rel =>
        have R := sq_row (show j < L by omega) hy HE.out (by omega) HR.out.1
        have E := sq_rem HE.out (show r ≤ 4294967295 by omega)
        refine ⟨j, X / M.B ^ j % y, by omega, rfl, ?_, Eq.refl _, R, only_set HR.out.2.1 _ _, fun i hi => sq_old H.out.2.2.2 hi (HR.out.2.2 i (by omega))⟩
        rw [E]
      case measure => simp [intOf]
end Go.Proofs.YtjghgbfagjhdgaaGreatDoor
namespace Go.Proofs.YtjghgbfagjhdgaaGreatDoor
open Go Go.RowKit

theorem row_two (w : World) (n : Nat) (hn : n < M.B * M.B) :
    Row (w.alloc (.cells #[.int .u32 ((n : Int) % 4294967296), .int .u32 ((n : Int) / 4294967296 % 4294967296)] 193)) w.heap.size 2 n := by
  refine ⟨_, heap_alloc_new w _, by simp, by rw [show (2 : Nat) = 1 + 1 by rfl, M.pow_succ', Nat.pow_one]; exact hn, fun j hj => ?_⟩
  rw [cast_mod, cast_div, cast_mod]
  match j, hj with
  | 0, _ => simp [M.dg]
  | 1, _ => simp [M.dg]

set_option maxHeartbeats 400000 in
theorem natural64_any {w : World} {n : Nat} (hn : n < M.B * M.B) :
    Calls Tryz.prog 115 #[.int .u64 (n : Int)] w fun e w' => ∃ v, e = .returned v ∧ IsNat w' v n ∧ Below w.heap.size w w' := by
  have hn64 : n < 18446744073709551616 := by rw [M.B_eq] at hn; omega
  have hd : (n : Int) / 4294967296 % 4294967296 = (n : Int) / 4294967296 := by omega
  have R := Lib.hid (row_two w n hn)
  have HD := Lib.hid hd
  clear hn hn64 hd
  go_enter Tryz.func115, Tryz.ntmps115
  go_wp2_with (go_at_call 172; refine (trim_any R.out.limbs (by omega) (by omega)).mono ?_; rintro e w' ⟨v, rfl, hv, rfl⟩)
  go_ret
  exact ⟨_, rfl, hv, (Below.refl _ _).alloc (Nat.le_refl _) _⟩
theorem limb_lit {w : World} {A : Option Addr} {len n : Nat} (cap : Nat) (i : Nat) {z : Int} (hz : z = (i : Int)) (h : Limbs w A len n) (hl : len ≤ 4611686018427387904) (hi : i ≤ 4611686018427387904) :
    Calls Tryz.prog 206 #[.slice A len cap, .int .i64 z] w fun e w' => e = .returned (.int .u64 (M.dg n i : Int)) ∧ w = w' := by
  subst hz; exact limb_any cap i h hl hi
theorem word_eq {l n : Nat} (h : n < M.B ^ l) (hl : l ≤ 2) : M.dg n 1 * M.B + M.dg n 0 = n := by
  have h2 := Nat.lt_of_lt_of_le h (M.pow_mono hl)
  rw [show (2 : Nat) = 1 + 1 by rfl, M.pow_succ', Nat.pow_one] at h2
  unfold M.dg
  rw [Nat.pow_zero, Nat.div_one, Nat.pow_one, Nat.mod_eq_of_lt (Nat.div_lt_of_lt_mul h2), Nat.mul_comm, Nat.add_comm]
  exact Nat.mod_add_div n M.B
theorem word_any {w : World} {A : Option Addr} {l n : Nat} (c : Nat) (h : Limbs w A l n) (hl : l ≤ 2) :
    Calls Tryz.prog 171 #[.slice A l c] w fun e w' => e = .returned (.int .u64 (n : Int)) ∧ w = w' := by
  have h0 := M.dg_le n 0
  have h1 := M.dg_le n 1
  have E : bits .or .u64 ((M.dg n 1 : Int) * 4294967296) (M.dg n 0 : Int) = (n : Int) := by rw [or_plain h1 h0, word_eq h.1 hl]
  have HE := Lib.hid E
  clear E
  go_enter Tryz.func171, Tryz.ntmps171
  go_wp2_with fail
  refine (limb_lit c 1 rfl h (by omega) (by omega)).mono ?_
  rintro e w' ⟨rfl, rfl⟩
  go_wp2_with fail
  refine (limb_lit c 0 rfl h (by omega) (by omega)).mono ?_
  rintro e w' ⟨rfl, rfl⟩
  go_wp2
  go_ret
  refine ⟨?_, rfl⟩
  rw [← HE.out]
  rfl
end Go.Proofs.YtjghgbfagjhdgaaGreatDoor
namespace Go.Proofs.YtjghgbfagjhdgaaGreatDoor
open Go Go.RowKit

theorem IsNat.drawn {w w' : World} {v : Value} {n : Nat} (h : IsNat w v n) (hd : Drawn w w') : IsNat w' v n := h.below (hd.below w.heap.size) (Nat.le_refl _)
theorem IsNat.shape {w : World} {v : Value} {n : Nat} (h : IsNat w v n) : ∃ A l c, v = .slice A l c := by
  obtain ⟨A, l, c, e, _⟩ := h
  exact ⟨A, l, c, e⟩
/-- The limbs of numbers that fit. -/
theorem IsNat.open_ {w : World} {v : Value} {n k : Nat} (h : IsNat w v n) (hn : n < M.B ^ k) : ∃ A l c, v = .slice A l c ∧ Limbs w A l n ∧ (l = 0 ∨ M.B ^ (l - 1) ≤ n) ∧ l ≤ k ∧ l ≤ c ∧ c ≤ 9223372036854775807 := by
  obtain ⟨A, l, c, e, hl, hm, hc, hc'⟩ := h
  exact ⟨A, l, c, e, hl, hm, len_le hm hn, hc, hc'⟩
theorem plus_nat {w : World} {a b : Value} {x y k : Nat} (ha : IsNat w a x) (hb : IsNat w b y) (hx : x < M.B ^ k) (hy : y < M.B ^ k) (hk : k ≤ 30000) :
    Calls Tryz.prog 203 #[a, b] w fun e w' => ∃ v, e = .returned v ∧ IsNat w' v (x + y) ∧ Below w.heap.size w w' := by
  obtain ⟨A, l, c, rfl, hl, _, h1, _⟩ := ha.open_ hx
  obtain ⟨A', l', c', rfl, hl', _, h1', _⟩ := hb.open_ hy
  exact plus_any c c' hl hl' (by omega) (by omega)
theorem minus_nat {w : World} {a b : Value} {x y k : Nat} (ha : IsNat w a x) (hb : IsNat w b y) (hx : x < M.B ^ k) (hyx : y ≤ x) (hk : k ≤ 30000) :
    Calls Tryz.prog 204 #[a, b] w fun e w' => ∃ v, e = .returned v ∧ IsNat w' v (x - y) ∧ Below w.heap.size w w' := by
  obtain ⟨A, l, c, rfl, hl, _, h1, _⟩ := ha.open_ hx
  obtain ⟨A', l', c', rfl, hl', _, h1', _⟩ := hb.open_ (Nat.lt_of_le_of_lt hyx hx)
  exact minus_any c c' hl hl' hyx (by omega) (by omega)
theorem times_nat {w : World} {a b : Value} {x y k : Nat} (ha : IsNat w a x) (hb : IsNat w b y) (hx : x < M.B ^ k) (hy : y < M.B ^ k) (hk : k ≤ 30000) :
    Calls Tryz.prog 120 #[a, b] w fun e w' => ∃ v, e = .returned v ∧ IsNat w' v (x * y) ∧ Below w.heap.size w w' := by
  obtain ⟨A, l, c, rfl, hl, _, h1, _⟩ := ha.open_ hx
  obtain ⟨A', l', c', rfl, hl', _, h1', _⟩ := hb.open_ hy
  exact times_any c c' hl hl' (by omega) (by omega)
theorem compare_nat {w : World} {a b : Value} {x y k : Nat} (ha : IsNat w a x) (hb : IsNat w b y) (hx : x < M.B ^ k) (hy : y < M.B ^ k) (hk : k ≤ 30000) :
    Calls Tryz.prog 201 #[a, b] w fun e w' => e = .returned (.int .i64 (cmpI x y)) ∧ Drawn w w' := by
  obtain ⟨A, l, c, rfl, hl, hm, h1, _⟩ := ha.open_ hx
  obtain ⟨A', l', c', rfl, hl', hm', h1', _⟩ := hb.open_ hy
  exact compare_any c c' hl hl' hm hm' (by omega) (by omega)
theorem cmp_lt {x y : Nat} (h : x < y) : cmpI (x : Int) y < 0 := by unfold cmpI; rw [if_pos (by omega)]; omega
theorem cmp_ge {x y : Nat} (h : y ≤ x) : ¬ cmpI (x : Int) y < 0 := by unfold cmpI; rw [if_neg (by omega)]; split <;> omega

/-- The low 64 bits. -/
theorem word_low {w : World} {A : Option Addr} {l n : Nat} (c : Nat) (h : Limbs w A l n) (hl : l ≤ 60000) :
    Calls Tryz.prog 171 #[.slice A l c] w fun e w' => e = .returned (.int .u64 ((M.dg n 1 * M.B + M.dg n 0 : Nat) : Int)) ∧ w = w' := by
  have h0 := M.dg_le n 0
  have h1 := M.dg_le n 1
  have E := or_plain h1 h0
  have HE := Lib.hid E
  clear E
  go_enter Tryz.func171, Tryz.ntmps171
  go_wp2_with fail
  refine (limb_lit c 1 rfl h (by omega) (by omega)).mono ?_
  rintro e w' ⟨rfl, rfl⟩
  go_wp2_with fail
  refine (limb_lit c 0 rfl h (by omega) (by omega)).mono ?_
  rintro e w' ⟨rfl, rfl⟩
  go_wp2
  go_ret
  refine ⟨?_, rfl⟩
  rw [← HE.out]
  rfl
/-- The sign of an integer. -/
def sgn (z : Int) : Int := if z < 0 then -1 else if 0 < z then 1 else 0
end Go.Proofs.YtjghgbfagjhdgaaGreatDoor
