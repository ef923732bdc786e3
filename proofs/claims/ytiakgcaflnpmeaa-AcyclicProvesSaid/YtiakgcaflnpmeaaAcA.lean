/- Package acyclic: kept, without, all, has; what of a schema the sets of relations see. -/
import Derived.Test.YtiakgcaflnpmeaaSchQ
import Derived.Test.YtiakgcaflnpmeaaAcy
import Derived.Lib.BufferMore
namespace Go.Proofs.Ytiakgcaflnpmeaa
open Go Go.RowKit

def intV (l : List Int) : List Value := l.map fun x => Value.int .i64 x
/-- The value is a list of these integers. -/
def IntL (w : World) (v : Value) (l : List Int) : Prop := ∃ A c, v = .slice A l.length c ∧ l.length ≤ 1000 ∧ IntAt w A l.length (fun i => l.getD i 0)
theorem IntL.below {w w' : World} {v : Value} {l : List Int} (h : IntL w v l) (hb : Below w.heap.size w w') : IntL w' v l := by
  obtain ⟨A, c, e, hl, hi⟩ := h
  exact ⟨A, c, e, hl, hi.below hb⟩
theorem intL_own {w : World} {base : Nat} {v : Value} {l : List Int} (h : w.ownsRow base 3 1 v l.length (intV l)) (hl : l.length ≤ 1000) : IntL w v l := by
  have h0 := h
  rcases h.2 with ⟨rfl, hn⟩ | ⟨g', cap, cur, rfl, _, hg, _⟩
  · exact ⟨none, 0, by rw [hn], hl, fun h => absurd h (by omega)⟩
  · refine ⟨_, _, rfl, hl, fun _ => ⟨g', 0, rfl, lt_of_block hg, fun i hi => ?_⟩⟩
    rw [Nat.zero_add, h0.cellAt i (by omega)]
    simp [intV, hi]
theorem own_base {w : World} {base base' n size : Nat} {e : TypeId} {v : Value} {xs : List Value} (h : w.ownsRow base e size v n xs) (hb : base' ≤ base) : w.ownsRow base' e size v n xs := by
  refine ⟨h.1, ?_⟩
  rcases h.2 with h1 | ⟨g', cap', cur, h', h2, hg', h3⟩
  · exact .inl h1
  · exact .inr ⟨g', cap', cur, h', Nat.le_trans hb h2, hg', h3⟩
theorem IntAt.grown {w wn : World} {A : Option Addr} {n : Nat} {f : Nat → Int} {row : Option Nat} (h : IntAt w A n f) (hg : w.grownBy wn row) (hne : ∀ b off, A = some ⟨b, off, none⟩ → row ≠ some b) : IntAt wn A n f := by
  intro hn
  obtain ⟨b, off, e, hl, hc⟩ := h hn
  have hk : wn.heap[b]? = w.heap[b]? := hg.block b hl (fun e2 => hne b off e (by first | exact e2 | exact e2.symm))
  refine ⟨b, off, e, ?_, fun i hi => ?_⟩
  · have := hc 0 hn
    unfold World.cell? at this
    cases hb : w.heap[b]? with
    | none => simp [hb] at this
    | some o => rw [hb] at hk; exact lt_of_block hk
  · rw [← hc i hi]
    unfold World.cell?
    rw [hk]
/-- A test of integers, as PredB. -/
def PredI (g : Nat) (lb : Array Value) (l : List Int) (q : Int → Bool) (w : World) : Prop :=
  ∀ (W : World) (x : Int), x ∈ l → Below w.heap.size w W → Calls Try.prog g (#[.int .i64 x] ++ lb) W fun e w' => e = .returned (.bool (q x)) ∧ Below W.heap.size W w'
theorem PredI.below {g : Nat} {lb : Array Value} {l : List Int} {q : Int → Bool} {w w' : World} (h : PredI g lb l q w) (hb : Below w.heap.size w w') : PredI g lb l q w' := fun W x hx hW => h W x hx (Below.step hb hW)
theorem getD_mem {l : List Int} {i : Nat} (h : i < l.length) : l.getD i 0 ∈ l := by
  rw [show l.getD i 0 = l[i] by simp [List.getD, h]]; exact List.getElem_mem h
theorem any_getD {q : Int → Bool} (l : List Int) : (anyB l.length fun i => q (l.getD i 0)) = l.any q := by
  rw [Bool.eq_iff_iff, anyB_true, List.any_eq_true]
  constructor
  · rintro ⟨j, hj, h⟩; exact ⟨_, getD_mem hj, h⟩
  · rintro ⟨x, hx, h⟩
    obtain ⟨j, hj, e⟩ := List.getElem_of_mem hx
    exact ⟨j, hj, by rw [show l.getD j 0 = l[j] by simp [List.getD, hj], e]; exact h⟩
theorem any_intL {w : World} {A : Option Addr} {c : Nat} {l : List Int} {g : Nat} {lb : Array Value} {q : Int → Bool} (eg : ∀ args w, (callFunc g args).run Try.prog w = .ok (.enter g args) w)
    (hl : l.length ≤ 1000) (hi : IntAt w A l.length (fun i => l.getD i 0)) (hp : PredI g lb l q w) :
    Calls Try.prog 59 #[.slice A l.length c, .func (.func g) #[] lb] w fun e w' => e = .returned (.bool (l.any q)) ∧ Below w.heap.size w w' := by
  have h := any_int (c := c) (p := fun i => q (l.getD i 0)) eg hl hi fun W j hj hb => hp W _ (getD_mem hj) hb
  rw [any_getD] at h
  exact h
theorem take_filter {q : Int → Bool} {l : List Int} {i : Nat} (h : i < l.length) : (l.take (i + 1)).filter q = (l.take i).filter q ++ (if q (l.getD i 0) then [l.getD i 0] else []) := by
  rw [List.take_add_one, List.filter_append, show l[i]? = some (l.getD i 0) by simp [List.getD, h]]
  congr 1
  show List.filter q [l.getD i 0] = _
  rw [List.filter_cons]
  rfl
set_option linter.unusedSimpArgs false in
set_option maxHeartbeats 3200000 in
set_option maxRecDepth 100000 in
theorem kept_own {w : World} {A : Option Addr} {c : Nat} {l : List Int} {g : Nat} {lb : Array Value} {q : Int → Bool} (eg : ∀ args w, (callFunc g args).run Try.prog w = .ok (.enter g args) w)
    (hl : l.length ≤ 1000) (ha : IntAt w A l.length (fun i => l.getD i 0)) (hp : PredI g lb l q w) :
    Calls Try.prog 35 #[.slice A l.length c, .func (.func g) #[] lb] w fun e w' => ∃ v, e = .returned v ∧ w'.ownsRow w.heap.size 3 1 v (l.filter q).length (intV (l.filter q)) ∧ Below w.heap.size w w' := by
  obtain ⟨ei, hi, hz, hss, hbs⟩ := info_parts infoInt
  have HI := Lib.hid (And.intro hi (And.intro hz (And.intro hss hbs)))
  clear hi hz hss hbs
  have H := Lib.hid (And.intro ha hp)
  clear ha hp
  go_enter Try.func35, Try.ntmps35
  go_wp2_with fail
  go_loopg [5, 10] l.length (fun gg sv s10 wr => ∃ (v : Value) (i : Nat), i + gg = l.length ∧ sv = v ∧ s10 = .int .i64 (i : Int) ∧ Hid (Below w.heap.size w wr ∧ wr.ownsRow w.heap.size 3 1 v ((l.take i).filter q).length (intV ((l.take i).filter q))))
  case atStart => exact ⟨_, 0, by omega, rfl, rfl, Lib.hid ⟨Below.refl _ _, ⟨rfl, .inl ⟨rfl, rfl⟩⟩⟩⟩
  case round =>
    obtain ⟨sv, i, hi, hsv, rfl, HR⟩ := hrel
    have hsv2 := hsv.symm
    clear hsv
    subst hsv2
    by_cases hlt : i < l.length
    · obtain ⟨b, off, rfl, hbl, hc⟩ := (H.out.1.below HR.out.1) (by omega)
      have c0 := hc i hlt
      have hcall := H.out.2 wr (l.getD i 0) (getD_mem hlt) HR.out.1
      have htf := take_filter (q := q) hlt
      obtain ⟨x, hx⟩ : ∃ x, x = l.getD i 0 := ⟨_, rfl⟩
      simp only [← hx] at c0 hcall htf
      have hk : ((l.take i).filter q).length ≤ i := Nat.le_trans (List.length_filter_le _ _) (by rw [List.length_take]; omega)
      have hszw := HR.out.1.size
      clear hbl hc hx
      cases hq : q x with
      | true =>
        rw [hq] at hcall htf
        have HQ := Lib.hid (show (l.take (i + 1)).filter q = (l.take i).filter q ++ [x] by rw [htf]; rfl)
        clear hq htf
        go_wp2_with fail
        refine hcall.mono ?_
        rintro e w1 ⟨rfl, hb'⟩
        have H1 := Lib.hid (And.intro (own_below' HR.out.2 hb') (Below.step HR.out.1 hb'))
        have hsz1 : w.heap.size ≤ w1.heap.size := H1.out.2.size
        clear hb' hcall c0
        go_wp2_with (at_builtin; refine wpList_append_own_at _ rfl (.tmp 17) (.tmp 19) 22 rfl w.heap.size 3 ei (.int .i64 0) 1 8 Try.underlying22 HI.out.1 HI.out.2.1 HI.out.2.2.1 HI.out.2.2.2 rfl (by decide) sv ((l.take i).filter q).length (intV ((l.take i).filter q)) rfl (H1.out.1.alloc _) ⟨w1.heap.size, 0, none⟩ 1 1 [.int .i64 x] rfl rfl (by intro j u hj; match j, hj with | 0, hj => simp at hj; subst hj; simp [Addr.add]) (by intro u hu; simp at hu; subst hu; rfl) (by unfold maxLen; omega) (by omega) (by simp; omega) ?_; intro v' w2 hown hgrow hnil hblk; have HO := Lib.hid (And.intro hown hgrow); clear hown hgrow hnil hblk)
        have hrow : ∀ k, sv.ownBlock = some k → w.heap.size ≤ k := fun k hk => (H1.out.1.lt k hk).1
        have hB2 : Below w.heap.size w w2 := ((H1.out.2.alloc hsz1 (.cells #[.int .i64 x] 3)).grown HO.out.2 (by simp; omega) hrow)
        have HF := Lib.hid hB2
        clear hrow hB2
        go_wp2
        go_roundg (l.length - (i + 1))
        case measure => omega
        case rel =>
          refine ⟨_, i + 1, by omega, rfl, by go_num, Lib.hid ⟨HF.out, ?_⟩⟩
          have h3 := HO.out.1
          rw [HQ.out]
          rw [show ((l.take i).filter q ++ [x]).length = ((l.take i).filter q).length + 1 by rw [List.length_append]; rfl, show intV ((l.take i).filter q ++ [x]) = intV ((l.take i).filter q) ++ [.int .i64 x] by simp [intV]]
          exact h3
      | false =>
        rw [hq] at hcall htf
        have HQ := Lib.hid (show (l.take (i + 1)).filter q = (l.take i).filter q by rw [htf]; simp)
        clear hq htf
        go_wp2_with fail
        refine hcall.mono ?_
        rintro e w1 ⟨rfl, hb'⟩
        have H1 := Lib.hid (And.intro (own_below' HR.out.2 hb') (Below.step HR.out.1 hb'))
        clear hb' hcall c0
        go_wp2
        go_roundg (l.length - (i + 1))
        case measure => omega
        case rel => exact ⟨_, i + 1, by omega, rfl, by go_num, Lib.hid ⟨H1.out.2, by rw [HQ.out]; exact H1.out.1⟩⟩
    · have ein : i = l.length := by omega
      have HE := Lib.hid (show (l.take i).filter q = l.filter q by rw [ein, List.take_length])
      rw [ein]
      clear hlt hi ein
      go_wp2
      go_ret
      exact ⟨_, rfl, by have := HR.out.2; rw [HE.out] at this; exact this, HR.out.1⟩
theorem kept_any {w : World} {A : Option Addr} {c : Nat} {l : List Int} {g : Nat} {lb : Array Value} {q : Int → Bool} (eg : ∀ args w, (callFunc g args).run Try.prog w = .ok (.enter g args) w)
    (hl : l.length ≤ 1000) (ha : IntAt w A l.length (fun i => l.getD i 0)) (hp : PredI g lb l q w) :
    Calls Try.prog 35 #[.slice A l.length c, .func (.func g) #[] lb] w fun e w' => ∃ v, e = .returned v ∧ IntL w' v (l.filter q) ∧ Below w.heap.size w w' := by
  refine (kept_own eg hl ha hp).mono ?_
  rintro e w' ⟨v, rfl, ho, hb⟩
  exact ⟨v, rfl, intL_own ho (Nat.le_trans (List.length_filter_le _ _) hl), hb⟩
theorem eg_without : ∀ args w, (callFunc 67 args).run Try.prog w = .ok (.enter 67 args) w := enters_of Try.func67 (by kernel_rfl) rfl
theorem pred_without {W : World} {B : Nat} {a : Int} {l : List Int} (hB : B < W.heap.size) (hc : W.cell? ⟨B, 0, none⟩ = some (.int .i64 a)) :
    PredI 67 #[.pointer (some ⟨B, 0, none⟩)] l (fun x => x != a) W := fun w x hx hb => by
  have c0 := (hb.cell (p := ⟨B, 0, none⟩) hB).trans hc
  obtain ⟨q, hq⟩ : ∃ q : Bool, q = (x != a) := ⟨_, rfl⟩
  have HQ := Lib.hid hq
  have hq2 : (x == a) = !q := by rw [hq]; simp [bne]
  show Calls Try.prog 67 #[.int .i64 x, .pointer (some ⟨B, 0, none⟩)] w fun e w' => e = .returned (.bool (x != a)) ∧ Below w.heap.size w w'
  rw [← hq]
  clear hb hc hx hq
  go_enter Try.func67, Try.ntmps67
  go_wp2
  go_ret
  exact ⟨by simp [HQ.out], Below.refl _ _⟩
theorem without_own {w : World} {A : Option Addr} {c : Nat} {l : List Int} {a : Int} (hl : l.length ≤ 1000) (ha : IntAt w A l.length (fun i => l.getD i 0)) :
    Calls Try.prog 48 #[.slice A l.length c, .int .i64 a] w fun e w' => ∃ v, e = .returned v ∧ w'.ownsRow w.heap.size 3 1 v (l.filter fun x => x != a).length (intV (l.filter fun x => x != a)) ∧ Below w.heap.size w w' := by
  have hg : Below w.heap.size w (w.alloc (.cells #[.int .i64 a] 3)) := (Below.refl _ _).alloc (Nat.le_refl _) _
  have hp := pred_without (W := w.alloc (.cells #[.int .i64 a] 3)) (B := w.heap.size) (a := a) (l := l) (by simp) (by simp)
  have H := Lib.hid (And.intro hg (And.intro (ha.below hg) hp))
  clear hg hp ha
  go_enter Try.func48, Try.ntmps48
  go_wp2_with fail
  refine (kept_own eg_without hl H.out.2.1 H.out.2.2).mono ?_
  rintro e w2 ⟨v, rfl, hL, hb⟩
  have HB := Lib.hid (And.intro (own_base hL (show w.heap.size ≤ (w.alloc (.cells #[.int .i64 a] 3)).heap.size by simp)) (Below.step H.out.1 hb))
  clear hL hb
  go_wp2
  go_ret
  exact ⟨_, rfl, HB.out⟩
theorem without_any {w : World} {A : Option Addr} {c : Nat} {l : List Int} {a : Int} (hl : l.length ≤ 1000) (ha : IntAt w A l.length (fun i => l.getD i 0)) :
    Calls Try.prog 48 #[.slice A l.length c, .int .i64 a] w fun e w' => ∃ v, e = .returned v ∧ IntL w' v (l.filter fun x => x != a) ∧ Below w.heap.size w w' := by
  refine (without_own hl ha).mono ?_
  rintro e w' ⟨v, rfl, ho, hb⟩
  exact ⟨v, rfl, intL_own ho (Nat.le_trans (List.length_filter_le _ _) hl), hb⟩
/-- A block of cells, by what each holds. -/
def RowV (w : World) (t : TypeId) (g n : Nat) (f : Nat → Value) : Prop := ∃ cs : Array Value, w.heap[g]? = some (.cells cs t (0, 0)) ∧ cs.size = n ∧ ∀ j, j < n → cs[j]? = some (f j)
theorem RowV.lt {w : World} {t : TypeId} {g n : Nat} {f : Nat → Value} (h : RowV w t g n f) : g < w.heap.size := by obtain ⟨cs, h, _⟩ := h; exact lt_of_block h
theorem RowV.new (w : World) (t : TypeId) (z : Value) (n : Nat) : RowV (w.alloc (.cells (madeCells #[z] n) t)) t w.heap.size n fun _ => z :=
  ⟨_, heap_alloc_new w _, by simp [madeCells], fun j hj => by simp [madeCells, hj, Nat.mod_one]⟩
theorem RowV.block {w w' : World} {t : TypeId} {g n : Nat} {f : Nat → Value} (h : RowV w t g n f) (hb : w'.heap[g]? = w.heap[g]?) : RowV w' t g n f := by
  obtain ⟨cs, h1, h2⟩ := h
  exact ⟨cs, hb.trans h1, h2⟩
theorem RowV.below {w w' : World} {t : TypeId} {g n B : Nat} {f : Nat → Value} (h : RowV w t g n f) (hb : Below B w w') (hg : g < B) : RowV w' t g n f := h.block (hb.block g hg)
theorem RowV.cell {w : World} {t : TypeId} {g n : Nat} {f : Nat → Value} (h : RowV w t g n f) {i : Nat} (hi : i < n) : w.cell? ⟨g, i, none⟩ = some (f i) := by
  obtain ⟨cs, h1, _, h3⟩ := h
  simp [World.cell?, h1, h3 i hi]
theorem RowV.free {w : World} {t : TypeId} {g n : Nat} {f : Nat → Value} (h : RowV w t g n f) (i : Nat) : w.frozen? ⟨g, i, none⟩ = false := by
  obtain ⟨cs, h1, _, _⟩ := h
  simp [World.frozen?, h1]
theorem RowV.set {w : World} {t : TypeId} {g n : Nat} {f : Nat → Value} (h : RowV w t g n f) {i : Nat} (_ : i < n) (u : Value) : RowV (w.setCell ⟨g, i, none⟩ u) t g n fun j => if j = i then u else f j := by
  obtain ⟨cs, h1, h2, h3⟩ := h
  refine ⟨_, Lib.heap_setCell_same h1 _, by simp [h2], fun j hj => ?_⟩
  rw [Array.getElem?_setIfInBounds]
  by_cases e : i = j
  · subst e; rw [if_pos rfl, if_pos (by omega)]; simp
  · rw [if_neg e]
    show cs[j]? = some (if j = i then u else f j)
    rw [if_neg (fun e2 : j = i => e e2.symm)]; exact h3 j hj
theorem RowV.congr {w : World} {t : TypeId} {g n : Nat} {f f' : Nat → Value} (h : RowV w t g n f) (hf : ∀ j, j < n → f j = f' j) : RowV w t g n f' := by
  obtain ⟨cs, h1, h2, h3⟩ := h
  exact ⟨cs, h1, h2, fun j hj => by rw [← hf j hj]; exact h3 j hj⟩
theorem RowV.intAt {w : World} {t : TypeId} {g n : Nat} {f : Nat → Value} {x : Nat → Int} (h : RowV w t g n f) (hf : ∀ j, j < n → f j = .int .i64 (x j)) : IntAt w (some ⟨g, 0, none⟩) n x :=
  fun _ => ⟨g, 0, rfl, h.lt, fun i hi => by rw [Nat.zero_add, h.cell hi, hf i hi]⟩
theorem make_int (n : Nat) (hn : n ≤ 1000) (w : World) :
    (Instr.makeSlice 22 (.int .i64 (n : Int)) (.int .i64 (n : Int))).run Try.prog w = .ok (.slice (some ⟨w.heap.size, 0, none⟩) n n) (w.alloc (.cells (madeCells #[Value.int .i64 0] n) 3)) := by
  obtain ⟨i, hi, hz, hs, hb⟩ := info_parts infoInt
  have h := run_make (P := Try.prog) w 22 3 i _ Try.underlying22 hi hz .i64 .i64 n n (by omega) (by omega) (by rw [hb]; omega) (by omega)
  rw [hs, Nat.mul_one] at h
  simpa [Value.cells] using h
/-- The numbers 0 .. n - 1. -/
def upL (n : Nat) : List Int := (List.range n).map fun (x : Nat) => (x : Int)
theorem upL_len (n : Nat) : (upL n).length = n := by simp [upL]
theorem upL_get {n j : Nat} (h : j < n) : (upL n).getD j 0 = (j : Int) := by simp [upL, List.getD, h]
set_option maxHeartbeats 1600000 in
set_option maxRecDepth 100000 in
theorem all_any {w : World} {S : Sc} {V : Sv} (hnr : S.nr ≤ 1000) :
    Calls Try.prog 36 #[.agg #[.slice V.A S.na V.ca, .slice V.R S.nr V.cr, .slice V.F S.nf V.cf, .int .i64 S.label]] w fun e w' => ∃ v, e = .returned v ∧ IntL w' v (upL S.nr) ∧ Below w.heap.size w w' := by
  have hmk := make_int S.nr hnr
  go_enter Try.func36, Try.ntmps36
  go_wp2_with fail
  have hb0 : Below w.heap.size w ((w.alloc (.cells #[.slice V.A S.na V.ca, .slice V.R S.nr V.cr, .slice V.F S.nf V.cf, .int .i64 S.label] 28)).alloc (.cells (madeCells #[Value.int .i64 0] S.nr) 3)) := by go_grown
  have hr0 := RowV.new (w.alloc (.cells #[.slice V.A S.na V.ca, .slice V.R S.nr V.cr, .slice V.F S.nf V.cf, .int .i64 S.label] 28)) 3 (.int .i64 0) S.nr
  rw [show (w.alloc (.cells #[.slice V.A S.na V.ca, .slice V.R S.nr V.cr, .slice V.F S.nf V.cf, .int .i64 S.label] 28)).heap.size = w.heap.size + 1 by simp] at hr0
  have H0 := Lib.hid (And.intro hb0 hr0)
  clear hmk hb0 hr0
  go_loopg [11] S.nr (fun gg s11 wr => ∃ i : Nat, i + gg = S.nr ∧ s11 = .int .i64 (i : Int) ∧ Hid (Below w.heap.size w wr ∧ RowV wr 3 (w.heap.size + 1) S.nr fun j => .int .i64 (if j < i then (j : Int) else 0)))
  case atStart => exact ⟨0, by omega, rfl, Lib.hid ⟨H0.out.1, H0.out.2.congr fun j _ => by rw [if_neg (by omega)]⟩⟩
  case round =>
    clear H0
    obtain ⟨i, hi, rfl, HR⟩ := hrel
    by_cases hlt : i < S.nr
    · have f0 := HR.out.2.free i
      have k0 := HR.out.2.cell hlt
      have HS := Lib.hid (And.intro (HR.out.1.setCell (p := ⟨w.heap.size + 1, i, none⟩) (Nat.le_succ _) (.int .i64 (i : Int))) (HR.out.2.set hlt (.int .i64 (i : Int))))
      go_wp2
      go_roundg (S.nr - (i + 1))
      case measure => omega
      case rel => exact ⟨i + 1, by omega, by go_num, Lib.hid ⟨HS.out.1, HS.out.2.congr fun j _ => by
        by_cases e : j = i
        · rw [if_pos e, if_pos (by omega), e]
        · rw [if_neg e]
          by_cases e2 : j < i
          · rw [if_pos e2, if_pos (by omega)]
          · rw [if_neg e2, if_neg (by omega)]⟩⟩
    · have ein : i = S.nr := by omega
      have HF := Lib.hid (show IntAt wr (some ⟨w.heap.size + 1, 0, none⟩) S.nr (fun j => (upL S.nr).getD j 0) from HR.out.2.intAt fun j hj => by rw [if_pos (by omega), upL_get hj])
      rw [ein]
      clear hlt hi ein
      go_wp2
      go_ret
      exact ⟨.slice (some ⟨w.heap.size + 1, 0, none⟩) S.nr S.nr, rfl, ⟨_, _, by rw [upL_len], by rw [upL_len]; exact hnr, by rw [upL_len]; exact HF.out⟩, HR.out.1⟩
/-- What a relation has. -/
def attrs (S : Sc) (r : Nat) : List Int := (List.range (S.rn r)).map (S.rat r)
theorem attrs_mem {S : Sc} {r : Nat} {a : Int} : hasB S r a = (attrs S r).contains a := by
  rw [Bool.eq_iff_iff, hasB_true, List.contains_iff_mem]
  simp [attrs]
theorem attrs_len (S : Sc) (r : Nat) : (attrs S r).length = S.rn r := by simp [attrs]
theorem attrs_get {S : Sc} {r j : Nat} (h : j < S.rn r) : (attrs S r).getD j 0 = S.rat r j := by simp [attrs, List.getD, h]
/-- Where a relation lies. -/
theorem rel_at {w : World} {S : Sc} {V : Sv} (h : SchIn w S V) {r : Nat} (hr : r < S.nr) :
    ∃ b off IA lc, V.R = some ⟨b, off, none⟩ ∧ b < w.heap.size ∧ w.cell? ⟨b, off + r * 2, none⟩ = some (.string (S.rname r)) ∧ w.cell? ⟨b, off + r * 2 + 1, none⟩ = some (.slice IA (S.rn r) lc) ∧ S.rn r ≤ 1000 ∧ IntAt w IA (S.rn r) (S.rat r) := by
  obtain ⟨b, off, hA, hbl, hc⟩ := h.rel (by omega)
  obtain ⟨c0, c1⟩ := hc r hr
  obtain ⟨e1, hrn, e3⟩ := h.ints r hr
  exact ⟨b, off, (V.L r).1, (V.L r).2.2, hA, hbl, c0, by rw [c1, e1], hrn, e3⟩
theorem IntAt.attrs {w : World} {A : Option Addr} {S : Sc} {r : Nat} (h : IntAt w A (S.rn r) (S.rat r)) : IntAt w A (attrs S r).length (fun i => (Proofs.Ytiakgcaflnpmeaa.attrs S r).getD i 0) := by
  rw [attrs_len]
  intro h0
  obtain ⟨b, off, e, hl, hc⟩ := h h0
  exact ⟨b, off, e, hl, fun i hi => by rw [hc i hi]; show _ = some (Value.int .i64 ((Proofs.Ytiakgcaflnpmeaa.attrs S r).getD i 0)); rw [attrs_get hi]⟩
set_option maxHeartbeats 1600000 in
set_option maxRecDepth 100000 in
theorem ahas_any {w : World} {S : Sc} {V : Sv} (h : SchIn w S V) {r : Nat} (hr : r < S.nr) (a : Int) :
    Calls Try.prog 61 #[.agg #[.slice V.A S.na V.ca, .slice V.R S.nr V.cr, .slice V.F S.nf V.cf, .int .i64 S.label], .int .i64 (r : Int), .int .i64 a] w fun e w' => e = .returned (.bool (hasB S r a)) ∧ Below w.heap.size w w' := by
  obtain ⟨b, off, IA, lc, hA, hbl, c0, c1, hrn, hx⟩ := rel_at h hr
  have hnr := h.nr
  have hcr := h.cr
  have hcrm := h.crm
  unfold maxLen at hcrm
  have hg : Below w.heap.size w (w.alloc (.cells #[.slice V.A S.na V.ca, .slice V.R S.nr V.cr, .slice V.F S.nf V.cf, .int .i64 S.label] 28)) := (Below.refl _ _).alloc (Nat.le_refl _) _
  rw [hA] at hg ⊢
  have hcon := contains_ints (c := lc) (a := a) hrn (hx.below hg)
  have H := Lib.hid hg
  obtain ⟨q, hq⟩ : ∃ q, q = hasB S r a := ⟨_, rfl⟩
  rw [← hq]
  rw [show (anyB (S.rn r) fun j => decide (a = S.rat r j)) = q from hq.symm] at hcon
  have h0 : (0 : Int) ≤ (r : Int) := by omega
  have h1 : (r : Int) < (S.nr : Int) := by omega
  clear hx hA h hg hq c0
  go_enter Try.func61, Try.ntmps61
  go_wp2_with fail
  refine hcon.mono ?_
  rintro e w' ⟨rfl, rfl⟩
  go_wp2
  go_ret
  exact ⟨rfl, H.out⟩
end Go.Proofs.Ytiakgcaflnpmeaa
