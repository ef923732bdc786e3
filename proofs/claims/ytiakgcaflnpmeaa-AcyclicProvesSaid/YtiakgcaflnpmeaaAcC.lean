/- Package acyclic: the least ear; the removals and what is left. -/
import Derived.Test.YtiakgcaflnpmeaaAcB
import Derived.Deep.AppendLies
import Derived.Maps.AppendAt
import Derived.Deep.DeepCutAuto
namespace Go.Proofs.Ytiakgcaflnpmeaa
open Go Go.RowKit

def earV : Option (Nat × Nat) → Value
  | none => .tuple #[.agg #[.int .i64 0, .int .i64 0], .bool false]
  | some x => .tuple #[.agg #[.int .i64 (x.1 : Int), .int .i64 (x.2 : Int)], .bool true]
theorem ear1_hit {A : Nat → List Int} {E : List Nat} {i w : Nat} (h : i < E.length) (hw : Acy.wit A E (E.getD i 0) = some w) (hn : ∀ j, j < i → Acy.wit A E (E.getD j 0) = none) : Acy.ear1 A E = some (E.getD i 0, w) := by
  unfold Acy.ear1
  rw [List.findSome?_eq_some_iff]
  refine ⟨E.take i, E.getD i 0, E.drop (i + 1), ?_, by rw [hw]; rfl, fun x hx => ?_⟩
  · rw [show E.getD i 0 = E[i] by simp [List.getD, h], ← List.drop_eq_getElem_cons h, List.take_append_drop]
  · obtain ⟨j, hj, e⟩ := List.getElem_of_mem hx
    rw [List.length_take] at hj
    have := hn j (by omega)
    rw [show E.getD j 0 = E[j]'(by omega) by simp [List.getD, (by omega : j < E.length)]] at this
    rw [← e, List.getElem_take, this]; rfl
theorem ear1_miss {A : Nat → List Int} {E : List Nat} (hn : ∀ j, j < E.length → Acy.wit A E (E.getD j 0) = none) : Acy.ear1 A E = none := by
  unfold Acy.ear1
  rw [List.findSome?_eq_none_iff]
  intro x hx
  obtain ⟨j, hj, e⟩ := List.getElem_of_mem hx
  have := hn j hj
  rw [show E.getD j 0 = E[j] by simp [List.getD, hj], e] at this
  rw [this]; rfl
theorem witI_mem {A : Nat → List Int} {E : List Nat} {i : Nat} (h : i < E.length) : Acy.witI A E ((E.getD i 0 : Nat) : Int) = Acy.wit A E (E.getD i 0) := by
  unfold Acy.witI
  rw [if_pos ⟨by omega, by rw [Int.toNat_natCast, show E.getD i 0 = E[i] by simp [List.getD, h]]; exact List.getElem_mem h⟩, Int.toNat_natCast]
theorem ear_ret {w : World} {b : Nat} {x y q : Value} {t : Array Value} (ht : t.getD 4 undef = .pointer (some ⟨b, 0, none⟩)) (hq : t.getD 5 undef = q) (c : w.heap[b]? = some (.cells #[x, y] 73 (0, 0))) :
    Sem.run Try.prog (results Try.f49 t) w = .ok (.tuple #[.agg #[x, y], q]) w := by
  have c0 : w.cell? ⟨b, 0, none⟩ = some x := cell_in c rfl
  have c1 : w.cell? ⟨b, 1, none⟩ = some y := cell_in c rfl
  have ht' : (t[4]?).getD undef = .pointer (some ⟨b, 0, none⟩) := by simpa using ht
  have hq' : (t[5]?).getD undef = q := by simpa using hq
  simp [results, Try.results49, go_sem, ht', hq', c0, c1]
theorem ear_end {w0 w : World} {E : List Nat} {A : Nat → List Int} {x : Option (Nat × Nat)} {v : Value} {a b : Int} {t : Array Value} (hx : Acy.ear1 A E = x) (hv : earV x = .tuple #[.agg #[.int .i64 a, .int .i64 b], v]) (hb : Below w0.heap.size w0 w)
    (c : w.heap[w0.heap.size + 1]? = some (.cells #[.int .i64 0, .int .i64 0] 73 (0, 0))) (ht : t.getD 4 undef = .pointer (some ⟨w0.heap.size + 1, 0, none⟩)) (hq : t.getD 5 undef = v) :
    bodyPost Try.prog Try.f49 (fun e w' => e = .returned (earV (Acy.ear1 A E)) ∧ Below w0.heap.size w0 w') Exit.ret ⟨t, []⟩ ((w.setCell ⟨w0.heap.size + 1, 0, none⟩ (.int .i64 a)).setCell ⟨w0.heap.size + 1, 1, none⟩ (.int .i64 b)) := by
  have hc := Lib.heap_setCell_same (Lib.heap_setCell_same c (i := 0) (.int .i64 a)) (i := 1) (.int .i64 b)
  refine bodyPost_ret (v := .tuple #[.agg #[.int .i64 a, .int .i64 b], v]) (ear_ret ht hq hc) rfl ⟨by rw [hx, hv], ?_⟩
  exact (hb.setCell (p := ⟨w0.heap.size + 1, 0, none⟩) (Nat.le_succ _) _).setCell (p := ⟨w0.heap.size + 1, 1, none⟩) (Nat.le_succ _) _
set_option maxHeartbeats 3200000 in
set_option maxRecDepth 100000 in
theorem leastEar_any {w : World} {S : Sc} {V : Sv} {A : Option Addr} {c : Nat} {E : List Nat} (h : SchIn w S V) (hE : E.length ≤ 1000) (hi : IntAt w A E.length (fun i => (castL E).getD i 0)) (hin : ∀ x, x ∈ E → x < S.nr) :
    Calls Try.prog 49 #[.agg #[.slice V.A S.na V.ca, .slice V.R S.nr V.cr, .slice V.F S.nf V.cf, .int .i64 S.label], .slice A E.length c] w fun e w' => e = .returned (earV (Acy.ear1 (attrs S) E)) ∧ Below w.heap.size w w' := by
  have hg : Below w.heap.size w ((w.alloc (.cells #[.slice V.A S.na V.ca, .slice V.R S.nr V.cr, .slice V.F S.nf V.cf, .int .i64 S.label] 28)).alloc (.cells #[.int .i64 0, .int .i64 0] 73)) := by go_grown
  have hb4 : Box4 ((w.alloc (.cells #[.slice V.A S.na V.ca, .slice V.R S.nr V.cr, .slice V.F S.nf V.cf, .int .i64 S.label] 28)).alloc (.cells #[.int .i64 0, .int .i64 0] 73)) w.heap.size S V := Box4.new.below ((Below.refl _ _).alloc (Nat.le_refl _) _)
  have hr2 : ((w.alloc (.cells #[.slice V.A S.na V.ca, .slice V.R S.nr V.cr, .slice V.F S.nf V.cf, .int .i64 S.label] 28)).alloc (.cells #[.int .i64 0, .int .i64 0] 73)).heap[w.heap.size + 1]? = some (.cells #[.int .i64 0, .int .i64 0] 73 (0, 0)) := by
    have := heap_alloc_new (w.alloc (.cells #[.slice V.A S.na V.ca, .slice V.R S.nr V.cr, .slice V.F S.nf V.cf, .int .i64 S.label] 28)) (.cells #[.int .i64 0, .int .i64 0] 73)
    simpa using this
  have H := Lib.hid (And.intro h (And.intro hg (And.intro hi (And.intro hin (And.intro hb4 hr2)))))
  clear h hg hi hin hb4 hr2
  go_enter Try.func49, Try.ntmps49
  go_wp2_with fail
  go_loopg [12] E.length (fun gg s12 wr => ∃ i : Nat, i + gg = E.length ∧ s12 = .int .i64 (i : Int) ∧ Hid (Below w.heap.size w wr ∧ Box4 wr w.heap.size S V ∧ wr.heap[w.heap.size + 1]? = some (.cells #[.int .i64 0, .int .i64 0] 73 (0, 0)) ∧ ∀ j, j < i → Acy.wit (attrs S) E (E.getD j 0) = none))
  case atStart => exact ⟨0, by omega, rfl, Lib.hid ⟨H.out.2.1, H.out.2.2.2.2.1, H.out.2.2.2.2.2, fun _ h => absurd h (by omega)⟩⟩
  case round =>
    obtain ⟨i, hi, rfl, HR⟩ := hrel
    by_cases hlt : i < E.length
    · obtain ⟨b, off, rfl, hbl, hc⟩ := (H.out.2.2.1.below HR.out.1) (by omega)
      have c0 : wr.cell? ⟨b, off + i, none⟩ = some (.int .i64 ((castL E).getD i 0)) := hc i hlt
      rw [castL_get hlt] at c0
      have q0 := HR.out.2.1.c0
      have q1 := HR.out.2.1.c1
      have q2 := HR.out.2.1.c2
      have q3 := HR.out.2.1.c3
      have hcon := witness_any (c := c) ((E.getD i 0 : Nat) : Int) (H.out.1.below HR.out.1) hE (H.out.2.2.1.below HR.out.1) H.out.2.2.2.1
      rw [witI_mem hlt] at hcon
      obtain ⟨u, hu⟩ : ∃ u, u = E.getD i 0 := ⟨_, rfl⟩
      rw [← hu] at c0 hcon
      have HU := Lib.hid (And.intro hu hbl)
      clear hu hbl hc
      cases hw : Acy.wit (attrs S) E u with
      | none =>
        rw [hw] at hcon
        have HW := Lib.hid hw
        clear hw
        go_wp2_with fail
        refine hcon.mono ?_
        rintro e w2 ⟨rfl, hb⟩
        have HB := Lib.hid (And.intro (Below.step HR.out.1 hb) (And.intro (HR.out.2.1.below hb) ((hb.block _ (lt_of_block HR.out.2.2.1)).trans HR.out.2.2.1)))
        clear hb q0 q1 q2 q3 hcon
        simp only [witV]
        go_wp2
        go_roundg (E.length - (i + 1))
        case measure => omega
        case rel => exact ⟨i + 1, by omega, by go_num, Lib.hid ⟨HB.out.1, HB.out.2.1, HB.out.2.2, fun j hj => by
          by_cases e : j = i
          · rw [e, ← HU.out.1]; exact HW.out
          · exact HR.out.2.2.2 j (by omega)⟩⟩
      | some x =>
        rw [hw] at hcon
        have HW := Lib.hid hw
        clear hw
        go_wp2_with fail
        refine hcon.mono ?_
        rintro e w2 ⟨rfl, hb⟩
        have HB := Lib.hid (And.intro (Below.step HR.out.1 hb) (And.intro (HR.out.2.1.below hb) ((hb.block _ (lt_of_block HR.out.2.2.1)).trans HR.out.2.2.1)))
        clear hb q0 q1 q2 q3 hcon
        simp only [witV]
        have e0 : w2.cell? ⟨w.heap.size + 1, 0, none⟩ = some (.int .i64 0) := cell_in HB.out.2.2 rfl
        have e1 : w2.cell? ⟨w.heap.size + 1, 1, none⟩ = some (.int .i64 0) := cell_in HB.out.2.2 rfl
        have f0 : w2.frozen? ⟨w.heap.size + 1, 0, none⟩ = false := by simp [World.frozen?, HB.out.2.2]
        have f1 : w2.frozen? ⟨w.heap.size + 1, 1, none⟩ = false := by simp [World.frozen?, HB.out.2.2]
        have hx := ear1_hit hlt (by rw [← HU.out.1]; exact HW.out) HR.out.2.2.2
        rw [← HU.out.1] at hx
        have HX := Lib.hid hx
        clear hx
        go_wp2_with fail
        exact ear_end HX.out rfl HB.out.1 HB.out.2.2 rfl rfl
    · have ein : i = E.length := by omega
      have HX := Lib.hid (ear1_miss fun j hj => HR.out.2.2.2 j (by omega) : Acy.ear1 (attrs S) E = none)
      have e0 : wr.cell? ⟨w.heap.size + 1, 0, none⟩ = some (.int .i64 0) := cell_in HR.out.2.2.1 rfl
      have e1 : wr.cell? ⟨w.heap.size + 1, 1, none⟩ = some (.int .i64 0) := cell_in HR.out.2.2.1 rfl
      have f0 : wr.frozen? ⟨w.heap.size + 1, 0, none⟩ = false := by simp [World.frozen?, HR.out.2.2.1]
      have f1 : wr.frozen? ⟨w.heap.size + 1, 1, none⟩ = false := by simp [World.frozen?, HR.out.2.2.1]
      rw [ein]
      clear hlt hi ein
      go_wp2_with fail
      exact ear_end HX.out rfl HR.out.1 HR.out.2.2.1 rfl rfl
/-- The cells of removals. -/
def pairC (l : List (Nat × Nat)) : List Value := l.flatMap fun x => [.int .i64 (x.1 : Int), .int .i64 (x.2 : Int)]
theorem pairC_len (l : List (Nat × Nat)) : (pairC l).length = l.length * 2 := by
  induction l with
  | nil => rfl
  | cons a l ih => simp [pairC] at ih ⊢; omega
theorem pairC_at : ∀ {l : List (Nat × Nat)} {i : Nat}, i < l.length → (pairC l)[i * 2]? = some (.int .i64 ((l.getD i (0, 0)).1 : Int)) ∧ (pairC l)[i * 2 + 1]? = some (.int .i64 ((l.getD i (0, 0)).2 : Int))
  | [], i, h => absurd h (by simp)
  | a :: l, 0, _ => ⟨rfl, rfl⟩
  | a :: l, i + 1, h => by
    have ih := pairC_at (l := l) (i := i) (by simpa using h)
    rw [show (i + 1) * 2 = i * 2 + 2 by omega, show i * 2 + 2 + 1 = i * 2 + 1 + 2 by omega]
    simpa [pairC] using ih
/-- The value is a list of these removals. -/
def RemL (w : World) (v : Value) (l : List (Nat × Nat)) : Prop := ∃ A c, v = .slice A l.length c ∧ l.length ≤ 1000 ∧
  (0 < l.length → ∃ b off, A = some ⟨b, off, none⟩ ∧ b < w.heap.size ∧ ∀ i, i < l.length → w.cell? ⟨b, off + i * 2, none⟩ = some (.int .i64 ((l.getD i (0, 0)).1 : Int)) ∧ w.cell? ⟨b, off + i * 2 + 1, none⟩ = some (.int .i64 ((l.getD i (0, 0)).2 : Int)))
theorem RemL.below {w w' : World} {v : Value} {l : List (Nat × Nat)} (h : RemL w v l) (hb : Below w.heap.size w w') : RemL w' v l := by
  obtain ⟨A, c, e, hl, hi⟩ := h
  refine ⟨A, c, e, hl, fun h0 => ?_⟩
  obtain ⟨b, off, e, hbl, hc⟩ := hi h0
  exact ⟨b, off, e, Nat.lt_of_lt_of_le hbl hb.size, fun i hi => ⟨(hb.cell hbl).trans (hc i hi).1, (hb.cell hbl).trans (hc i hi).2⟩⟩
theorem remL_own {w : World} {base : Nat} {v : Value} {l : List (Nat × Nat)} (h : w.ownsRow base 73 2 v l.length (pairC l)) (hl : l.length ≤ 1000) : RemL w v l := by
  have h0 := h
  rcases h.2 with ⟨rfl, hn⟩ | ⟨g', cap, cur, rfl, _, hg, _⟩
  · exact ⟨none, 0, by rw [hn], hl, fun h => absurd h (by omega)⟩
  · refine ⟨_, _, rfl, hl, fun _ => ⟨g', 0, rfl, lt_of_block hg, fun i hi => ?_⟩⟩
    have := pairC_at hi
    rw [Nat.zero_add, h0.cellAt _ (by omega), h0.cellAt _ (by omega)]
    exact this
theorem infoRem : (Try.prog.info? 73).map (fun i => (i.zero, i.size, i.bytes)) = some (some (.agg #[.int .i64 0, .int .i64 0]), 2, 16) := by kernel_rfl
theorem red_step {A : Nat → List Int} {E : List Nat} {x : Nat × Nat} (hnd : E.Nodup) (h : Acy.ear1 A E = some x) :
    Acy.red A E.length E = (x :: (Acy.red A (Acy.oth E x.1).length (Acy.oth E x.1)).1, (Acy.red A (Acy.oth E x.1).length (Acy.oth E x.1)).2) := by
  have h1 := (Acy.ear1_some h).1
  have h2 := Acy.oth_len hnd h1
  have h3 : 0 < E.length := List.length_pos_of_mem h1
  rw [show E.length = (Acy.oth E x.1).length + 1 by omega]
  conv => lhs; unfold Acy.red
  rw [h]
theorem red_stop {A : Nat → List Int} {E : List Nat} (n : Nat) (h : Acy.ear1 A E = none) : Acy.red A n E = ([], E) := by
  cases n with
  | zero => rfl
  | succ n => unfold Acy.red; rw [h]
/-- What reduce gives. -/
def redS (S : Sc) : List (Nat × Nat) × List Nat := Acy.red (attrs S) S.nr (List.range S.nr)
/-- What lies in memory while ears are removed: E is left, dn is done. -/
structure RedI (w0 : World) (S : Sc) (V : Sv) (v : Value) (A : Option Addr) (E : List Nat) (dn : List (Nat × Nat)) (w : World) : Prop where
  low : Below w0.heap.size w0 w
  box : Box4 w w0.heap.size S V
  own : w.ownsRow (w0.heap.size + 1) 73 2 v dn.length (pairC dn)
  apart : ∀ k, v.ownBlock = some k → ∀ b off, A = some ⟨b, off, none⟩ → b ≠ k
  ints : IntAt w A E.length (fun i => (castL E).getD i 0)
  nd : E.Nodup
  mem : ∀ x, x ∈ E → x < S.nr
  len : dn.length + E.length = S.nr
  red : redS S = (dn ++ (Acy.red (attrs S) E.length E).1, (Acy.red (attrs S) E.length E).2)
set_option linter.unusedSimpArgs false in
set_option maxHeartbeats 6400000 in
set_option maxRecDepth 100000 in
theorem reduce_any {w : World} {S : Sc} {V : Sv} (h : SchIn w S V) :
    Calls Try.prog 34 #[.agg #[.slice V.A S.na V.ca, .slice V.R S.nr V.cr, .slice V.F S.nf V.cf, .int .i64 S.label]] w fun e w' => ∃ v u, e = .returned (.tuple #[v, u]) ∧ RemL w' v (redS S).1 ∧ IntL w' u (castL (redS S).2) ∧ Below w.heap.size w w' := by
  obtain ⟨er, hi, hz, hss, hbs⟩ := info_parts infoRem
  have HI := Lib.hid (And.intro hi (And.intro hz (And.intro hss hbs)))
  clear hi hz hss hbs
  have hg : Below w.heap.size w (w.alloc (.cells #[.slice V.A S.na V.ca, .slice V.R S.nr V.cr, .slice V.F S.nf V.cf, .int .i64 S.label] 28)) := (Below.refl _ _).alloc (Nat.le_refl _) _
  have H := Lib.hid (And.intro h (And.intro hg (Box4.new (w := w) (S := S) (V := V))))
  have hnr := h.nr
  clear h hg
  go_enter Try.func34, Try.ntmps34
  go_wp2_with fail
  refine (all_any hnr).mono ?_
  rintro e w1 ⟨v, rfl, ⟨A1, c1, rfl, hl1, hi1⟩, hb⟩
  have H1 := Lib.hid (And.intro (Below.step H.out.2.1 hb) (And.intro (H.out.2.2.below hb) hi1))
  clear hb hi1
  go_wp2_with fail
  go_loopg [2, 3] S.nr (fun gg s2 s3 wr => ∃ (v : Value) (A : Option Addr) (c : Nat) (E : List Nat) (dn : List (Nat × Nat)), E.length = gg ∧ s2 = v ∧ s3 = .slice A E.length c ∧ Hid (RedI w S V v A E dn wr))
  case atStart =>
    refine ⟨_, A1, c1, List.range S.nr, [], by simp, rfl, by rw [List.length_range, upL_len], Lib.hid ⟨H1.out.1, H1.out.2.1, ⟨rfl, .inl ⟨rfl, rfl⟩⟩, fun k hk => by simp [Value.ownBlock] at hk, ?_, List.nodup_range, fun x hx => List.mem_range.1 hx, by simp, by rw [List.length_range]; rfl⟩⟩
    have := H1.out.2.2
    rw [upL_len] at this
    rw [List.length_range]
    exact this
  case round =>
    clear H1
    obtain ⟨sv, A, c, E, dn, hE, hsv, rfl, HR⟩ := hrel
    have hsv2 := hsv.symm
    clear hsv
    subst hsv2
    have HG := Lib.hid hE
    clear hE
    have hE1 : E.length ≤ 1000 := by have := HR.out.len; omega
    have hdn : dn.length ≤ 1000 := by have := HR.out.len; omega
    have q0 := HR.out.box.c0
    have q1 := HR.out.box.c1
    have q2 := HR.out.box.c2
    have q3 := HR.out.box.c3
    have hcon := leastEar_any (c := c) (H.out.1.below HR.out.low) hE1 HR.out.ints HR.out.mem
    cases he : Acy.ear1 (attrs S) E with
    | none =>
      rw [he] at hcon
      have HE := Lib.hid he
      clear he
      go_wp2_with fail
      refine hcon.mono ?_
      rintro e w2 ⟨rfl, hb⟩
      have hf := red_stop E.length HE.out
      have hr := HR.out.red
      rw [hf, List.append_nil] at hr
      have HB := Lib.hid (And.intro (remL_own (own_below' HR.out.own hb) hdn) (And.intro (HR.out.ints.below hb) (And.intro (Below.step HR.out.low hb) hr)))
      clear hb q0 q1 q2 q3 hcon hf hr
      simp only [earV]
      go_wp2
      go_ret2
      have hal := (Below.refl w2.heap.size w2).alloc (Nat.le_refl _) (.cells #[.int .i64 0, .int .i64 0] 73)
      refine ⟨sv, .slice A E.length c, rfl, by rw [HB.out.2.2.2]; exact HB.out.1.below hal, ?_, Below.step HB.out.2.2.1 hal⟩
      rw [HB.out.2.2.2]
      exact ⟨A, c, by rw [castL_len], by rw [castL_len]; exact hE1, by rw [castL_len]; exact HB.out.2.1.below hal⟩
    | some x =>
      rw [he] at hcon
      obtain ⟨hx1, _, hx3⟩ := Acy.ear1_some he
      have hlen := Acy.oth_len HR.out.nd hx1
      have hpos : 0 < E.length := List.length_pos_of_mem hx1
      have hr := HR.out.red
      rw [red_step HR.out.nd he] at hr
      have hkeep : (Acy.oth E x.1).Nodup ∧ (∀ y, y ∈ Acy.oth E x.1 → y < S.nr) ∧ (dn ++ [x]).length + (Acy.oth E x.1).length = S.nr ∧ redS S = ((dn ++ [x]) ++ (Acy.red (attrs S) (Acy.oth E x.1).length (Acy.oth E x.1)).1, (Acy.red (attrs S) (Acy.oth E x.1).length (Acy.oth E x.1)).2) := by
        refine ⟨Acy.oth_nodup HR.out.nd, fun y hy => HR.out.mem y (Acy.mem_oth.1 hy).1, ?_, ?_⟩
        · rw [List.length_append, hlen]
          have := HR.out.len
          show dn.length + 1 + (E.length - 1) = S.nr
          omega
        · rw [hr, List.append_assoc]; rfl
      have HK := Lib.hid (And.intro hkeep (show (Acy.oth E x.1).length < E.length by omega))
      obtain ⟨x1, x2⟩ := x
      clear he hx1 hx3 hlen hpos hr hkeep
      go_wp2_with fail
      refine hcon.mono ?_
      rintro e w2 ⟨rfl, hb⟩
      have HB := Lib.hid (And.intro (own_below' HR.out.own hb) (And.intro (HR.out.ints.below hb) (And.intro (Below.step HR.out.low hb) (HR.out.box.below hb))))
      have hsz2 : w.heap.size ≤ w2.heap.size := HB.out.2.2.1.size
      have hsz3 : w.heap.size + 1 ≤ w2.heap.size := HB.out.2.2.2.lt
      clear hb q0 q1 q2 q3 hcon
      have HRW := Lib.hid (show ¬ sv.ownBlock = some w2.heap.size from fun e => by have := (HB.out.1.lt _ e).2; omega)
      simp only [earV]
      go_upto_region 6 with (at_builtin; refine wpList_append_own_at _ rfl (.tmp 18) (.tmp 20) 69 rfl (w.heap.size + 1) 73 er (.agg #[.int .i64 0, .int .i64 0]) 2 16 Try.underlying69 HI.out.1 HI.out.2.1 HI.out.2.2.1 HI.out.2.2.2 rfl (by decide) sv dn.length (pairC dn) rfl ((HB.out.1.alloc _).alloc _) ⟨w2.heap.size + 1, 0, none⟩ 1 1 [.int .i64 (x1 : Int), .int .i64 (x2 : Int)] rfl rfl (by intro j u hj; match j, hj with | 0, hj => simp at hj; subst hj; simp [Addr.add] | 1, hj => simp at hj; subst hj; simp [Addr.add]) (by intro u hu; simp at hu; rcases hu with rfl | rfl <;> rfl) (by unfold maxLen; omega) (by omega) (by simp; omega) ?_; intro v' w3 hown hgrow hnil hblk; have HO := Lib.hid (And.intro hown hgrow); clear hown hgrow hnil hblk)
      have hbk : w3.heap[w2.heap.size]? = some (.cells #[.int .i64 (x1 : Int), .int .i64 (x2 : Int)] 73 (0, 0)) := (HO.out.2.block w2.heap.size (by simp; omega) (fun e => HRW.out (by first | exact e | exact e.symm))).trans (block_alloc _ (heap_alloc_new w2 _))
      have e0 : w3.cell? ⟨w2.heap.size, 0, none⟩ = some (.int .i64 (x1 : Int)) := cell_in hbk rfl
      have hrow : ∀ k, sv.ownBlock = some k → w.heap.size + 1 ≤ k := fun k hk => (HB.out.1.lt k hk).1
      have hA2 : Below w2.heap.size w2 ((w2.alloc (.cells #[.int .i64 (x1 : Int), .int .i64 (x2 : Int)] 73)).alloc (.cells #[.int .i64 (x1 : Int), .int .i64 (x2 : Int)] 73)) := by go_grown
      have hG3 : Below (w.heap.size + 1) ((w2.alloc (.cells #[.int .i64 (x1 : Int), .int .i64 (x2 : Int)] 73)).alloc (.cells #[.int .i64 (x1 : Int), .int .i64 (x2 : Int)] 73)) w3 := (Below.refl _ _).grown HO.out.2 (by simp; omega) hrow
      have hi3 : IntAt w3 A E.length (fun i => (castL E).getD i 0) := (HB.out.2.1.below hA2).grown HO.out.2 fun b off e hk => HR.out.apart b hk b off e rfl
      have hB3 : Below w.heap.size w w3 := (HB.out.2.2.1.trans (hA2.mono hsz2)).trans (hG3.mono (Nat.le_succ _))
      have hX3 : Box4 w3 w.heap.size S V := (HB.out.2.2.2.below hA2).keep hG3
      have hwo := without_own (c := c) (l := castL E) (a := (x1 : Int)) (by rw [castL_len]; exact hE1) (by rw [castL_len]; exact hi3)
      rw [castL_oth, castL_len, castL_len] at hwo
      have H3 := Lib.hid (And.intro hB3 (And.intro hX3 HO.out.1))
      clear hbk hrow hA2 hG3 hi3 hB3 hX3
      go_wp2_with fail
      refine hwo.mono ?_
      rintro e w4 ⟨u, rfl, hu, hb⟩
      obtain ⟨A4, c4, rfl⟩ : ∃ A c, u = .slice A (Acy.oth E x1).length c := by
        rcases hu.2 with ⟨rfl, hn⟩ | ⟨g', cap, cur, rfl, _⟩
        · exact ⟨none, 0, by rw [hn]⟩
        · exact ⟨_, _, rfl⟩
      have hL := intL_own (l := castL (Acy.oth E x1)) (by rw [castL_len]; exact hu) (by have := HK.out.2; rw [castL_len]; show (Acy.oth E x1).length ≤ 1000; have h5 : (Acy.oth E x1).length < E.length := this; omega)
      have hap : ∀ k, v'.ownBlock = some k → ∀ b off, A4 = some ⟨b, off, none⟩ → b ≠ k := fun k hk b off e => by
        have h1 := (H3.out.2.2.lt k hk).2
        have h2 : w3.heap.size ≤ b := by
          have := (hu.lt b (by rw [e]; rfl)).1
          exact this
        omega
      have HN := Lib.hid (show RedI w S V v' A4 (Acy.oth E x1) (dn ++ [(x1, x2)]) w4 from
        { low := Below.step H3.out.1 hb
          box := H3.out.2.1.below hb
          own := by
            have := own_below' H3.out.2.2 hb
            rw [show (dn ++ [(x1, x2)]).length = dn.length + 1 by rw [List.length_append]; rfl, show pairC (dn ++ [(x1, x2)]) = pairC dn ++ [.int .i64 (x1 : Int), .int .i64 (x2 : Int)] by simp [pairC]]
            exact this
          apart := hap
          ints := by
            obtain ⟨A5, c5, e5, _, h5⟩ := hL
            rw [castL_len] at e5 h5
            injection e5 with e5 _ _
            rw [e5]; exact h5
          nd := HK.out.1.1
          mem := HK.out.1.2.1
          len := HK.out.1.2.2.1
          red := HK.out.1.2.2.2 })
      clear hu hb hL hap hwo e0
      go_wp2
      go_roundg (Acy.oth E x1).length
      case measure => have := HK.out.2; have := HG.out; show (Acy.oth E x1).length < _; omega
      case rel => exact ⟨v', A4, c4, Acy.oth E x1, dn ++ [(x1, x2)], rfl, rfl, rfl, HN⟩
end Go.Proofs.Ytiakgcaflnpmeaa
