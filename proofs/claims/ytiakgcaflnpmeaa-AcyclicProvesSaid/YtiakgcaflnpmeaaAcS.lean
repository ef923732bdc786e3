/- The source of stage 7: a schema out of lists of numbers. -/
import Derived.Test.YtiakgcaflnpmeaaSchY
import Derived.Test.YtiakgcaflnpmeaaAcA
import Derived.Maps.AppendAt
import Derived.Deep.DeepCutAuto
namespace Go.Proofs.Ytiakgcaflnpmeaa
open Go Go.RowKit

theorem own_apart {w : World} {base base' n n' s s' : Nat} {e e' : TypeId} {v v' : Value} {xs xs' : List Value} (h : w.ownsRow base e s v n xs) (h' : w.ownsRow base' e' s' v' n' xs') (hne : e ≠ e') : ∀ k, v.ownBlock = some k → v'.ownBlock ≠ some k := fun k hk hk' => by
  rcases h.2 with ⟨rfl, _⟩ | ⟨g, cap, cur, rfl, _, hg, _⟩
  · simp [Value.ownBlock] at hk
  · rcases h'.2 with ⟨rfl, _⟩ | ⟨g', cap', cur', rfl, _, hg', _⟩
    · simp [Value.ownBlock] at hk'
    · have e1 : g = k := by simpa [Value.ownBlock] using hk
      have e2 : g' = k := by simpa [Value.ownBlock] using hk'
      rw [e1] at hg
      rw [e2, hg] at hg'
      injection hg' with hg'
      injection hg' with _ h3
      exact hne h3
/-- What lies in memory while a schema is made: w0's size is the result's box, the next block the schema's. -/
structure Sm (w0 w : World) (vA vR : Value) (al : List (ByteArray × Int)) (rs : List (ByteArray × Value × List Nat)) : Prop where
  low : Below w0.heap.size w0 w
  res : w.heap[w0.heap.size]? = some (.cells #[.slice none 0 0, .slice none 0 0, .slice none 0 0, .int .i64 0] 28 (0, 0))
  box : w.heap[w0.heap.size + 1]? = some (.cells #[vA, vR, .slice none 0 0, .int .i64 (-1)] 28 (0, 0))
  attr : w.ownsRow (w0.heap.size + 1 + 1) 84 2 vA al.length (attrC al)
  rel : w.ownsRow (w0.heap.size + 1 + 1) 33 2 vR rs.length (relC rs)
section
variable {w0 w w' : World} {vA vR : Value} {al : List (ByteArray × Int)} {rs : List (ByteArray × Value × List Nat)}
theorem Sm.size (h : Sm w0 w vA vR al rs) : w0.heap.size + 1 + 1 ≤ w.heap.size := lt_of_block h.box
theorem Sm.below (h : Sm w0 w vA vR al rs) (hb : Below w.heap.size w w') : Sm w0 w' vA vR al rs :=
  ⟨Below.step h.low hb, (hb.block _ (lt_of_block h.res)).trans h.res, (hb.block _ (lt_of_block h.box)).trans h.box, own_below' h.attr hb, own_below' h.rel hb⟩
theorem Sm.pushRel {w1 wn : World} {v' : Value} {p : ByteArray × Value × List Nat} (h : Sm w0 w vA vR al rs) (h1 : Below w.heap.size w w1) (hown : wn.ownsRow (w0.heap.size + 1 + 1) 33 2 v' (rs.length + 1) (relC rs ++ [.string p.1, p.2.1]))
    (hgrow : w1.grownBy wn vR.ownBlock) : Sm w0 (wn.setCell ⟨w0.heap.size + 1, 1, none⟩ v') vA v' al (rs ++ [p]) := by
  have hm := h.below h1
  have k := Keeps.grown hgrow
  have hrow : ∀ b, vR.ownBlock = some b → w0.heap.size + 1 + 1 ≤ b := fun b hb => (h.rel.lt b hb).1
  have hB : Below w0.heap.size w1 (wn.setCell ⟨w0.heap.size + 1, 1, none⟩ v') := ((Below.refl _ _).grown hgrow (Nat.le_trans (by omega) hm.size) (fun b hb => by have := hrow b hb; omega)).setCell (p := ⟨w0.heap.size + 1, 1, none⟩) (by show w0.heap.size ≤ w0.heap.size + 1; omega) _
  have ne : ∀ b, b < w0.heap.size + 1 + 1 → vR.ownBlock ≠ some b := fun b hb e => by have := hrow b e; omega
  have ks := Keeps.set wn (w0.heap.size + 1) 1 v'
  have nb : ∀ {n size : Nat} {e : TypeId} {v : Value} {ys : List Value} {w2 : World}, w2.ownsRow (w0.heap.size + 1 + 1) e size v n ys → ∀ b, v.ownBlock = some b → (some (w0.heap.size + 1) : Option Nat) ≠ some b := fun ho b hb e => by
    have h1 := (ho.lt b hb).1
    have h2 : w0.heap.size + 1 = b := by injection e
    omega
  have o1 := k.own hm.attr (fun b hb e => own_apart hm.attr hm.rel (by decide) b hb e)
  exact ⟨hm.low.trans hB, ks.block (k.block hm.res (ne _ (by omega))) (by intro e; injection e; omega), Lib.heap_setCell_same (k.block hm.box (ne _ (by omega))) _, ks.own o1 (nb o1), ks.own (by rw [relC_snoc, List.length_append]; exact hown) (nb hown)⟩
theorem Sm.pushAttr {w1 wn : World} {v' : Value} {a : ByteArray × Int} (h : Sm w0 w vA vR al rs) (h1 : Below w.heap.size w w1) (hown : wn.ownsRow (w0.heap.size + 1 + 1) 84 2 v' (al.length + 1) (attrC al ++ [.string a.1, .int .i64 a.2]))
    (hgrow : w1.grownBy wn vA.ownBlock) : Sm w0 (wn.setCell ⟨w0.heap.size + 1, 0, none⟩ v') v' vR (al ++ [a]) rs := by
  have hm := h.below h1
  have k := Keeps.grown hgrow
  have hrow : ∀ b, vA.ownBlock = some b → w0.heap.size + 1 + 1 ≤ b := fun b hb => (h.attr.lt b hb).1
  have hB : Below w0.heap.size w1 (wn.setCell ⟨w0.heap.size + 1, 0, none⟩ v') := ((Below.refl _ _).grown hgrow (Nat.le_trans (by omega) hm.size) (fun b hb => by have := hrow b hb; omega)).setCell (p := ⟨w0.heap.size + 1, 0, none⟩) (by show w0.heap.size ≤ w0.heap.size + 1; omega) _
  have ne : ∀ b, b < w0.heap.size + 1 + 1 → vA.ownBlock ≠ some b := fun b hb e => by have := hrow b e; omega
  have ks := Keeps.set wn (w0.heap.size + 1) 0 v'
  have nb : ∀ {n size : Nat} {e : TypeId} {v : Value} {ys : List Value} {w2 : World}, w2.ownsRow (w0.heap.size + 1 + 1) e size v n ys → ∀ b, v.ownBlock = some b → (some (w0.heap.size + 1) : Option Nat) ≠ some b := fun ho b hb e => by
    have h1 := (ho.lt b hb).1
    have h2 : w0.heap.size + 1 = b := by injection e
    omega
  have o1 := k.own hm.rel (fun b hb e => own_apart hm.rel hm.attr (by decide) b hb e)
  exact ⟨hm.low.trans hB, ks.block (k.block hm.res (ne _ (by omega))) (by intro e; injection e; omega), Lib.heap_setCell_same (k.block hm.box (ne _ (by omega))) _, ks.own (by rw [attrC_snoc, List.length_append]; exact hown) (nb hown), ks.own o1 (nb o1)⟩
end
/-- A list of lists of numbers: the headers lie at A, each header's numbers where it says. -/
def LL (w : World) (A : Option Addr) (ps : List (Value × List Nat)) : Prop :=
  (0 < ps.length → ∃ b off, A = some ⟨b, off, none⟩ ∧ b < w.heap.size ∧ ∀ i (h : i < ps.length), w.cell? ⟨b, off + i, none⟩ = some ps[i].1) ∧ ∀ p, p ∈ ps → ListAt w p.1 p.2
theorem LL.below {w w' : World} {A : Option Addr} {ps : List (Value × List Nat)} (h : LL w A ps) (hb : Below w.heap.size w w') : LL w' A ps := by
  refine ⟨fun h0 => ?_, fun p hp => (h.2 p hp).below hb⟩
  obtain ⟨b, off, e, hl, hc⟩ := h.1 h0
  exact ⟨b, off, e, Nat.lt_of_lt_of_le hl hb.size, fun i hi => (hb.cell hl).trans (hc i hi)⟩
def alK (k : Nat) : List (ByteArray × Int) := (List.range k).map fun i => (nmL i, 1)
def psD : Value × List Nat := (.slice none 0 0, [])
def rsK (ps : List (Value × List Nat)) (k : Nat) : List (ByteArray × Value × List Nat) := (List.range k).map fun i => (rnL i, (ps.getD i psD).1, (ps.getD i psD).2)
theorem alK_succ (k : Nat) : alK (k + 1) = alK k ++ [(nmL k, 1)] := by simp [alK, List.range_succ]
theorem rsK_succ (ps : List (Value × List Nat)) (k : Nat) : rsK ps (k + 1) = rsK ps k ++ [(rnL k, (ps.getD k psD).1, (ps.getD k psD).2)] := by simp [rsK, List.range_succ]
theorem alK_len (k : Nat) : (alK k).length = k := by simp [alK]
theorem rsK_len (ps : List (Value × List Nat)) (k : Nat) : (rsK ps k).length = k := by simp [rsK]
def mxL (m : Nat) (l : List Nat) : Nat := l.foldl max m
def mx (ls : List (List Nat)) : Nat := ls.foldl mxL 0
theorem mxL_le {l : List Nat} : ∀ {m n : Nat}, m ≤ n → (∀ a, a ∈ l → a ≤ n) → mxL m l ≤ n := by
  induction l with
  | nil => intro m n h _; exact h
  | cons a l ih => intro m n h hl; exact ih (Nat.max_le.2 ⟨h, hl a (by simp)⟩) fun b hb => hl b (List.mem_cons_of_mem _ hb)
theorem mxL_ge {l : List Nat} : ∀ {m : Nat}, m ≤ mxL m l ∧ ∀ a, a ∈ l → a ≤ mxL m l := by
  induction l with
  | nil => intro m; exact ⟨Nat.le_refl _, fun _ h => absurd h (by simp)⟩
  | cons b l ih =>
    intro m
    have h := ih (m := max m b)
    refine ⟨Nat.le_trans (Nat.le_max_left _ _) h.1, fun a ha => ?_⟩
    rcases List.mem_cons.1 ha with rfl | ha
    · exact Nat.le_trans (Nat.le_max_right _ _) h.1
    · exact h.2 a ha
theorem take_snoc {α : Type} {l : List α} {i : Nat} (h : i < l.length) (d : α) : l.take (i + 1) = l.take i ++ [l.getD i d] := by
  rw [List.take_add_one, show l[i]? = some (l.getD i d) by simp [List.getD, h]]; rfl
/-- The schema that sch makes. -/
def schS (ps : List (Value × List Nat)) : Sc := scOf (alK (mx (ps.map (·.2)) + 1)) (rsK ps ps.length) [] (-1)
theorem sch_ret7 {w : World} {b : Nat} {v0 v1 v2 v3 : Value} {t : Array Value} (ht : t.getD 2 undef = .pointer (some ⟨b, 0, none⟩)) (c : w.heap[b]? = some (.cells #[v0, v1, v2, v3] 28 (0, 0))) :
    Sem.run Try.prog (results Try.f31 t) w = .ok (.agg #[v0, v1, v2, v3]) w := by
  have c0 : w.cell? ⟨b, 0, none⟩ = some v0 := cell_in c rfl
  have c1 : w.cell? ⟨b, 1, none⟩ = some v1 := cell_in c rfl
  have c2 : w.cell? ⟨b, 2, none⟩ = some v2 := cell_in c rfl
  have c3 : w.cell? ⟨b, 3, none⟩ = some v3 := cell_in c rfl
  have ht' : (t[2]?).getD undef = .pointer (some ⟨b, 0, none⟩) := by simpa using ht
  simp [results, Try.results31, go_sem, ht', c0, c1, c2, c3]
/-- What comes out: the schema, where its slices lie. -/
def SchAt (w : World) (v : Value) (S : Sc) : Prop := ∃ V : Sv, v = .agg #[.slice V.A S.na V.ca, .slice V.R S.nr V.cr, .slice V.F S.nf V.cf, .int .i64 S.label] ∧ SchIn w S V
/-- The same, and that its slices are younger than the call, but for the lists that it was given. -/
def SchNew (w0 w : World) (v : Value) (ps : List (Value × List Nat)) : Prop := ∃ V : Sv, v = .agg #[.slice V.A (schS ps).na V.ca, .slice V.R (schS ps).nr V.cr, .slice V.F (schS ps).nf V.cf, .int .i64 (schS ps).label] ∧ SchIn w (schS ps) V ∧
  (∀ b off, V.A = some ⟨b, off, none⟩ → w0.heap.size ≤ b) ∧ (∀ b off, V.R = some ⟨b, off, none⟩ → w0.heap.size ≤ b) ∧ ∀ i, i < ps.length → V.L i = slOf (ps.getD i psD).1
theorem own_ptr {w : World} {base n size : Nat} {e : TypeId} {v : Value} {ys : List Value} (h : w.ownsRow base e size v n ys) : ∀ b off, ptrOf v = some ⟨b, off, none⟩ → base ≤ b := fun b off e => by
  rcases h.2 with ⟨rfl, _⟩ | ⟨g, cap, cur, rfl, h1, _⟩
  · cases e
  · have e : (some ⟨g, 0, none⟩ : Option Addr) = some ⟨b, off, none⟩ := e
    injection e with e
    injection e with e1 _
    omega
theorem sm_out {w0 w : World} {vA vR : Value} {A : Option Addr} {ps : List (Value × List Nat)} {k : Nat} (low : Below w0.heap.size w0 w) (attr : w.ownsRow (w0.heap.size + 1 + 1) 84 2 vA (alK k).length (attrC (alK k))) (rel : w.ownsRow (w0.heap.size + 1 + 1) 33 2 vR (rsK ps ps.length).length (relC (rsK ps ps.length))) (hl : LL w0 A ps) (hk : k = mx (ps.map (·.2)) + 1) (hk26 : k ≤ 26) (hp26 : ps.length ≤ 26) :
    SchNew w0 w (.agg #[vA, vR, .slice none 0 0, .int .i64 (-1)]) ps := by
  have hl' := hl.below low
  have fA := own_form attr
  have fR := own_form rel
  rw [alK_len] at fA
  rw [rsK_len] at fR
  have hna : (schS ps).na = k := by show (alK (mx (ps.map (·.2)) + 1)).length = k; rw [alK_len, hk]
  have hnr : (schS ps).nr = ps.length := rsK_len ps ps.length
  have hrs : ∀ i, i < ps.length → (rsK ps ps.length).getD i rsD = (rnL i, ps[i]?.getD psD) := fun i hi => by simp [rsK, List.getD, hi]
  have hin : ∀ i (hi : i < ps.length), ListAt w ((rsK ps ps.length).getD i rsD).2.1 ((rsK ps ps.length).getD i rsD).2.2 := fun i hi => by
    rw [hrs i hi, show ps[i]?.getD psD = ps[i] by simp [hi]]
    exact hl'.2 _ (List.getElem_mem hi)
  refine ⟨⟨ptrOf vA, capOf vA, ptrOf vR, capOf vR, none, 0, fun i => slOf ((rsK ps ps.length).getD i rsD).2.1⟩, ?_, ?_, fun b off e => by have := own_ptr attr b off e; omega, fun b off e => by have := own_ptr rel b off e; omega, fun i hi => ?_⟩
  · rw [hna, hnr, fA.1, fR.1]; rfl
  rotate_left
  · show slOf ((rsK ps ps.length).getD i rsD).2.1 = slOf (ps.getD i psD).1
    rw [hrs i hi]
    rfl
  · refine { attr := ?_, rel := ?_, feat := fun h => absurd h (by show ¬ 0 < 0; omega), ints := fun i hi => ?_, na := by rw [hna]; omega, nr := by rw [hnr]; omega, nf := by show 0 ≤ 1000; omega, ca := by rw [hna]; exact fA.2.1, cr := by rw [hnr]; exact fR.2.1, cf := Nat.le_refl 0, cam := fA.2.2.1, crm := fR.2.2.1, cfm := Nat.zero_le _, ns := fun i hi => ?_, rs := fun i hi => ?_ }
    · have := own_attr attr
      rw [hk] at this
      exact this
    · exact own_rel rel fun p hp => by
        obtain ⟨i, hi, rfl⟩ := List.getElem_of_mem hp
        rw [rsK_len] at hi
        obtain ⟨A1, c1, e, _⟩ := hin i hi
        rw [getDAt (by rw [rsK_len]; exact hi)] at e
        exact ⟨A1, _, c1, e⟩
    · rw [hnr] at hi
      obtain ⟨A1, c1, e, h3, h4⟩ := hin i hi
      refine ⟨?_, h3, ?_⟩
      · show (slOf ((rsK ps ps.length).getD i rsD).2.1).2.1 = ((rsK ps ps.length).getD i rsD).2.2.length
        rw [e]; rfl
      · show IntAt w (slOf ((rsK ps ps.length).getD i rsD).2.1).1 ((rsK ps ps.length).getD i rsD).2.2.length fun j => ((((rsK ps ps.length).getD i rsD).2.2.getD j 0 : Nat) : Int)
        rw [e]; exact h4
    · show ((alK (mx (ps.map (·.2)) + 1)).getD i alD).1.size ≤ maxLen
      rw [hna] at hi
      rw [← hk, getDAt (by rw [alK_len]; exact hi)]
      simp [alK, nmL, maxLen, ByteArray.size]
    · show ((rsK ps ps.length).getD i rsD).1.size ≤ maxLen
      rw [hnr] at hi
      rw [hrs i hi]
      simp [rnL, maxLen, ByteArray.size]
theorem sm_end {w0 w : World} {vA vR : Value} {A : Option Addr} {ps : List (Value × List Nat)} {k : Nat} (h : Sm w0 w vA vR (alK k) (rsK ps ps.length)) (hl : LL w0 A ps) (hk : k = mx (ps.map (·.2)) + 1) (hk26 : k ≤ 26) (hp26 : ps.length ≤ 26) {t : Array Value} (ht : t.getD 2 undef = .pointer (some ⟨w0.heap.size, 0, none⟩)) :
    bodyPost Try.prog Try.f31 (fun e w' => ∃ v, e = .returned v ∧ SchNew w0 w' v ps ∧ Below w0.heap.size w0 w') Exit.ret ⟨t, []⟩
      ((((w.setCell ⟨w0.heap.size, 0, none⟩ vA).setCell ⟨w0.heap.size, 1, none⟩ vR).setCell ⟨w0.heap.size, 2, none⟩ (.slice none 0 0)).setCell ⟨w0.heap.size, 3, none⟩ (.int .i64 (-1))) := by
  have hc := Lib.heap_setCell_same (Lib.heap_setCell_same (Lib.heap_setCell_same (Lib.heap_setCell_same h.res (i := 0) vA) (i := 1) vR) (i := 2) (.slice none 0 0)) (i := 3) (.int .i64 (-1))
  have hb := ((((Below.refl w0.heap.size w).setCell (p := ⟨w0.heap.size, 0, none⟩) (Nat.le_refl _) vA).setCell (p := ⟨w0.heap.size, 1, none⟩) (Nat.le_refl _) vR).setCell (p := ⟨w0.heap.size, 2, none⟩) (Nat.le_refl _) (.slice none 0 0)).setCell (p := ⟨w0.heap.size, 3, none⟩) (Nat.le_refl _) (.int .i64 (-1))
  have hk' := (((Keeps.set w w0.heap.size 0 vA).trans (Keeps.set _ _ 1 vR)).trans (Keeps.set _ _ 2 (.slice none 0 0))).trans (Keeps.set _ _ 3 (.int .i64 (-1)))
  have nb : ∀ {n size : Nat} {e : TypeId} {v : Value} {ys : List Value}, w.ownsRow (w0.heap.size + 1 + 1) e size v n ys → ∀ b, v.ownBlock = some b → (some w0.heap.size : Option Nat) ≠ some b := fun ho b hb e => by
    have h1 := (ho.lt b hb).1
    have h2 : w0.heap.size = b := by injection e
    omega
  exact bodyPost_ret (v := .agg #[vA, vR, .slice none 0 0, .int .i64 (-1)]) (sch_ret7 ht hc) rfl ⟨_, rfl, sm_out (h.low.trans hb) (hk'.own h.attr (nb h.attr)) (hk'.own h.rel (nb h.rel)) hl hk hk26 hp26, h.low.trans hb⟩
theorem mx_succ {ps : List (Value × List Nat)} {i : Nat} (h : i < ps.length) : mx ((ps.take (i + 1)).map (·.2)) = mxL (mx ((ps.take i).map (·.2))) (ps.getD i psD).2 := by
  rw [take_snoc h psD, List.map_append]
  unfold mx
  rw [List.foldl_append]
  rfl
set_option linter.unusedSimpArgs false in
set_option maxHeartbeats 12800000 in
set_option maxRecDepth 100000 in
theorem sch_any {w : World} {A : Option Addr} {c : Nat} {ps : List (Value × List Nat)} (h : LL w A ps) (hn : ps.length ≤ 26) (hv : ∀ p, p ∈ ps → ∀ a, a ∈ p.2 → a ≤ 25) :
    Calls Try.prog 31 #[.slice A ps.length c] w fun e w' => ∃ v, e = .returned v ∧ SchNew w w' v ps ∧ Below w.heap.size w w' := by
  obtain ⟨ea, hi, hz, hss, hbs⟩ := info_parts infoAttr
  have HIA := Lib.hid (And.intro hi (And.intro hz (And.intro hss hbs)))
  clear hi hz hss hbs
  obtain ⟨er, hi, hz, hss, hbs⟩ := info_parts infoRel
  have HIR := Lib.hid (And.intro hi (And.intro hz (And.intro hss hbs)))
  clear hi hz hss hbs
  have hm0 : Sm w ((w.alloc (.cells #[.slice none 0 0, .slice none 0 0, .slice none 0 0, .int .i64 0] 28)).alloc (.cells #[.slice none 0 0, .slice none 0 0, .slice none 0 0, .int .i64 (-1)] 28)) (.slice none 0 0) (.slice none 0 0) (alK 0) (rsK ps 0) :=
    ⟨by go_grown, block_alloc _ (block_new _ rfl), block_new _ (by simp), World.ownsRow_nil _ _ _ _, World.ownsRow_nil _ _ _ _⟩
  have H := Lib.hid (And.intro h (And.intro hv hm0))
  clear h hv hm0
  go_enter Try.func31, Try.ntmps31
  go_wp2_with fail
  generalize ((w.alloc (.cells #[.slice none 0 0, .slice none 0 0, .slice none 0 0, .int .i64 0] 28)).alloc (.cells #[.slice none 0 0, .slice none 0 0, .slice none 0 0, .int .i64 (-1)] 28)) = w0 at *
  go_loopg [4, 13] ps.length (fun gg s4 s13 wr => ∃ (m i : Nat) (vR : Value), i + gg = ps.length ∧ s4 = .int .i64 (m : Int) ∧ s13 = .int .i64 (i : Int) ∧ Hid (m = mx ((ps.take i).map (·.2)) ∧ m ≤ 25 ∧ Sm w wr (.slice none 0 0) vR (alK 0) (rsK ps i)))
  case atStart => exact ⟨0, 0, _, by omega, rfl, rfl, Lib.hid ⟨rfl, by omega, H.out.2.2⟩⟩
  case round =>
    obtain ⟨m, i, vR, hi, rfl, rfl, HR⟩ := hrel
    by_cases hlt : i < ps.length
    · have hLw := H.out.1.below HR.out.2.2.low
      obtain ⟨b, off, rfl, hbl, hc⟩ := hLw.1 (by omega)
      have c0 := hc i hlt
      have hmem := List.getElem_mem hlt
      obtain ⟨Ai, ci, ei, hli, hxi⟩ := hLw.2 _ hmem
      have hle := H.out.2.1 _ hmem
      have hgd : ps.getD i psD = ps[i] := by simp [List.getD, hlt]
      have hms := mx_succ hlt
      have hrk := rsK_succ ps i
      rw [hgd] at hms hrk
      obtain ⟨p, hp⟩ : ∃ p, p = ps[i] := ⟨_, rfl⟩
      rw [← hp] at c0 ei hli hxi hle hms hrk hmem
      rw [ei] at c0 hrk
      have HP := Lib.hid (And.intro hms (And.intro hrk (And.intro hle (And.intro hmem ei))))
      have kc := conv_one wr (d := 97 + (i : Int)) (by omega) (by omega)
      obtain ⟨sx, hsx⟩ : ∃ sx : ByteArray, sx = ⟨[UInt8.ofNat (97 + (i : Int)).toNat].toArray⟩ := ⟨_, rfl⟩
      have hsl : sx.size ≤ 1 := by rw [hsx]; exact Nat.le_refl _
      rw [← hsx] at kc
      have e97 : (97 + (i : Int)).toNat = 97 + i := by omega
      rw [e97] at hsx
      have hnm : (⟨#[114]⟩ : ByteArray) ++ sx = rnL i := by rw [hsx]; exact rnames i
      have hk0 : (0 : Int) ≤ 97 + (i : Int) := by omega
      have hk1 : (97 : Int) + (i : Int) < 256 := by omega
      obtain ⟨nm, hnmm⟩ : ∃ nm, nm = (⟨#[114]⟩ : ByteArray) ++ sx := ⟨_, rfl⟩
      have HN := Lib.hid (And.intro hnm hnmm)
      have HB := Lib.hid hbl
      obtain ⟨RA, rc, hvR⟩ := own_slice HR.out.2.2.rel
      subst hvR
      rw [rsK_len] at HR
      have b1 : wr.cell? ⟨w.heap.size + 1, 1, none⟩ = some (.slice RA i rc) := cell_in HR.out.2.2.box rfl
      have hszr := HR.out.2.2.size
      have ho : wr.ownsRow (w.heap.size + 1 + 1) 33 2 (.slice RA i rc) i (relC (rsK ps i)) := by
        have := HR.out.2.2.rel
        rw [rsK_len] at this
        exact this
      have HO := Lib.hid ho
      have hrow : ∀ r, (Value.slice RA i rc).ownBlock = some r → w.heap.size + 1 + 1 ≤ r := fun r hr => (ho.lt r hr).1
      have HRW := Lib.hid hrow
      clear hLw hc hmem hgd hms hrk hp hxi hsx e97 hnm hle ho hrow
      go_upto_region 7 with (at_builtin; refine wpList_append_lies _ rfl (.tmp 19) (.tmp 28) 25 rfl (w.heap.size + 1 + 1) 33 er (.agg #[.string ⟨#[]⟩, .slice none 0 0]) 2 40 Try.underlying25 HIR.out.1 HIR.out.2.1 HIR.out.2.2.1 HIR.out.2.2.2 rfl (by decide) (.slice RA i rc) i (relC (rsK ps i)) rfl ((HO.out.alloc _).alloc _) ⟨wr.heap.size + 1, 0, none⟩ 1 1 [.string (⟨#[114]⟩ ++ sx), .slice Ai p.2.length ci] rfl rfl (by intro j u hj; match j, hj with | 0, hj => simp at hj; subst hj; simp [Addr.add] | 1, hj => simp at hj; subst hj; simp [Addr.add]) (by intro u hu; simp at hu; rcases hu with rfl | rfl <;> rfl) (by omega) (by unfold maxLen; omega) (by omega) (by first | omega | (simp <;> omega)) (wr.heap.size + 1 + 1) (by simp) ?_; intro gA cA wm hown hgrow hblk hgl; have hbx := (Keeps.grown hgrow).block (block_alloc (.cells #[.string (⟨#[114]⟩ ++ sx), .slice Ai p.2.length ci] 33) (block_alloc (.cells #[.int .u8 (97 + (i : Int))] 5) HR.out.2.2.box)) (fun e => by have := HRW.out _ e; omega); have e0 : wm.cell? ⟨w.heap.size + 1, 1, none⟩ = some (.slice RA i rc) := cell_in hbx rfl; have f0 : wm.frozen? ⟨w.heap.size + 1, 1, none⟩ = false := (by simp [World.frozen?, hbx]); have HG := Lib.hid (And.intro hown hgrow); clear hown hgrow hblk hgl hbx)
      have HQ := Lib.hid (show Sm w (wm.setCell ⟨w.heap.size + 1, 1, none⟩ (.slice (some ⟨gA, 0, none⟩) (i + 1) cA)) (.slice none 0 0) (.slice (some ⟨gA, 0, none⟩) (i + 1) cA) (alK 0) (rsK ps (i + 1)) from by
        rw [HP.out.2.1]
        refine HR.out.2.2.pushRel (w1 := (wr.alloc (.cells #[.int .u8 (97 + (i : Int))] 5)).alloc (.cells #[.string (⟨#[114]⟩ ++ sx), .slice Ai p.2.length ci] 33)) (by go_grown) ?_ HG.out.2
        rw [rsK_len]
        show wm.ownsRow _ _ 2 _ (i + 1) (relC (rsK ps i) ++ [.string (rnL i), .slice Ai p.2.length ci])
        rw [← HN.out.1]
        exact HG.out.1)
      clear HG e0 f0 b1 c0 kc HB
      generalize wm.setCell ⟨w.heap.size + 1, 1, none⟩ (.slice (some ⟨gA, 0, none⟩) (i + 1) cA) = w4 at *
      have hli4 : IntAt w4 Ai p.2.length fun j => ((p.2.getD j 0 : Nat) : Int) := by
        obtain ⟨A5, c5, e5, _, h5⟩ := (H.out.1.below HQ.out.low).2 p HP.out.2.2.2.1
        rw [HP.out.2.2.2.2] at e5
        injection e5 with e5 _ _
        rw [e5]; exact h5
      have HL := Lib.hid hli4
      have hm25 := HR.out.2.1
      clear hli4
      go_wp2_with fail
      go_loopg [4, 33] p.2.length (fun gg s4 s33 wx => ∃ (m' j : Nat), j + gg = p.2.length ∧ s4 = .int .i64 (m' : Int) ∧ s33 = .int .i64 (j : Int) ∧ Hid (wx = w4 ∧ m' = mxL m (p.2.take j) ∧ m' ≤ 25))
      case atStart => exact ⟨m, 0, by omega, rfl, rfl, Lib.hid ⟨rfl, rfl, hm25⟩⟩
      case round =>
        obtain ⟨m', j, hj, rfl, rfl, HX⟩ := hrel
        obtain rfl : wr = w4 := HX.out.1
        by_cases hjl : j < p.2.length
        · obtain ⟨b', off', rfl, hbl', hc'⟩ := HL.out (by omega)
          have c1 : wr.cell? ⟨b', off' + j, none⟩ = some (.int .i64 ((p.2.getD j 0 : Nat) : Int)) := hc' j hjl
          have hy25 : p.2.getD j 0 ≤ 25 := HP.out.2.2.1 _ (by rw [getDAt hjl]; exact List.getElem_mem hjl)
          have hts : mxL m (p.2.take (j + 1)) = max (mxL m (p.2.take j)) (p.2.getD j 0) := by
            rw [take_snoc hjl 0]; unfold mxL; rw [List.foldl_append]; rfl
          obtain ⟨y, hy⟩ : ∃ y, y = p.2.getD j 0 := ⟨_, rfl⟩
          rw [← hy] at c1 hy25 hts
          have HY := Lib.hid (And.intro hts hy25)
          have HXX := Lib.hid HX.out.2
          have hmm : max (m' : Int) (y : Int) = ((max m' y : Nat) : Int) := by omega
          clear hbl' hc' hts hy hy25
          go_wp2
          go_roundg (p.2.length - (j + 1))
          case measure => omega
          case rel => exact ⟨max m' y, j + 1, by omega, by rw [← hmm], by go_num, Lib.hid ⟨rfl, by rw [HY.out.1, ← HXX.out.1], Nat.max_le.2 ⟨HXX.out.2, HY.out.2⟩⟩⟩
        · have ejl : j = p.2.length := by omega
          have hfin : m' = mx ((ps.take (i + 1)).map (·.2)) := by
            rw [HP.out.1, ← HR.out.1, HX.out.2.1, ejl, List.take_length]
          have HF := Lib.hid (And.intro hfin HX.out.2.2)
          rw [ejl]
          clear hjl hj ejl hfin HX
          go_wp2
          go_roundg (ps.length - (i + 1))
          case measure => omega
          case rel => exact ⟨m', i + 1, _, by omega, rfl, by go_num, Lib.hid ⟨HF.out.1, HF.out.2, HQ.out⟩⟩
    · have ein : i = ps.length := by omega
      have hm : m = mx (ps.map (·.2)) := by rw [HR.out.1, ein, List.take_length]
      have hm25 := HR.out.2.1
      have HM := Lib.hid (And.intro hm (show Sm w wr (.slice none 0 0) vR (alK 0) (rsK ps ps.length) from ein ▸ HR.out.2.2))
      rw [ein]
      clear hlt hi ein hm HR
      go_wp2_with fail
      go_loopg [9] (m + 1) (fun gg s9 wx => ∃ (a : Nat) (vA : Value), a + gg = m + 1 ∧ s9 = .int .i64 (a : Int) ∧ Hid (Sm w wx vA vR (alK a) (rsK ps ps.length)))
      case atStart => exact ⟨0, _, by omega, rfl, Lib.hid HM.out.2⟩
      case round =>
        obtain ⟨a, vA, ha, rfl, HX⟩ := hrel
        obtain ⟨AA, ca, hvA⟩ := own_slice HX.out.attr
        subst hvA
        have hszr := HX.out.size
        have ho : wr.ownsRow (w.heap.size + 1 + 1) 84 2 (.slice AA (alK a).length ca) a (attrC (alK a)) := by
          have := HX.out.attr
          rw [alK_len] at this ⊢
          exact this
        rw [alK_len] at ho HX
        by_cases hla : a ≤ m
        · have hlai : (a : Int) ≤ (m : Int) := by omega
          have HO := Lib.hid ho
          have hrow : ∀ r, (Value.slice AA a ca).ownBlock = some r → w.heap.size + 1 + 1 ≤ r := fun r hr => (ho.lt r hr).1
          have HRW := Lib.hid hrow
          have kc := conv_one wr (d := 97 + (a : Int)) (by omega) (by omega)
          obtain ⟨sx, hsx⟩ : ∃ sx : ByteArray, sx = ⟨[UInt8.ofNat (97 + (a : Int)).toNat].toArray⟩ := ⟨_, rfl⟩
          have hsl : sx.size ≤ 1 := by rw [hsx]; exact Nat.le_refl _
          rw [← hsx] at kc
          have e97 : (97 + (a : Int)).toNat = 97 + a := by omega
          rw [e97] at hsx
          have hnm : (⟨#[97]⟩ : ByteArray) ++ sx = nmL a := by rw [hsx]; exact names a
          have hk0 : (0 : Int) ≤ 97 + (a : Int) := by omega
          have hk1 : (97 : Int) + (a : Int) < 256 := by omega
          have HN := Lib.hid hnm
          have b1 : wr.cell? ⟨w.heap.size + 1, 0, none⟩ = some (.slice AA a ca) := cell_in HX.out.box rfl
          clear hsx e97 hnm ho hrow hla
          go_wp2_with (at_builtin; refine wpList_append_lies _ rfl (.tmp 48) (.tmp 56) 24 rfl (w.heap.size + 1 + 1) 84 ea (.agg #[.string ⟨#[]⟩, .int .i64 0]) 2 24 Try.underlying24 HIA.out.1 HIA.out.2.1 HIA.out.2.2.1 HIA.out.2.2.2 rfl (by decide) (.slice AA a ca) a (attrC (alK a)) rfl ((HO.out.alloc _).alloc _) ⟨wr.heap.size + 1, 0, none⟩ 1 1 [.string (⟨#[97]⟩ ++ sx), .int .i64 1] rfl rfl (by intro j u hj; match j, hj with | 0, hj => simp at hj; subst hj; simp [Addr.add] | 1, hj => simp at hj; subst hj; simp [Addr.add]) (by intro u hu; simp at hu; rcases hu with rfl | rfl <;> rfl) (by omega) (by unfold maxLen; omega) (by omega) (by first | omega | (simp <;> omega)) (wr.heap.size + 1 + 1) (by simp) ?_; intro gA cA wm hown hgrow hblk hgl; have hbx := (Keeps.grown hgrow).block (block_alloc (.cells #[.string (⟨#[97]⟩ ++ sx), .int .i64 1] 84) (block_alloc (.cells #[.int .u8 (97 + (a : Int))] 5) HX.out.box)) (fun e => by have := HRW.out _ e; omega); have e0 : wm.cell? ⟨w.heap.size + 1, 0, none⟩ = some (.slice AA a ca) := cell_in hbx rfl; have f0 : wm.frozen? ⟨w.heap.size + 1, 0, none⟩ = false := (by simp [World.frozen?, hbx]); have HG := Lib.hid (And.intro hown hgrow); clear hown hgrow hblk hgl hbx)
          have HQ := Lib.hid (show Sm w (wm.setCell ⟨w.heap.size + 1, 0, none⟩ (.slice (some ⟨gA, 0, none⟩) (a + 1) cA)) (.slice (some ⟨gA, 0, none⟩) (a + 1) cA) vR (alK (a + 1)) (rsK ps ps.length) from by
            rw [alK_succ]
            refine HX.out.pushAttr (w1 := (wr.alloc (.cells #[.int .u8 (97 + (a : Int))] 5)).alloc (.cells #[.string (⟨#[97]⟩ ++ sx), .int .i64 1] 84)) (by go_grown) ?_ HG.out.2
            rw [alK_len]
            show wm.ownsRow _ _ 2 _ (a + 1) (attrC (alK a) ++ [.string (nmL a), .int .i64 1])
            rw [← HN.out]
            exact HG.out.1)
          clear HG e0 f0 b1 kc
          go_roundg (m - a)
          case measure => omega
          case rel => exact ⟨a + 1, _, by omega, by go_num, HQ⟩
        · have ea1 : a = m + 1 := by omega
          obtain ⟨RA, rc, hvR⟩ := own_slice HX.out.rel
          subst hvR
          rw [rsK_len] at HX
          have b0 : wr.cell? ⟨w.heap.size + 1, 0, none⟩ = some (.slice AA a ca) := cell_in HX.out.box rfl
          have b1 : wr.cell? ⟨w.heap.size + 1, 1, none⟩ = some (.slice RA ps.length rc) := cell_in HX.out.box rfl
          have b2 : wr.cell? ⟨w.heap.size + 1, 2, none⟩ = some (.slice none 0 0) := cell_in HX.out.box rfl
          have b3 : wr.cell? ⟨w.heap.size + 1, 3, none⟩ = some (.int .i64 (-1)) := cell_in HX.out.box rfl
          have r0 : wr.cell? ⟨w.heap.size, 0, none⟩ = some (.slice none 0 0) := cell_in HX.out.res rfl
          have r1 : wr.cell? ⟨w.heap.size, 1, none⟩ = some (.slice none 0 0) := cell_in HX.out.res rfl
          have r2 : wr.cell? ⟨w.heap.size, 2, none⟩ = some (.slice none 0 0) := cell_in HX.out.res rfl
          have r3 : wr.cell? ⟨w.heap.size, 3, none⟩ = some (.int .i64 0) := cell_in HX.out.res rfl
          have f0 : wr.frozen? ⟨w.heap.size, 0, none⟩ = false := by simp [World.frozen?, HX.out.res]
          have f1 : wr.frozen? ⟨w.heap.size, 1, none⟩ = false := by simp [World.frozen?, HX.out.res]
          have f2 : wr.frozen? ⟨w.heap.size, 2, none⟩ = false := by simp [World.frozen?, HX.out.res]
          have f3 : wr.frozen? ⟨w.heap.size, 3, none⟩ = false := by simp [World.frozen?, HX.out.res]
          have HE := Lib.hid (And.intro (show a = mx (ps.map (·.2)) + 1 by rw [ea1, HM.out.1]) (show a ≤ 26 by omega))
          have hlai : ¬ (a : Int) ≤ (m : Int) := by omega
          clear ea1 ha hla ho
          go_wp2_with fail
          exact sm_end HX.out H.out.1 HE.out.1 HE.out.2 hn rfl
end Go.Proofs.Ytiakgcaflnpmeaa
