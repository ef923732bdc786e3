/- The source's schemas: what comes out lies in memory and is valid. -/
import Derived.Test.YtiakgcaflnpmeaaSchX
namespace Go.Proofs.Ytiakgcaflnpmeaa
open Go Go.RowKit

def ptrOf : Value → Option Addr
  | .slice a _ _ => a
  | _ => none
def capOf : Value → Nat
  | .slice _ _ c => c
  | _ => 0
def slOf : Value → Option Addr × Nat × Nat
  | .slice a n c => (a, n, c)
  | _ => (none, 0, 0)
def alD : ByteArray × Int := (⟨#[]⟩, 0)
def rsD : ByteArray × Value × List Nat := (⟨#[]⟩, .slice none 0 0, [])
/-- The schema that the lists say. -/
def scOf (al : List (ByteArray × Int)) (rs : List (ByteArray × Value × List Nat)) (fs : List (Int × Int × Int)) (lab : Int) : Sc :=
  ⟨al.length, fun i => (al.getD i alD).1, fun i => (al.getD i alD).2, rs.length, fun i => (rs.getD i rsD).1, fun i => (rs.getD i rsD).2.2.length, fun i j => ((rs.getD i rsD).2.2.getD j 0 : Nat), fs.length, fun i => (fs.getD i (0, 0, 0)).1, fun i => (fs.getD i (0, 0, 0)).2.1, fun i => (fs.getD i (0, 0, 0)).2.2, lab⟩
theorem getDAt {α : Type} {l : List α} {i : Nat} (h : i < l.length) (d : α) : l.getD i d = l[i] := by simp [List.getD, h]
theorem own_form {w : World} {base n size : Nat} {e : TypeId} {v : Value} {ys : List Value} (h : w.ownsRow base e size v n ys) :
    v = .slice (ptrOf v) n (capOf v) ∧ n ≤ capOf v ∧ capOf v ≤ maxLen ∧ (0 < n → ∃ b, ptrOf v = some ⟨b, 0, none⟩ ∧ b < w.heap.size ∧ ∀ j, j < n * size → w.cell? ⟨b, 0 + j, none⟩ = ys[j]?) := by
  rcases h.2 with ⟨rfl, rfl⟩ | ⟨g', cap, cur, rfl, h1, h2, h3, h4, h5, h6⟩
  · exact ⟨rfl, Nat.le_refl _, Nat.zero_le _, fun h => absurd h (by omega)⟩
  · exact ⟨rfl, h3, h4, fun _ => ⟨g', rfl, lt_of_block h2, fun j hj => by rw [Nat.zero_add]; exact h.cellAt j hj⟩⟩
theorem own_attr {w : World} {base : Nat} {e : TypeId} {v : Value} {al : List (ByteArray × Int)} (h : w.ownsRow base e 2 v al.length (attrC al)) :
    AttrAt w (ptrOf v) al.length (fun i => (al.getD i alD).1) (fun i => (al.getD i alD).2) := by
  intro hn
  obtain ⟨b, e1, hb, hc⟩ := (own_form h).2.2.2 hn
  refine ⟨b, 0, e1, hb, fun i hi => ?_⟩
  have hp := pair_at (fun a : ByteArray × Int => Value.string a.1) (fun a => Value.int .i64 a.2) al i hi
  have e2 := getDAt hi alD
  show w.cell? _ = some (.string (al.getD i alD).1) ∧ w.cell? _ = some (.int .i64 (al.getD i alD).2)
  rw [e2]
  exact ⟨(hc (i * 2) (by omega)).trans hp.1, (hc (i * 2 + 1) (by omega)).trans hp.2⟩
theorem own_rel {w : World} {base : Nat} {e : TypeId} {v : Value} {rs : List (ByteArray × Value × List Nat)} (h : w.ownsRow base e 2 v rs.length (relC rs))
    (hi : ∀ p ∈ rs, ∃ A n c, p.2.1 = .slice A n c) : RelAt w (ptrOf v) rs.length (fun i => (rs.getD i rsD).1) (fun i => slOf (rs.getD i rsD).2.1) := by
  intro hn
  obtain ⟨b, e1, hb, hc⟩ := (own_form h).2.2.2 hn
  refine ⟨b, 0, e1, hb, fun i hi' => ?_⟩
  have hp := pair_at (fun a : ByteArray × Value × List Nat => Value.string a.1) (fun a => a.2.1) rs i hi'
  have e2 := getDAt hi' rsD
  obtain ⟨A, n, c, e3⟩ := hi rs[i] (List.getElem_mem hi')
  show w.cell? _ = some (.string (rs.getD i rsD).1) ∧ w.cell? _ = some (.slice (slOf (rs.getD i rsD).2.1).1 (slOf (rs.getD i rsD).2.1).2.1 (slOf (rs.getD i rsD).2.1).2.2)
  rw [e2]
  refine ⟨(hc (i * 2) (by omega)).trans hp.1, (hc (i * 2 + 1) (by omega)).trans (hp.2.trans ?_)⟩
  rw [e3]; rfl
theorem own_feat {w : World} {base : Nat} {e : TypeId} {v : Value} {fs : List (Int × Int × Int)} (h : w.ownsRow base e 3 v fs.length (featC fs)) :
    FeatAt w (ptrOf v) fs.length (fun i => (fs.getD i (0, 0, 0)).1) (fun i => (fs.getD i (0, 0, 0)).2.1) (fun i => (fs.getD i (0, 0, 0)).2.2) := by
  intro hn
  obtain ⟨b, e1, hb, hc⟩ := (own_form h).2.2.2 hn
  refine ⟨b, 0, e1, hb, fun i hi => ?_⟩
  have hp := triple_at fs i hi
  have e2 := getDAt hi (0, 0, 0)
  show w.cell? _ = some (.int .i64 (fs.getD i (0, 0, 0)).1) ∧ w.cell? _ = some (.int .i64 (fs.getD i (0, 0, 0)).2.1) ∧ w.cell? _ = some (.int .i64 (fs.getD i (0, 0, 0)).2.2)
  rw [e2]
  exact ⟨(hc (i * 3) (by omega)).trans hp.1, (hc (i * 3 + 1) (by omega)).trans hp.2.1, (hc (i * 3 + 2) (by omega)).trans hp.2.2⟩
theorem own_ints {w : World} {base : Nat} {e : TypeId} {v : Value} {l : List Nat} (h : w.ownsRow base e 1 v l.length (natV l)) : IntAt w (ptrOf v) l.length (fun j => ((l.getD j 0 : Nat) : Int)) := by
  intro hn
  obtain ⟨b, e1, hb, hc⟩ := (own_form h).2.2.2 hn
  refine ⟨b, 0, e1, hb, fun i hi => (hc i (by omega)).trans ?_⟩
  show (natV l)[i]? = some (.int .i64 ((l.getD i 0 : Nat) : Int))
  rw [getDAt hi]
  simp [natV, hi]
theorem byte_letter : ∀ i : Fin 26, letterB (UInt8.ofNat (97 + i.val)) = true := by decide
theorem byte_inj : ∀ i j : Fin 26, UInt8.ofNat (97 + i.val) = UInt8.ofNat (97 + j.val) → i = j := by decide
theorem word_two {a b : UInt8} (ha : letterB a = true) (hb : letterB b = true) : wordB ⟨[a, b].toArray⟩ = true := by
  show wordL [a, b] = true
  simp [wordL, wcharB, ha, hb]
theorem nmL_word {j : Nat} (h : j < 26) : wordB (nmL j) = true := word_two (by decide) (byte_letter ⟨j, h⟩)
theorem rnL_word {j : Nat} (h : j < 26) : wordB (rnL j) = true := word_two (by decide) (byte_letter ⟨j, h⟩)
theorem two_inj {c a b : UInt8} (h : (⟨[c, a].toArray⟩ : ByteArray) = ⟨[c, b].toArray⟩) : a = b := by
  injection h with h
  simpa using h
theorem nmL_inj {i j : Nat} (hi : i < 26) (hj : j < 26) (h : nmL i = nmL j) : i = j := by
  have := byte_inj ⟨i, hi⟩ ⟨j, hj⟩ (two_inj h)
  injection this
theorem rnL_inj {i j : Nat} (hi : i < 26) (hj : j < 26) (h : rnL i = rnL j) : i = j := by
  have := byte_inj ⟨i, hi⟩ ⟨j, hj⟩ (two_inj h)
  injection this
theorem pair_len {xs : List Nat} {n : Nat} (hp : xs.Pairwise (· < ·)) (hx : ∀ x ∈ xs, x < n) : xs.length ≤ n := by
  have h : ∀ (l : List Nat) (a : Nat), (a :: l).Pairwise (· < ·) → (∀ x ∈ a :: l, x < n) → a + l.length < n := by
    intro l
    induction l with
    | nil => intro a _ hx; exact hx a (by simp)
    | cons b l ih =>
      intro a hp hx
      rw [List.pairwise_cons] at hp
      have h1 := ih b hp.2 fun x hx' => hx x (List.mem_cons_of_mem _ hx')
      have h2 := hp.1 b (by simp)
      show a + (l.length + 1) < n
      omega
  cases xs with
  | nil => exact Nat.zero_le _
  | cons a l => have := h l a hp hx; show l.length + 1 ≤ n; omega
theorem sc_valid {al : List (ByteArray × Int)} {rs : List (ByteArray × Value × List Nat)} {fs : List (Int × Int × Int)} {lab : Int} {n : Nat}
    (h : Ok al rs [] n) (hf : Fok al fs lab al.length) (hn : 1 ≤ n ∧ n ≤ 3) (ha : 1 ≤ al.length) : Valid (scOf al rs fs lab) := by
  have hl := h.len
  have hr := h.ri
  have hfl := hf.len
  have ge : ∀ {i : Nat} (hi : i < rs.length), rs.getD i rsD = rs[i] := fun hi => getDAt hi rsD
  have ae : ∀ {i : Nat} (hi : i < al.length), al.getD i alD = al[i] := fun hi => getDAt hi alD
  have fe : ∀ {i : Nat} (hi : i < fs.length), fs.getD i (0, 0, 0) = fs[i] := fun hi => getDAt hi _
  have mk : ∀ k : Nat, (al.map (·.2)).getD k 0 = (al.getD k alD).2 := fun k => by
    by_cases hk : k < al.length
    · rw [ae hk]; simp [List.getD, hk]
    · simp [List.getD, List.getElem?_eq_none (Nat.le_of_not_lt hk), alD]
  refine ⟨ha, by show al.length ≤ 12; omega, by show 1 ≤ rs.length; omega, by show rs.length ≤ 6; omega, by show fs.length ≤ 8; omega, fun i hi => ?_, fun i j hi hj => ?_, fun i hi => ?_, fun i hi => ?_, fun i j hi hj => ?_, fun i hi => ?_, fun i j hi hj => ?_, fun i j hi hj => ?_, fun a ha => ?_, fun i hi => ?_, fun i hi => ?_, fun i hi => ?_, fun i j hi hj => ?_, ?_⟩
  · replace hi : i < al.length := hi
    show wordB (al.getD i alD).1 = true
    rw [ae hi, (h.an i hi).1]; exact nmL_word (by omega)
  · replace hi : i < al.length := hi
    show (al.getD j alD).1 ≠ (al.getD i alD).1
    rw [ae hi, ae (show j < al.length by omega), (h.an i hi).1, (h.an j (by omega)).1]
    exact fun e => absurd (nmL_inj (by omega) (by omega) e) (by omega)
  · replace hi : i < al.length := hi
    show 1 ≤ (al.getD i alD).2 ∧ (al.getD i alD).2 ≤ 3
    rw [ae hi]; exact (h.an i hi).2
  · replace hi : i < rs.length := hi
    show wordB (rs.getD i rsD).1 = true
    rw [ge hi, h.rn i hi]; exact rnL_word (by omega)
  · replace hi : i < rs.length := hi
    show (rs.getD j rsD).1 ≠ (rs.getD i rsD).1
    rw [ge hi, ge (show j < rs.length by omega), h.rn i hi, h.rn j (by omega)]
    exact fun e => absurd (rnL_inj (by omega) (by omega) e) (by omega)
  · replace hi : i < rs.length := hi
    show 1 ≤ (rs.getD i rsD).2.2.length
    rw [ge hi]
    have := (h.rx rs[i] (List.getElem_mem hi)).1
    exact List.length_pos_iff.2 this
  · replace hi : i < rs.length := hi
    replace hj : j < (rs.getD i rsD).2.2.length := hj
    show (0 : Int) ≤ (((rs.getD i rsD).2.2.getD j 0 : Nat) : Int) ∧ (((rs.getD i rsD).2.2.getD j 0 : Nat) : Int) < (al.length : Nat)
    rw [getDAt hj]
    have e := ge hi
    have := (h.rx rs[i] (List.getElem_mem hi)).2.1 ((rs.getD i rsD).2.2[j]) (by rw [← e]; exact List.getElem_mem hj)
    omega
  · replace hi : i < rs.length := hi
    replace hj : j + 1 < (rs.getD i rsD).2.2.length := hj
    show (((rs.getD i rsD).2.2.getD j 0 : Nat) : Int) < (((rs.getD i rsD).2.2.getD (j + 1) 0 : Nat) : Int)
    rw [getDAt hj, getDAt (show j < _ by omega)]
    have hp := (h.rx rs[i] (List.getElem_mem hi)).2.2
    rw [← ge hi] at hp
    have := List.pairwise_iff_getElem.1 hp j (j + 1) (by omega) hj (Nat.lt_succ_self _)
    omega
  · replace ha : a < al.length := ha
    rcases h.cov a ha with h1 | ⟨p, hp, h1⟩
    · exact absurd h1 (by simp)
    · obtain ⟨i, hi, rfl⟩ := List.getElem_of_mem hp
      obtain ⟨j, hj, hje⟩ := List.getElem_of_mem h1
      refine ⟨i, j, hi, ?_, ?_⟩
      · show j < (rs.getD i rsD).2.2.length
        rw [ge hi]; exact hj
      · show (((rs.getD i rsD).2.2.getD j 0 : Nat) : Int) = (a : Int)
        rw [ge hi, getDAt hj, hje]
  · replace hi : i < fs.length := hi
    obtain ⟨k, e, hk, _⟩ := hf.fx fs[i] (List.getElem_mem hi)
    show 0 ≤ (fs.getD i (0, 0, 0)).1 ∧ (fs.getD i (0, 0, 0)).1 < (al.length : Nat)
    rw [fe hi, e]; omega
  · replace hi : i < fs.length := hi
    obtain ⟨k, e, hk, hs, _⟩ := hf.fx fs[i] (List.getElem_mem hi)
    show suitsB (fs.getD i (0, 0, 0)).2.1 (fs.getD i (0, 0, 0)).2.2 (al.getD (fs.getD i (0, 0, 0)).1.toNat alD).2 = true
    rw [fe hi, e, ← mk]; exact hs
  · replace hi : i < fs.length := hi
    obtain ⟨k, e, hk, _, hx⟩ := hf.fx fs[i] (List.getElem_mem hi)
    show (fs.getD i (0, 0, 0)).1 ≠ lab
    rw [fe hi]; exact hx
  · replace hi : i < fs.length := hi
    show (fs.getD j (0, 0, 0)).1 ≠ (fs.getD i (0, 0, 0)).1
    rw [fe hi, fe (show j < fs.length by omega)]
    have := List.pairwise_iff_getElem.1 hf.up j i (by omega) hi hj
    omega
  · rcases hf.lb with e | ⟨k, e, hk, hv⟩
    · exact .inl e
    · refine .inr ⟨?_, ?_, ?_⟩
      · show 0 ≤ lab; omega
      · show lab < (al.length : Nat); omega
      · show (al.getD lab.toNat alD).2 = 2
        rw [← mk, e]; exact hv
/-- What the source gives: a valid schema of at most six attributes. -/
def SchemaOut (w0 : World) (g : Nat) (v : Value) (w' : World) : Prop :=
  ∃ S V, v = .agg #[.slice V.A S.na V.ca, .slice V.R S.nr V.cr, .slice V.F S.nf V.cf, .int .i64 S.label] ∧ SchIn w' S V ∧ Valid S ∧ S.na ≤ 6 ∧ SrcIn w' g ∧ Src1 g w0 w' ∧ ∀ W, Keeps w' W (some g) → SchIn W S V
theorem mf_out {w0 w w' : World} {g n : Nat} {al : List (ByteArray × Int)} {rs : List (ByteArray × Value × List Nat)} {vA vR vF : Value} {fs : List (Int × Int × Int)} {lab : Int}
    (hm : Mf w0 w g al rs vA vR vF fs lab) (h : Ok al rs [] n) (hf : Fok al fs lab al.length) (hn : 1 ≤ n ∧ n ≤ 3) (ha : 1 ≤ al.length)
    (hk : Keeps w w' (some w0.heap.size)) (hb : Below w0.heap.size w w') : SchemaOut w0 g (.agg #[vA, vR, vF, .int .i64 lab]) w' := by
  have oa := hk.own hm.attr (hm.nb hm.attr (by omega))
  have or' := hk.own hm.rel (hm.nb hm.rel (by omega))
  have of' := hk.own hm.feat (hm.nb hm.feat (by omega))
  have oi : ∀ p ∈ rs, w'.ownsRow (w0.heap.size + 1 + 1) 3 1 p.2.1 p.2.2.length (natV p.2.2) := fun p hp => hk.own (hm.inner p hp) (hm.nb (hm.inner p hp) (by omega))
  have hl := h.len
  have hr := h.ri
  have hfl := hf.len
  have fA := own_form oa
  have fR := own_form or'
  have fF := own_form of'
  have sch : ∀ W : World, W.ownsRow (w0.heap.size + 1 + 1) 84 2 vA al.length (attrC al) → W.ownsRow (w0.heap.size + 1 + 1) 33 2 vR rs.length (relC rs) → W.ownsRow (w0.heap.size + 1 + 1) 86 3 vF fs.length (featC fs) →
      (∀ p ∈ rs, W.ownsRow (w0.heap.size + 1 + 1) 3 1 p.2.1 p.2.2.length (natV p.2.2)) → SchIn W (scOf al rs fs lab) ⟨ptrOf vA, capOf vA, ptrOf vR, capOf vR, ptrOf vF, capOf vF, fun i => slOf (rs.getD i rsD).2.1⟩ := by
    intro W oa' or'' of'' oi'
    refine ⟨own_attr oa', own_rel or'' fun p hp => ⟨_, _, _, (own_form (oi' p hp)).1⟩, own_feat of'', fun i hi => ?_, by show al.length ≤ 1000; omega, by show rs.length ≤ 1000; omega, by show fs.length ≤ 1000; omega, fA.2.1, fR.2.1, fF.2.1, fA.2.2.1, fR.2.2.1, fF.2.2.1, fun i hi => ?_, fun i hi => ?_⟩
    · replace hi : i < rs.length := hi
      have e := getDAt hi rsD
      have hp := oi' rs[i] (List.getElem_mem hi)
      have hx := h.rx rs[i] (List.getElem_mem hi)
      have hfm := own_form hp
      have hle : rs[i].2.2.length ≤ 6 := Nat.le_trans (pair_len hx.2.2 hx.2.1) hl
      show (slOf (rs.getD i rsD).2.1).2.1 = (rs.getD i rsD).2.2.length ∧ (rs.getD i rsD).2.2.length ≤ 1000 ∧ IntAt W (slOf (rs.getD i rsD).2.1).1 (rs.getD i rsD).2.2.length (fun j => (((rs.getD i rsD).2.2.getD j 0 : Nat) : Int))
      rw [e]
      refine ⟨?_, by omega, ?_⟩
      · rw [hfm.1]; rfl
      · have hs : (slOf rs[i].2.1).1 = ptrOf rs[i].2.1 := by rw [hfm.1]; rfl
        rw [hs]; exact own_ints hp
    · replace hi : i < al.length := hi
      show (al.getD i alD).1.size ≤ maxLen
      rw [getDAt hi, (h.an i hi).1]; show 2 ≤ maxLen; unfold maxLen; omega
    · replace hi : i < rs.length := hi
      show (rs.getD i rsD).1.size ≤ maxLen
      rw [getDAt hi, h.rn i hi]; show 2 ≤ maxLen; unfold maxLen; omega
  have far : ∀ {n size : Nat} {e : TypeId} {v : Value} {ys : List Value}, w'.ownsRow (w0.heap.size + 1 + 1) e size v n ys → ∀ b, v.ownBlock = some b → (some g : Option Nat) ≠ some b := fun ho b hb e => by
    have h1 := (ho.lt b hb).1
    have h2 := hm.gh
    injection e with e
    omega
  refine ⟨scOf al rs fs lab, ⟨ptrOf vA, capOf vA, ptrOf vR, capOf vR, ptrOf vF, capOf vF, fun i => slOf (rs.getD i rsD).2.1⟩, ?_, sch w' oa or' of' oi, sc_valid h hf hn ha, hl, (hm.late hb).1, (hm.late hb).2, fun W hW => sch W (hW.own oa (far oa)) (hW.own or' (far or')) (hW.own of' (far of')) fun p hp => hW.own (oi p hp) (far (oi p hp))⟩
  · rw [fA.1, fR.1, fF.1]; rfl
theorem sch_ret {w : World} {b : Nat} {v0 v1 v2 v3 : Value} {t : Array Value} (ht : t.getD 4 undef = .pointer (some ⟨b, 0, none⟩)) (c : w.heap[b]? = some (.cells #[v0, v1, v2, v3] 28 (0, 0))) :
    Sem.run Try.prog (results Try.f15 t) w = .ok (.agg #[v0, v1, v2, v3]) w := by
  have c0 : w.cell? ⟨b, 0, none⟩ = some v0 := cell_in c rfl
  have c1 : w.cell? ⟨b, 1, none⟩ = some v1 := cell_in c rfl
  have c2 : w.cell? ⟨b, 2, none⟩ = some v2 := cell_in c rfl
  have c3 : w.cell? ⟨b, 3, none⟩ = some v3 := cell_in c rfl
  have ht' : (t[4]?).getD undef = .pointer (some ⟨b, 0, none⟩) := by simpa using ht
  simp [results, Try.results15, go_sem, ht', c0, c1, c2, c3]
theorem sch_end {w0 w : World} {g n : Nat} {al : List (ByteArray × Int)} {rs : List (ByteArray × Value × List Nat)} {vA vR vF : Value} {fs : List (Int × Int × Int)} {lab : Int}
    (hm : Mf w0 w g al rs vA vR vF fs lab) (h : Ok al rs [] n) (hf : Fok al fs lab al.length) (hn : 1 ≤ n ∧ n ≤ 3) (ha : 1 ≤ al.length) {t : Array Value} (ht : t.getD 4 undef = .pointer (some ⟨w0.heap.size, 0, none⟩)) :
    bodyPost Try.prog Try.f15 (fun e w' => ∃ v, e = .returned v ∧ SchemaOut w0 g v w') Exit.ret ⟨t, []⟩
      ((((w.setCell ⟨w0.heap.size, 0, none⟩ vA).setCell ⟨w0.heap.size, 1, none⟩ vR).setCell ⟨w0.heap.size, 2, none⟩ vF).setCell ⟨w0.heap.size, 3, none⟩ (.int .i64 lab)) := by
  have hc := Lib.heap_setCell_same (Lib.heap_setCell_same (Lib.heap_setCell_same (Lib.heap_setCell_same hm.res (i := 0) vA) (i := 1) vR) (i := 2) vF) (i := 3) (.int .i64 lab)
  refine bodyPost_ret (v := .agg #[vA, vR, vF, .int .i64 lab]) (sch_ret ht hc) rfl ⟨_, rfl, mf_out hm h hf hn ha ((((Keeps.set _ _ _ _).trans (Keeps.set _ _ _ _)).trans (Keeps.set _ _ _ _)).trans (Keeps.set _ _ _ _)) ?_⟩
  exact ((((Below.refl _ _).setCell (p := ⟨w0.heap.size, 0, none⟩) (Nat.le_refl _) _).setCell (p := ⟨w0.heap.size, 1, none⟩) (Nat.le_refl _) _).setCell (p := ⟨w0.heap.size, 2, none⟩) (Nat.le_refl _) _).setCell (p := ⟨w0.heap.size, 3, none⟩) (Nat.le_refl _) _
theorem infoAttr : (Try.prog.info? 84).map (fun i => (i.zero, i.size, i.bytes)) = some (some (.agg #[.string ⟨#[]⟩, .int .i64 0]), 2, 24) := by kernel_rfl
theorem infoRel : (Try.prog.info? 33).map (fun i => (i.zero, i.size, i.bytes)) = some (some (.agg #[.string ⟨#[]⟩, .slice none 0 0]), 2, 40) := by kernel_rfl
theorem infoFeat : (Try.prog.info? 86).map (fun i => (i.zero, i.size, i.bytes)) = some (some (.agg #[.int .i64 0, .int .i64 0, .int .i64 0]), 3, 24) := by kernel_rfl
theorem names (i : Nat) : (⟨#[97]⟩ : ByteArray) ++ ⟨[UInt8.ofNat (97 + i)].toArray⟩ = nmL i := bytes_app [97] [UInt8.ofNat (97 + i)]
theorem rnames (i : Nat) : (⟨#[114]⟩ : ByteArray) ++ ⟨[UInt8.ofNat (97 + i)].toArray⟩ = rnL i := bytes_app [114] [UInt8.ofNat (97 + i)]
theorem own_slice {w : World} {base n size : Nat} {e : TypeId} {v : Value} {ys : List Value} (h : w.ownsRow base e size v n ys) : ∃ A c, v = .slice A n c := by
  rcases h.2 with ⟨rfl, rfl⟩ | ⟨g', cap, cur, rfl, _⟩
  · exact ⟨none, 0, rfl⟩
  · exact ⟨_, _, rfl⟩
end Go.Proofs.Ytiakgcaflnpmeaa
