/- The source of stage 7: lists of numbers, all numbers in some list. -/
import Derived.Test.YtiakgcaflnpmeaaAcS
import Derived.Test.YtiakgcaflnpmeaaAcH
import Derived.Test.YtiakgcaflnpmeaaShuf
import Derived.Test.YtiakgcaflnpmeaaSchS
namespace Go.Proofs.Ytiakgcaflnpmeaa
open Go Go.RowKit

set_option linter.unusedSimpArgs false in
set_option maxHeartbeats 6400000 in
set_option maxRecDepth 100000 in
theorem some_src {w : World} {g n : Nat} (h : SrcIn w g) (hn : n ≤ 100) :
    Calls Try.prog 32 #[.pointer (some ⟨g, 0, none⟩), .int .i64 (n : Int), .int .i64 2] w fun e w' => ∃ v xs, e = .returned v ∧ w'.ownsRow w.heap.size 3 1 v xs.length (natV xs) ∧ (∀ x, x ∈ xs → x < n) ∧ xs.Pairwise (· < ·) ∧ SrcIn w' g ∧ Src1 g w w' := by
  obtain ⟨ei, hi, hz, hss, hbs⟩ := info_parts infoInt
  have HI := Lib.hid (And.intro hi (And.intro hz (And.intro hss hbs)))
  clear hi hz hss hbs
  have hg := h.lt
  have H := Lib.hid h
  clear h
  go_enter Try.func32, Try.ntmps32
  go_wp2_with fail
  go_loopg [7, 8] n (fun gh sv iv wr => ∃ (v : Value) (i : Nat) (xs : List Nat), i + gh = n ∧ sv = v ∧ iv = .int .i64 (i : Int) ∧ Hid (wr.ownsRow w.heap.size 3 1 v xs.length (natV xs) ∧ (∀ x, x ∈ xs → x < i) ∧ xs.Pairwise (· < ·) ∧ xs.length ≤ i ∧ SrcIn wr g ∧ Src1 g w wr))
  case atStart => exact ⟨_, 0, [], by omega, rfl, rfl, Lib.hid ⟨⟨rfl, .inl ⟨rfl, rfl⟩⟩, fun _ h => absurd h (by simp), List.Pairwise.nil, Nat.le_refl _, H.out, Src1.refl g w⟩⟩
  case round =>
    obtain ⟨sv, i, xs, hi, hsv, rfl, HR⟩ := hrel
    have hsv2 := hsv.symm
    clear hsv
    subst hsv2
    by_cases hin : i < n
    · go_wp2_with fail
      refine (n_src 2 HR.out.2.2.2.2.1 (by omega) (by omega)).mono ?_
      rintro e w1 ⟨r, rfl, ⟨hr0, hr1⟩, hs, hb⟩
      have hxl := HR.out.2.2.2.1
      have H1 := Lib.hid (And.intro (own_srcS HR.out.1 hb hg) (And.intro hs (HR.out.2.2.2.2.2.trans hb)))
      have hsz1 := H1.out.2.2.1.size
      clear hs hb
      by_cases hr : r = 1
      · have hrb : (r == 1) = true := beq_iff_eq.2 hr
        clear hr
        go_wp2_with (at_builtin; refine wpList_append_own _ rfl (.tmp 20) (.tmp 22) 22 rfl w.heap.size 3 ei (.int .i64 0) 1 8 Try.underlying22 HI.out.1 HI.out.2.1 HI.out.2.2.1 HI.out.2.2.2 rfl (by decide) sv xs.length (natV xs) rfl (H1.out.1.alloc _) ⟨w1.heap.size, 0, none⟩ 1 1 [.int .i64 (i : Int)] rfl rfl (by intro j u hj; match j, hj with | 0, hj => simp at hj; subst hj; simp [Addr.add]) (by intro u hu; simp at hu; subst hu; rfl) (by unfold maxLen; omega) (by omega) (by have := H1.out.2.2.1.size; simp; omega) ?_; intro v' w2 hown2 hgrow2 hnil; have HG := Lib.hid (And.intro hown2 hgrow2); clear hown2 hgrow2 hnil)
        have hrow : ∀ k, sv.ownBlock = some k → w.heap.size ≤ k := fun k hk => (H1.out.1.lt k hk).1
        have hA := (Below.refl w1.heap.size w1).alloc (Nat.le_refl _) (.cells #[.int .i64 (i : Int)] 3)
        have hg1 : g ≤ w1.heap.size := by omega
        have hS := src1_grownS (H1.out.2.2.trans (Src1.below hA hg1)) hg HG.out.2 hrow
        have hB : Below w.heap.size (w1.alloc (.cells #[.int .i64 (i : Int)] 3)) w2 := (Below.refl _ _).grown HG.out.2 (by simp; omega) hrow
        have hI := srcBelowB (H1.out.2.1.below hA) hB hg
        have HF := Lib.hid (And.intro hI hS)
        clear hrow hA hg1 hS hB hI
        go_roundg (n - (i + 1))
        case measure => omega
        case rel =>
          refine ⟨_, i + 1, xs ++ [i], by omega, rfl, by go_num, Lib.hid ⟨?_, fun x hx => ?_, List.pairwise_append.2 ⟨HR.out.2.2.1, List.pairwise_singleton _ _, fun x hx y hy => by rw [List.mem_singleton] at hy; rw [hy]; exact HR.out.2.1 x hx⟩, by rw [List.length_append]; exact Nat.succ_le_succ hxl, HF.out⟩⟩
          · rw [natV_snoc, List.length_append]; exact HG.out.1
          · rcases List.mem_append.1 hx with hx | hx
            · exact Nat.lt_succ_of_lt (HR.out.2.1 x hx)
            · rw [List.mem_singleton] at hx; omega
      · have hrb : (r == 1) = false := beq_eq_false_iff_ne.2 hr
        clear hr
        go_wp2
        go_roundg (n - (i + 1))
        case measure => omega
        case rel => exact ⟨_, i + 1, xs, by omega, rfl, by go_num, Lib.hid ⟨H1.out.1, fun x hx => Nat.lt_succ_of_lt (HR.out.2.1 x hx), HR.out.2.2.1, Nat.le_succ_of_le hxl, H1.out.2⟩⟩
    · have ein : i = n := by omega
      have HF := Lib.hid (show ∀ x, x ∈ xs → x < n from ein ▸ HR.out.2.1)
      rw [ein]
      clear hin hi ein
      go_wp2_with fail
      go_ret
      exact ⟨_, xs, rfl, HR.out.1, HF.out, HR.out.2.2.1, HR.out.2.2.2.2⟩
/-- What lies in memory while the lists are made: the result's box, the headers, the lists. -/
structure RelS (w0 w : World) (g : Nat) (vl : Value) (ps : List (Value × List Nat)) : Prop where
  src : SrcIn w g
  gh : g < w0.heap.size
  keep : Src1 g w0 w
  res : w.heap[w0.heap.size]? = some (.cells #[.slice none 0 0, .slice none 0 0, .slice none 0 0, .int .i64 0] 28 (0, 0))
  own : w.ownsRow (w0.heap.size + 1) 22 1 vl ps.length (ps.map (·.1))
  inner : ∀ p, p ∈ ps → w.ownsRow (w0.heap.size + 1) 3 1 p.1 p.2.length (natV p.2)
section
variable {w0 w w' : World} {g : Nat} {vl : Value} {ps : List (Value × List Nat)}
theorem RelS.size (h : RelS w0 w g vl ps) : w0.heap.size + 1 ≤ w.heap.size := lt_of_block h.res
theorem RelS.step (h : RelS w0 w g vl ps) (hs : SrcIn w' g) (hk : Src1 g w w') : RelS w0 w' g vl ps := by
  have hg := h.gh
  exact ⟨hs, hg, h.keep.trans hk, (hk.2 _ (lt_of_block h.res) (by omega)).trans h.res, own_srcS h.own hk (by omega), fun p hp => own_srcS (h.inner p hp) hk (by omega)⟩
theorem RelS.below (h : RelS w0 w g vl ps) (hb : Below w.heap.size w w') : RelS w0 w' g vl ps :=
  h.step (h.src.below hb) (Src1.below hb (Nat.le_of_lt h.src.lt))
/-- One more list. -/
theorem RelS.push {w1 wn : World} {v' x : Value} {xs : List Nat} (h : RelS w0 w g vl ps) (h1 : Below w.heap.size w w1) (hx : w.ownsRow (w0.heap.size + 1) 3 1 x xs.length (natV xs)) (hown : wn.ownsRow (w0.heap.size + 1) 22 1 v' (ps.length + 1) (ps.map (·.1) ++ [x]))
    (hgrow : w1.grownBy wn vl.ownBlock) : RelS w0 wn g v' (ps ++ [(x, xs)]) := by
  have hm := h.below h1
  have hg := h.gh
  have hx1 := own_below' hx h1
  have k := Keeps.grown hgrow
  have hrow : ∀ b, vl.ownBlock = some b → w0.heap.size + 1 ≤ b := fun b hb => (h.own.lt b hb).1
  have hB : Below (w0.heap.size + 1) w1 wn := (Below.refl _ _).grown hgrow hm.size hrow
  have ap : ∀ {n : Nat} {v : Value} {ys : List Value}, w1.ownsRow (w0.heap.size + 1) 3 1 v n ys → ∀ b, v.ownBlock = some b → vl.ownBlock ≠ some b := fun ho b hb e => own_apart ho hm.own (by decide) b hb e
  refine ⟨hm.src.belowC hB (by omega), hg, src1_grownS hm.keep hg hgrow (fun b hb => by have := hrow b hb; omega), k.block hm.res (fun e => by have := hrow _ e; omega), by rw [List.length_append, List.map_append]; exact hown, fun p hp => ?_⟩
  rcases List.mem_append.1 hp with hp | hp
  · exact k.own (hm.inner p hp) (fun b hb e => ap (hm.inner p hp) b hb e)
  · rw [List.mem_singleton] at hp
    subst hp
    exact k.own hx1 (fun b hb e => ap hx1 b hb e)
/-- A list is replaced. -/
theorem RelS.put {b cap : Nat} {y : Value} {ys : List Nat} {k : Nat} (h : RelS w0 w g (.slice (some ⟨b, 0, none⟩) ps.length cap) ps) (hy : w.ownsRow (w0.heap.size + 1) 3 1 y ys.length (natV ys)) :
    RelS w0 (w.setCell ⟨b, k, none⟩ y) g (.slice (some ⟨b, 0, none⟩) ps.length cap) (ps.set k (y, ys)) := by
  have hg := h.gh
  obtain ⟨ho2, hg2⟩ := h.own.stored k y
  have kk := Keeps.grown hg2
  have hbb := (h.own.lt b rfl).1
  have hB : Below (w0.heap.size + 1) w (w.setCell ⟨b, k, none⟩ y) := (Below.refl _ _).setCell (p := ⟨b, k, none⟩) hbb _
  have ap : ∀ {n : Nat} {v : Value} {zs : List Value}, w.ownsRow (w0.heap.size + 1) 3 1 v n zs → ∀ r, v.ownBlock = some r → (some b : Option Nat) ≠ some r := fun ho r hr e => own_apart ho h.own (by decide) r hr e
  refine ⟨h.src.belowC hB (by omega), hg, src1_grownS h.keep hg hg2 (fun q e => by injection e with e; omega), kk.block h.res (fun e => by injection e; omega), by rw [List.length_set, List.map_set]; exact ho2, fun p hp => ?_⟩
  rcases List.mem_or_eq_of_mem_set hp with hp | hp
  · exact kk.own (h.inner p hp) (ap (h.inner p hp))
  · subst hp
    exact kk.own hy (ap hy)
theorem RelS.ll (h : RelS w0 w g vl ps) (hl : ∀ p, p ∈ ps → p.2.length ≤ 1000) : LL w (ptrOf vl) ps := by
  refine ⟨fun h0 => ?_, fun p hp => listAt_own (h.inner p hp) (hl p hp)⟩
  obtain ⟨b, e, hb, hc⟩ := (own_form h.own).2.2.2 h0
  refine ⟨b, 0, e, hb, fun i hi => (hc i (by omega)).trans ?_⟩
  simp [hi]
end
/-- What is known of the lists. -/
structure Lsd (ps : List (Value × List Nat)) : Prop where
  lt : ∀ p, p ∈ ps → ∀ x, x ∈ p.2 → x < 5
  up : ∀ p, p ∈ ps → p.2.Pairwise (· < ·)
  ne : ∀ p, p ∈ ps → p.2 ≠ []
theorem Lsd.len {ps : List (Value × List Nat)} (h : Lsd ps) : ∀ p, p ∈ ps → p.2.length ≤ 5 := fun p hp => pair_len (h.up p hp) (h.lt p hp)
/-- A number put into an ascending list. -/
def ins (xs : List Nat) (a : Nat) : List Nat := (xs.filter fun b => decide (b < a)) ++ [a] ++ xs.filter fun b => decide (a < b)
theorem ins_mem {xs : List Nat} {a x : Nat} (ha : a ∉ xs) : x ∈ ins xs a ↔ x ∈ xs ∨ x = a := by
  unfold ins
  simp only [List.mem_append, List.mem_filter, List.mem_singleton, decide_eq_true_eq]
  constructor
  · rintro ((h | h) | h)
    · exact .inl h.1
    · exact .inr h
    · exact .inl h.1
  · rintro (h | h)
    · rcases Nat.lt_trichotomy x a with h1 | h1 | h1
      · exact .inl (.inl ⟨h, h1⟩)
      · exact absurd (h1 ▸ h) ha
      · exact .inr ⟨h, h1⟩
    · exact .inl (.inr h)
theorem ins_up {xs : List Nat} {a : Nat} (h : xs.Pairwise (· < ·)) : (ins xs a).Pairwise (· < ·) := by
  unfold ins
  refine List.pairwise_append.2 ⟨List.pairwise_append.2 ⟨h.filter _, List.pairwise_singleton _ _, fun x hx y hy => ?_⟩, h.filter _, fun x hx y hy => ?_⟩
  · rw [List.mem_filter, decide_eq_true_eq] at hx
    rw [List.mem_singleton] at hy
    omega
  · rw [List.mem_filter, decide_eq_true_eq] at hy
    rcases List.mem_append.1 hx with hx | hx
    · rw [List.mem_filter, decide_eq_true_eq] at hx; omega
    · rw [List.mem_singleton] at hx; omega
theorem Lsd.put {ps : List (Value × List Nat)} (h : Lsd ps) {k a : Nat} (hk : k < ps.length) (ha : a < 5) (hn : a ∉ (ps[k]).2) (v : Value) : Lsd (ps.set k (v, ins (ps[k]).2 a)) := by
  have hm := List.getElem_mem hk
  refine ⟨fun p hp => ?_, fun p hp => ?_, fun p hp => ?_⟩
  · rcases List.mem_or_eq_of_mem_set hp with hp | rfl
    · exact h.lt p hp
    · intro x hx
      rcases (ins_mem hn).1 hx with hx | rfl
      · exact h.lt _ hm x hx
      · exact ha
  · rcases List.mem_or_eq_of_mem_set hp with hp | rfl
    · exact h.up p hp
    · exact ins_up (h.up _ hm)
  · rcases List.mem_or_eq_of_mem_set hp with hp | rfl
    · exact h.ne p hp
    · intro e
      have : a ∈ ins (ps[k]).2 a := (ins_mem hn).2 (.inr rfl)
      have e' : ins (ps[k]).2 a = [] := e
      rw [e'] at this
      exact absurd this (by simp)
def Cov (ps : List (Value × List Nat)) (a : Nat) : Prop := ∃ p, p ∈ ps ∧ a ∈ p.2
theorem Cov.put {ps : List (Value × List Nat)} {k a c : Nat} (hk : k < ps.length) (hn : a ∉ (ps[k]).2) (v : Value) (h : Cov ps c) : Cov (ps.set k (v, ins (ps[k]).2 a)) c := by
  obtain ⟨p, hp, hc⟩ := h
  obtain ⟨j, hj, rfl⟩ := List.getElem_of_mem hp
  by_cases e : j = k
  · subst e
    exact ⟨_, List.mem_set hk _, (ins_mem hn).2 (.inl hc)⟩
  · refine ⟨ps[j], ?_, hc⟩
    have : (ps.set k (v, ins (ps[k]).2 a))[j]'(by rw [List.length_set]; exact hj) = ps[j] := by rw [List.getElem_set_ne (fun e2 => e e2.symm)]
    rw [← this]
    exact List.getElem_mem _
theorem Cov.new {ps : List (Value × List Nat)} {k a : Nat} (hk : k < ps.length) (hn : a ∉ (ps[k]).2) (v : Value) : Cov (ps.set k (v, ins (ps[k]).2 a)) a :=
  ⟨_, List.mem_set hk _, (ins_mem hn).2 (.inr rfl)⟩
theorem infoInts : (Try.prog.info? 22).map (fun i => (i.zero, i.size, i.bytes)) = some (some (.slice none 0 0), 1, 24) := by kernel_rfl
theorem filt_snoc {q : Nat → Bool} {l : List Nat} {i : Nat} (h : i < l.length) : (l.take (i + 1)).filter q = (l.take i).filter q ++ (if q (l.getD i 0) then [l.getD i 0] else []) := by
  rw [take_snoc h 0, List.filter_append, List.filter_cons]
  rfl
theorem filt_len {q : Nat → Bool} {l : List Nat} {i : Nat} : ((l.take i).filter q).length ≤ l.length := Nat.le_trans (List.length_filter_le _ _) (by rw [List.length_take]; omega)
/-- What relations gives. -/
def RelOut (w0 : World) (g : Nat) (v : Value) (w : World) : Prop := ∃ ps, (∃ V : Sv, v = .agg #[.slice V.A (schS ps).na V.ca, .slice V.R (schS ps).nr V.cr, .slice V.F (schS ps).nf V.cf, .int .i64 (schS ps).label] ∧ SchIn w (schS ps) V ∧ ∀ W, Keeps w W (some g) → SchIn W (schS ps) V) ∧ Lsd ps ∧ 1 ≤ ps.length ∧ ps.length ≤ 5 ∧ (∀ a, a < 5 → Cov ps a) ∧ SrcIn w g ∧ Src1 g w0 w
theorem cell_keep {w w' : World} {r b off : Nat} (hk : Keeps w w' (some r)) (hb : b < w.heap.size) (hne : b ≠ r) : w'.cell? ⟨b, off, none⟩ = w.cell? ⟨b, off, none⟩ := by
  unfold World.cell?
  rw [hk.2 b hb (fun e => hne (by injection e with e; exact e.symm))]
theorem SchIn.other {w w' : World} {S : Sc} {V : Sv} {r : Nat} (h : SchIn w S V) (hk : Keeps w w' (some r)) (hA : ∀ b off, V.A = some ⟨b, off, none⟩ → b ≠ r) (hR : ∀ b off, V.R = some ⟨b, off, none⟩ → b ≠ r) (hF : S.nf = 0)
    (hL : ∀ i, i < S.nr → ∀ b off, (V.L i).1 = some ⟨b, off, none⟩ → b ≠ r) : SchIn w' S V :=
  { attr := fun h0 => by
      obtain ⟨b, off, e, hb, hc⟩ := h.attr h0
      exact ⟨b, off, e, Nat.lt_of_lt_of_le hb hk.1, fun i hi => ⟨(cell_keep hk hb (hA b off e)).trans (hc i hi).1, (cell_keep hk hb (hA b off e)).trans (hc i hi).2⟩⟩
    rel := fun h0 => by
      obtain ⟨b, off, e, hb, hc⟩ := h.rel h0
      exact ⟨b, off, e, Nat.lt_of_lt_of_le hb hk.1, fun i hi => ⟨(cell_keep hk hb (hR b off e)).trans (hc i hi).1, (cell_keep hk hb (hR b off e)).trans (hc i hi).2⟩⟩
    feat := fun h0 => by omega
    ints := fun i hi => by
      obtain ⟨h1, h2, h3⟩ := h.ints i hi
      refine ⟨h1, h2, fun h0 => ?_⟩
      obtain ⟨b, off, e, hb, hc⟩ := h3 h0
      exact ⟨b, off, e, Nat.lt_of_lt_of_le hb hk.1, fun j hj => (cell_keep hk hb (hL i hi b off e)).trans (hc j hj)⟩
    na := h.na, nr := h.nr, nf := h.nf, ca := h.ca, cr := h.cr, cf := h.cf, cam := h.cam, crm := h.crm, cfm := h.cfm, ns := h.ns, rs := h.rs }
theorem rel_ret {w : World} {b : Nat} {v0 v1 v2 v3 : Value} {t : Array Value} (ht : t.getD 2 undef = .pointer (some ⟨b, 0, none⟩)) (c : w.heap[b]? = some (.cells #[v0, v1, v2, v3] 28 (0, 0))) :
    Sem.run Try.prog (results Try.f9 t) w = .ok (.agg #[v0, v1, v2, v3]) w := by
  have c0 : w.cell? ⟨b, 0, none⟩ = some v0 := cell_in c rfl
  have c1 : w.cell? ⟨b, 1, none⟩ = some v1 := cell_in c rfl
  have c2 : w.cell? ⟨b, 2, none⟩ = some v2 := cell_in c rfl
  have c3 : w.cell? ⟨b, 3, none⟩ = some v3 := cell_in c rfl
  have ht' : (t[2]?).getD undef = .pointer (some ⟨b, 0, none⟩) := by simpa using ht
  simp [results, Try.results9, go_sem, ht', c0, c1, c2, c3]
theorem rel_end {w0 w w1 : World} {g : Nat} {vl v0 v1 v2 v3 : Value} {ps : List (Value × List Nat)} (h : RelS w0 w g vl ps) (hb : Below w.heap.size w w1) (hn : SchNew w w1 (.agg #[v0, v1, v2, v3]) ps) (hd : Lsd ps) (h1 : 1 ≤ ps.length) (h5 : ps.length ≤ 5) (hc : ∀ a, a < 5 → Cov ps a) {t : Array Value} (ht : t.getD 2 undef = .pointer (some ⟨w0.heap.size, 0, none⟩)) :
    bodyPost Try.prog Try.f9 (fun e w' => ∃ v, e = .returned v ∧ RelOut w0 g v w') Exit.ret ⟨t, []⟩
      ((((w1.setCell ⟨w0.heap.size, 0, none⟩ v0).setCell ⟨w0.heap.size, 1, none⟩ v1).setCell ⟨w0.heap.size, 2, none⟩ v2).setCell ⟨w0.heap.size, 3, none⟩ v3) := by
  have hr := (hb.block _ (lt_of_block h.res)).trans h.res
  have hcc := Lib.heap_setCell_same (Lib.heap_setCell_same (Lib.heap_setCell_same (Lib.heap_setCell_same hr (i := 0) v0) (i := 1) v1) (i := 2) v2) (i := 3) v3
  have hbb := ((((Below.refl w0.heap.size w1).setCell (p := ⟨w0.heap.size, 0, none⟩) (Nat.le_refl _) v0).setCell (p := ⟨w0.heap.size, 1, none⟩) (Nat.le_refl _) v1).setCell (p := ⟨w0.heap.size, 2, none⟩) (Nat.le_refl _) v2).setCell (p := ⟨w0.heap.size, 3, none⟩) (Nat.le_refl _) v3
  have hk := (((Keeps.set w1 w0.heap.size 0 v0).trans (Keeps.set _ _ 1 v1)).trans (Keeps.set _ _ 2 v2)).trans (Keeps.set _ _ 3 v3)
  have hg := h.gh
  have hsz := h.size
  obtain ⟨V, e, hS, hA, hR, hL⟩ := hn
  have hk1 := h.keep.trans (Src1.below hb (Nat.le_of_lt h.src.lt))
  have hLb : ∀ i, i < (schS ps).nr → ∀ b off, (V.L i).1 = some ⟨b, off, none⟩ → w0.heap.size + 1 ≤ b := fun i hi b off e => by
    have hi : i < ps.length := by rw [show (schS ps).nr = ps.length from rsK_len ps ps.length] at hi; exact hi
    rw [hL i hi, show ps.getD i psD = ps[i] by simp [List.getD, hi]] at e
    have ho := h.inner _ (List.getElem_mem hi)
    obtain ⟨A1, c1, e1⟩ := own_slice ho
    rw [e1] at e
    exact own_ptr ho b off (by rw [e1]; exact e)
  have hS' := hS.other hk (fun b off e => by have := hA b off e; omega) (fun b off e => by have := hR b off e; omega) rfl fun i hi b off e => by have := hLb i hi b off e; omega
  refine bodyPost_ret (v := .agg #[v0, v1, v2, v3]) (rel_ret ht hcc) rfl ⟨_, rfl, ps, ⟨V, e, hS', fun W hW => ?_⟩, hd, h1, h5, hc, (h.src.below hb).belowC hbb hg, ⟨hk1.1.trans (hbb.mono (Nat.le_of_lt hg)), fun k hk' hne => (hbb.block k hk').trans (hk1.2 k hk' hne)⟩⟩
  exact hS'.other hW (fun b off e => by have := hA b off e; omega) (fun b off e => by have := hR b off e; omega) rfl fun i hi b off e => by have := hLb i hi b off e; omega
set_option linter.unusedSimpArgs false in
set_option maxHeartbeats 12800000 in
set_option maxRecDepth 100000 in
theorem relations_any {w : World} {g : Nat} (h : SrcIn w g) :
    Calls Try.prog 9 #[.pointer (some ⟨g, 0, none⟩)] w fun e w' => ∃ v, e = .returned v ∧ RelOut w g v w' := by
  obtain ⟨ei, hi, hz, hss, hbs⟩ := info_parts infoInt
  have HI := Lib.hid (And.intro hi (And.intro hz (And.intro hss hbs)))
  clear hi hz hss hbs
  obtain ⟨el, hi, hz, hss, hbs⟩ := info_parts infoInts
  have HIL := Lib.hid (And.intro hi (And.intro hz (And.intro hss hbs)))
  clear hi hz hss hbs
  have hg := h.lt
  have h0 : RelS w (w.alloc (.cells #[.slice none 0 0, .slice none 0 0, .slice none 0 0, .int .i64 0] 28)) g (.slice none 0 0) [] :=
    ⟨h.alloc _, hg, Src1.below ((Below.refl _ _).alloc (Nat.le_refl _) _) (Nat.le_of_lt hg), heap_alloc_new w _, World.ownsRow_nil _ _ _ _, fun _ hp => absurd hp (by simp)⟩
  have H := Lib.hid h0
  clear h h0
  go_enter Try.func9, Try.ntmps9
  go_wp2_with fail
  refine (n_src 5 H.out.src (by omega) (by omega)).mono ?_
  rintro e w1 ⟨r, rfl, ⟨hr0, hr1⟩, hs, hb⟩
  obtain ⟨n, rfl⟩ : ∃ n : Nat, r = (n : Int) := ⟨r.toNat, by omega⟩
  have H1 := Lib.hid (H.out.step hs hb)
  clear hs hb
  go_wp2_with fail
  go_loopg [4, 5] (n + 1) (fun gg s4 s5 wr => ∃ (v : Value) (i : Nat) (ps : List (Value × List Nat)), i + gg = n + 1 ∧ s4 = v ∧ s5 = .int .i64 (i : Int) ∧ Hid (ps.length = i ∧ Lsd ps ∧ RelS w wr g v ps))
  case atStart => exact ⟨_, 0, [], by omega, rfl, rfl, Lib.hid ⟨rfl, ⟨fun _ h => absurd h (by simp), fun _ h => absurd h (by simp), fun _ h => absurd h (by simp)⟩, H1.out⟩⟩
  case round =>
    clear H1
    obtain ⟨sv, i, ps, hi, hsv, rfl, HR⟩ := hrel
    have hsv2 := hsv.symm
    clear hsv
    subst hsv2
    by_cases hlt : i < n + 1
    · go_wp2_with fail
      refine (some_src (n := 5) HR.out.2.2.src (by omega)).mono ?_
      rintro e w2 ⟨vx, xs, rfl, ho, hx5, hup, hs, hb⟩
      obtain ⟨XA, xc, hvx⟩ := own_slice ho
      subst hvx
      have hszr := HR.out.2.2.size
      have H2 := Lib.hid (And.intro (HR.out.2.2.step hs hb) (own_base (base' := w.heap.size + 1) ho hszr))
      have HX := Lib.hid (And.intro hx5 hup)
      clear hs hb ho hx5 hup
      go_upto_if 29 with fail
      go_cut [6] (fun s6 wy => ∃ (XA : Option Addr) (xc : Nat) (xs : List Nat), s6 = .slice XA xs.length xc ∧ Hid (RelS w wy g sv ps ∧ wy.ownsRow (w.heap.size + 1) 3 1 (.slice XA xs.length xc) xs.length (natV xs) ∧ (∀ x, x ∈ xs → x < 5) ∧ xs.Pairwise (· < ·) ∧ xs ≠ []))
      case first =>
        by_cases hz : xs.length = 0
        · have hzb : ((xs.length : Int) == 0) = true := by rw [beq_iff_eq]; omega
          have hzi : (xs.length : Int) = 0 := by omega
          clear hz
          go_wp2_with fail
          refine (n_src 5 H2.out.1.src (by omega) (by omega)).mono ?_
          rintro e w3 ⟨r, rfl, ⟨hr0, hr1⟩, hs, hb⟩
          obtain ⟨k, rfl⟩ : ∃ k : Nat, r = (k : Int) := ⟨r.toNat, by omega⟩
          have hR3 := H2.out.1.step hs hb
          have hlit : (w3.alloc (.cells #[.int .i64 (k : Int)] 3)).ownsRow (w.heap.size + 1) 3 1 (.slice (some ⟨w3.heap.size, 0, none⟩) 1 1) 1 (natV [k]) := World.ownsRow_lit w3 #[.int .i64 (k : Int)] 1 hR3.size (by decide) rfl
          have H3 := Lib.hid (And.intro (hR3.below ((Below.refl _ _).alloc (Nat.le_refl _) (.cells #[.int .i64 (k : Int)] 3))) hlit)
          clear hs hb hR3 hlit
          go_wp2_with fail
          go_meet
          exact ⟨some ⟨w3.heap.size, 0, none⟩, 1, [k], rfl, Lib.hid ⟨H3.out.1, H3.out.2, fun x hx => by rw [List.mem_singleton] at hx; omega, List.pairwise_singleton _ _, by simp⟩⟩
        · have hzb : ((xs.length : Int) == 0) = false := by rw [beq_eq_false_iff_ne]; omega
          have hzi : ¬ (xs.length : Int) = 0 := by omega
          have HZ := Lib.hid hz
          clear hz
          go_wp2_with fail
          go_meet
          exact ⟨XA, xc, xs, rfl, Lib.hid ⟨H2.out.1, H2.out.2, HX.out.1, HX.out.2, fun e => HZ.out (by rw [e]; rfl)⟩⟩
      obtain ⟨YA, yc, ys, rfl, HY⟩ := hcut
      clear H2 HX
      have HN := Lib.hid (And.intro HR.out.1 HR.out.2.1)
      have hpl : ps.length ≤ 5 := by rw [HR.out.1]; omega
      have hszy := HY.out.1.size
      clear HR
      go_wp2_with (at_builtin; refine wpList_append_own_at _ rfl (.tmp 33) (.tmp 35) 63 rfl (w.heap.size + 1) 22 el (.slice none 0 0) 1 24 Try.underlying63 HIL.out.1 HIL.out.2.1 HIL.out.2.2.1 HIL.out.2.2.2 rfl (by decide) sv ps.length (ps.map (·.1)) rfl (HY.out.1.own.alloc _) ⟨wc.heap.size, 0, none⟩ 1 1 [.slice YA ys.length yc] rfl rfl (by intro j u hj; match j, hj with | 0, hj => simp at hj; subst hj; simp [Addr.add]) (by intro u hu; simp at hu; subst hu; rfl) (by unfold maxLen; omega) (by omega) (by simp; omega) ?_; intro v' w3 hown hgrow hnil hblk; have HO := Lib.hid (And.intro hown hgrow); clear hown hgrow hnil hblk)
      have HP := Lib.hid (HY.out.1.push (x := .slice YA ys.length yc) (xs := ys) ((Below.refl _ _).alloc (Nat.le_refl _) (.cells #[.slice YA ys.length yc] 22)) HY.out.2.1 HO.out.1 HO.out.2)
      clear HO
      go_wp2
      go_roundg (n + 1 - (i + 1))
      case measure => omega
      case rel =>
        refine ⟨v', i + 1, ps ++ [(.slice YA ys.length yc, ys)], by omega, rfl, by go_num, Lib.hid ⟨by rw [List.length_append, HN.out.1]; rfl, ⟨fun p hp => ?_, fun p hp => ?_, fun p hp => ?_⟩, HP.out⟩⟩
        · rcases List.mem_append.1 hp with hp | hp
          · exact HN.out.2.lt p hp
          · rw [List.mem_singleton] at hp; subst hp; exact HY.out.2.2.1
        · rcases List.mem_append.1 hp with hp | hp
          · exact HN.out.2.up p hp
          · rw [List.mem_singleton] at hp; subst hp; exact HY.out.2.2.2.1
        · rcases List.mem_append.1 hp with hp | hp
          · exact HN.out.2.ne p hp
          · rw [List.mem_singleton] at hp; subst hp; exact HY.out.2.2.2.2
    · have ein : i = n + 1 := by omega
      have HN := Lib.hid (show 1 ≤ ps.length ∧ ps.length ≤ 5 by rw [HR.out.1]; omega)
      obtain ⟨LA, lc, hvl⟩ := own_slice HR.out.2.2.own
      subst hvl
      have HB := Lib.hid HR.out.2
      have hdi : decide ((i : Int) < 1 + (n : Int)) = false := decide_eq_false (by omega)
      clear ein HR
      go_wp2_with fail
      go_loopg [7] 5 (fun gg s7 wr => ∃ (a : Nat) (qs : List (Value × List Nat)), a + gg = 5 ∧ s7 = .int .i64 (a : Int) ∧ Hid (qs.length = ps.length ∧ Lsd qs ∧ (∀ c, c < a → Cov qs c) ∧ RelS w wr g (.slice LA ps.length lc) qs))
      case atStart => exact ⟨0, ps, by omega, rfl, Lib.hid ⟨rfl, HB.out.1, fun _ h => absurd h (by omega), HB.out.2⟩⟩
      case round =>
        clear HB
        obtain ⟨a, qs, ha, rfl, HR⟩ := hrel
        by_cases ha5 : a < 5
        · obtain ⟨bL, capL, eL, hbL⟩ := HR.out.2.2.2.own.form (by have := HR.out.1; have := HN.out.1; omega)
          obtain ⟨e1, e3⟩ : LA = some ⟨bL, 0, none⟩ ∧ capL = lc := by
            injection eL with e1 e2 e3
            exact ⟨e1, e3.symm⟩
          subst e1 e3
          clear eL
          have hll := HR.out.2.2.2.ll fun p hp => Nat.le_trans (HR.out.2.1.len p hp) (by omega)
          have hql := HR.out.1
          have HLL := Lib.hid hll
          clear hll
          have ha0 : (0 : Int) ≤ (a : Int) := by omega
          have hps5 : ps.length ≤ 5 := HN.out.2
          have hda : decide ((a : Int) < 5) = true := decide_eq_true (by omega)
          generalize wr = w5 at *
          go_wp2_with fail
          go_loopg [8, 43] ps.length (fun gg s8 s43 wx => ∃ (f : Bool) (j : Nat), j + gg = ps.length ∧ s8 = .bool f ∧ s43 = .int .i64 (j : Int) ∧ Hid (wx = w5 ∧ f = (qs.take j).any fun p => decide (a ∈ p.2)))
          case atStart => exact ⟨false, 0, by omega, rfl, rfl, Lib.hid ⟨rfl, rfl⟩⟩
          case round =>
            obtain ⟨f, j, hj, rfl, rfl, HX⟩ := hrel
            obtain rfl : wr = w5 := HX.out.1
            by_cases hjl : j < ps.length
            · have hjq : j < qs.length := by omega
              obtain ⟨b, off, e0, hbl, hc⟩ := HLL.out.1 (by omega)
              have c0 := hc j hjq
              obtain ⟨rfl, rfl⟩ : b = bL ∧ off = 0 := by
                have e0 : (some ⟨bL, 0, none⟩ : Option Addr) = some ⟨b, off, none⟩ := e0
                injection e0 with e0
                injection e0 with e1 e2
                exact ⟨e1.symm, e2.symm⟩
              have hli := HLL.out.2 _ (List.getElem_mem hjq)
              have hin := in_any (a := a) hli
              obtain ⟨XA, xc, ex, h9, h10⟩ := hli
              have hts : (qs.take (j + 1)).any (fun p => decide (a ∈ p.2)) = (f || decide (a ∈ (qs[j]).2)) := by
                rw [take_snoc hjq psD, List.any_append, ← HX.out.2, show qs.getD j psD = qs[j] by simp [List.getD, hjq]]
                simp
              obtain ⟨p, hp⟩ : ∃ p, p = qs[j] := ⟨_, rfl⟩
              rw [← hp] at c0 hin ex hts
              rw [ex, Nat.zero_add] at c0
              rw [ex] at hin
              have HT := Lib.hid hts
              clear hc hts hp h9 h10 hjq e0
              cases f with
              | true =>
                go_wp2
                go_roundg (ps.length - (j + 1))
                case measure => omega
                case rel => exact ⟨true, j + 1, by omega, rfl, by go_num, Lib.hid ⟨rfl, by rw [HT.out]; rfl⟩⟩
              | false =>
                obtain ⟨q, hq⟩ : ∃ q, q = decide (a ∈ p.2) := ⟨_, rfl⟩
                rw [← hq] at hin
                have HQ := Lib.hid hq
                clear hq
                go_wp2_with fail
                refine hin.mono ?_
                rintro e w6 ⟨rfl, rfl⟩
                go_wp2
                go_roundg (ps.length - (j + 1))
                case measure => omega
                case rel => exact ⟨q, j + 1, by omega, rfl, by go_num, Lib.hid ⟨rfl, by rw [HT.out, ← HQ.out]; rfl⟩⟩
            · have ejl : j = ps.length := by omega
              have hff : f = qs.any fun p => decide (a ∈ p.2) := by rw [HX.out.2, ejl, ← hql, List.take_length]
              rw [ejl]
              clear hjl hj ejl
              cases f with
              | true =>
                have HF := Lib.hid (show Cov qs a by
                  obtain ⟨p, hp, h1⟩ := List.any_eq_true.1 hff.symm
                  exact ⟨p, hp, of_decide_eq_true h1⟩)
                clear hff HX
                go_wp2
                go_roundg (5 - (a + 1))
                case measure => omega
                case rel => exact ⟨a + 1, qs, by omega, by go_num, Lib.hid ⟨hql, HR.out.2.1, fun c hc => by
                  by_cases e : c = a
                  · rw [e]; exact HF.out
                  · exact HR.out.2.2.1 c (by omega), HR.out.2.2.2⟩⟩
              | false =>
                have HF := Lib.hid (show ∀ p, p ∈ qs → a ∉ p.2 from fun p hp => of_decide_eq_false (by simpa using List.any_eq_false.1 hff.symm p hp))
                clear hff HX
                have hp0 : 0 < ps.length := HN.out.1
                have hp5 : ps.length ≤ 5 := HN.out.2
                go_wp2_with fail
                refine (n_src (ps.length : Int) HR.out.2.2.2.src (by omega) (by omega)).mono ?_
                rintro e w6 ⟨r, rfl, ⟨hr0, hr1⟩, hs, hb⟩
                obtain ⟨k, rfl⟩ : ∃ k : Nat, r = (k : Int) := ⟨r.toNat, by omega⟩
                have hR6 := HR.out.2.2.2.step hs hb
                have hkq : k < qs.length := by omega
                have hl6 := hR6.ll fun p hp => Nat.le_trans (HR.out.2.1.len p hp) (by omega)
                have hgk : (qs.getD k psD) = qs[k] := by simp [List.getD, hkq]
                obtain ⟨b, off, e0, hbl, hc⟩ := hl6.1 (by omega)
                obtain ⟨rfl, rfl⟩ : b = bL ∧ off = 0 := by
                  have e0 : (some ⟨bL, 0, none⟩ : Option Addr) = some ⟨b, off, none⟩ := e0
                  injection e0 with e0
                  injection e0 with e1 e2
                  exact ⟨e1.symm, e2.symm⟩
                have c0 := hc k hkq
                have hli := hl6.2 _ (List.getElem_mem hkq)
                obtain ⟨XA, xc, ex, h9, h10⟩ := hli
                have hlen := HR.out.2.1.len _ (List.getElem_mem hkq)
                have hna := HF.out _ (List.getElem_mem hkq)
                have hputs := fun v => And.intro (HR.out.2.1.put hkq ha5 hna v) (And.intro (Cov.new hkq hna v) fun c hc => Cov.put (a := a) hkq hna v (HR.out.2.2.1 c hc))
                obtain ⟨xs, hxs⟩ : ∃ xs, xs = (qs[k]).2 := ⟨_, rfl⟩
                rw [ex] at c0
                simp only [← hxs] at c0 h9 h10 hlen hputs
                have HPU := Lib.hid hputs
                have H6 := Lib.hid (And.intro hR6 h10)
                have hsz6 := hR6.size
                rw [Nat.zero_add] at c0
                clear hc hputs hna hxs ex hgk hl6 hs hb hR6 e0 HR h9 h10
                have hk0 : (0 : Int) ≤ (k : Int) := by omega
                have hk1 : (k : Int) < (ps.length : Int) := by omega
                go_wp2_with fail
                go_loopg [11, 65] xs.length (fun gg s11 s65 wx => ∃ (v : Value) (j : Nat), j + gg = xs.length ∧ s11 = v ∧ s65 = .int .i64 (j : Int) ∧ Hid (Below w6.heap.size w6 wx ∧ wx.ownsRow w6.heap.size 3 1 v ((xs.take j).filter fun b => decide (b < a)).length (natV ((xs.take j).filter fun b => decide (b < a)))))
                case atStart => exact ⟨_, 0, by omega, rfl, rfl, Lib.hid ⟨Below.refl _ _, ⟨rfl, .inl ⟨rfl, rfl⟩⟩⟩⟩
                case round =>
                  obtain ⟨sv, j, hj, hsv, rfl, HX⟩ := hrel
                  have hsv2 := hsv.symm
                  clear hsv
                  subst hsv2
                  by_cases hjl : j < xs.length
                  · obtain ⟨b', off', rfl, hbl', hc'⟩ := (H6.out.2.below HX.out.1) (by omega)
                    have c1 : wr.cell? ⟨b', off' + j, none⟩ = some (.int .i64 ((xs.getD j 0 : Nat) : Int)) := hc' j hjl
                    have hfs := filt_snoc (q := fun b => decide (b < a)) hjl
                    have hfl := filt_len (q := fun b => decide (b < a)) (l := xs) (i := j)
                    obtain ⟨y, hy⟩ : ∃ y, y = xs.getD j 0 := ⟨_, rfl⟩
                    simp only [← hy] at c1 hfs
                    have hszx := HX.out.1.size
                    clear hbl' hc' hy
                    by_cases hya : y < a
                    · have hyi : (y : Int) < (a : Int) := by omega
                      have HQ := Lib.hid (show (xs.take (j + 1)).filter (fun b => decide (b < a)) = (xs.take j).filter (fun b => decide (b < a)) ++ [y] by rw [hfs, decide_eq_true hya]; rfl)
                      clear hfs hya
                      go_wp2_with (at_builtin; refine wpList_append_own_at _ rfl (.tmp 72) (.tmp 74) 22 rfl w6.heap.size 3 ei (.int .i64 0) 1 8 Try.underlying22 HI.out.1 HI.out.2.1 HI.out.2.2.1 HI.out.2.2.2 rfl (by decide) sv ((xs.take j).filter fun b => decide (b < a)).length (natV ((xs.take j).filter fun b => decide (b < a))) rfl (HX.out.2.alloc _) ⟨wr.heap.size, 0, none⟩ 1 1 [.int .i64 (y : Int)] rfl rfl (by intro j u hj; match j, hj with | 0, hj => simp at hj; subst hj; simp [Addr.add]) (by intro u hu; simp at hu; subst hu; rfl) (by unfold maxLen; omega) (by omega) (by simp; omega) ?_; intro v' w7 hown hgrow hnil hblk; have HO := Lib.hid (And.intro hown hgrow); clear hown hgrow hnil hblk)
                      have hrow : ∀ k, sv.ownBlock = some k → w6.heap.size ≤ k := fun k hk => (HX.out.2.lt k hk).1
                      have hB2 : Below w6.heap.size w6 w7 := ((HX.out.1.alloc hszx (.cells #[.int .i64 (y : Int)] 3)).grown HO.out.2 (by simp; omega) hrow)
                      have HB2 := Lib.hid hB2
                      clear hrow hB2
                      go_wp2
                      go_roundg (xs.length - (j + 1))
                      case measure => omega
                      case rel => exact ⟨_, j + 1, by omega, rfl, by go_num, Lib.hid ⟨HB2.out, by rw [HQ.out, natV_snoc, List.length_append]; exact HO.out.1⟩⟩
                    · have hyi : ¬ (y : Int) < (a : Int) := by omega
                      have HQ := Lib.hid (show (xs.take (j + 1)).filter (fun b => decide (b < a)) = (xs.take j).filter (fun b => decide (b < a)) by rw [hfs, decide_eq_false hya]; simp)
                      clear hfs hya
                      go_wp2
                      go_roundg (xs.length - (j + 1))
                      case measure => omega
                      case rel => exact ⟨_, j + 1, by omega, rfl, by go_num, Lib.hid ⟨HX.out.1, by rw [HQ.out]; exact HX.out.2⟩⟩
                  · have ejl : j = xs.length := by omega
                    have hown := HX.out.2
                    rw [ejl, List.take_length] at hown
                    have HW := Lib.hid (And.intro HX.out.1 hown)
                    have hfl : (xs.filter fun b => decide (b < a)).length ≤ 5 := Nat.le_trans (List.length_filter_le _ _) hlen
                    have hszx := HX.out.1.size
                    rw [ejl]
                    clear hjl hj ejl HX hown
                    generalize wr = w7 at *
                    go_upto_region 29 with (at_builtin; refine wpList_append_own_at _ rfl (.tmp 77) (.tmp 79) 22 rfl w6.heap.size 3 ei (.int .i64 0) 1 8 Try.underlying22 HI.out.1 HI.out.2.1 HI.out.2.2.1 HI.out.2.2.2 rfl (by decide) sv (xs.filter fun b => decide (b < a)).length (natV (xs.filter fun b => decide (b < a))) rfl (HW.out.2.alloc _) ⟨w7.heap.size, 0, none⟩ 1 1 [.int .i64 (a : Int)] rfl rfl (by intro j u hj; match j, hj with | 0, hj => simp at hj; subst hj; simp [Addr.add]) (by intro u hu; simp at hu; subst hu; rfl) (by unfold maxLen; omega) (by omega) (by simp; omega) ?_; intro v' w8 hown hgrow hnil hblk; have HO := Lib.hid (And.intro hown hgrow); clear hown hgrow hnil hblk)
                    have hrow : ∀ k, sv.ownBlock = some k → w6.heap.size ≤ k := fun k hk => (HW.out.2.lt k hk).1
                    have hB8 : Below w6.heap.size w6 w8 := ((HW.out.1.alloc hszx (.cells #[.int .i64 (a : Int)] 3)).grown HO.out.2 (by simp; omega) hrow)
                    have hl0 : natV ((xs.filter fun b => decide (b < a)) ++ [a]) = natV (xs.filter fun b => decide (b < a)) ++ [.int .i64 (a : Int)] := natV_snoc _ _
                    have hO8 : w8.ownsRow w6.heap.size 3 1 v' ((xs.filter fun b => decide (b < a)) ++ [a]).length (natV ((xs.filter fun b => decide (b < a)) ++ [a])) := by
                      rw [hl0, List.length_append]; exact HO.out.1
                    have c8 : w8.cell? ⟨b, k, none⟩ = some (.slice XA xs.length xc) := (hB8.cell hbl).trans c0
                    have H8 := Lib.hid (And.intro hB8 hO8)
                    obtain ⟨lo, hlo⟩ : ∃ lo, lo = (xs.filter fun b => decide (b < a)) ++ [a] := ⟨_, rfl⟩
                    rw [← hlo] at H8
                    have hlol : lo.length ≤ 6 := by rw [hlo, List.length_append]; exact Nat.succ_le_succ hfl
                    have HLO := Lib.hid hlo
                    clear HO HW hrow hB8 hl0 hO8 hlo hfl hszx
                    go_wp2_with fail
                    go_loopg [11, 86] xs.length (fun gg s11 s86 wx => ∃ (v : Value) (j : Nat), j + gg = xs.length ∧ s11 = v ∧ s86 = .int .i64 (j : Int) ∧ Hid (Below w6.heap.size w6 wx ∧ wx.ownsRow w6.heap.size 3 1 v (lo ++ (xs.take j).filter fun b => decide (a < b)).length (natV (lo ++ (xs.take j).filter fun b => decide (a < b)))))
                    case atStart => exact ⟨_, 0, by omega, rfl, rfl, Lib.hid ⟨H8.out.1, by rw [List.take_zero, List.filter_nil, List.append_nil]; exact H8.out.2⟩⟩
                    case round =>
                      obtain ⟨sv, j, hj, hsv, rfl, HX⟩ := hrel
                      have hsv2 := hsv.symm
                      clear hsv
                      subst hsv2
                      by_cases hjl : j < xs.length
                      · obtain ⟨b', off', rfl, hbl', hc'⟩ := (H6.out.2.below HX.out.1) (by omega)
                        have c1 : wr.cell? ⟨b', off' + j, none⟩ = some (.int .i64 ((xs.getD j 0 : Nat) : Int)) := hc' j hjl
                        have hfs := filt_snoc (q := fun b => decide (a < b)) hjl
                        have hfl := filt_len (q := fun b => decide (a < b)) (l := xs) (i := j)
                        have hll2 : (lo ++ (xs.take j).filter fun b => decide (a < b)).length ≤ 11 := by rw [List.length_append]; omega
                        obtain ⟨y, hy⟩ : ∃ y, y = xs.getD j 0 := ⟨_, rfl⟩
                        simp only [← hy] at c1 hfs
                        have hszx := HX.out.1.size
                        clear hbl' hc' hy hfl
                        by_cases hya : a < y
                        · have hyi : (a : Int) < (y : Int) := by omega
                          have HQ := Lib.hid (show lo ++ (xs.take (j + 1)).filter (fun b => decide (a < b)) = (lo ++ (xs.take j).filter (fun b => decide (a < b))) ++ [y] by rw [hfs, decide_eq_true hya, List.append_assoc]; rfl)
                          clear hfs hya
                          go_wp2_with (at_builtin; refine wpList_append_own_at _ rfl (.tmp 93) (.tmp 95) 22 rfl w6.heap.size 3 ei (.int .i64 0) 1 8 Try.underlying22 HI.out.1 HI.out.2.1 HI.out.2.2.1 HI.out.2.2.2 rfl (by decide) sv (lo ++ (xs.take j).filter fun b => decide (a < b)).length (natV (lo ++ (xs.take j).filter fun b => decide (a < b))) rfl (HX.out.2.alloc _) ⟨wr.heap.size, 0, none⟩ 1 1 [.int .i64 (y : Int)] rfl rfl (by intro j u hj; match j, hj with | 0, hj => simp at hj; subst hj; simp [Addr.add]) (by intro u hu; simp at hu; subst hu; rfl) (by unfold maxLen; omega) (by omega) (by simp; omega) ?_; intro v' w9 hown hgrow hnil hblk; have HO := Lib.hid (And.intro hown hgrow); clear hown hgrow hnil hblk)
                          have hrow : ∀ k, sv.ownBlock = some k → w6.heap.size ≤ k := fun k hk => (HX.out.2.lt k hk).1
                          have hB2 : Below w6.heap.size w6 w9 := ((HX.out.1.alloc hszx (.cells #[.int .i64 (y : Int)] 3)).grown HO.out.2 (by simp; omega) hrow)
                          have HB2 := Lib.hid hB2
                          clear hrow hB2
                          go_wp2
                          go_roundg (xs.length - (j + 1))
                          case measure => omega
                          case rel => exact ⟨_, j + 1, by omega, rfl, by go_num, Lib.hid ⟨HB2.out, by rw [HQ.out, natV_snoc, List.length_append (bs := [y])]; exact HO.out.1⟩⟩
                        · have hyi : ¬ (a : Int) < (y : Int) := by omega
                          have HQ := Lib.hid (show (xs.take (j + 1)).filter (fun b => decide (a < b)) = (xs.take j).filter (fun b => decide (a < b)) by rw [hfs, decide_eq_false hya]; simp)
                          clear hfs hya
                          go_wp2
                          go_roundg (xs.length - (j + 1))
                          case measure => omega
                          case rel => exact ⟨_, j + 1, by omega, rfl, by go_num, Lib.hid ⟨HX.out.1, by rw [HQ.out]; exact HX.out.2⟩⟩
                      · have ejl : j = xs.length := by omega
                        have hown := HX.out.2
                        rw [ejl, List.take_length] at hown
                        have hins : lo ++ xs.filter (fun b => decide (a < b)) = ins xs a := by rw [HLO.out]; rfl
                        rw [hins] at hown
                        have hR9 := H6.out.1.below HX.out.1
                        rw [← hql] at hR9
                        obtain ⟨YA, yc, hsv⟩ := own_slice hown
                        subst hsv
                        have e9 := hR9.own.cellAt k (by rw [Nat.mul_one]; exact hkq)
                        have f9 := hR9.own.frozenAt k
                        have hvv : (qs.map (·.1))[k]? = some (qs[k]).1 := by simp [hkq]
                        rw [hvv] at e9
                        have HP := Lib.hid (hR9.put (k := k) (y := .slice YA (ins xs a).length yc) (ys := ins xs a) (own_base hown hsz6))
                        have HPP := Lib.hid (HPU.out (.slice YA (ins xs a).length yc))
                        rw [ejl]
                        clear hjl hj ejl HX hown hins hR9 hvv
                        go_wp2_with fail
                        go_roundg (5 - (a + 1))
                        case measure => omega
                        case rel => exact ⟨a + 1, qs.set k (.slice YA (ins xs a).length yc, ins xs a), by omega, by go_num, Lib.hid ⟨by rw [List.length_set]; exact hql, HPP.out.1, fun c hc => by
                          by_cases e : c = a
                          · rw [e]; exact HPP.out.2.1
                          · exact HPP.out.2.2 c (by omega), by rw [← hql]; exact HP.out⟩⟩
        · have ea5 : a = 5 := by omega
          have hcov := HR.out.2.2.1
          rw [ea5] at hcov
          have hll := HR.out.2.2.2.ll fun p hp => Nat.le_trans (HR.out.2.1.len p hp) (by omega)
          have hql := HR.out.1
          have hsch := sch_any (c := lc) hll (by have := HN.out.2; omega) (fun p hp x hx => by have := HR.out.2.1.lt p hp x hx; omega)
          have HC := Lib.hid (And.intro hcov HR.out)
          have hda : decide ((a : Int) < 5) = false := decide_eq_false (by omega)
          have hszr := HR.out.2.2.2.size
          rw [hql] at hsch
          clear hcov hll HR ea5
          go_wp2_with fail
          refine hsch.mono ?_
          rintro e w6 ⟨v, rfl, hnew, hb⟩
          have hnew0 := hnew
          obtain ⟨V, rfl, hS⟩ := hnew
          have hres := (hb.block _ (lt_of_block HC.out.2.2.2.2.res)).trans HC.out.2.2.2.2.res
          have r0 : w6.cell? ⟨w.heap.size, 0, none⟩ = some (.slice none 0 0) := cell_in hres rfl
          have r1 : w6.cell? ⟨w.heap.size, 1, none⟩ = some (.slice none 0 0) := cell_in hres rfl
          have r2 : w6.cell? ⟨w.heap.size, 2, none⟩ = some (.slice none 0 0) := cell_in hres rfl
          have r3 : w6.cell? ⟨w.heap.size, 3, none⟩ = some (.int .i64 0) := cell_in hres rfl
          have f0 : w6.frozen? ⟨w.heap.size, 0, none⟩ = false := by simp [World.frozen?, hres]
          have f1 : w6.frozen? ⟨w.heap.size, 1, none⟩ = false := by simp [World.frozen?, hres]
          have f2 : w6.frozen? ⟨w.heap.size, 2, none⟩ = false := by simp [World.frozen?, hres]
          have f3 : w6.frozen? ⟨w.heap.size, 3, none⟩ = false := by simp [World.frozen?, hres]
          have HZ := Lib.hid (And.intro hb hnew0)
          clear hres hb hnew0 hS hsch
          go_wp2_with fail
          exact rel_end HC.out.2.2.2.2 HZ.out.1 HZ.out.2 HC.out.2.2.1 (by rw [hql]; exact HN.out.1) (by rw [hql]; exact HN.out.2) HC.out.1 rfl
end Go.Proofs.Ytiakgcaflnpmeaa
