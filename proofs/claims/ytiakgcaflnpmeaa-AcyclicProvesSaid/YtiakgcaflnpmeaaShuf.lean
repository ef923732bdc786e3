/- The source of numbers gives an order. -/
import Derived.Test.YtiakgcaflnpmeaaSchT
import Derived.Laws.OwnMore
import Derived.Deep.LoopGhost
import Derived.Maps.AppendAt
import Derived.Deep.DeepCutAuto
import Derived.WalkSpells
namespace Go.Proofs.Ytiakgcaflnpmeaa
open Go Go.RowKit

def Ordr (n : Nat) (l : List Nat) : Prop := l.Perm (List.range n)
theorem Ordr.len {n : Nat} {l : List Nat} (h : Ordr n l) : l.length = n := by have := h.length_eq; simpa using this
theorem Ordr.lt {n : Nat} {l : List Nat} (h : Ordr n l) {j : Nat} (hj : j < n) : l.getD j 0 < n := by
  have hl : j < l.length := by rw [h.len]; exact hj
  have hm : l.getD j 0 ∈ l := by rw [show l.getD j 0 = l[j] by simp [List.getD, hl]]; exact List.getElem_mem hl
  exact List.mem_range.1 (h.mem_iff.1 hm)
theorem Ordr.inj {n : Nat} {l : List Nat} (h : Ordr n l) {i j : Nat} (hi : i < n) (hj : j < n) (hij : i ≠ j) : l.getD i 0 ≠ l.getD j 0 := by
  have hnd : l.Nodup := h.nodup_iff.2 List.nodup_range
  have hi' : i < l.length := by rw [h.len]; exact hi
  have hj' : j < l.length := by rw [h.len]; exact hj
  rw [show l.getD i 0 = l[i] by simp [List.getD, hi'], show l.getD j 0 = l[j] by simp [List.getD, hj']]
  intro e
  exact hij ((List.getElem_inj hnd).1 e)
theorem Ordr.onto {n : Nat} {l : List Nat} (h : Ordr n l) {k : Nat} (hk : k < n) : ∃ j, j < n ∧ l.getD j 0 = k := by
  obtain ⟨j, hj, e⟩ := List.getElem_of_mem (h.mem_iff.2 (List.mem_range.2 hk))
  exact ⟨j, by rw [← h.len]; exact hj, by simp [List.getD, hj, e]⟩
theorem Ordr.eq_map {n : Nat} {l : List Nat} (h : Ordr n l) : l = (List.range n).map fun j => l.getD j 0 := by
  apply List.ext_getElem
  · simp [h.len]
  · intro i h1 h2
    simp [List.getD, h1]
theorem Ordr.count {n : Nat} {l : List Nat} (h : Ordr n l) (p : Nat → Bool) : (selL n fun j => p (l.getD j 0)).length = (selL n p).length := by
  have e1 : (selL n fun j => p (l.getD j 0)).length = (l.filter p).length := by
    conv => rhs; rw [h.eq_map]
    rw [List.filter_map, List.length_map]
    rfl
  rw [e1]
  exact (h.filter p).length_eq
theorem Ordr.any {n : Nat} {l : List Nat} (h : Ordr n l) (p : Nat → Bool) : (anyB n fun j => p (l.getD j 0)) = anyB n p := by
  rw [Bool.eq_iff_iff, anyB_true, anyB_true]
  constructor
  · rintro ⟨j, h1, h2⟩; exact ⟨_, h.lt h1, h2⟩
  · rintro ⟨k, h1, h2⟩
    obtain ⟨j, h3, rfl⟩ := h.onto h1
    exact ⟨j, h3, h2⟩
theorem ord_swap {n : Nat} {l : List Nat} (h : Ordr n l) {i k : Nat} (hi : i < n) (hk : k < n) : Ordr n ((l.set i (l.getD k 0)).set k (l.getD i 0)) := by
  have hi' : i < l.length := by rw [h.len]; exact hi
  have hk' : k < l.length := by rw [h.len]; exact hk
  have e1 : l.getD i 0 = l[i] := by simp [List.getD, hi']
  have e2 : l.getD k 0 = l[k] := by simp [List.getD, hk']
  rw [e1, e2]
  exact (List.set_set_perm hi' hk').trans h
theorem srcBelowB {w w' : World} {g B : Nat} (h : SrcIn w g) (hb : Below B w w') (hg : g < B) : SrcIn w' g := by
  obtain ⟨A, n, c, a, hh, h1, h2, h3⟩ := h
  refine ⟨A, n, c, a, (hb.block g hg).trans hh, h1, h2, fun h0 => ?_⟩
  obtain ⟨b, off, e, hbl, hc⟩ := h3 h0
  refine ⟨b, off, e, hbl, fun i hi => ?_⟩
  obtain ⟨z, hz, hr⟩ := hc i hi
  exact ⟨z, (hb.cell (Nat.lt_trans hbl hg)).trans hz, hr⟩
theorem src1_grownS {w0 w w' : World} {g : Nat} {row : Option Nat} (h : Src1 g w0 w) (hg0 : g < w0.heap.size) (hgr : w.grownBy w' row) (hrow : ∀ k, row = some k → w0.heap.size ≤ k) : Src1 g w0 w' :=
  ⟨h.1.grown hgr (Nat.le_trans (Nat.le_of_lt hg0) h.1.size) (fun k hk => Nat.le_trans (Nat.le_of_lt hg0) (hrow k hk)),
  fun k hk hne => (hgr.block k (Nat.lt_of_lt_of_le hk h.1.size) (fun e => by first | (have := hrow k e; omega) | (have := hrow k e.symm; omega))).trans (h.2 k hk hne)⟩
theorem own_srcS {w w' : World} {g base n size : Nat} {e : TypeId} {v : Value} {xs : List Value} (h : w.ownsRow base e size v n xs) (hb : Src1 g w w') (hg : g < base) : w'.ownsRow base e size v n xs := by
  refine ⟨h.1, ?_⟩
  rcases h.2 with h1 | ⟨g', cap', cur, h', h2, hg', h3⟩
  · exact .inl h1
  · exact .inr ⟨g', cap', cur, h', h2, (hb.2 g' (lt_of_block hg') (by omega)).trans hg', h3⟩
def ordV (l : List Nat) : List Value := l.map fun (j : Nat) => Value.int .i64 (j : Int)
theorem ordV_at {l : List Nat} {j : Nat} (hj : j < l.length) : (ordV l)[j]? = some (.int .i64 ((l.getD j 0 : Nat) : Int)) := by
  simp [ordV, List.getD, hj]
theorem ordV_set {l : List Nat} {j k : Nat} : (ordV l).set j (.int .i64 (k : Int)) = ordV (l.set j k) := by
  simp [ordV, List.map_set]
theorem ordr_range (n : Nat) : Ordr n (List.range n) := List.Perm.refl _
theorem cell_own {w : World} {base b cap n : Nat} {l : List Nat} (h : w.ownsRow base 3 1 (.slice (some ⟨b, 0, none⟩) n cap) n (ordV l)) (hl : l.length = n) {j : Nat} (hj : j < n) :
    w.cell? ⟨b, j, none⟩ = some (.int .i64 ((l.getD j 0 : Nat) : Int)) ∧ w.frozen? ⟨b, j, none⟩ = false :=
  ⟨(h.cellAt j (by omega)).trans (ordV_at (by omega)), h.frozenAt j⟩
set_option linter.unusedSimpArgs false in
set_option maxHeartbeats 6400000 in
set_option maxRecDepth 100000 in
theorem shuffle_src {w : World} {g n : Nat} (h : SrcIn w g) (hn : n ≤ 100) :
    Calls Try.prog 30 #[.pointer (some ⟨g, 0, none⟩), .int .i64 (n : Int)] w fun e w' => ∃ v l, e = .returned v ∧ w'.ownsRow w.heap.size 3 1 v n (ordV l) ∧ Ordr n l ∧ SrcIn w' g ∧ Src1 g w w' := by
  obtain ⟨ei, hi, hz, hss, hbs⟩ := info_parts infoInt
  have HI := Lib.hid (And.intro hi (And.intro hz (And.intro hss hbs)))
  clear hi hz hss hbs
  have hg := h.lt
  have H := Lib.hid h
  clear h
  go_enter Try.func30, Try.ntmps30
  go_wp2_with fail
  go_loopg [5, 6] n (fun gh sv iv wr => ∃ (v : Value) (i : Nat), i + gh = n ∧ sv = v ∧ iv = .int .i64 (i : Int) ∧ wr.ownsRow w.heap.size 3 1 v i (ordV (List.range i)) ∧ SrcIn wr g ∧ Src1 g w wr)
  case atStart => exact ⟨_, 0, by omega, rfl, rfl, ⟨rfl, .inl ⟨rfl, rfl⟩⟩, H.out, Src1.refl g w⟩
  case round =>
    obtain ⟨sv, i, hi, hsv, rfl, hl, hs, hb0⟩ := hrel
    have hsv2 := hsv.symm
    clear hsv
    subst hsv2
    by_cases hin : i < n
    · have HR := Lib.hid (And.intro hl (And.intro hs hb0))
      clear hl hs hb0
      have hsz0 := HR.out.2.2.1.size
      go_wp2_with (at_builtin; refine wpList_append_own _ rfl (.tmp 14) (.tmp 16) 22 rfl w.heap.size 3 ei (.int .i64 0) 1 8 Try.underlying22 HI.out.1 HI.out.2.1 HI.out.2.2.1 HI.out.2.2.2 rfl (by decide) sv i (ordV (List.range i)) rfl (HR.out.1.alloc _) ⟨wr.heap.size, 0, none⟩ 1 1 [.int .i64 (i : Int)] rfl rfl (by intro j u hj; match j, hj with | 0, hj => simp at hj; subst hj; simp [Addr.add]) (by intro u hu; simp at hu; subst hu; rfl) (by unfold maxLen; omega) (by omega) (by have := HR.out.2.2.1.size; have := hsz0; simp; omega) ?_; intro v' w2 hown2 hgrow2 hnil; have HG := Lib.hid (And.intro hown2 hgrow2); clear hown2 hgrow2 hnil)
      have hrow : ∀ k, sv.ownBlock = some k → w.heap.size ≤ k := fun k hk => (HR.out.1.lt k hk).1
      have hA := (Below.refl wr.heap.size wr).alloc (Nat.le_refl _) (.cells #[.int .i64 (i : Int)] 3)
      have hg1 : g ≤ wr.heap.size := by omega
      have hS := src1_grownS (HR.out.2.2.trans (Src1.below hA hg1)) hg HG.out.2 hrow
      have hB : Below w.heap.size (wr.alloc (.cells #[.int .i64 (i : Int)] 3)) w2 := (Below.refl _ _).grown HG.out.2 (by simp; omega) hrow
      have hI := srcBelowB (HR.out.2.1.below hA) hB hg
      have HF := Lib.hid (And.intro hI hS)
      clear hrow hA hg1 hS hB hI hsz0
      go_roundg (n - (i + 1))
      case measure => omega
      case rel =>
        refine ⟨_, i + 1, by omega, rfl, by go_num, ?_, HF.out⟩
        rw [List.range_succ]
        have := HG.out.1
        rw [show ordV (List.range i) ++ [.int .i64 (i : Int)] = ordV (List.range i ++ [i]) by simp [ordV]] at this
        exact this
    · have ein : n = i := by omega
      subst ein
      have HR := Lib.hid (And.intro hl (And.intro hs hb0))
      clear hl hs hb0
      go_wp2_with fail
      go_loopg [7] n (fun gh iv wx => ∃ (j : Int) (l : List Nat), j + 1 = (gh : Int) ∧ gh ≤ n ∧ iv = .int .i64 j ∧ Hid (wx.ownsRow w.heap.size 3 1 sv n (ordV l) ∧ Ordr n l ∧ SrcIn wx g ∧ Src1 g w wx))
      case atStart => exact ⟨(n : Int) - 1, List.range n, by omega, Nat.le_refl _, by go_num, Lib.hid ⟨HR.out.1, ordr_range n, HR.out.2⟩⟩
      case round =>
        clear HR
        obtain ⟨j, l, hj, hjn, rfl, HR⟩ := hrel
        by_cases hpos : 0 < j
        · obtain ⟨i, rfl⟩ : ∃ i : Nat, j = (i : Int) := ⟨j.toNat, by omega⟩
          have hin : i < n := by omega
          have HJ := Lib.hid (And.intro hj hjn)
          clear hj hjn
          obtain ⟨b, cap, rfl, hbb⟩ := HR.out.1.form (by omega)
          go_wp2_with fail
          refine (n_src (m := (i : Int) + 1) HR.out.2.2.1 (by omega) (by omega)).mono ?_
          rintro e w1 ⟨r, rfl, ⟨hr0, hr1⟩, hs, hb⟩
          obtain ⟨k, rfl⟩ : ∃ k : Nat, r = (k : Int) := ⟨r.toNat, by omega⟩
          have hkn : k < n := by omega
          have hown := own_srcS HR.out.1 hb hg
          obtain ⟨c0, f0⟩ := cell_own hown HR.out.2.1.len hin
          obtain ⟨c1, f1⟩ := cell_own hown HR.out.2.1.len hkn
          obtain ⟨x, hx⟩ : ∃ x, x = l.getD i 0 := ⟨_, rfl⟩
          obtain ⟨y, hy⟩ : ∃ y, y = l.getD k 0 := ⟨_, rfl⟩
          rw [← hx] at c0
          rw [← hy] at c1
          obtain ⟨ho2, hg2⟩ := hown.stored i (.int .i64 (y : Int))
          rw [ordV_set] at ho2
          have hlen2 : (l.set i y).length = n := by rw [List.length_set, HR.out.2.1.len]
          obtain ⟨c2, f2⟩ := cell_own ho2 hlen2 hkn
          obtain ⟨ho3, hg3⟩ := ho2.stored k (.int .i64 (x : Int))
          rw [ordV_set] at ho3
          have hs2 : SrcIn ((w1.setCell ⟨b, i, none⟩ (.int .i64 (y : Int))).setCell ⟨b, k, none⟩ (.int .i64 (x : Int))) g :=
            srcBelowB hs (((Below.refl w.heap.size w1).setCell (p := ⟨b, i, none⟩) hbb.1 _).setCell (p := ⟨b, k, none⟩) hbb.1 _) hg
          have hS2 : Src1 g w ((w1.setCell ⟨b, i, none⟩ (.int .i64 (y : Int))).setCell ⟨b, k, none⟩ (.int .i64 (x : Int))) :=
            src1_grownS (src1_grownS (HR.out.2.2.2.trans hb) hg hg2 (fun q e => by injection e with e; omega)) hg hg3 (fun q e => by injection e with e; omega)
          have hO := ord_swap HR.out.2.1 hin hkn
          rw [← hx, ← hy] at hO
          obtain ⟨z, hz⟩ : ∃ z, z = (l.set i y).getD k 0 := ⟨_, rfl⟩
          rw [← hz] at c2
          have hs3 := srcBelowB hs2 ((Below.refl w.heap.size _).drew) hg
          have hS3 := hS2.trans (Src1.below (Below.refl _ _).drew (by have := hS2.1.size; omega))
          have H1 := Lib.hid (And.intro ho3.drew (And.intro hO (And.intro hs3 hS3)))
          clear ho2 hg2 ho3 hg3 hs2 hS2 hs3 hS3 hO hz hx hy hlen2
          have g0 : (0 : Int) ≤ (i : Int) := by omega
          have g1 : (i : Int) < (n : Int) := by omega
          have g2 : (0 : Int) ≤ (k : Int) := by omega
          have g3 : (k : Int) < (n : Int) := by omega
          clear hown hs hb HR
          go_upto_region 10 with fail
          go_region
          go_wp2_with fail
          go_roundg i
          case measure => have := HJ.out.1; omega
          case rel => exact ⟨(i : Int) - 1, _, by omega, by omega, by go_num, H1⟩
        · go_wp2_with fail
          go_ret
          exact ⟨_, rfl, l, HR.out⟩
end Go.Proofs.Ytiakgcaflnpmeaa
