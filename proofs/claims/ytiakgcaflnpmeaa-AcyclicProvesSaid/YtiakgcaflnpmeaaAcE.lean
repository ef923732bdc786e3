/- Package acyclic: Tree, Acyclic. -/
import Derived.Test.YtiakgcaflnpmeaaAcD
namespace Go.Proofs.Ytiakgcaflnpmeaa
open Go Go.RowKit

theorem tree_ret {w : World} {b : Nat} {x q : Value} {t : Array Value} (ht : t.getD 2 undef = .pointer (some ⟨b, 0, none⟩)) (hq : t.getD 3 undef = q) (c : w.heap[b]? = some (.cells #[x] 42 (0, 0))) :
    Sem.run Try.prog (results Try.f20 t) w = .ok (.tuple #[.agg #[x], q]) w := by
  have c0 : w.cell? ⟨b, 0, none⟩ = some x := cell_in c rfl
  have ht' : (t[2]?).getD undef = .pointer (some ⟨b, 0, none⟩) := by simpa using ht
  have hq' : (t[3]?).getD undef = q := by simpa using hq
  simp [results, Try.results20, go_sem, ht', hq', c0]
theorem tree_end {w0 w : World} {S : Sc} {x : Value} {t : Array Value} {B : Nat} (hB : w0.heap.size ≤ B) (hl : Below w0.heap.size w0 w) (hx : IntL (w.setCell ⟨B, 0, none⟩ x) x (treeL S))
    (c : w.heap[B]? = some (.cells #[.slice none 0 0] 42 (0, 0))) (ht : t.getD 2 undef = .pointer (some ⟨B, 0, none⟩)) (hq : t.getD 3 undef = .bool (treeB S)) :
    bodyPost Try.prog Try.f20 (fun e w' => ∃ v, e = .returned (.tuple #[.agg #[v], .bool (treeB S)]) ∧ IntL w' v (treeL S) ∧ Below w0.heap.size w0 w') Exit.ret ⟨t, []⟩ (w.setCell ⟨B, 0, none⟩ x) := by
  have hc := Lib.heap_setCell_same c (i := 0) x
  exact bodyPost_ret (v := .tuple #[.agg #[x], .bool (treeB S)]) (tree_ret ht hq hc) rfl ⟨x, rfl, hx, hl.setCell (p := ⟨B, 0, none⟩) hB _⟩
set_option linter.unusedSimpArgs false in
set_option maxHeartbeats 6400000 in
set_option maxRecDepth 100000 in
theorem Tree_any {w : World} {S : Sc} {V : Sv} (h : SchIn w S V) :
    Calls Try.prog 20 #[.agg #[.slice V.A S.na V.ca, .slice V.R S.nr V.cr, .slice V.F S.nf V.cf, .int .i64 S.label]] w fun e w' => ∃ v, e = .returned (.tuple #[.agg #[v], .bool (treeB S)]) ∧ IntL w' v (treeL S) ∧ Below w.heap.size w w' := by
  have hg : Below w.heap.size w ((w.alloc (.cells #[.slice V.A S.na V.ca, .slice V.R S.nr V.cr, .slice V.F S.nf V.cf, .int .i64 S.label] 28)).alloc (.cells #[.slice none 0 0] 42)) := by go_grown
  have hr2 : ((w.alloc (.cells #[.slice V.A S.na V.ca, .slice V.R S.nr V.cr, .slice V.F S.nf V.cf, .int .i64 S.label] 28)).alloc (.cells #[.slice none 0 0] 42)).heap[w.heap.size + 1]? = some (.cells #[.slice none 0 0] 42 (0, 0)) := block_new _ (by simp)
  have H := Lib.hid (And.intro h (And.intro hg (And.intro (Box4.below (Box4.new (w := w) (S := S) (V := V)) ((Below.refl _ _).alloc (Nat.le_refl _) (.cells #[.slice none 0 0] 42))) hr2)))
  clear h hg hr2
  go_enter Try.func20, Try.ntmps20
  go_wp2_with fail
  refine (check_any (H.out.1.below H.out.2.1)).mono ?_
  rintro e w1 ⟨rfl, hb⟩
  have H1 := Lib.hid (And.intro (Below.step H.out.2.1 hb) (And.intro (H.out.2.2.1.below hb) ((hb.block _ (lt_of_block H.out.2.2.2)).trans H.out.2.2.2)))
  clear hb
  by_cases he : checkE S = 0
  · have HE := Lib.hid he
    rw [he]
    clear he
    have q0 := H1.out.2.1.c0
    have q1 := H1.out.2.1.c1
    have q2 := H1.out.2.1.c2
    have q3 := H1.out.2.1.c3
    go_wp2_with fail
    refine (reduce_any (H.out.1.below H1.out.1)).mono ?_
    rintro e w2 ⟨v, u, rfl, ⟨A2, c2, rfl, hl2, hr2⟩, ⟨A3, c3, rfl, hl3, hr3⟩, hb⟩
    have hln := redS_len S
    have hnr := check_nr HE.out
    have hcp := core_pos HE.out
    have H2 := Lib.hid (And.intro (Below.step H1.out.1 hb) (And.intro hr2 (And.intro hr3 (And.intro (H1.out.2.1.below hb) ((hb.block _ (lt_of_block H1.out.2.2)).trans H1.out.2.2)))))
    have q1' := (H1.out.2.1.below hb).c1
    have hsz2 : w.heap.size + 1 < w2.heap.size := lt_of_block H2.out.2.2.2.2
    clear hb hr2 hr3 q0 q1 q2 q3
    rw [castL_len] at hl3 ⊢
    by_cases hk : (redS S).2.length ≤ 1
    · have hk1 : (redS S).2.length = 1 := by omega
      have HT := Lib.hid (show treeB S = true by unfold treeB; rw [decide_eq_true HE.out, decide_eq_true hk]; rfl)
      have hc0 : w2.cell? ⟨0, 0, none⟩ = w2.cell? ⟨0, 0, none⟩ := rfl
      obtain ⟨b3, off3, rfl, hb3, hc3⟩ := H2.out.2.2.1 (by rw [castL_len]; omega)
      have k0 : w2.cell? ⟨b3, off3, none⟩ = some (.int .i64 ((coreOf S : Nat) : Int)) := by
        have := hc3 0 (by rw [castL_len]; omega)
        rw [Nat.add_zero] at this
        rw [this]
        show some (Value.int .i64 ((castL (redS S).2).getD 0 0)) = _
        rw [castL_get (by omega)]
        rfl
      have hcr : coreOf S < S.nr := by
        refine core_mem ?_
        unfold coreOf
        rw [show (redS S).2.getD 0 0 = (redS S).2[0]'(by omega) by simp [List.getD, (by omega : 0 < (redS S).2.length)]]
        exact List.getElem_mem _
      obtain ⟨c, hc⟩ : ∃ c, c = coreOf S := ⟨_, rfl⟩
      rw [← hc] at k0 hcr
      have HC := Lib.hid hc
      rw [hk1]
      have hmk := make_int S.nr (by omega)
      obtain ⟨l, hl⟩ : ∃ l, l = (redS S).1 := ⟨_, rfl⟩
      rw [← hl] at H2 hln hl2 ⊢
      have HL := Lib.hid (And.intro hl (And.intro hln hk1))
      have hl6 : l.length ≤ 6 := by omega
      have hn6 : S.nr ≤ 6 := hnr.2.1
      clear hc hk1 hk hcp hl hln hl2 hl3 hnr hc0 hc3
      go_upto_region 7 with fail
      have hA := (Below.refl w2.heap.size w2).alloc (Nat.le_refl _) (.cells (madeCells #[Value.int .i64 0] S.nr) 3)
      have hR := RowV.new w2 3 (.int .i64 0) S.nr
      have hk3 : (w2.alloc (.cells (madeCells #[Value.int .i64 0] S.nr) 3)).cell? ⟨b3, off3, none⟩ = some (.int .i64 (c : Int)) := (hA.cell hb3).trans k0
      have hg3 : w2.heap.size ≤ w2.heap.size := Nat.le_refl _
      clear hmk
      generalize w2.alloc (.cells (madeCells #[Value.int .i64 0] S.nr) 3) = w3 at *
      have f3 := hR.free c
      have e3 := hR.cell hcr
      have H3 := Lib.hid (And.intro (hA.setCell (p := ⟨w2.heap.size, c, none⟩) (Nat.le_refl _) (.int .i64 (-1))) (hR.set hcr (.int .i64 (-1))))
      have hc0 : (0 : Int) ≤ (c : Int) := by omega
      have hc1 : (c : Int) < (S.nr : Int) := by omega
      clear hA hR hg3 k0
      go_wp2_with fail
      clear f3 e3 hk3
      generalize w3.setCell ⟨w2.heap.size, c, none⟩ (.int .i64 (-1)) = w4 at *
      go_loopg [33] l.length (fun gg s33 wr => ∃ i : Nat, i + gg = l.length ∧ s33 = .int .i64 (i : Int) ∧ Hid (Below w2.heap.size w2 wr ∧ RowV wr 3 w2.heap.size S.nr fun r => .int .i64 (pf (l.take i) c r)))
      case atStart => exact ⟨0, by omega, rfl, Lib.hid ⟨H3.out.1, H3.out.2.congr fun j _ => by
        show (if j = c then Value.int .i64 (-1) else .int .i64 0) = .int .i64 (pf [] c j)
        unfold pf
        by_cases e : j = c
        · rw [if_pos e]; simp [e]
        · rw [if_neg e]; simp [e]⟩⟩
      case round =>
        obtain ⟨i, hi, rfl, HR⟩ := hrel
        by_cases hlt : i < l.length
        · obtain ⟨b, off, rfl, hbl, hcc⟩ := H2.out.2.1 (by omega)
          obtain ⟨c0, c1⟩ := hcc i hlt
          have d0 := (HR.out.1.cell hbl).trans c0
          have d1 := (HR.out.1.cell hbl).trans c1
          have hxm : l.getD i (0, 0) ∈ (redS S).1 := by
            rw [← HL.out.1, show l.getD i (0, 0) = l[i] by simp [List.getD, hlt]]; exact List.getElem_mem _
          have hxn := rem_mem hxm
          have hnot : (l.getD i (0, 0)).1 ∉ (l.take i).map Prod.fst := by
            have h1 := rem_nodup S
            rw [← HL.out.1] at h1
            intro hm
            obtain ⟨j, hj, e⟩ := List.getElem_of_mem hm
            rw [List.length_map, List.length_take] at hj
            have e2 : (l.map Prod.fst)[j]'(by rw [List.length_map]; omega) = (l.map Prod.fst)[i]'(by rw [List.length_map]; omega) := by
              rw [List.getElem_map, List.getElem_map, ← show l.getD i (0, 0) = l[i] by simp [List.getD, hlt], ← e, List.getElem_map, List.getElem_take]
            have := (List.getElem_inj h1).1 e2
            omega
          have hpf : ∀ r, pf (l.take (i + 1)) c r = if r = (l.getD i (0, 0)).1 then ((l.getD i (0, 0)).2 : Int) else pf (l.take i) c r := fun r => by
            rw [List.take_add_one, show l[i]? = some (l.getD i (0, 0)) by simp [List.getD, hlt]]
            exact pf_snoc hnot c r
          obtain ⟨x, hx⟩ : ∃ x, x = l.getD i (0, 0) := ⟨_, rfl⟩
          rw [← hx] at d0 d1 hpf hxn
          have HX := Lib.hid hpf
          have hblr := Nat.lt_of_lt_of_le hbl HR.out.1.size
          have hgr := HR.out.2.lt
          have hszr := HR.out.1.size
          clear hcc c0 c1 hx hpf hxm hnot
          obtain ⟨x1, x2⟩ := x
          have hx1 : x1 < S.nr := hxn.1
          have hxa : (0 : Int) ≤ (x1 : Int) := by omega
          have hxb : (x1 : Int) < (S.nr : Int) := by omega
          clear hxn
          have f0 := HR.out.2.free x1
          have e0 := HR.out.2.cell hx1
          go_wp2_with fail
          have hS := (HR.out.1.setCell (p := ⟨w2.heap.size, x1, none⟩) (Nat.le_refl _) (.int .i64 (x2 : Int))).alloc (by simp [World.setCell]; omega) (.cells #[.int .i64 (x1 : Int), .int .i64 (x2 : Int)] 73)
          have hV := (HR.out.2.set hx1 (.int .i64 (x2 : Int))).below ((Below.refl (wr.setCell ⟨w2.heap.size, x1, none⟩ (.int .i64 (x2 : Int))).heap.size _).alloc (Nat.le_refl _) (.cells #[.int .i64 (x1 : Int), .int .i64 (x2 : Int)] 73)) (by simp [World.setCell]; omega)
          go_roundg (l.length - (i + 1))
          case measure => omega
          case rel => exact ⟨i + 1, by omega, by go_num, Lib.hid ⟨hS, hV.congr fun j _ => by
            rw [HX.out j]
            by_cases e : j = x1
            · rw [if_pos e, if_pos e]
            · rw [if_neg e, if_neg e]⟩⟩
        · have ein : i = l.length := by omega
          have hbk := (HR.out.1.block _ hsz2).trans H2.out.2.2.2.2
          have e0 : wr.cell? ⟨w.heap.size + 1, 0, none⟩ = some (.slice none 0 0) := cell_in hbk rfl
          have f0 : wr.frozen? ⟨w.heap.size + 1, 0, none⟩ = false := by simp [World.frozen?, hbk]
          have hx : IntL (wr.setCell ⟨w.heap.size + 1, 0, none⟩ (.slice (some ⟨w2.heap.size, 0, none⟩) S.nr S.nr)) (.slice (some ⟨w2.heap.size, 0, none⟩) S.nr S.nr) (treeL S) := by
            have hlen : (treeL S).length = S.nr := by unfold treeL; rw [HT.out]; simp
            refine ⟨some ⟨w2.heap.size, 0, none⟩, S.nr, by rw [hlen], by rw [hlen]; omega, ?_⟩
            rw [hlen]
            refine (HR.out.2.block (w' := wr.setCell ⟨w.heap.size + 1, 0, none⟩ (.slice (some ⟨w2.heap.size, 0, none⟩) S.nr S.nr)) (Below.heap_setCell _ _ _ _ (by show w2.heap.size ≠ w.heap.size + 1; omega))).intAt fun j hj => ?_
            have : (treeL S).getD j 0 = parF S j := by unfold treeL; rw [HT.out]; simp [List.getD, hj]
            rw [this, ein, List.take_length]
            unfold parF
            rw [← HC.out, ← HL.out.1]
          have HX := Lib.hid (And.intro hx (And.intro hbk (H2.out.1.trans (HR.out.1.mono (by omega)))))
          rw [ein]
          clear hlt hi ein hx hbk
          go_wp2_with fail
          exact tree_end (Nat.le_succ _) HX.out.2.2 HX.out.1 HX.out.2.1 rfl (by rw [HT.out]; rfl)
    · have hki : (1 : Int) < ((redS S).2.length : Int) := by omega
      have HT := Lib.hid (show treeB S = false by unfold treeB; rw [decide_eq_false hk, Bool.and_false])
      have hbk := H2.out.2.2.2.2
      have e0 : w2.cell? ⟨w.heap.size + 1, 0, none⟩ = some (.slice none 0 0) := cell_in hbk rfl
      have f0 : w2.frozen? ⟨w.heap.size + 1, 0, none⟩ = false := by simp [World.frozen?, hbk]
      have hx : IntL (w2.setCell ⟨w.heap.size + 1, 0, none⟩ (.slice none 0 0)) (.slice none 0 0) (treeL S) := by
        unfold treeL; rw [HT.out]; exact intL_nil _
      have HX := Lib.hid (And.intro hx (And.intro hbk H2.out.1))
      clear hk hx hbk hln hnr hcp
      go_wp2_with fail
      exact tree_end (Nat.le_succ _) HX.out.2.2 HX.out.1 HX.out.2.1 rfl (by rw [HT.out]; rfl)
  · have heb : (checkE S == 0) = false := beq_eq_false_iff_ne.2 he
    have HT := Lib.hid (show treeB S = false by unfold treeB; rw [decide_eq_false he, Bool.false_and])
    have hbk := H1.out.2.2
    have e0 : w1.cell? ⟨w.heap.size + 1, 0, none⟩ = some (.slice none 0 0) := cell_in hbk rfl
    have f0 : w1.frozen? ⟨w.heap.size + 1, 0, none⟩ = false := by simp [World.frozen?, hbk]
    have hx : IntL (w1.setCell ⟨w.heap.size + 1, 0, none⟩ (.slice none 0 0)) (.slice none 0 0) (treeL S) := by
      unfold treeL; rw [HT.out]; exact intL_nil _
    have HX := Lib.hid (And.intro hx (And.intro hbk H1.out.1))
    clear he hx hbk
    go_wp2_with fail
    exact tree_end (Nat.le_succ _) HX.out.2.2 HX.out.1 HX.out.2.1 rfl (by rw [HT.out]; rfl)
set_option maxHeartbeats 1600000 in
set_option maxRecDepth 100000 in
theorem Acyclic_any {w : World} {S : Sc} {V : Sv} (h : SchIn w S V) :
    Calls Try.prog 23 #[.agg #[.slice V.A S.na V.ca, .slice V.R S.nr V.cr, .slice V.F S.nf V.cf, .int .i64 S.label]] w fun e w' => e = .returned (.bool (treeB S)) ∧ Below w.heap.size w w' := by
  have hg : Below w.heap.size w (w.alloc (.cells #[.slice V.A S.na V.ca, .slice V.R S.nr V.cr, .slice V.F S.nf V.cf, .int .i64 S.label] 28)) := (Below.refl _ _).alloc (Nat.le_refl _) _
  have hcon := Tree_any (h.below hg)
  have H := Lib.hid hg
  generalize treeB S = q at hcon ⊢
  clear h hg
  go_enter Try.func23, Try.ntmps23
  go_wp2_with fail
  refine hcon.mono ?_
  rintro e w2 ⟨v, rfl, ⟨A2, c2, rfl, _, _⟩, hb⟩
  have HB := Lib.hid (Below.step H.out hb)
  clear hb
  go_wp2
  go_ret
  exact ⟨rfl, HB.out.alloc HB.out.size _⟩
end Go.Proofs.Ytiakgcaflnpmeaa
