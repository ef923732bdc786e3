/- The reference 07's removals: Reduce. -/
import Derived.Test.YtiakgcaflnpmeaaAcL
namespace Go.Proofs.Ytiakgcaflnpmeaa
open Go Go.RowKit

theorem RowV.other {w : World} {t : TypeId} {g n : Nat} {f : Nat → Value} (h : RowV w t g n f) {p : Addr} (hp : g ≠ p.block) (u : Value) : RowV (w.setCell p u) t g n f := h.block (Below.heap_setCell _ _ _ _ hp)
/-- What lies in memory while the reference removes ears: those of f are left, dn is done. -/
structure RI (w0 : World) (S : Sc) (V : Sv) (B g : Nat) (f : Nat → Bool) (dn : List (Nat × Nat)) (v : Value) (w : World) : Prop where
  low : Below w0.heap.size w0 w
  sz : B ≤ w.heap.size
  box : Box4 w w0.heap.size S V
  inn : RowV w 4 g S.nr fun k => .bool (f k)
  wit : RowV w 3 (g + 1) S.nr fun k => .int .i64 (pf dn k k)
  own : w.ownsRow B 3 1 v dn.length (intV (castL (dn.map Prod.fst)))
  len : dn.length + ((List.range S.nr).filter f).length = S.nr
  done : ∀ x, x ∈ dn → f x.1 = false
  red : redS S = (dn ++ (Acy.red (attrs S) ((List.range S.nr).filter f).length ((List.range S.nr).filter f)).1, (Acy.red (attrs S) ((List.range S.nr).filter f).length ((List.range S.nr).filter f)).2)
theorem own_set {w : World} {B n size : Nat} {e : TypeId} {v : Value} {xs : List Value} (ho : w.ownsRow B e size v n xs) {p : Addr} (hp : p.block < B) (u : Value) : (w.setCell p u).ownsRow B e size v n xs := by
  refine ⟨ho.1, ?_⟩
  rcases ho.2 with h1 | ⟨g', cap', cur, h', h2, hg', h3⟩
  · exact .inl h1
  · exact .inr ⟨g', cap', cur, h', h2, (Below.heap_setCell _ _ _ _ (by omega)).trans hg', h3⟩
theorem earW_wit {S : Sc} {f : Nat → Bool} {j : Nat} (hv : Valid S) (hj : j < S.nr) (hf : f j = true) : earW S S.nr f (j : Int) = Acy.wit (attrs S) ((List.range S.nr).filter f) j := by
  unfold earW
  rw [if_pos ⟨hv.check, rfl⟩]
  unfold Acy.witI
  rw [if_pos ⟨by omega, by simpa [hj] using hf⟩, Int.toNat_natCast]
theorem ear1_none07 {S : Sc} {f : Nat → Bool} (hv : Valid S) (h : ∀ j, j < S.nr → earW S S.nr f (j : Int) = none) : Acy.ear1 (attrs S) ((List.range S.nr).filter f) = none := by
  unfold Acy.ear1
  rw [List.findSome?_eq_none_iff]
  intro x hx
  obtain ⟨h1, h2⟩ := List.mem_filter.1 hx
  rw [← earW_wit hv (List.mem_range.1 h1) h2, h x (List.mem_range.1 h1)]; rfl
theorem range_split {n i : Nat} (h : i < n) : List.range n = List.range i ++ i :: (List.range n).drop (i + 1) := by
  conv => lhs; rw [← List.take_append_drop i (List.range n)]
  rw [List.take_range, Nat.min_eq_left (Nat.le_of_lt h), List.drop_eq_getElem_cons (by simpa using h)]
  simp
theorem ear1_hit07 {S : Sc} {f : Nat → Bool} {i x : Nat} (hv : Valid S) (hi : i < S.nr) (hf : f i = true) (h : ∀ j, j < i → earW S S.nr f (j : Int) = none) (hx : earW S S.nr f (i : Int) = some x) : Acy.ear1 (attrs S) ((List.range S.nr).filter f) = some (i, x) := by
  unfold Acy.ear1
  rw [List.findSome?_eq_some_iff]
  refine ⟨(List.range i).filter f, i, ((List.range S.nr).drop (i + 1)).filter f, ?_, ?_, fun y hy => ?_⟩
  · conv => lhs; rw [range_split hi]
    rw [List.filter_append, List.filter_cons_of_pos hf]
  · rw [← earW_wit hv hi hf, hx]; rfl
  · obtain ⟨h1, h2⟩ := List.mem_filter.1 hy
    have h3 := List.mem_range.1 h1
    rw [← earW_wit hv (by omega) h2, h y h3]; rfl
theorem earW_in {S : Sc} {f : Nat → Bool} {i x : Nat} (hx : earW S S.nr f (i : Int) = some x) : f i = true := by
  unfold earW at hx
  split at hx
  · unfold Acy.witI at hx
    split at hx
    · rename_i h
      rw [Int.toNat_natCast] at h
      exact (List.mem_filter.1 h.2).2
    · exact absurd hx (by simp)
  · exact absurd hx (by simp)
set_option linter.unusedSimpArgs false in
set_option maxHeartbeats 6400000 in
set_option maxRecDepth 100000 in
theorem reduce07 {w : World} {S : Sc} {V : Sv} (h : SchIn w S V) (hv : Valid S) (hf : S.nf = 0) (hl : S.label = -1) :
    Calls Try.prog 45 #[.agg #[.slice V.A S.na V.ca, .slice V.R S.nr V.cr, .slice V.F S.nf V.cf, .int .i64 S.label]] w fun e w' => ∃ v u z, e = .returned (.tuple #[v, u, z]) ∧ IntL w' v (castL ((redS S).1.map Prod.fst)) ∧ IntL w' u (castL (redS S).2) ∧ IntL w' z ((List.range S.nr).map fun k => pf (redS S).1 k k) ∧ Below w.heap.size w w' := by
  obtain ⟨ei, hi, hz, hss, hbs⟩ := info_parts infoInt
  have HI := Lib.hid (And.intro hi (And.intro hz (And.intro hss hbs)))
  clear hi hz hss hbs
  have hg : Below w.heap.size w (w.alloc (.cells #[.slice V.A S.na V.ca, .slice V.R S.nr V.cr, .slice V.F S.nf V.cf, .int .i64 S.label] 28)) := (Below.refl _ _).alloc (Nat.le_refl _) _
  have hcon := check05 (h.below hg) hv hf hl
  have hnr : S.nr ≤ 6 := hv.nr2
  have H := Lib.hid (And.intro h (And.intro hg (And.intro (Box4.new (w := w) (S := S) (V := V)) (And.intro hv (And.intro hf hl)))))
  have hmk1 := make_bool5 S.nr (by omega)
  have hmk2 := make_int S.nr (by omega)
  clear h hg hv hf hl
  go_enter Try.func45, Try.ntmps45
  go_wp2_with fail
  refine hcon.mono ?_
  rintro e w1 ⟨rfl, hb⟩
  have hX := H.out.2.2.1.below hb
  have hB1 := Below.step H.out.2.1 hb
  clear hb hcon
  have q1 := hX.c1
  have hlB : w.heap.size < w1.heap.size := hX.lt
  have hA1 : Below w1.heap.size w1 (w1.alloc (.cells (madeCells #[Value.bool false] S.nr) 4)) := (Below.refl _ _).alloc (Nat.le_refl _) _
  have hA2 : Below (w1.heap.size + 1) (w1.alloc (.cells (madeCells #[Value.bool false] S.nr) 4)) ((w1.alloc (.cells (madeCells #[Value.bool false] S.nr) 4)).alloc (.cells (madeCells #[Value.int .i64 0] S.nr) 3)) := (Below.refl _ _).alloc (by simp) _
  have r1 := RowV.new w1 4 (.bool false) S.nr
  have r2 := RowV.new (w1.alloc (.cells (madeCells #[Value.bool false] S.nr) 4)) 3 (.int .i64 0) S.nr
  rw [show (w1.alloc (.cells (madeCells #[Value.bool false] S.nr) 4)).heap.size = w1.heap.size + 1 by simp] at r2
  obtain ⟨g, hgg⟩ : ∃ g, g = w1.heap.size := ⟨_, rfl⟩
  have HG := Lib.hid (And.intro (Below.step hB1 (hA1.trans (hA2.mono (Nat.le_succ _)))) (And.intro ((hX.below hA1).low hA2 (by omega)) (And.intro (r1.below hA2 (by omega)) (And.intro r2 hlB))))
  rw [← hgg] at HG
  clear hA1 hA2 r1 r2 hB1 hX
  go_wp2_with fail
  rw [← hgg]
  generalize (w1.alloc (.cells (madeCells #[Value.bool false] S.nr) 4)).alloc (.cells (madeCells #[Value.int .i64 0] S.nr) 3) = w2 at *
  clear hmk1 hmk2 q1 hlB hgg
  go_loopg [24] S.nr (fun gg s24 wr => ∃ i : Nat, i + gg = S.nr ∧ s24 = .int .i64 (i : Int) ∧ Hid (Below w.heap.size w wr ∧ Box4 wr w.heap.size S V ∧ RowV wr 4 g S.nr (fun j => .bool (decide (j < i))) ∧ RowV wr 3 (g + 1) S.nr (fun j => .int .i64 (if j < i then -1 else 0)) ∧ w.heap.size < g))
  case atStart => exact ⟨0, by omega, rfl, Lib.hid ⟨HG.out.1, HG.out.2.1, HG.out.2.2.1.congr fun j _ => by simp, HG.out.2.2.2.1.congr fun j _ => by simp, HG.out.2.2.2.2⟩⟩
  case round =>
    clear HG
    obtain ⟨i, hi, rfl, HR⟩ := hrel
    by_cases hlt : i < S.nr
    · have f0 := HR.out.2.2.1.free i
      have k0 := HR.out.2.2.1.cell hlt
      have f1 := HR.out.2.2.2.1.free i
      have k1 := HR.out.2.2.2.1.cell hlt
      have hgw := HR.out.2.2.2.2
      have HS := Lib.hid (And.intro ((HR.out.1.setCell (p := ⟨g, i, none⟩) (Nat.le_of_lt hgw) (.bool true)).setCell (p := ⟨g + 1, i, none⟩) (by show w.heap.size ≤ g + 1; omega) (.int .i64 (-1)))
        (And.intro (HR.out.2.1.low (((Below.refl g wr).setCell (p := ⟨g, i, none⟩) (Nat.le_refl _) (.bool true)).setCell (p := ⟨g + 1, i, none⟩) (Nat.le_succ _) (.int .i64 (-1))) hgw)
        (And.intro ((HR.out.2.2.1.set hlt (.bool true)).other (p := ⟨g + 1, i, none⟩) (by show g ≠ g + 1; omega) (.int .i64 (-1)))
        ((HR.out.2.2.2.1.other (p := ⟨g, i, none⟩) (by show g + 1 ≠ g; omega) (.bool true)).set hlt (.int .i64 (-1))))))
      go_wp2
      go_roundg (S.nr - (i + 1))
      case measure => omega
      case rel => exact ⟨i + 1, by omega, by go_num, Lib.hid ⟨HS.out.1, HS.out.2.1, HS.out.2.2.1.congr fun j _ => by
        by_cases e : j = i
        · simp [e]
        · rw [if_neg e, show decide (j < i) = decide (j < i + 1) by simp only [decide_eq_decide]; omega], HS.out.2.2.2.congr fun j _ => by
        by_cases e : j = i
        · simp [e]
        · rw [if_neg e]
          by_cases e2 : j < i
          · rw [if_pos e2, if_pos (by omega)]
          · rw [if_neg e2, if_neg (by omega)], hgw⟩⟩
    · have ein : i = S.nr := by omega
      have hr1 : RowV wr 4 g S.nr (fun j => .bool true) := HR.out.2.2.1.congr fun j hj => by rw [decide_eq_true (by omega)]
      have hr2 : RowV wr 3 (g + 1) S.nr (fun k => .int .i64 (pf [] k k)) := HR.out.2.2.2.1.congr fun j hj => by rw [if_pos (by omega)]; simp [pf]
      have hrange : (List.range S.nr).filter (fun _ => true) = List.range S.nr := by simp
      have HN := Lib.hid (show RI w S V wr.heap.size g (fun _ => true) [] (.slice none 0 0) wr from
        { low := HR.out.1, sz := Nat.le_refl _, box := HR.out.2.1, inn := hr1, wit := hr2, own := ⟨rfl, .inl ⟨rfl, rfl⟩⟩, len := by rw [hrange]; simp
          done := fun x hx => absurd hx (by simp)
          red := by rw [hrange, List.length_range]; rfl })
      have hgw : g + 1 < wr.heap.size := HR.out.2.2.2.1.lt
      have hgl := HR.out.2.2.2.2
      rw [ein]
      clear hlt hi ein hr1 hr2 hrange HR
      generalize wr = w3 at *
      go_wp2_with fail
      go_loopg [2, 7] (2 * S.nr + 1) (fun gg s2 s7 wr => ∃ (v : Value) (m : Bool) (f : Nat → Bool) (dn : List (Nat × Nat)), gg = 2 * ((List.range S.nr).filter f).length + (if m then 1 else 0) ∧ s2 = v ∧ s7 = .bool m ∧ Hid (RI w S V w3.heap.size g f dn v wr ∧ (m = false → Acy.ear1 (attrs S) ((List.range S.nr).filter f) = none)))
      case atStart => exact ⟨_, true, fun _ => true, [], by rw [show (List.range S.nr).filter (fun _ => true) = List.range S.nr by simp, List.length_range]; rfl, rfl, rfl, Lib.hid ⟨HN.out, fun h => absurd h (by decide)⟩⟩
      case round =>
        clear HN
        obtain ⟨sv, m, f, dn, hgm, hsv, rfl, HR⟩ := hrel
        have hsv2 := hsv.symm
        clear hsv
        subst hsv2
        have HM := Lib.hid hgm
        clear hgm
        cases m with
        | false =>
          have hred := HR.out.1.red
          rw [red_stop _ (HR.out.2 rfl), List.append_nil] at hred
          have HX := Lib.hid hred
          obtain ⟨wz, hwz⟩ : ∃ x, x = wr := ⟨_, rfl⟩
          subst hwz
          clear hred
          go_wp2_with fail
          go_loopg [3, 62] S.nr (fun gg s3 s62 wr => ∃ (u : Value) (i : Nat), i + gg = S.nr ∧ s3 = u ∧ s62 = .int .i64 (i : Int) ∧ Hid (Below wz.heap.size wz wr ∧ wr.ownsRow wz.heap.size 3 1 u ((List.range i).filter f).length (intV (castL ((List.range i).filter f)))))
          case atStart => exact ⟨_, 0, by omega, rfl, rfl, Lib.hid ⟨Below.refl _ _, ⟨rfl, .inl ⟨rfl, rfl⟩⟩⟩⟩
          case round =>
            obtain ⟨u, i, hi, hs, rfl, HQ⟩ := hrel
            have hs2 := hs.symm
            clear hs
            subst hs2
            by_cases hlt : i < S.nr
            · have k0 := (HR.out.1.inn.below HQ.out.1 HR.out.1.inn.lt).cell hlt
              have i1 : (i : Int) < (S.nr : Int) := by omega
              have hszr := HQ.out.1.size
              have hle : ((List.range i).filter f).length ≤ i := by have := List.length_filter_le f (List.range i); rw [List.length_range] at this; exact this
              cases hfi : f i with
              | false =>
                rw [hfi] at k0
                have HF := Lib.hid (show (List.range (i + 1)).filter f = (List.range i).filter f by rw [List.range_succ, List.filter_append]; simp [hfi])
                clear hfi
                go_wp2
                go_roundg (S.nr - (i + 1))
                case measure => omega
                case rel => exact ⟨u, i + 1, by omega, rfl, by go_num, Lib.hid ⟨HQ.out.1, by rw [HF.out]; exact HQ.out.2⟩⟩
              | true =>
                rw [hfi] at k0
                have HF := Lib.hid (show (List.range (i + 1)).filter f = (List.range i).filter f ++ [i] by rw [List.range_succ, List.filter_append]; simp [hfi])
                clear hfi
                go_wp2_with (at_builtin; refine wpList_append_own_at _ rfl (.tmp 69) (.tmp 71) 22 rfl wz.heap.size 3 ei (.int .i64 0) 1 8 Try.underlying22 HI.out.1 HI.out.2.1 HI.out.2.2.1 HI.out.2.2.2 rfl (by decide) u ((List.range i).filter f).length (intV (castL ((List.range i).filter f))) rfl (HQ.out.2.alloc _) ⟨wr.heap.size, 0, none⟩ 1 1 [.int .i64 (i : Int)] rfl rfl (by intro j u hj; match j, hj with | 0, hj => simp at hj; subst hj; simp [Addr.add]) (by intro u hu; simp at hu; subst hu; rfl) (by unfold maxLen; omega) (by omega) (by simp; omega) ?_; intro v' w5 hown hgrow hnil hblk; have HO := Lib.hid (And.intro hown hgrow); clear hown hgrow hnil hblk)
                have hrow : ∀ k, u.ownBlock = some k → wz.heap.size ≤ k := fun k hk => (HQ.out.2.lt k hk).1
                have HG := Lib.hid ((HQ.out.1.alloc hszr (.cells #[.int .i64 (i : Int)] 3)).grown HO.out.2 (by simp; omega) hrow)
                clear hrow
                go_wp2
                go_roundg (S.nr - (i + 1))
                case measure => omega
                case rel =>
                  refine ⟨_, i + 1, by omega, rfl, by go_num, Lib.hid ⟨HG.out, ?_⟩⟩
                  have h3 := HO.out.1
                  rw [HF.out]
                  rw [show ((List.range i).filter f ++ [i]).length = ((List.range i).filter f).length + 1 by rw [List.length_append]; rfl, show intV (castL ((List.range i).filter f ++ [i])) = intV (castL ((List.range i).filter f)) ++ [.int .i64 (i : Int)] by simp [intV, castL]]
                  exact h3
            · have ein : i = S.nr := by omega
              have hlen := HR.out.1.len
              have hL1 : IntL wr sv (castL ((redS S).1.map Prod.fst)) := by
                rw [HX.out]
                exact intL_own (by rw [castL_len, List.length_map]; exact own_below' HR.out.1.own HQ.out.1) (by rw [castL_len, List.length_map]; show dn.length ≤ 1000; omega)
              have hL2 : IntL wr u (castL (redS S).2) := by
                rw [HX.out]
                have := HQ.out.2
                rw [ein] at this
                exact intL_own (by rw [castL_len]; exact this) (by rw [castL_len]; show ((List.range S.nr).filter f).length ≤ 1000; omega)
              have hL3 : IntL wr (.slice (some ⟨g + 1, 0, none⟩) S.nr S.nr) ((List.range S.nr).map fun k => pf (redS S).1 k k) := by
                rw [HX.out]
                refine ⟨some ⟨g + 1, 0, none⟩, S.nr, by simp, by simp; omega, ?_⟩
                rw [List.length_map, List.length_range]
                exact (HR.out.1.wit.below HQ.out.1 HR.out.1.wit.lt).intAt fun j hj => by simp [List.getD, hj]
              have HF := Lib.hid (And.intro hL1 (And.intro hL2 (And.intro hL3 (Below.step HR.out.1.low HQ.out.1))))
              rw [ein]
              clear hlt hi ein hlen hL1 hL2 hL3
              go_wp2_with fail
              first | go_ret3 | go_ret
              exact ⟨_, _, _, rfl, HF.out.1, HF.out.2.1, HF.out.2.2.1, HF.out.2.2.2⟩
        | true =>
          go_wp2_with fail
          go_loopg [2, 7, 37] S.nr (fun gg s2 s7 s37 wr => ∃ i : Nat, i + gg = S.nr ∧ s37 = .int .i64 (i : Int) ∧ s2 = sv ∧ s7 = .bool false ∧ Hid (RI w S V w3.heap.size g f dn sv wr ∧ ∀ j, j < i → earW S S.nr f (j : Int) = none))
          case atStart => exact ⟨0, by omega, rfl, rfl, rfl, Lib.hid ⟨HR.out.1, fun _ h => absurd h (by omega)⟩⟩
          case round =>
            obtain ⟨i, hi, rfl, hs2, rfl, HQ⟩ := hrel
            have hs3 := hs2.symm
            clear hs2
            subst hs3
            by_cases hlt : i < S.nr
            · have q0 := HQ.out.1.box.c0
              have q1 := HQ.out.1.box.c1
              have q2 := HQ.out.1.box.c2
              have q3 := HQ.out.1.box.c3
              have hba : BoolAt wr (some ⟨g, 0, none⟩) S.nr f := fun _ => ⟨g, 0, rfl, HQ.out.1.inn.lt, fun k hk => by rw [Nat.zero_add]; exact HQ.out.1.inn.cell hk⟩
              have hcon := ear07 (c := S.nr) (H.out.1.below HQ.out.1.low) H.out.2.2.2.1 H.out.2.2.2.2.1 H.out.2.2.2.2.2 hba hlt
              cases hq : earW S S.nr f (i : Int) with
              | none =>
                rw [hq] at hcon
                have HE := Lib.hid hq
                clear hq hba
                go_wp2_with fail
                refine hcon.mono ?_
                rintro e w4 ⟨rfl, hb⟩
                have HB := Lib.hid (show RI w S V w3.heap.size g f dn sv w4 from { HQ.out.1 with
                  low := Below.step HQ.out.1.low hb
                  sz := Nat.le_trans HQ.out.1.sz hb.size
                  box := HQ.out.1.box.below hb
                  inn := HQ.out.1.inn.below hb HQ.out.1.inn.lt
                  wit := HQ.out.1.wit.below hb HQ.out.1.wit.lt
                  own := own_below' HQ.out.1.own hb })
                clear hb q0 q1 q2 q3 hcon
                simp only [witV]
                go_wp2
                go_roundg (S.nr - (i + 1))
                case measure => omega
                case rel => exact ⟨i + 1, by omega, by go_num, rfl, rfl, Lib.hid ⟨HB.out, fun j hj => by
                  by_cases e : j = i
                  · rw [e]; exact HE.out
                  · exact HQ.out.2 j (by omega)⟩⟩
              | some x =>
                rw [hq] at hcon
                have hfi := earW_in hq
                have he1 := ear1_hit07 H.out.2.2.2.1 hlt hfi HQ.out.2 hq
                have hoth : (List.range S.nr).filter (fun k => if k = i then false else f k) = Acy.oth ((List.range S.nr).filter f) i := by
                  unfold Acy.oth
                  rw [List.filter_filter]
                  congr 1
                  funext k
                  by_cases e : k = i
                  · simp [e]
                  · simp [e]
                have hnd : ((List.range S.nr).filter f).Nodup := List.nodup_range.filter _
                have hmem : i ∈ (List.range S.nr).filter f := List.mem_filter.2 ⟨List.mem_range.2 hlt, hfi⟩
                have hol := Acy.oth_len hnd hmem
                have hpos := List.length_pos_of_mem hmem
                have hred := HQ.out.1.red
                rw [red_step hnd he1] at hred
                have hdi : i ∉ dn.map Prod.fst := fun h => by
                  obtain ⟨y, hy, e⟩ := List.mem_map.1 h
                  have := HQ.out.1.done y hy
                  rw [e, hfi] at this; exact absurd this (by decide)
                have HP := Lib.hid (And.intro hoth (And.intro hol (And.intro hpos (And.intro hred (And.intro hdi hfi)))))
                clear hq hba hfi he1 hoth hnd hmem hol hpos hred hdi
                go_wp2_with fail
                refine hcon.mono ?_
                rintro e w4 ⟨rfl, hb⟩
                have hn0 := HQ.out.1.inn.below hb HQ.out.1.inn.lt
                have hw0 := HQ.out.1.wit.below hb HQ.out.1.wit.lt
                have ho0 := own_below' HQ.out.1.own hb
                have hB4 := Below.step HQ.out.1.low hb
                have hX4 := HQ.out.1.box.below hb
                have f0 := hn0.free i
                have k0 := hn0.cell hlt
                have f1 := hw0.free i
                have k1 := hw0.cell hlt
                have hdl : dn.length ≤ 6 := by have := HQ.out.1.len; omega
                have ho1 := own_set (own_set ho0 (p := ⟨g, i, none⟩) (by show g < w3.heap.size; omega) (.bool false)) (p := ⟨g + 1, i, none⟩) hgw (.int .i64 (x : Int))
                have hn1 := (hn0.set hlt (.bool false)).other (p := ⟨g + 1, i, none⟩) (by show g ≠ g + 1; omega) (.int .i64 (x : Int))
                have hw1 := (hw0.other (p := ⟨g, i, none⟩) (by show g + 1 ≠ g; omega) (.bool false)).set hlt (.int .i64 (x : Int))
                have hl1 := (hB4.setCell (p := ⟨g, i, none⟩) (Nat.le_of_lt hgl) (.bool false)).setCell (p := ⟨g + 1, i, none⟩) (by show w.heap.size ≤ g + 1; omega) (.int .i64 (x : Int))
                have hx1 := hX4.low (((Below.refl g w4).setCell (p := ⟨g, i, none⟩) (Nat.le_refl _) (.bool false)).setCell (p := ⟨g + 1, i, none⟩) (Nat.le_succ _) (.int .i64 (x : Int))) hgl
                have hz1 : ((w4.setCell ⟨g, i, none⟩ (.bool false)).setCell ⟨g + 1, i, none⟩ (.int .i64 (x : Int))).heap.size = w4.heap.size := by simp [World.setCell]
                have hcell : (((w4.setCell ⟨g, i, none⟩ (.bool false)).setCell ⟨g + 1, i, none⟩ (.int .i64 (x : Int))).alloc (.cells #[.int .i64 (i : Int)] 3)).cell? ⟨w4.heap.size, 0, none⟩ = some (.int .i64 (i : Int)) := cell_in (block_new _ hz1.symm) rfl
                have hz2 : w3.heap.size ≤ w4.heap.size := Nat.le_trans HQ.out.1.sz hb.size
                have HS := Lib.hid (And.intro ho1 (And.intro hn1 (And.intro hw1 (And.intro hl1 hx1))))
                clear ho0 hn0 hw0 hB4 hX4 hb q0 q1 q2 q3 hcon ho1 hn1 hw1 hl1 hx1
                simp only [witV]
                go_wp2_with (at_builtin; refine wpList_append_own_at _ rfl (.tmp 55) (.tmp 57) 22 rfl w3.heap.size 3 ei (.int .i64 0) 1 8 Try.underlying22 HI.out.1 HI.out.2.1 HI.out.2.2.1 HI.out.2.2.2 rfl (by decide) sv dn.length (intV (castL (dn.map Prod.fst))) rfl (HS.out.1.alloc _) ⟨w4.heap.size, 0, none⟩ 1 1 [.int .i64 (i : Int)] rfl rfl (by intro j u hj; match j, hj with | 0, hj => simp at hj; subst hj; simp only [Addr.add, Nat.add_zero]; exact hcell) (by intro u hu; simp at hu; subst hu; rfl) (by unfold maxLen; omega) (by omega) (by simp; omega) ?_; intro v' w5 hown hgrow hnil hblk; have HO := Lib.hid (And.intro hown hgrow); clear hown hgrow hnil hblk)
                have hrow : ∀ k, sv.ownBlock = some k → w3.heap.size ≤ k := fun k hk => (HS.out.1.lt k hk).1
                have hG : Below w3.heap.size ((w4.setCell ⟨g, i, none⟩ (.bool false)).setCell ⟨g + 1, i, none⟩ (.int .i64 (x : Int))) w5 := ((Below.refl _ _).alloc (by rw [hz1]; exact hz2) (.cells #[.int .i64 (i : Int)] 3)).grown HO.out.2 (by simp; omega) hrow
                have HN := Lib.hid (show RI w S V w3.heap.size g (fun k => if k = i then false else f k) (dn ++ [(i, x)]) v' w5 from
                  { low := HS.out.2.2.2.1.trans (hG.mono (by omega))
                    sz := Nat.le_trans (by rw [hz1]; exact hz2) hG.size
                    box := HS.out.2.2.2.2.low hG (by omega)
                    inn := (HS.out.2.1.below hG (by omega)).congr fun j _ => by by_cases e : j = i <;> simp [e]
                    wit := (HS.out.2.2.1.below hG hgw).congr fun j _ => by
                      rw [pf_snoc HP.out.2.2.2.2.1]
                      by_cases e : j = i <;> simp [e]
                    own := by
                      rw [show (dn ++ [(i, x)]).length = dn.length + 1 by rw [List.length_append]; rfl, show intV (castL ((dn ++ [(i, x)]).map Prod.fst)) = intV (castL (dn.map Prod.fst)) ++ [.int .i64 (i : Int)] by simp [intV, castL]]
                      exact HO.out.1
                    len := by
                      have h1 := HQ.out.1.len
                      have h2 := HP.out.2.1
                      have h3 := HP.out.2.2.1
                      rw [HP.out.1, h2, List.length_append]
                      show dn.length + 1 + _ = _
                      omega
                    done := fun y hy => by
                      show (if y.1 = i then false else f y.1) = false
                      by_cases e : y.1 = i
                      · rw [if_pos e]
                      · rw [if_neg e]
                        rcases List.mem_append.1 hy with hy | hy
                        · exact HQ.out.1.done y hy
                        · rw [List.mem_singleton] at hy
                          exact absurd (by rw [hy]) e
                    red := by
                      rw [HP.out.1, HP.out.2.2.2.1, List.append_assoc]; rfl })
                have hlt2 : ((List.range S.nr).filter fun k => if k = i then false else f k).length + 1 ≤ ((List.range S.nr).filter f).length := by
                  have h2 := HP.out.2.1
                  have h3 := HP.out.2.2.1
                  rw [HP.out.1, h2]; omega
                clear hrow hG
                go_wp2
                go_roundg (2 * ((List.range S.nr).filter fun k => if k = i then false else f k).length + 1)
                case measure => have := HM.out; simp at this; omega
                case rel => exact ⟨v', true, fun k => if k = i then false else f k, dn ++ [(i, x)], by simp, rfl, rfl, Lib.hid ⟨HN.out, fun h => absurd h (by decide)⟩⟩
            · have ein : i = S.nr := by omega
              have HE := Lib.hid (ear1_none07 H.out.2.2.2.1 fun j hj => HQ.out.2 j (by omega))
              rw [ein]
              clear hlt hi ein
              go_wp2
              go_roundg (2 * ((List.range S.nr).filter f).length)
              case measure => have := HM.out; simp at this; omega
              case rel => exact ⟨sv, false, f, dn, by simp, rfl, rfl, Lib.hid ⟨HQ.out.1, fun _ => HE.out⟩⟩
end Go.Proofs.Ytiakgcaflnpmeaa
