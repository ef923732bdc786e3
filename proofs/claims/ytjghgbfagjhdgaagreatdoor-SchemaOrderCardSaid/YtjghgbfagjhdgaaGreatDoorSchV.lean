/- The source's schemas: the walk of the relations. -/
import Derived.Test.YtjghgbfagjhdgaaGreatDoorSchY
import Derived.Maps.AppendAt
import Derived.Deep.DeepCutAuto
namespace Go.Proofs.YtjghgbfagjhdgaaGreatDoor
open Go Go.RowKit

theorem infoAttr : (Tryz.prog.info? 68).map (fun i => (i.zero, i.size, i.bytes)) = some (some (.agg #[.string ⟨#[]⟩, .int .i64 0]), 2, 24) := by kernel_rfl
theorem infoRel : (Tryz.prog.info? 60).map (fun i => (i.zero, i.size, i.bytes)) = some (some (.agg #[.string ⟨#[]⟩, .slice none 0 0]), 2, 40) := by kernel_rfl
theorem infoFeat : (Tryz.prog.info? 121).map (fun i => (i.zero, i.size, i.bytes)) = some (some (.agg #[.int .i64 0, .int .i64 0, .int .i64 0]), 3, 24) := by kernel_rfl
theorem names (i : Nat) : (⟨#[97]⟩ : ByteArray) ++ ⟨[UInt8.ofNat (97 + i)].toArray⟩ = nmL i := bytes_app [97] [UInt8.ofNat (97 + i)]
theorem rnames (i : Nat) : (⟨#[114]⟩ : ByteArray) ++ ⟨[UInt8.ofNat (97 + i)].toArray⟩ = rnL i := bytes_app [114] [UInt8.ofNat (97 + i)]
theorem own_slice {w : World} {base n size : Nat} {e : TypeId} {v : Value} {ys : List Value} (h : w.ownsRow base e size v n ys) : ∃ A c, v = .slice A n c := by
  rcases h.2 with ⟨rfl, rfl⟩ | ⟨g', cap, cur, rfl, _⟩
  · exact ⟨none, 0, rfl⟩
  · exact ⟨_, _, rfl⟩
set_option linter.unusedSimpArgs false in
set_option maxHeartbeats 12800000 in
set_option maxRecDepth 100000 in
theorem schema_src {w : World} {g : Nat} (h : SrcIn w g) :
    Calls Tryz.prog 34 #[.pointer (some ⟨g, 0, none⟩), .int .i64 6] w fun e w' => ∃ v, e = .returned v ∧ SchemaOut w g v w' := by
  obtain ⟨ei, hi, hz, hss, hbs⟩ := info_parts infoInt
  have HI := Lib.hid (And.intro hi (And.intro hz (And.intro hss hbs)))
  clear hi hz hss hbs
  obtain ⟨ea, hi, hz, hss, hbs⟩ := info_parts infoAttr
  have HIA := Lib.hid (And.intro hi (And.intro hz (And.intro hss hbs)))
  clear hi hz hss hbs
  obtain ⟨er, hi, hz, hss, hbs⟩ := info_parts infoRel
  have HIR := Lib.hid (And.intro hi (And.intro hz (And.intro hss hbs)))
  clear hi hz hss hbs
  obtain ⟨ef, hi, hz, hss, hbs⟩ := info_parts infoFeat
  have HIF := Lib.hid (And.intro hi (And.intro hz (And.intro hss hbs)))
  clear hi hz hss hbs
  have hgh := h.lt
  have H := Lib.hid h
  clear h
  go_enter Tryz.func34, Tryz.ntmps34
  go_upto_region 2 with fail
  have hm0 : Mk w ((w.alloc (.cells #[.slice none 0 0, .slice none 0 0, .slice none 0 0, .int .i64 0] 56)).alloc (.cells #[.slice none 0 0, .slice none 0 0, .slice none 0 0, .int .i64 (-1)] 56)) g [] [] (.slice none 0 0) (.slice none 0 0) (.slice none 0 0) [] :=
    ⟨(H.out.alloc _).alloc _, hgh, Src1.below (by go_grown) (Nat.le_of_lt hgh), block_alloc _ (block_new _ rfl), block_new _ (by simp), World.ownsRow_nil _ _ _ _, World.ownsRow_nil _ _ _ _, World.ownsRow_nil _ _ _ _, fun _ hp => absurd hp (by simp), Apart.nil _, Apart.nil _, Apart.nil _, fun _ hp => absurd hp (by simp)⟩
  have HM := Lib.hid hm0
  clear hm0
  go_wp2_with fail
  refine (range13 HM.out.src).mono ?_
  rintro e w1 ⟨n0, rfl, ⟨hn1, hn3⟩, hs, hb⟩
  obtain ⟨n, rfl⟩ : ∃ n : Nat, n0 = (n : Int) := ⟨n0.toNat, by omega⟩
  have HM1 := Lib.hid (HM.out.step hs hb)
  clear HM hs hb
  go_wp2_with fail
  go_loopg [7] n (fun gg s7 wr => ∃ (i : Nat) (al : List (ByteArray × Int)) (rs : List (ByteArray × Value × List Nat)) (vA vR : Value), i + gg = n ∧ s7 = .int .i64 (i : Int) ∧ Hid (Mk w wr g al rs vA vR (.slice none 0 0) [] ∧ Ok al rs [] i ∧ (1 ≤ i → 1 ≤ al.length)))
  case atStart => exact ⟨0, [], [], _, _, by omega, rfl, Lib.hid ⟨HM1.out, Ok.start, fun h => absurd h (by omega)⟩⟩
  case round =>
    clear HM1
    obtain ⟨i, al, rs, vA, vR, hi, rfl, HR⟩ := hrel
    by_cases hlt : i < n
    · obtain ⟨AA, ca, rfl⟩ := own_slice HR.out.1.attr
      have hal := HR.out.2.1.len
      have c0 := cell_in HR.out.1.box (j := 0) rfl
      have c0' : wr.cell? ⟨w.heap.size + 1, 0, none⟩ = some (.slice AA al.length ca) := c0
      clear c0
      go_wp2_with fail
      clear c0'
      go_loopg [8, 24] al.length (fun gg s8 s24 wx => ∃ (A : Option Addr) (c a : Nat) (xs : List Nat), a + gg = al.length ∧ s8 = .slice A xs.length c ∧ s24 = .int .i64 (a : Int) ∧ Hid (Mk w wx g al rs (.slice AA al.length ca) vR (.slice A xs.length c) xs ∧ (∀ x ∈ xs, x < a) ∧ xs.Pairwise (· < ·) ∧ xs.length ≤ a))
      case atStart => exact ⟨none, 0, 0, [], by omega, rfl, rfl, Lib.hid ⟨HR.out.1, fun _ h => absurd h (by simp), List.Pairwise.nil, Nat.zero_le _⟩⟩
      case round =>
        obtain ⟨A, c, a, xs, ha, rfl, rfl, HX⟩ := hrel
        by_cases hla : a < al.length
        · go_wp2_with fail
          refine (n_src 3 HX.out.1.src (by omega) (by omega)).mono ?_
          rintro e w2 ⟨r, rfl, ⟨hr0, hr1⟩, hs, hb⟩
          have H2 := Lib.hid (HX.out.1.step hs hb)
          clear hs hb
          by_cases hr : r = 0
          · subst hr
            have hxl := HX.out.2.2.2
            have hsz := H2.out.size
            go_wp2_with (at_builtin; refine wpList_append_lies _ rfl (.tmp 30) (.tmp 32) 22 rfl (w.heap.size + 1 + 1) 3 ei (.int .i64 0) 1 8 Tryz.underlying22 HI.out.1 HI.out.2.1 HI.out.2.2.1 HI.out.2.2.2 rfl (by decide) (.slice A xs.length c) xs.length (natV xs) rfl (H2.out.cur.alloc _) ⟨w2.heap.size, 0, none⟩ 1 1 [.int .i64 (a : Int)] rfl rfl (by intro j u hj; match j, hj with | 0, hj => simp at hj; subst hj; simp [Addr.add]) (by intro u hu; simp at hu; subst hu; rfl) (by omega) (by unfold maxLen; omega) (by omega) (by simp <;> omega) (w2.heap.size + 1) (by simp) ?_; intro gC cC wn hown hgrow hblk hgl; have HG := Lib.hid (And.intro hown (And.intro hgrow hblk)); clear hown hgrow hblk hgl)
            have HN := Lib.hid (H2.out.pushCur (a := a) ((Below.refl _ _).alloc (Nat.le_refl _) (.cells #[.int .i64 (a : Int)] 3)) HG.out.1 HG.out.2.1 (by rcases HG.out.2.2 with e | e; exact .inl e.symm; exact .inr (by rw [e]; simp [Value.ownBlock])))
            clear HG H2
            go_wp2
            go_roundg (al.length - (a + 1))
            case measure => omega
            case rel => exact ⟨some ⟨gC, 0, none⟩, cC, a + 1, xs ++ [a], by omega, by rw [List.length_append]; rfl, by go_num, Lib.hid ⟨by have := HN.out; rw [List.length_append]; exact this, fun x hx => by
              rcases List.mem_append.1 hx with hx | hx
              · have := HX.out.2.1 x hx; omega
              · rw [List.mem_singleton] at hx; omega, pair_snoc HX.out.2.2.1 HX.out.2.1, by rw [List.length_append]; show xs.length + 1 ≤ a + 1; omega⟩⟩
          · have hrb : (r == 0) = false := beq_eq_false_iff_ne.2 hr
            clear hr
            go_wp2
            go_roundg (al.length - (a + 1))
            case measure => omega
            case rel => exact ⟨A, c, a + 1, xs, by omega, rfl, by go_num, Lib.hid ⟨H2.out, fun x hx => Nat.lt_succ_of_lt (HX.out.2.1 x hx), HX.out.2.2.1, Nat.le_succ_of_le HX.out.2.2.2⟩⟩
        · have eal : a = al.length := by omega
          have HA := Lib.hid (show Ok al rs xs i from HR.out.2.1.cur ⟨fun x hx => by have := HX.out.2.1 x hx; omega, HX.out.2.2.1⟩ fun _ hx => absurd hx (by simp))
          go_wp2_with fail
          refine (n_src 3 HX.out.1.src (by omega) (by omega)).mono ?_
          rintro e w2 ⟨k0, rfl, ⟨hk0, hk3⟩, hs, hb⟩
          have H2 := Lib.hid (HX.out.1.step hs hb)
          have HP := Lib.hid HR.out.2.2
          clear hs hb eal HX HR ha hla
          go_wp2_with fail
          go_loopg [8, 10] (6 - al.length) (fun gg s8 s10 wx => ∃ (al : List (ByteArray × Int)) (AA : Option Addr) (ca : Nat) (A : Option Addr) (c : Nat) (xs : List Nat) (kk : Int), al.length + gg = 6 ∧ s8 = .slice A xs.length c ∧ s10 = .int .i64 kk ∧ Hid (Mk w wx g al rs (.slice AA al.length ca) vR (.slice A xs.length c) xs ∧ Ok al rs xs i ∧ (-1 ≤ kk ∧ kk ≤ 2) ∧ (xs.length = 0 → 0 ≤ kk) ∧ (1 ≤ i → 1 ≤ al.length)))
          case atStart => exact ⟨al, AA, ca, A, c, xs, k0, by omega, rfl, rfl, Lib.hid ⟨H2.out, HA.out, ⟨by omega, by omega⟩, fun _ => hk0, HP.out⟩⟩
          case round =>
            clear H2 HA HP hal hk0 hk3
            obtain ⟨al, AA, ca, A, c, xs, kk, hgg, rfl, rfl, HX⟩ := hrel
            have c0 : wr.cell? ⟨w.heap.size + 1, 0, none⟩ = some (.slice AA al.length ca) := cell_in HX.out.1.box rfl
            have hal := HX.out.2.1.len
            obtain ⟨q, hq⟩ : ∃ q : Bool, q = decide ((0 < kk ∨ xs.length = 0) ∧ al.length < 6) := ⟨_, rfl⟩
            have HQ := Lib.hid hq
            clear hq
            go_upto_region 14 with fail
            go_cut [50] (fun s50 wy => s50 = .bool q ∧ Hid (Mk w wy g al rs (.slice AA al.length ca) vR (.slice A xs.length c) xs))
            case first =>
              by_cases hx : xs.length = 0
              · have hxb : ((xs.length : Int) == 0) = true := by rw [beq_iff_eq]; omega
                have HX0 := Lib.hid hx
                clear hx
                by_cases h6 : al.length < 6
                · have h6i : (al.length : Int) < 6 := by omega
                  have HF := Lib.hid (show q = true by rw [HQ.out]; exact decide_eq_true ⟨.inr HX0.out, h6⟩)
                  by_cases hk : 0 < kk
                  · go_wp2_with fail
                    go_meet
                    exact ⟨by rw [HF.out], Lib.hid HX.out.1⟩
                  · go_wp2_with fail
                    go_meet
                    exact ⟨by rw [HF.out], Lib.hid HX.out.1⟩
                · have h6i : ¬ (al.length : Int) < 6 := by omega
                  have HF := Lib.hid (show q = false by rw [HQ.out]; exact decide_eq_false fun h => h6 h.2)
                  by_cases hk : 0 < kk
                  · go_wp2_with fail
                    go_meet
                    exact ⟨by rw [HF.out], Lib.hid HX.out.1⟩
                  · go_wp2_with fail
                    go_meet
                    exact ⟨by rw [HF.out], Lib.hid HX.out.1⟩
              · have hxb : ((xs.length : Int) == 0) = false := by rw [beq_eq_false_iff_ne]; omega
                have hxi : ¬ (xs.length : Int) = 0 := by omega
                by_cases hk : 0 < kk
                · by_cases h6 : al.length < 6
                  · have h6i : (al.length : Int) < 6 := by omega
                    have HF := Lib.hid (show q = true by rw [HQ.out]; exact decide_eq_true ⟨.inl hk, h6⟩)
                    go_wp2_with fail
                    go_meet
                    exact ⟨by rw [HF.out], Lib.hid HX.out.1⟩
                  · have h6i : ¬ (al.length : Int) < 6 := by omega
                    have HF := Lib.hid (show q = false by rw [HQ.out]; exact decide_eq_false fun h => h6 h.2)
                    go_wp2_with fail
                    go_meet
                    exact ⟨by rw [HF.out], Lib.hid HX.out.1⟩
                · have HF := Lib.hid (show q = false by rw [HQ.out]; exact decide_eq_false fun h => by rcases h.1 with h | h; exact hk h; exact hx h)
                  go_wp2_with fail
                  go_meet
                  exact ⟨by rw [HF.out], Lib.hid HX.out.1⟩
            obtain ⟨rfl, HY⟩ := hcut
            have HZ := Lib.hid HX.out.2
            clear HX c0
            cases q with
            | false =>
              have hfin : xs.length ≠ 0 ∨ al.length = 6 := by
                have h1 := of_decide_eq_false HQ.out.symm
                by_cases hx : xs.length = 0
                · exact .inr (by have h2 : ¬ al.length < 6 := fun h => h1 ⟨.inr hx, h⟩; omega)
                · exact .inl hx
              have HFI := Lib.hid hfin
              clear hfin
              go_upto_if 74 with fail
              go_cut [8] (fun s8 wy => ∃ (A : Option Addr) (c : Nat) (xs : List Nat), s8 = .slice A xs.length c ∧ Hid (Mk w wy g al rs (.slice AA al.length ca) vR (.slice A xs.length c) xs ∧ Ok al rs xs i ∧ xs ≠ []))
              case first =>
                by_cases hx : xs.length = 0
                · have hxb : ((xs.length : Int) == 0) = true := by rw [beq_iff_eq]; omega
                  have HX0 := Lib.hid hx
                  clear hx
                  go_wp2_with fail
                  go_meet
                  exact ⟨some ⟨wc.heap.size, 0, none⟩, 1, [0], rfl, Lib.hid ⟨HY.out.newCur, HZ.out.1.cur ⟨fun x hx => by rw [List.mem_singleton] at hx; rw [hx]; rcases HFI.out with h | h; exact absurd HX0.out h; omega, List.pairwise_singleton _ _⟩ (fun x hx => by rw [List.length_eq_zero_iff.1 HX0.out] at hx; exact absurd hx (by simp)), by simp⟩⟩
                · have hxb : ((xs.length : Int) == 0) = false := by rw [beq_eq_false_iff_ne]; omega
                  have HX0 := Lib.hid hx
                  clear hx
                  go_wp2_with fail
                  go_meet
                  exact ⟨A, c, xs, rfl, Lib.hid ⟨HY.out, HZ.out.1, fun h => HX0.out (by rw [h]; rfl)⟩⟩
              clear HY HFI
              have HP := Lib.hid HZ.out.2.2.2
              clear HZ HQ
              obtain ⟨A, c, xs, rfl, HY⟩ := hcut
              obtain ⟨RA, rc, hvR⟩ := own_slice HY.out.1.rel
              subst hvR
              have hi3 : i < 26 := by omega
              have hri := HY.out.2.1.ri
              obtain ⟨nm, hnm⟩ : ∃ nm, nm = rnL i := ⟨_, rfl⟩
              have HNM := Lib.hid (And.intro hnm hri)
              clear hnm hri
              go_upto_region 20 with fail
              refine RelV.region_rest 7 [0, 1, 2, 3, 4, 5, 6] _ rfl rfl (R := [fun v _ => v = .pointer (some ⟨w.heap.size + 1, 1, none⟩), fun v _ => v = .slice RA rs.length rc, fun v _ => v = .int .i64 (i : Int), fun v _ => v = .string nm, fun v _ => v = .slice A xs.length c, fun v _ => v = .agg #[.string nm, .slice A xs.length c], fun v w => ∃ b : Nat, v = .slice (some ⟨b, 0, none⟩) 1 1 ∧ b ≠ g ∧ w.heap[b]? = some (.cells #[.string nm, .slice A xs.length c] 60 (0, 0))])
                (E := fun _ _ w' => Mk w w' g al rs (.slice AA al.length ca) (.slice RA rs.length rc) (.slice A xs.length c) xs) (T := fun w w' => Src1 g w w') (by kernel_rfl) (by kernel_rfl) (by kernel_rfl) (fun _ => HY.out.1.below (below_drew _)) ?_ ?_ ?_
              · intro D vals i v w1 w2 hi hE hT hv
                match i, hi with
                | 6, _ =>
                  obtain ⟨b, e, hne, hg⟩ := hv
                  exact ⟨b, e, hne, (hT.2 _ (lt_of_block hg) hne).trans hg⟩
                | 0, _ | 1, _ | 2, _ | 3, _ | 4, _ | 5, _ => exact hv
                | i + 7, hi => exact absurd hi (by omega)
              · skip
                refine RelV.Steps.cons (L := []) rfl (by kernel_rfl) ?_ ?_
                · intro vals w' D hE hF hR K hK
                  simp only [Rel.putL, Rel.dst, z1, z2, z3, z4, Act.put, z5, z6, z7] at hK ⊢
                  go_simp
                  exact hK _ _ rfl (Src1.refl _ _) hE
                refine RelV.Steps.cons (L := [0]) rfl (by kernel_rfl) ?_ ?_
                · intro vals w' D hE hF hR K hK
                  have d0 : vals 0 = .pointer (some ⟨w.heap.size + 1, 1, none⟩) := hR.1
                  have q : w'.cell? ⟨w.heap.size + 1, 1, none⟩ = some (.slice RA rs.length rc) := cell_in (show Mk w w' g al rs (.slice AA al.length ca) (.slice RA rs.length rc) (.slice A xs.length c) xs from hE).box rfl
                  simp only [Rel.putL, Rel.dst, z1, z2, z3, z4, Act.put, z5, z6, z7, d0] at hK ⊢
                  go_simp
                  exact hK _ _ rfl (Src1.refl _ _) hE
                refine RelV.Steps.cons (L := []) rfl (by kernel_rfl) ?_ ?_
                · intro vals w' D hE hF hR K hK
                  simp only [Rel.putL, Rel.dst, z1, z2, z3, z4, Act.put, z5, z6, z7] at hK ⊢
                  go_simp
                  exact hK _ _ rfl (Src1.refl _ _) hE
                refine RelV.Steps.cons (L := [2]) rfl (by kernel_rfl) ?_ ?_
                · intro vals w' D hE hF hR K hK
                  have d2 : vals 2 = .int .i64 (i : Int) := hR.1
                  have hM : Mk w w' g al rs (.slice AA al.length ca) (.slice RA rs.length rc) (.slice A xs.length c) xs := hE
                  simp only [Rel.putL, Rel.dst, z1, z2, z3, z4, Act.put, z5, z6, z7, d2] at hK ⊢
                  go_simp
                  go_at_call 90
                  refine (mkletter_any (p := ⟨#[114]⟩) (by decide) (i := i) (by omega)).mono ?_
                  rintro e w2 ⟨rfl, hb⟩
                  exact hK _ _ (show Value.string ((⟨#[114]⟩ : ByteArray) ++ ⟨[UInt8.ofNat (97 + i)].toArray⟩) = .string nm by rw [rnames, HNM.out.1]) (Src1.below hb (Nat.le_of_lt hM.src.lt)) (hM.below hb)
                refine RelV.Steps.cons (L := []) rfl (by kernel_rfl) ?_ ?_
                · intro vals w' D hE hF hR K hK
                  simp only [Rel.putL, Rel.dst, z1, z2, z3, z4, Act.put, z5, z6, z7] at hK ⊢
                  go_simp
                  exact hK _ _ rfl (Src1.refl _ _) hE
                refine RelV.Steps.cons (L := [3, 4]) rfl (by kernel_rfl) ?_ ?_
                · intro vals w' D hE hF hR K hK
                  have d3 : vals 3 = .string nm := hR.1
                  have d4 : vals 4 = .slice A xs.length c := hR.2.1
                  simp only [Rel.putL, Rel.dst, z1, z2, z3, z4, Act.put, z5, z6, z7, d3, d4] at hK ⊢
                  go_simp
                  exact hK _ _ rfl (Src1.refl _ _) hE
                refine RelV.Steps.cons (L := [5]) rfl (by kernel_rfl) ?_ ?_
                · intro vals w' D hE hF hR K hK
                  have d5 : vals 5 = .agg #[.string nm, .slice A xs.length c] := hR.1
                  have hM : Mk w w' g al rs (.slice AA al.length ca) (.slice RA rs.length rc) (.slice A xs.length c) xs := hE
                  have hgl := hM.src.lt
                  simp only [Rel.putL, Rel.dst, z1, z2, z3, z4, Act.put, z5, z6, z7, d5] at hK ⊢
                  go_simp
                  exact hK _ _ ⟨_, rfl, by omega, heap_alloc_new _ _⟩ (Src1.below ((Below.refl _ _).alloc (Nat.le_refl _) _) (Nat.le_of_lt hgl)) (hM.below ((Below.refl _ _).alloc (Nat.le_refl _) _))
                exact RelV.Steps.done
              · intro vals w1 D hD hE hR
                obtain ⟨r0, r1, r2, r3, r4, r5, ⟨b, r6, hbg, hb6⟩, _⟩ := hR
                have d0 : vals 0 = .pointer (some ⟨w.heap.size + 1, 1, none⟩) := r0
                have d1 : vals 1 = .slice RA rs.length rc := r1
                have d2 : vals 2 = .int .i64 (i : Int) := r2
                have d3 : vals 3 = .string nm := r3
                have d4 : vals 4 = .slice A xs.length c := r4
                have d5 : vals 5 = .agg #[.string nm, .slice A xs.length c] := r5
                have hM : Mk w w1 g al rs (.slice AA al.length ca) (.slice RA rs.length rc) (.slice A xs.length c) xs := hE
                have HM := Lib.hid hM
                have n0 : w1.cell? ⟨b, 0, none⟩ = some (.string nm) := cell_in hb6 rfl
                have n1 : w1.cell? ⟨b, 1, none⟩ = some (.slice A xs.length c) := cell_in hb6 rfl
                have hsz := hM.size
                have hrl : rs.length ≤ 3 := by rw [HNM.out.2]; omega
                simp only [Rel.putL, Rel.dst, z1, z2, z3, z4, Act.put, z5, z6, z7, d0, d1, d2, d3, d4, d5, r6]
                clear hE hM hD r0 r1 r2 r3 r4 r5 r6 d0 d1 d2 d3 d4 d5 hb6
                refine wpList_append_lies _ rfl (.tmp 77) (.tmp 82) 53 rfl (w.heap.size + 1 + 1) 60 er (.agg #[.string ⟨#[]⟩, .slice none 0 0]) 2 40 Tryz.underlying53 HIR.out.1 HIR.out.2.1 HIR.out.2.2.1 HIR.out.2.2.2 rfl (by decide) (.slice RA rs.length rc) rs.length (relC rs) rfl HM.out.rel ⟨b, 0, none⟩ 1 1 [.string nm, .slice A xs.length c] rfl rfl (by intro j u hj; match j, hj with | 0, hj => simp at hj; subst hj; simp [Addr.add, n0] | 1, hj => simp at hj; subst hj; simp [Addr.add, n1]) (by intro u hu; simp at hu; rcases hu with rfl | rfl <;> rfl) (by omega) (by unfold maxLen; omega) (by omega) (by omega) w1.heap.size rfl ?_
                intro gA cA wm hown hgrow hblk hgl
                have hrow : ∀ r, (Value.ownBlock (.slice RA rs.length rc)) = some r → w.heap.size + 1 + 1 ≤ r := fun r hr => (HM.out.rel.lt r hr).1
                have hbx := (Keeps.grown hgrow).block HM.out.box (fun e => by have := hrow _ e; omega)
                have e0 : wm.cell? ⟨w.heap.size + 1, 1, none⟩ = some (.slice RA rs.length rc) := cell_in hbx rfl
                have f0 : wm.frozen? ⟨w.heap.size + 1, 1, none⟩ = false := by simp [World.frozen?, hbx]
                have HA := Lib.hid (HM.out.pushRel (nm := nm) (Below.refl _ _) hown hgrow (by rcases hblk with e | e; exact .inl e.symm; exact .inr (by rw [e]; simp [Value.ownBlock])))
                clear hown hgrow hblk hgl hbx hrow n0 n1
                go_wp2_with fail
                go_roundg (n - (i + 1))
                case measure => omega
                case rel =>
                  refine ⟨i + 1, al, rs ++ [(nm, .slice A xs.length c, xs)], .slice AA al.length ca, .slice (some ⟨gA, 0, none⟩) (rs.length + 1) cA, by omega, by go_num, Lib.hid ⟨?_, by rw [HNM.out.1]; exact HY.out.2.1.done HY.out.2.2 _, fun _ => ?_⟩⟩
                  · exact HA.out
                  · cases xs with
                    | nil => exact absurd rfl HY.out.2.2
                    | cons x l => have := HY.out.2.1.cx.1 x (by simp); omega
            | true =>
              have hcnd := of_decide_eq_true HQ.out.symm
              have h6 := hcnd.2
              have hk0 : 0 ≤ kk := hcnd.1.elim (fun h => by omega) (fun h => HZ.out.2.2.1 h)
              clear hcnd
              have hkk := HZ.out.2.1
              have c0 : wc.cell? ⟨w.heap.size + 1, 0, none⟩ = some (.slice AA al.length ca) := cell_in HY.out.box rfl
              have hsz := HY.out.size
              have hxl : xs.length ≤ 6 := Nat.le_trans (pair_len HZ.out.1.cx.2 HZ.out.1.cx.1) hal
              go_upto_region 17 with (at_builtin; refine wpList_append_lies _ rfl (.tmp 53) (.tmp 57) 22 rfl (w.heap.size + 1 + 1) 3 ei (.int .i64 0) 1 8 Tryz.underlying22 HI.out.1 HI.out.2.1 HI.out.2.2.1 HI.out.2.2.2 rfl (by decide) (.slice A xs.length c) xs.length (natV xs) rfl (HY.out.cur.alloc _) ⟨wc.heap.size, 0, none⟩ 1 1 [.int .i64 (al.length : Int)] rfl rfl (by intro j u hj; match j, hj with | 0, hj => simp at hj; subst hj; simp [Addr.add]) (by intro u hu; simp at hu; subst hu; rfl) (by omega) (by unfold maxLen; omega) (by omega) (by simp <;> omega) (wc.heap.size + 1) (by simp) ?_; intro gC cC wn hown hgrow hblk hgl; have HG := Lib.hid (And.intro hown (And.intro hgrow hblk)); clear hown hgrow hblk hgl)
              have HN := Lib.hid (show Mk w wn g al rs (.slice AA al.length ca) vR (.slice (some ⟨gC, 0, none⟩) (xs.length + 1) cC) (xs ++ [al.length]) from by
                have := HY.out.pushCur (a := al.length) ((Below.refl _ _).alloc (Nat.le_refl _) (.cells #[.int .i64 (al.length : Int)] 3)) HG.out.1 HG.out.2.1 (by rcases HG.out.2.2 with e | e; exact .inl e.symm; exact .inr (by rw [e]; simp [Value.ownBlock]))
                exact this)
              clear HG HY c0 hsz
              obtain ⟨nm, hnm⟩ : ∃ nm, nm = nmL al.length := ⟨_, rfl⟩
              have HNM := Lib.hid hnm
              clear hnm
              refine RelV.region_rest 11 [0, 1, 2, 3, 4, 5, 6, 7, 8, 9, 10] _ rfl rfl (R := [fun v _ => v = .pointer (some ⟨w.heap.size + 1, 0, none⟩), fun v _ => v = .slice AA al.length ca, fun v _ => v = .pointer (some ⟨w.heap.size + 1, 0, none⟩), fun v _ => v = .slice AA al.length ca, fun v _ => v = .int .i64 (al.length : Int), fun v _ => v = .string nm, fun v _ => v = .pointer (some ⟨g, 0, none⟩), fun v w => ∃ b, v = .slice (some ⟨b, 0, none⟩) 4 4 ∧ b ≠ g ∧ w.heap[b]? = some (.cells #[.int .i64 1, .int .i64 2, .int .i64 2, .int .i64 3] 3 (0, 0)), fun v _ => ∃ z : Int, v = .int .i64 z ∧ 1 ≤ z ∧ z ≤ 3, fun v _ => ∃ z : Int, v = .agg #[.string nm, .int .i64 z] ∧ 1 ≤ z ∧ z ≤ 3, fun v w => ∃ (b : Nat) (z : Int), v = .slice (some ⟨b, 0, none⟩) 1 1 ∧ b ≠ g ∧ (1 ≤ z ∧ z ≤ 3) ∧ w.heap[b]? = some (.cells #[.string nm, .int .i64 z] 68 (0, 0))])
                (E := fun _ _ w' => Mk w w' g al rs (.slice AA al.length ca) vR (.slice (some ⟨gC, 0, none⟩) (xs.length + 1) cC) (xs ++ [al.length])) (T := fun w w' => Src1 g w w') (by kernel_rfl) (by kernel_rfl) (by kernel_rfl) (fun _ => HN.out.below (below_drew _)) ?_ ?_ ?_
              · intro D vals i v w1 w2 hi hE hT hv
                match i, hi with
                | 7, _ =>
                  obtain ⟨b, e, hne, hg⟩ := hv
                  exact ⟨b, e, hne, (hT.2 _ (lt_of_block hg) hne).trans hg⟩
                | 10, _ =>
                  obtain ⟨b, z, e, hne, hz, hg⟩ := hv
                  exact ⟨b, z, e, hne, hz, (hT.2 _ (lt_of_block hg) hne).trans hg⟩
                | 0, _ | 1, _ | 2, _ | 3, _ | 4, _ | 5, _ | 6, _ | 8, _ | 9, _ => exact hv
                | i + 11, hi => exact absurd hi (by omega)
              · skip
                refine RelV.Steps.cons (L := []) rfl (by kernel_rfl) ?_ ?_
                · intro vals w' D hE hF hR K hK
                  simp only [Rel.putL, Rel.dst, z1, z2, z3, z4, Act.put, z5, z6, z7] at hK ⊢
                  go_simp
                  exact hK _ _ rfl (Src1.refl _ _) hE
                refine RelV.Steps.cons (L := [0]) rfl (by kernel_rfl) ?_ ?_
                · intro vals w' D hE hF hR K hK
                  have d0 : vals 0 = .pointer (some ⟨w.heap.size + 1, 0, none⟩) := hR.1
                  have q : w'.cell? ⟨w.heap.size + 1, 0, none⟩ = some (.slice AA al.length ca) := cell_in (show Mk w w' g al rs (.slice AA al.length ca) vR (.slice (some ⟨gC, 0, none⟩) (xs.length + 1) cC) (xs ++ [al.length]) from hE).box rfl
                  simp only [Rel.putL, Rel.dst, z1, z2, z3, z4, Act.put, z5, z6, z7, d0] at hK ⊢
                  go_simp
                  exact hK _ _ rfl (Src1.refl _ _) hE
                refine RelV.Steps.cons (L := []) rfl (by kernel_rfl) ?_ ?_
                · intro vals w' D hE hF hR K hK
                  simp only [Rel.putL, Rel.dst, z1, z2, z3, z4, Act.put, z5, z6, z7] at hK ⊢
                  go_simp
                  exact hK _ _ rfl (Src1.refl _ _) hE
                refine RelV.Steps.cons (L := [2]) rfl (by kernel_rfl) ?_ ?_
                · intro vals w' D hE hF hR K hK
                  have d2 : vals 2 = .pointer (some ⟨w.heap.size + 1, 0, none⟩) := hR.1
                  have q : w'.cell? ⟨w.heap.size + 1, 0, none⟩ = some (.slice AA al.length ca) := cell_in (show Mk w w' g al rs (.slice AA al.length ca) vR (.slice (some ⟨gC, 0, none⟩) (xs.length + 1) cC) (xs ++ [al.length]) from hE).box rfl
                  simp only [Rel.putL, Rel.dst, z1, z2, z3, z4, Act.put, z5, z6, z7, d2] at hK ⊢
                  go_simp
                  exact hK _ _ rfl (Src1.refl _ _) hE
                refine RelV.Steps.cons (L := [3]) rfl (by kernel_rfl) ?_ ?_
                · intro vals w' D hE hF hR K hK
                  have d3 : vals 3 = .slice AA al.length ca := hR.1
                  simp only [Rel.putL, Rel.dst, z1, z2, z3, z4, Act.put, z5, z6, z7, d3] at hK ⊢
                  go_simp
                  exact hK _ _ rfl (Src1.refl _ _) hE
                refine RelV.Steps.cons (L := [4]) rfl (by kernel_rfl) ?_ ?_
                · intro vals w' D hE hF hR K hK
                  have d4 : vals 4 = .int .i64 (al.length : Int) := hR.1
                  have hM : Mk w w' g al rs (.slice AA al.length ca) vR (.slice (some ⟨gC, 0, none⟩) (xs.length + 1) cC) (xs ++ [al.length]) := hE
                  simp only [Rel.putL, Rel.dst, z1, z2, z3, z4, Act.put, z5, z6, z7, d4] at hK ⊢
                  go_simp
                  go_at_call 90
                  refine (mkletter_any (p := ⟨#[97]⟩) (by decide) (i := al.length) (by omega)).mono ?_
                  rintro e w2 ⟨rfl, hb⟩
                  exact hK _ _ (show Value.string ((⟨#[97]⟩ : ByteArray) ++ ⟨[UInt8.ofNat (97 + al.length)].toArray⟩) = .string nm by rw [names, HNM.out]) (Src1.below hb (Nat.le_of_lt hM.src.lt)) (hM.below hb)
                refine RelV.Steps.cons (L := []) rfl (by kernel_rfl) ?_ ?_
                · intro vals w' D hE hF hR K hK
                  simp only [Rel.putL, Rel.dst, z1, z2, z3, z4, Act.put, z5, z6, z7] at hK ⊢
                  go_simp
                  exact hK _ _ rfl (Src1.refl _ _) hE
                refine RelV.Steps.cons (L := []) rfl (by kernel_rfl) ?_ ?_
                · intro vals w' D hE hF hR K hK
                  have hM : Mk w w' g al rs (.slice AA al.length ca) vR (.slice (some ⟨gC, 0, none⟩) (xs.length + 1) cC) (xs ++ [al.length]) := hE
                  have hgl := hM.src.lt
                  simp only [Rel.putL, Rel.dst, z1, z2, z3, z4, Act.put, z5, z6, z7] at hK ⊢
                  go_simp
                  exact hK _ _ ⟨_, rfl, by omega, heap_alloc_new _ _⟩ (Src1.below ((Below.refl _ _).alloc (Nat.le_refl _) _) (Nat.le_of_lt hgl)) (hM.below ((Below.refl _ _).alloc (Nat.le_refl _) _))
                refine RelV.Steps.cons (L := [6, 7]) rfl (by kernel_rfl) ?_ ?_
                · intro vals w' D hE hF hR K hK
                  have d6 : vals 6 = .pointer (some ⟨g, 0, none⟩) := hR.1
                  obtain ⟨b, d7, hne, hb7⟩ := hR.2.1
                  have hM : Mk w w' g al rs (.slice AA al.length ca) vR (.slice (some ⟨gC, 0, none⟩) (xs.length + 1) cC) (xs ++ [al.length]) := hE
                  simp only [Rel.putL, Rel.dst, z1, z2, z3, z4, Act.put, z5, z6, z7, d6, d7] at hK ⊢
                  go_simp
                  go_at_call 55
                  refine (pick4 hM.src hne hb7).mono ?_
                  rintro e w2 ⟨z, rfl, hz, hs, hb⟩
                  exact hK _ _ ⟨z, rfl, hz⟩ hb (hM.step hs hb)
                refine RelV.Steps.cons (L := [5, 8]) rfl (by kernel_rfl) ?_ ?_
                · intro vals w' D hE hF hR K hK
                  have d5 : vals 5 = .string nm := hR.1
                  obtain ⟨z, d8, hz⟩ := hR.2.1
                  simp only [Rel.putL, Rel.dst, z1, z2, z3, z4, Act.put, z5, z6, z7, d5, d8] at hK ⊢
                  go_simp
                  exact hK _ _ ⟨z, rfl, hz⟩ (Src1.refl _ _) hE
                refine RelV.Steps.cons (L := [9]) rfl (by kernel_rfl) ?_ ?_
                · intro vals w' D hE hF hR K hK
                  obtain ⟨z, d9, hz⟩ := hR.1
                  have hM : Mk w w' g al rs (.slice AA al.length ca) vR (.slice (some ⟨gC, 0, none⟩) (xs.length + 1) cC) (xs ++ [al.length]) := hE
                  have hgl := hM.src.lt
                  simp only [Rel.putL, Rel.dst, z1, z2, z3, z4, Act.put, z5, z6, z7, d9] at hK ⊢
                  go_simp
                  exact hK _ _ ⟨_, z, rfl, by omega, hz, heap_alloc_new _ _⟩ (Src1.below ((Below.refl _ _).alloc (Nat.le_refl _) _) (Nat.le_of_lt hgl)) (hM.below ((Below.refl _ _).alloc (Nat.le_refl _) _))
                exact RelV.Steps.done
              · intro vals w1 D hD hE hR
                obtain ⟨r0, r1, r2, r3, r4, r5, r6, ⟨b7, r7, _⟩, ⟨z8, r8, _⟩, ⟨z9, r9, _⟩, ⟨b, z, r10, hbg, hz, hb10⟩, _⟩ := hR
                have d0 : vals 0 = .pointer (some ⟨w.heap.size + 1, 0, none⟩) := r0
                have d1 : vals 1 = .slice AA al.length ca := r1
                have d2 : vals 2 = .pointer (some ⟨w.heap.size + 1, 0, none⟩) := r2
                have d3 : vals 3 = .slice AA al.length ca := r3
                have d4 : vals 4 = .int .i64 (al.length : Int) := r4
                have d5 : vals 5 = .string nm := r5
                have d6 : vals 6 = .pointer (some ⟨g, 0, none⟩) := r6
                have hM : Mk w w1 g al rs (.slice AA al.length ca) vR (.slice (some ⟨gC, 0, none⟩) (xs.length + 1) cC) (xs ++ [al.length]) := hE
                have HM := Lib.hid hM
                have n0 : w1.cell? ⟨b, 0, none⟩ = some (.string nm) := cell_in hb10 rfl
                have n1 : w1.cell? ⟨b, 1, none⟩ = some (.int .i64 z) := cell_in hb10 rfl
                have hsz := hM.size
                have HZZ := Lib.hid hz
                simp only [Rel.putL, Rel.dst, z1, z2, z3, z4, Act.put, z5, z6, z7, d0, d1, d2, d3, d4, d5, d6, r7, r8, r9, r10]
                clear hE hM hD r0 r1 r2 r3 r4 r5 r6 r7 r8 r9 r10 d0 d1 d2 d3 d4 d5 d6 hb10 hz
                refine wpList_append_lies _ rfl (.tmp 60) (.tmp 69) 52 rfl (w.heap.size + 1 + 1) 68 ea (.agg #[.string ⟨#[]⟩, .int .i64 0]) 2 24 Tryz.underlying52 HIA.out.1 HIA.out.2.1 HIA.out.2.2.1 HIA.out.2.2.2 rfl (by decide) (.slice AA al.length ca) al.length (attrC al) rfl HM.out.attr ⟨b, 0, none⟩ 1 1 [.string nm, .int .i64 z] rfl rfl (by intro j u hj; match j, hj with | 0, hj => simp at hj; subst hj; simp [Addr.add, n0] | 1, hj => simp at hj; subst hj; simp [Addr.add, n1]) (by intro u hu; simp at hu; rcases hu with rfl | rfl <;> rfl) (by omega) (by unfold maxLen; omega) (by omega) (by omega) w1.heap.size rfl ?_
                intro gA cA wm hown hgrow hblk hgl
                have hrow : ∀ r, (Value.ownBlock (.slice AA al.length ca)) = some r → w.heap.size + 1 + 1 ≤ r := fun r hr => (HM.out.attr.lt r hr).1
                have hbx := (Keeps.grown hgrow).block HM.out.box (fun e => by have := hrow _ e; omega)
                have e0 : wm.cell? ⟨w.heap.size + 1, 0, none⟩ = some (.slice AA al.length ca) := cell_in hbx rfl
                have f0 : wm.frozen? ⟨w.heap.size + 1, 0, none⟩ = false := by simp [World.frozen?, hbx]
                have HA := Lib.hid (HM.out.pushAttr (a := (nm, z)) (Below.refl _ _) hown hgrow (by rcases hblk with e | e; exact .inl e.symm; exact .inr (by rw [e]; simp [Value.ownBlock])))
                clear hown hgrow hblk hgl hbx hrow n0 n1
                go_wp2_with fail
                go_roundg (6 - (al.length + 1))
                case measure => omega
                case rel =>
                  refine ⟨al ++ [(nm, z)], some ⟨gA, 0, none⟩, cA, some ⟨gC, 0, none⟩, cC, xs ++ [al.length], kk - 1, by rw [List.length_append]; show al.length + 1 + _ = 6; omega, by rw [List.length_append]; rfl, by go_num, Lib.hid ⟨?_, by rw [HNM.out]; exact HZ.out.1.grow h6 HZZ.out, ⟨by omega, by omega⟩, fun h => by rw [List.length_append] at h; simp at h, fun _ => by rw [List.length_append]; exact Nat.le_add_left 1 _⟩⟩
                  have h1 := HA.out
                  rw [List.length_append, List.length_append]
                  exact h1
    · have ein : i = n := by omega
      obtain ⟨AA, ca, hvA⟩ := own_slice HR.out.1.attr
      subst hvA
      obtain ⟨RA, rc, hvR⟩ := own_slice HR.out.1.rel
      subst hvR
      have hal := HR.out.2.1.len
      have hapos : 1 ≤ al.length := HR.out.2.2 (by omega)
      have HOK := Lib.hid HR.out.2.1
      have HF := Lib.hid HR.out.1.feats
      clear HR ein
      have c0 : wr.cell? ⟨w.heap.size + 1, 0, none⟩ = some (.slice AA al.length ca) := cell_in HF.out.box rfl
      go_wp2_with fail
      clear c0
      go_loopg [88] al.length (fun gg s88 wx => ∃ (a : Nat) (vF : Value) (fs : List (Int × Int × Int)) (lab : Int), a + gg = al.length ∧ s88 = .int .i64 (a : Int) ∧ Hid (Mf w wx g al rs (.slice AA al.length ca) (.slice RA rs.length rc) vF fs lab ∧ Fok al fs lab a))
      case atStart => exact ⟨0, .slice none 0 0, [], -1, by omega, rfl, Lib.hid ⟨HF.out, Fok.start al⟩⟩
      case round =>
        clear HF
        obtain ⟨a, vF, fs, lab, ha, rfl, HX⟩ := hrel
        by_cases hla : a < al.length
        · obtain ⟨ba, hAA⟩ : ∃ ba, AA = some ⟨ba, 0, none⟩ := by
            rcases HX.out.1.attr.2 with ⟨e, _⟩ | ⟨g', cap', cur, e, _⟩
            · injection e with e1 e2 e3; omega
            · injection e with e1 e2 e3; exact ⟨g', e1⟩
          subst hAA
          have hat := pair_at (fun a : ByteArray × Int => Value.string a.1) (fun a => Value.int .i64 a.2) al a hla
          obtain ⟨nm, hnm⟩ : ∃ nm, nm = al[a].1 := ⟨_, rfl⟩
          obtain ⟨kd, hkd⟩ : ∃ kd, kd = al[a].2 := ⟨_, rfl⟩
          have c0 : wr.cell? ⟨ba, a * 2, none⟩ = some (.string nm) := by rw [HX.out.1.attr.cellAt (a * 2) (by omega), hnm]; exact hat.1
          have c1 : wr.cell? ⟨ba, a * 2 + 1, none⟩ = some (.int .i64 kd) := by rw [HX.out.1.attr.cellAt (a * 2 + 1) (by omega), hkd]; exact hat.2
          have hgd : (al.map (·.2)).getD a 0 = kd := by rw [hkd]; simp [List.getD, hla]
          have HKD := Lib.hid hgd
          clear hat hnm hkd hgd
          go_upto_region 24 with fail
          have hgl := HX.out.1.src.lt
          have HW := Lib.hid (And.intro (HX.out.1.below ((Below.refl _ _).alloc (Nat.le_refl _) (.cells #[.string nm, .int .i64 kd] 68))) (heap_alloc_new wr (.cells #[.string nm, .int .i64 kd] 68)))
          have c3 : (wr.alloc (.cells #[.string nm, .int .i64 kd] 68)).cell? ⟨w.heap.size + 1, 3, none⟩ = some (.int .i64 lab) := cell_in HW.out.1.box rfl
          go_cut [93] (fun s93 wy => ∃ q : Bool, s93 = .bool q ∧ Hid (Mf w wy g al rs (.slice (some ⟨ba, 0, none⟩) al.length ca) (.slice RA rs.length rc) vF fs lab ∧ wy.heap[wr.heap.size]? = some (.cells #[.string nm, .int .i64 kd] 68 (0, 0)) ∧ (q = true → kd = 2 ∧ lab < 0)))
          case first =>
            by_cases hk : kd = 2
            · have hkb : (kd == 2) = true := beq_iff_eq.2 hk
              have HK := Lib.hid hk
              clear hk
              by_cases hl : lab < 0
              · go_wp2_with fail
                refine (n_src 2 HW.out.1.src (by omega) (by omega)).mono ?_
                rintro e w2 ⟨r, rfl, _, hs, hb⟩
                have HY := Lib.hid (And.intro (HW.out.1.step hs hb) ((hb.2 _ (lt_of_block HW.out.2) (by omega)).trans HW.out.2))
                clear hs hb
                go_wp2_with fail
                go_meet
                exact ⟨_, rfl, Lib.hid ⟨HY.out.1, HY.out.2, fun _ => ⟨HK.out, hl⟩⟩⟩
              · go_wp2_with fail
                go_meet
                exact ⟨_, rfl, Lib.hid ⟨HW.out.1, HW.out.2, fun h => absurd h (by simp)⟩⟩
            · have hkb : (kd == 2) = false := beq_eq_false_iff_ne.2 hk
              go_wp2_with fail
              go_meet
              exact ⟨_, rfl, Lib.hid ⟨HW.out.1, HW.out.2, fun h => absurd h (by simp)⟩⟩
          clear HW c0 c1 c3
          obtain ⟨q, rfl, HY⟩ := hcut
          have HP := Lib.hid HX.out.2
          clear HX
          cases q with
          | true =>
            have c3 : wc.cell? ⟨w.heap.size + 1, 3, none⟩ = some (.int .i64 lab) := cell_in HY.out.1.box rfl
            have f3 : wc.frozen? ⟨w.heap.size + 1, 3, none⟩ = false := by simp [World.frozen?, HY.out.1.box]
            go_wp2_with fail
            go_roundg (al.length - (a + 1))
            case measure => omega
            case rel => exact ⟨a + 1, vF, fs, (a : Int), by omega, by go_num, Lib.hid ⟨HY.out.1.setLabel _, HP.out.label (by rw [HKD.out]; exact (HY.out.2.2 (by simp)).1)⟩⟩
          | false =>
            have hX := cell_in HY.out.2.1 (j := 1) rfl
            have k1 : wc.cell? ⟨wr.heap.size, 1, none⟩ = some (.int .i64 kd) := hX
            clear hX
            have HY2 := Lib.hid (And.intro HY.out.1 HY.out.2.1)
            clear HY
            go_upto_region 26 with fail
            go_cut [109] (fun s wy => ∃ q : Bool, s = .bool q ∧ Hid (Mf w wy g al rs (.slice (some ⟨ba, 0, none⟩) al.length ca) (.slice RA rs.length rc) vF fs lab ∧ wy.heap[wr.heap.size]? = some (.cells #[.string nm, .int .i64 kd] 68 (0, 0)) ∧ (q = true → kd = 2)))
            case first =>
              by_cases hk : kd = 2
              · have hkb : (kd == 2) = true := beq_iff_eq.2 hk
                have HK := Lib.hid hk
                clear hk
                go_wp2_with fail
                refine (n_src 4 HY2.out.1.src (by omega) (by omega)).mono ?_
                rintro e w2 ⟨r, rfl, _, hs, hb⟩
                have HZ := Lib.hid (And.intro (HY2.out.1.step hs hb) ((hb.2 _ (lt_of_block HY2.out.2) (by omega)).trans HY2.out.2))
                clear hs hb
                go_wp2_with fail
                go_meet
                exact ⟨_, rfl, Lib.hid ⟨HZ.out.1, HZ.out.2, fun _ => HK.out⟩⟩
              · have hkb : (kd == 2) = false := beq_eq_false_iff_ne.2 hk
                go_wp2_with fail
                go_meet
                exact ⟨_, rfl, Lib.hid ⟨HY2.out.1, HY2.out.2, fun h => absurd h (by simp)⟩⟩
            clear HY2 k1
            obtain ⟨q, rfl, HY⟩ := hcut
            cases q with
            | true =>
              have hkd := HY.out.2.2 (by simp)
              have HKK := Lib.hid hkd
              clear hkd
              have hfl : fs.length ≤ 6 := by have := HP.out.len; omega
              go_upto_region 27 with fail
              refine RelV.region_rest 7 [0, 1, 2, 3, 4, 5, 6] _ rfl rfl (R := [fun v _ => v = .pointer (some ⟨w.heap.size + 1, 2, none⟩), fun v _ => v = vF, fun v _ => v = .int .i64 (a : Int), fun v _ => v = .pointer (some ⟨g, 0, none⟩), fun v _ => ∃ r : Int, v = .int .i64 r ∧ 0 ≤ r ∧ r < 2, fun v _ => ∃ r : Int, v = .agg #[.int .i64 (a : Int), .int .i64 1, .int .i64 r] ∧ 0 ≤ r ∧ r < 2, fun v w => ∃ (b : Nat) (r : Int), v = .slice (some ⟨b, 0, none⟩) 1 1 ∧ b ≠ g ∧ (0 ≤ r ∧ r < 2) ∧ w.heap[b]? = some (.cells #[.int .i64 (a : Int), .int .i64 1, .int .i64 r] 121 (0, 0))])
                (E := fun _ _ w' => Mf w w' g al rs (.slice (some ⟨ba, 0, none⟩) al.length ca) (.slice RA rs.length rc) vF fs lab) (T := fun w w' => Src1 g w w') (by kernel_rfl) (by kernel_rfl) (by kernel_rfl) (fun _ => HY.out.1.below (below_drew _)) ?_ ?_ ?_
              · intro D vals i v w1 w2 hi hE hT hv
                match i, hi with
                | 6, _ =>
                  obtain ⟨b, r, e, hne, hz, hg⟩ := hv
                  exact ⟨b, r, e, hne, hz, (hT.2 _ (lt_of_block hg) hne).trans hg⟩
                | 0, _ | 1, _ | 2, _ | 3, _ | 4, _ | 5, _ => exact hv
                | i + 7, hi => exact absurd hi (by omega)
              · skip
                refine RelV.Steps.cons (L := []) rfl (by kernel_rfl) ?_ ?_
                · intro vals w' D hE hF hR K hK
                  simp only [Rel.putL, Rel.dst, z1, z2, z3, z4, Act.put, z5, z6, z7] at hK ⊢
                  go_simp
                  exact hK _ _ rfl (Src1.refl _ _) hE
                refine RelV.Steps.cons (L := [0]) rfl (by kernel_rfl) ?_ ?_
                · intro vals w' D hE hF hR K hK
                  have d0 : vals 0 = .pointer (some ⟨w.heap.size + 1, 2, none⟩) := hR.1
                  have q : w'.cell? ⟨w.heap.size + 1, 2, none⟩ = some vF := cell_in (show Mf w w' g al rs (.slice (some ⟨ba, 0, none⟩) al.length ca) (.slice RA rs.length rc) vF fs lab from hE).box rfl
                  simp only [Rel.putL, Rel.dst, z1, z2, z3, z4, Act.put, z5, z6, z7, d0] at hK ⊢
                  go_simp
                  exact hK _ _ rfl (Src1.refl _ _) hE
                refine RelV.Steps.cons (L := []) rfl (by kernel_rfl) ?_ ?_
                · intro vals w' D hE hF hR K hK
                  simp only [Rel.putL, Rel.dst, z1, z2, z3, z4, Act.put, z5, z6, z7] at hK ⊢
                  go_simp
                  exact hK _ _ rfl (Src1.refl _ _) hE
                refine RelV.Steps.cons (L := []) rfl (by kernel_rfl) ?_ ?_
                · intro vals w' D hE hF hR K hK
                  simp only [Rel.putL, Rel.dst, z1, z2, z3, z4, Act.put, z5, z6, z7] at hK ⊢
                  go_simp
                  exact hK _ _ rfl (Src1.refl _ _) hE
                refine RelV.Steps.cons (L := [3]) rfl (by kernel_rfl) ?_ ?_
                · intro vals w' D hE hF hR K hK
                  have d3 : vals 3 = .pointer (some ⟨g, 0, none⟩) := hR.1
                  have hM : Mf w w' g al rs (.slice (some ⟨ba, 0, none⟩) al.length ca) (.slice RA rs.length rc) vF fs lab := hE
                  simp only [Rel.putL, Rel.dst, z1, z2, z3, z4, Act.put, z5, z6, z7, d3] at hK ⊢
                  go_simp
                  go_at_call 11
                  refine (n_src 2 hM.src (by omega) (by omega)).mono ?_
                  rintro e w2 ⟨r, rfl, hz, hs, hb⟩
                  exact hK _ _ ⟨r, rfl, hz⟩ hb (hM.step hs hb)
                refine RelV.Steps.cons (L := [2, 4]) rfl (by kernel_rfl) ?_ ?_
                · intro vals w' D hE hF hR K hK
                  have d2 : vals 2 = .int .i64 (a : Int) := hR.1
                  obtain ⟨r, d4, hz⟩ := hR.2.1
                  simp only [Rel.putL, Rel.dst, z1, z2, z3, z4, Act.put, z5, z6, z7, d2, d4] at hK ⊢
                  go_simp
                  exact hK _ _ ⟨r, rfl, hz⟩ (Src1.refl _ _) hE
                refine RelV.Steps.cons (L := [5]) rfl (by kernel_rfl) ?_ ?_
                · intro vals w' D hE hF hR K hK
                  obtain ⟨r, d5, hz⟩ := hR.1
                  have hM : Mf w w' g al rs (.slice (some ⟨ba, 0, none⟩) al.length ca) (.slice RA rs.length rc) vF fs lab := hE
                  have hgl := hM.src.lt
                  simp only [Rel.putL, Rel.dst, z1, z2, z3, z4, Act.put, z5, z6, z7, d5] at hK ⊢
                  go_simp
                  exact hK _ _ ⟨_, r, rfl, by omega, hz, heap_alloc_new _ _⟩ (Src1.below ((Below.refl _ _).alloc (Nat.le_refl _) _) (Nat.le_of_lt hgl)) (hM.below ((Below.refl _ _).alloc (Nat.le_refl _) _))
                exact RelV.Steps.done
              · intro vals w1 D hD hE hR
                obtain ⟨r0, r1, r2, r3, ⟨y4, r4, _⟩, ⟨y5, r5, _⟩, ⟨b, r, r6, hbg, hz, hb6⟩, _⟩ := hR
                have d0 : vals 0 = .pointer (some ⟨w.heap.size + 1, 2, none⟩) := r0
                have d1 : vals 1 = vF := r1
                have d2 : vals 2 = .int .i64 (a : Int) := r2
                have d3 : vals 3 = .pointer (some ⟨g, 0, none⟩) := r3
                have hM : Mf w w1 g al rs (.slice (some ⟨ba, 0, none⟩) al.length ca) (.slice RA rs.length rc) vF fs lab := hE
                have HM := Lib.hid hM
                have n0 : w1.cell? ⟨b, 0, none⟩ = some (.int .i64 (a : Int)) := cell_in hb6 rfl
                have n1 : w1.cell? ⟨b, 1, none⟩ = some (.int .i64 1) := cell_in hb6 rfl
                have n2 : w1.cell? ⟨b, 2, none⟩ = some (.int .i64 r) := cell_in hb6 rfl
                have hsz := hM.size
                have HZZ := Lib.hid hz
                simp only [Rel.putL, Rel.dst, z1, z2, z3, z4, Act.put, z5, z6, z7, d0, d1, d2, d3, r4, r5, r6]
                clear hE hM hD r0 r1 r2 r3 r4 r5 r6 d0 d1 d2 d3 hb6 hz
                refine wpList_append_lies _ rfl (.tmp 119) (.tmp 124) 54 rfl (w.heap.size + 1 + 1) 121 ef (.agg #[.int .i64 0, .int .i64 0, .int .i64 0]) 3 24 Tryz.underlying54 HIF.out.1 HIF.out.2.1 HIF.out.2.2.1 HIF.out.2.2.2 rfl (by decide) vF fs.length (featC fs) rfl HM.out.feat ⟨b, 0, none⟩ 1 1 [.int .i64 (a : Int), .int .i64 1, .int .i64 r] rfl rfl (by intro j u hj; match j, hj with | 0, hj => simp at hj; subst hj; simp [Addr.add, n0] | 1, hj => simp at hj; subst hj; simp [Addr.add, n1] | 2, hj => simp at hj; subst hj; simp [Addr.add, n2]) (by intro u hu; simp at hu; rcases hu with rfl | rfl | rfl <;> rfl) (by omega) (by unfold maxLen; omega) (by omega) (by first | omega | (simp <;> omega)) w1.heap.size rfl ?_
                intro gA cA wm hown hgrow hblk hgl
                have hrow : ∀ r, vF.ownBlock = some r → w.heap.size + 1 + 1 ≤ r := fun r hr => (HM.out.feat.lt r hr).1
                have hbx := (Keeps.grown hgrow).block HM.out.box (fun e => by have := hrow _ e; omega)
                have e0 : wm.cell? ⟨w.heap.size + 1, 2, none⟩ = some vF := cell_in hbx rfl
                have f0 : wm.frozen? ⟨w.heap.size + 1, 2, none⟩ = false := by simp [World.frozen?, hbx]
                have HA := Lib.hid (HM.out.pushFeat (f := ((a : Int), 1, r)) (Below.refl _ _) hown hgrow (by rcases hblk with e | e; exact .inl e.symm; exact .inr (by rw [e]; simp [Value.ownBlock])))
                clear hown hgrow hblk hgl hbx hrow n0 n1 n2
                go_wp2_with fail
                go_roundg (al.length - (a + 1))
                case measure => omega
                case rel =>
                  refine ⟨a + 1, .slice (some ⟨gA, 0, none⟩) (fs.length + 1) cA, fs ++ [((a : Int), 1, r)], lab, by omega, by go_num, Lib.hid ⟨HA.out, HP.out.push ?_⟩⟩
                  rw [HKD.out, HKK.out]
                  have h1 := HZZ.out
                  unfold suitsB
                  rw [if_pos rfl]
                  rcases (show r = 0 ∨ r = 1 by omega) with h | h <;> rw [h] <;> rfl
            | false =>
              have k1 : wc.cell? ⟨wr.heap.size, 1, none⟩ = some (.int .i64 kd) := cell_in HY.out.2.1 rfl
              have HY2 := Lib.hid (And.intro HY.out.1 HY.out.2.1)
              clear HY
              go_upto_region 28 with fail
              go_cut [127] (fun s wy => ∃ q : Bool, s = .bool q ∧ Hid (Mf w wy g al rs (.slice (some ⟨ba, 0, none⟩) al.length ca) (.slice RA rs.length rc) vF fs lab ∧ wy.heap[wr.heap.size]? = some (.cells #[.string nm, .int .i64 kd] 68 (0, 0)) ∧ (q = true → kd = 3)))
              case first =>
                by_cases hk : kd = 3
                · have hkb : (kd == 3) = true := beq_iff_eq.2 hk
                  have HK := Lib.hid hk
                  clear hk
                  go_wp2_with fail
                  refine (n_src 4 HY2.out.1.src (by omega) (by omega)).mono ?_
                  rintro e w2 ⟨r, rfl, _, hs, hb⟩
                  have HZ := Lib.hid (And.intro (HY2.out.1.step hs hb) ((hb.2 _ (lt_of_block HY2.out.2) (by omega)).trans HY2.out.2))
                  clear hs hb
                  go_wp2_with fail
                  go_meet
                  exact ⟨_, rfl, Lib.hid ⟨HZ.out.1, HZ.out.2, fun _ => HK.out⟩⟩
                · have hkb : (kd == 3) = false := beq_eq_false_iff_ne.2 hk
                  go_wp2_with fail
                  go_meet
                  exact ⟨_, rfl, Lib.hid ⟨HY2.out.1, HY2.out.2, fun h => absurd h (by simp)⟩⟩
              clear HY2 k1
              obtain ⟨q, rfl, HY⟩ := hcut
              cases q with
              | true =>
                have hkd := HY.out.2.2 (by simp)
                have HKK := Lib.hid hkd
                clear hkd
                have hfl : fs.length ≤ 6 := by have := HP.out.len; omega
                have HM := Lib.hid HY.out.1
                have hsz := HM.out.size
                have c2 : wc.cell? ⟨w.heap.size + 1, 2, none⟩ = some vF := cell_in HM.out.box rfl
                have hrow : ∀ r, vF.ownBlock = some r → w.heap.size + 1 + 1 ≤ r := fun r hr => (HM.out.feat.lt r hr).1
                go_wp2_with (at_builtin; refine wpList_append_lies _ rfl (.tmp 137) (.tmp 140) 54 rfl (w.heap.size + 1 + 1) 121 ef (.agg #[.int .i64 0, .int .i64 0, .int .i64 0]) 3 24 Tryz.underlying54 HIF.out.1 HIF.out.2.1 HIF.out.2.2.1 HIF.out.2.2.2 rfl (by decide) vF fs.length (featC fs) rfl (HM.out.feat.alloc _) ⟨wc.heap.size, 0, none⟩ 1 1 [.int .i64 (a : Int), .int .i64 2, .int .i64 0] rfl rfl (by intro j u hj; match j, hj with | 0, hj => simp at hj; subst hj; simp [Addr.add] | 1, hj => simp at hj; subst hj; simp [Addr.add] | 2, hj => simp at hj; subst hj; simp [Addr.add]) (by intro u hu; simp at hu; rcases hu with rfl | rfl | rfl <;> rfl) (by omega) (by unfold maxLen; omega) (by omega) (by first | omega | (simp <;> omega)) (wc.heap.size + 1) (by simp) ?_; intro gA cA wm hown hgrow hblk hgl; have hbx := (Keeps.grown hgrow).block (block_alloc (.cells #[.int .i64 (a : Int), .int .i64 2, .int .i64 0] 121) HM.out.box) (fun e => by have := hrow _ e; omega); have e0 : wm.cell? ⟨w.heap.size + 1, 2, none⟩ = some vF := cell_in hbx rfl; have f0 : wm.frozen? ⟨w.heap.size + 1, 2, none⟩ = false := (by simp [World.frozen?, hbx]); have HG := Lib.hid (And.intro hown (And.intro hgrow hblk)); clear hown hgrow hblk hgl hbx)
                have HA := Lib.hid (HM.out.pushFeat (f := ((a : Int), 2, 0)) ((Below.refl _ _).alloc (Nat.le_refl _) (.cells #[.int .i64 (a : Int), .int .i64 2, .int .i64 0] 121)) HG.out.1 HG.out.2.1 (by rcases HG.out.2.2 with e | e; exact .inl e.symm; exact .inr (by rw [e]; simp [Value.ownBlock])))
                go_roundg (al.length - (a + 1))
                case measure => omega
                case rel =>
                  refine ⟨a + 1, .slice (some ⟨gA, 0, none⟩) (fs.length + 1) cA, fs ++ [((a : Int), 2, 0)], lab, by omega, by go_num, Lib.hid ⟨HA.out, HP.out.push ?_⟩⟩
                  rw [HKD.out, HKK.out]
                  rfl
              | false =>
                go_wp2_with fail
                go_roundg (al.length - (a + 1))
                case measure => omega
                case rel => exact ⟨a + 1, vF, fs, lab, by omega, by go_num, Lib.hid ⟨HY.out.1, HP.out.skip⟩⟩
        · have eal : a = al.length := by omega
          obtain ⟨FA, fc, hvF⟩ := own_slice HX.out.1.feat
          subst hvF
          have hfl : fs.length ≤ 6 := by have := HX.out.2.len; omega
          have c0 : wr.cell? ⟨w.heap.size + 1, 0, none⟩ = some (.slice AA al.length ca) := cell_in HX.out.1.box rfl
          have c1 : wr.cell? ⟨w.heap.size + 1, 1, none⟩ = some (.slice RA rs.length rc) := cell_in HX.out.1.box rfl
          have c2 : wr.cell? ⟨w.heap.size + 1, 2, none⟩ = some (.slice FA fs.length fc) := cell_in HX.out.1.box rfl
          have c3 : wr.cell? ⟨w.heap.size + 1, 3, none⟩ = some (.int .i64 lab) := cell_in HX.out.1.box rfl
          have r0 : wr.cell? ⟨w.heap.size, 0, none⟩ = some (.slice none 0 0) := cell_in HX.out.1.res rfl
          have r1 : wr.cell? ⟨w.heap.size, 1, none⟩ = some (.slice none 0 0) := cell_in HX.out.1.res rfl
          have r2 : wr.cell? ⟨w.heap.size, 2, none⟩ = some (.slice none 0 0) := cell_in HX.out.1.res rfl
          have r3 : wr.cell? ⟨w.heap.size, 3, none⟩ = some (.int .i64 0) := cell_in HX.out.1.res rfl
          have f0 : wr.frozen? ⟨w.heap.size, 0, none⟩ = false := by simp [World.frozen?, HX.out.1.res]
          have f1 : wr.frozen? ⟨w.heap.size, 1, none⟩ = false := by simp [World.frozen?, HX.out.1.res]
          have f2 : wr.frozen? ⟨w.heap.size, 2, none⟩ = false := by simp [World.frozen?, HX.out.1.res]
          have f3 : wr.frozen? ⟨w.heap.size, 3, none⟩ = false := by simp [World.frozen?, HX.out.1.res]
          have HFK := Lib.hid (show Fok al fs lab al.length from eal ▸ HX.out.2)
          have HN := Lib.hid (show 1 ≤ i ∧ i ≤ 3 by omega)
          clear ha eal
          go_wp2_with fail
          exact sch_end HX.out.1 HOK.out HFK.out HN.out hapos rfl
end Go.Proofs.YtjghgbfagjhdgaaGreatDoor
