/- The law AcyclicTwice. -/
import Derived.Test.YtiakgcaflnpmeaaLawAO
namespace Go.Proofs.Ytiakgcaflnpmeaa
open Go Go.RowKit

theorem red_more {W : World} {S : Sc} {V : Sv} {g c n c1 : Nat} {A1 : Option Addr} {nm : ByteArray} {x : Nat → Int} (h : SchIn W (S.more nm n x) (Vm S V g c (A1, n, c1))) :
    Calls Try.prog 11 #[.agg #[.slice V.A S.na V.ca, .slice (some ⟨g, 0, none⟩) (S.nr + 1) c, .slice V.F S.nf V.cf, .int .i64 S.label]] W fun e w' => ∃ v u, e = .returned (.tuple #[v, u]) ∧ IntL w' v (redO (S.more nm n x)).1 ∧ IntL w' u (redO (S.more nm n x)).2 ∧ Below W.heap.size W w' :=
  Reduce_any (S := S.more nm n x) (V := Vm S V g c (A1, n, c1)) h
theorem more_again {S : Sc} (hv : Valid S) (h5 : S.nr ≤ 5) (hn : ∀ i, i < S.nr → S.rname i = rnL i) {r : Nat} (hr : r < S.nr) : (redO (S.more ⟨#[97, 103, 97, 105, 110]⟩ (S.rn r) (S.rat r))).2.length = (redO S).2.length ∧ (S.nr ≤ 2 → (redO S).2.length = 1) := by
  have hvm : Valid (S.more ⟨#[97, 103, 97, 105, 110]⟩ (S.rn r) (S.rat r)) := hv.more h5 (by decide) (fun i hi e => by
      rw [hn i hi] at e
      have := congrArg ByteArray.size e
      simp [rnL, ByteArray.size] at this) (hv.rn r hr) (fun j hj => hv.rr r j hr hj) (fun j hj => hv.ra r j hr hj)
  unfold redO
  rw [if_pos hvm.check, if_pos hv.check, castL_len, castL_len]
  constructor
  · have h1 : Acy.Red (attrs (S.more ⟨#[97, 103, 97, 105, 110]⟩ (S.rn r) (S.rat r))) (List.range S.nr) (redS S).2.length := (red_left S).congr List.nodup_range fun x hx => attrs_more.1 x (List.mem_range.1 hx)
    have h2 := h1.again (m := r) hr (fun a ha => by
      rw [attrs_more.2] at ha
      rw [attrs_more.1 r hr]
      exact ha)
    exact (red_left _).eq h2 List.nodup_range
  · intro h2
    have hp := core_pos hv.check
    have hl := redS_len S
    by_cases h1 : S.nr = 1
    · omega
    · have hr1 : Acy.Red (attrs S) (List.range S.nr) 1 := by
        have e2 : S.nr = 2 := by omega
        rw [e2]
        refine .step (r := 0) (w := 1) ⟨by simp, by simp, by omega, fun a ha => ?_⟩ ?_
        · obtain ⟨_, t, ht, hne, h3⟩ := ha
          have ht := List.mem_range.1 ht
          have : t = 1 := by omega
          rw [← this]; exact h3
        · have : Acy.oth (List.range 2) 0 = [1] := by decide
          rw [this]
          exact .stop fun x y he => by
            have e1 : x = 1 := by simpa using he.1
            have e2 : y = 1 := by simpa using he.2.1
            exact he.2.2.1 (by rw [e1, e2])
      exact (red_left S).eq hr1 List.nodup_range
/-- What Ear says of all relations. -/
theorem ear_all {S : Sc} (hv : Valid S) {i w : Nat} (hi : i < S.nr) (h : earW S S.nr (fun _ => true) (i : Int) = some w) : w < S.nr ∧ w ≠ i ∧ ∀ a, a ∈ attrs S i → (∃ j, j < S.nr ∧ j ≠ i ∧ a ∈ attrs S j) → a ∈ attrs S w := by
  unfold earW at h
  rw [if_pos ⟨hv.check, rfl⟩, show (List.range S.nr).filter (fun _ => true) = List.range S.nr by simp] at h
  unfold Acy.witI at h
  rw [if_pos ⟨by omega, by simpa using hi⟩, Int.toNat_natCast] at h
  obtain ⟨_, h2, h3, h4⟩ := Acy.wit_some (List.mem_range.2 hi) h
  exact ⟨List.mem_range.1 h2, h3, fun a ha ⟨j, hj, hne, hja⟩ => h4 a ⟨ha, j, List.mem_range.2 hj, hne, hja⟩⟩
theorem infoBool : (Try.prog.info? 4).map (fun i => (i.zero, i.size, i.bytes)) = some (some (.bool false), 1, 1) := by kernel_rfl
theorem make_bool (n : Nat) (hn : n ≤ 1000) (w : World) :
    (Instr.makeSlice 36 (.int .i64 (n : Int)) (.int .i64 (n : Int))).run Try.prog w = .ok (.slice (some ⟨w.heap.size, 0, none⟩) n n) (w.alloc (.cells (madeCells #[Value.bool false] n) 4)) := by
  obtain ⟨i, hi, hz, hs, hb⟩ := info_parts infoBool
  have h := run_make (P := Try.prog) w 36 4 i _ Try.underlying36 hi hz .i64 .i64 n n (by omega) (by omega) (by rw [hb]; omega) (by omega)
  rw [hs, Nat.mul_one] at h
  simpa [Value.cells] using h
set_option linter.unusedSimpArgs false in
set_option maxHeartbeats 12800000 in
set_option maxRecDepth 100000 in
theorem law_atwi {w : World} {A : Option Addr} {n c : Nat} {wh : Nat} (h : Nums w A n) (hc : n ≤ c) (hcm : c ≤ maxLen) (hwh : wh < 256) :
    Calls Try.prog 3 #[.slice A n c, .int .u8 (wh : Int)] w fun e w' => e = .returned (.bool true) ∧ Below w.heap.size w w' := by
  obtain ⟨er, hi, hz, hss, hbs⟩ := info_parts infoRel
  have HIR := Lib.hid (And.intro hi (And.intro hz (And.intro hss hbs)))
  clear hi hz hss hbs
  have H := Lib.hid h
  clear h
  by_cases g0 : 300 < n
  · have g0i : (300 : Int) < (n : Int) := by omega
    go_enter Try.func3, Try.ntmps3
    go_wp2_with fail
    refine sane07.mono ?_
    rintro e w1 ⟨rfl, hb⟩
    go_wp2
    go_ret
    exact ⟨rfl, hb⟩
  · have g0i : ¬ (300 : Int) < (n : Int) := by omega
    go_enter Try.func3, Try.ntmps3
    go_wp2_with fail
    refine (new_any H.out hc hcm).mono ?_
    rintro e w1 ⟨g, rfl, hgl, hs, hb⟩
    have H1 := Lib.hid (And.intro hb (And.intro hgl hs))
    clear hb hgl hs
    go_wp2_with fail
    refine (relations_any H1.out.2.2).mono ?_
    rintro e w2 ⟨v, rfl, ps, ⟨V, rfl, hin, hkp⟩, hd, h1, h5, hcv, hs2, hk⟩
    have hval := (sch_valid hd h1 h5 hcv).1
    have hnm2 : (schS ps).nr ≤ 5 ∧ ∀ i, i < (schS ps).nr → (schS ps).rname i = rnL i := by
      have hnr := rsK_len ps ps.length
      refine ⟨by show (rsK ps ps.length).length ≤ 5; omega, fun i hi => ?_⟩
      have hi : i < ps.length := by rw [show (schS ps).nr = ps.length from hnr] at hi; exact hi
      show ((rsK ps ps.length).getD i rsD).1 = _
      rw [rsK_at hi]
    generalize schS ps = S at *
    have hBw : Below w.heap.size w w2 := H1.out.1.trans (hk.1.mono H1.out.2.1)
    clear hd h1 h5 hcv ps hs2 hk H1
    have hnr1 := hval.nr1
    have hnr6 := hnm2.1
    obtain ⟨r, hrr⟩ : ∃ r, r = wh % S.nr := ⟨_, rfl⟩
    have hr : r < S.nr := by rw [hrr]; exact Nat.mod_lt _ (by omega)
    have hri : (r : Int) = (wh : Int) % (S.nr : Int) := by rw [hrr]; exact Int.natCast_emod _ _
    obtain ⟨bR, oR, IA, lc, hVR, hbR, k0, k1, hrn, hxi⟩ := rel_at hin hr
    have HVR := Lib.hid hVR
    have HV := Lib.hid (And.intro hval hnm2)
    have HK := Lib.hid hkp
    have H2 := Lib.hid (And.intro hBw (And.intro hin (And.intro hVR (And.intro hxi hr))))
    clear hin hval hkp hnm2 hBw hxi hrr hVR
    go_upto_region 6 with fail
    obtain ⟨hbx, hbz, hlow, hsz⟩ := ord_two w2 (.cells #[.slice V.A S.na V.ca, .slice V.R S.nr V.cr, .slice V.F S.nf V.cf, .int .i64 S.label] 28) (.cells #[.slice V.A S.na V.ca, .slice V.R S.nr V.cr, .slice V.F S.nf V.cf, .int .i64 S.label] 28)
    generalize (w2.alloc (.cells #[.slice V.A S.na V.ca, .slice V.R S.nr V.cr, .slice V.F S.nf V.cf, .int .i64 S.label] 28)).alloc (.cells #[.slice V.A S.na V.ca, .slice V.R S.nr V.cr, .slice V.F S.nf V.cf, .int .i64 S.label] 28) = W1 at *
    have b1 : W1.cell? ⟨w2.heap.size, 1, none⟩ = some (.slice V.R S.nr V.cr) := cell_in hbx rfl
    rw [HVR.out] at b1
    have k0' := (hlow.cell hbR).trans k0
    have k1' := (hlow.cell hbR).trans k1
    have hbR1 : bR < W1.heap.size := by omega
    have hbB1 : w2.heap.size < W1.heap.size := by omega
    obtain ⟨nm, hnm⟩ : ∃ nm, nm = S.rname r := ⟨_, rfl⟩
    rw [← hnm] at k0'
    have hAl : Below W1.heap.size W1 (W1.alloc (.cells #[.string ⟨#[]⟩, .slice none 0 0] 33)).drew := ((Below.refl _ _).alloc (Nat.le_refl _) _).drew
    have k0a := (hAl.cell hbR1).trans k0'
    have k1a := (hAl.cell hbR1).trans k1'
    have b1a := (hAl.cell hbB1).trans b1
    have k0d : W1.drew.cell? ⟨bR, oR + r * 2, none⟩ = some (.string nm) := k0'
    have k1d : W1.drew.cell? ⟨bR, oR + r * 2 + 1, none⟩ = some (.slice IA (S.rn r) lc) := k1'
    have b1d : W1.drew.cell? ⟨w2.heap.size, 1, none⟩ = some (.slice (some ⟨bR, oR, none⟩) S.nr V.cr) := b1
    have H3 := Lib.hid (And.intro hbx (And.intro hbz (And.intro hlow hsz)))
    have hr0 : (0 : Int) ≤ (r : Int) := by omega
    have hr1 : (r : Int) < (S.nr : Int) := by omega
    have hwi : (0 : Int) ≤ (wh : Int) := by omega
    have hwj : (wh : Int) < 256 := by omega
    have hnz : ((S.nr : Int) == 0) = false := by rw [beq_eq_false_iff_ne]; omega
    have hri' := hri.symm
    clear hbx hbz hlow hnm k0 k1 hri hAl
    go_region
    have hb3 : (W1.alloc (.cells #[.string nm, .slice IA (S.rn r) lc] 33)).drew.heap[w2.heap.size + 1 + 1]? = some (.cells #[.string nm, .slice IA (S.rn r) lc] 33 (0, 0)) := by
      have h1 := heap_alloc_new W1 (.cells #[.string nm, .slice IA (S.rn r) lc] 33)
      rw [H3.out.2.2.2] at h1
      exact h1
    have hl3 : Below (w2.heap.size + 1 + 1) W1 (W1.alloc (.cells #[.string nm, .slice IA (S.rn r) lc] 33)).drew := by
      have h1 : Below W1.heap.size W1 (W1.alloc (.cells #[.string nm, .slice IA (S.rn r) lc] 33)).drew := ((Below.refl _ _).alloc (Nat.le_refl _) _).drew
      rw [H3.out.2.2.2] at h1
      exact h1
    generalize (W1.alloc (.cells #[.string nm, .slice IA (S.rn r) lc] 33)).drew = W3 at *
    have e0 : W3.cell? ⟨w2.heap.size + 1 + 1, 0, none⟩ = some (.string nm) := cell_in hb3 rfl
    have f0 : W3.frozen? ⟨w2.heap.size + 1 + 1, 0, none⟩ = false := by simp [World.frozen?, hb3]
    have hb4 := Lib.heap_setCell_same hb3 (i := 0) (.string ⟨#[97, 103, 97, 105, 110]⟩)
    have hl4 := hl3.setCell (p := ⟨w2.heap.size + 1 + 1, 0, none⟩) (Nat.le_refl _) (.string ⟨#[97, 103, 97, 105, 110]⟩)
    have HB4 := Lib.hid (And.intro hb4 hl4)
    clear hb3 hl3 hb4 hl4 k0' k1' b1 k0a k1a b1a k0d k1d b1d hwi hwj hnz hri' hr0 hr1 hbB1
    go_upto_region 8 with fail
    clear e0 f0
    generalize W3.setCell ⟨w2.heap.size + 1 + 1, 0, none⟩ (.string ⟨#[97, 103, 97, 105, 110]⟩) = wr at *
    obtain ⟨Z, hZ⟩ : ∃ Z, Z = w2.heap.size + 1 := ⟨_, rfl⟩
    have hsz1 := H3.out.2.2.2
    have hbx := (HB4.out.2.block _ (by omega)).trans H3.out.1
    have hbz := (HB4.out.2.block _ (by omega)).trans H3.out.2.1
    have hbc := HB4.out.1
    have hlow4 : Below w2.heap.size w2 wr := H3.out.2.2.1.trans (HB4.out.2.mono (by omega))
    have hszr : w2.heap.size + 1 + 1 < wr.heap.size := lt_of_block hbc
    have hwZ : w.heap.size ≤ w2.heap.size := H2.out.1.size
    rw [← hZ] at hbz hbc hszr ⊢
    have hxz : w2.heap.size < Z := by omega
    have hwZ2 : w.heap.size ≤ Z := by omega
    clear hZ hwZ
    have hwZ := hwZ2
    clear hwZ2
    have HR2 := Lib.hid (And.intro (Below.step H2.out.1 hlow4) (And.intro (Keeps.below hlow4 (some g)) (And.intro hbx (And.intro hbz (And.intro hbc hlow4)))))
    clear hbx hbz hbc hlow4 HB4 H3 hsz1
    generalize hPB : wr.heap.size = PB at *
    have hZP : Z + 1 < PB := hszr
    refine RelV.region_rest 5 [0, 1, 2, 3, 4] _ rfl rfl (R := [fun v _ => v = .pointer (some ⟨w2.heap.size, 1, none⟩), fun v _ => v = .slice (some ⟨bR, oR, none⟩) S.nr V.cr, fun v w => ∃ g' c', v = .slice (some ⟨g', 0, none⟩) S.nr c' ∧ w.ownsRow PB 33 2 v S.nr (relO S V (List.range S.nr)), fun v _ => v = .agg #[.string ⟨#[97, 103, 97, 105, 110]⟩, .slice IA (S.rn r) lc], fun v w => ∃ b', v = .slice (some ⟨b', 0, none⟩) 1 1 ∧ w.heap[b']? = some (.cells #[.string ⟨#[97, 103, 97, 105, 110]⟩, .slice IA (S.rn r) lc] 33 (0, 0))])
      (E := fun _ _ w' => Below PB wr w') (T := fun w w' => Below w.heap.size w w') (by kernel_rfl) (by kernel_rfl) (by kernel_rfl) (fun _ => by rw [← hPB]; exact below_drew _) ?_ ?_ ?_
    · intro D vals i v w1 w2' hi hE hT hv
      match i, hi with
      | 2, _ =>
        obtain ⟨g', c', e, ho⟩ := hv
        exact ⟨g', c', e, own_below' ho hT⟩
      | 4, _ =>
        obtain ⟨b', e, hb'⟩ := hv
        exact ⟨b', e, (hT.block _ (lt_of_block hb')).trans hb'⟩
      | 0, _ | 1, _ | 3, _ => exact hv
      | i + 5, hi => exact absurd hi (by omega)
    · skip
      refine RelV.Steps.cons (L := []) rfl (by kernel_rfl) ?_ ?_
      · intro vals w' D hE hF hR K hK
        simp only [Rel.putL, Rel.dst, z1, z2, z3, z4, Act.put, z5, z6, z7] at hK ⊢
        go_simp
        exact hK _ _ rfl (Below.refl _ _) hE
      refine RelV.Steps.cons (L := [0]) rfl (by kernel_rfl) ?_ ?_
      · intro vals w' D hE hF hR K hK
        have d0 : vals 0 = .pointer (some ⟨w2.heap.size, 1, none⟩) := hR.1
        have c1 : w'.cell? ⟨w2.heap.size, 1, none⟩ = some (.slice (some ⟨bR, oR, none⟩) S.nr V.cr) := by
          have h1 := cell_in (((show Below PB wr w' from hE).block _ (by omega)).trans HR2.out.2.2.1) (j := 1) rfl
          rw [HVR.out] at h1
          exact h1
        simp only [Rel.putL, Rel.dst, z1, z2, z3, z4, Act.put, z5, z6, z7, d0] at hK ⊢
        go_simp
        exact hK _ _ rfl (Below.refl _ _) hE
      refine RelV.Steps.cons (L := [1]) rfl (by kernel_rfl) ?_ ?_
      · intro vals w' D hE hF hR K hK
        have d1 : vals 1 = .slice (some ⟨bR, oR, none⟩) S.nr V.cr := hR.1
        have hE' : Below PB wr w' := hE
        have hsz : PB ≤ w'.heap.size := by have := hE'.size; omega
        have hS' : SchIn w' S V := HK.out _ (HR2.out.2.1.trans ⟨hE'.size, fun k hk _ => hE'.block k (by omega)⟩)
        simp only [Rel.putL, Rel.dst, z1, z2, z3, z4, Act.put, z5, z6, z7, d1] at hK ⊢
        refine wp_append_lies _ (.const (Value.slice none 0 0)) (.tmp 44) 25 (by rfl) PB 33 er (.agg #[.string ⟨#[]⟩, .slice none 0 0]) 2 40 Try.underlying25 HIR.out.1 HIR.out.2.1 HIR.out.2.2.1 HIR.out.2.2.2 rfl (by omega) (.slice none 0 0) 0 [] (by rfl) (World.ownsRow_nil _ _ _ _) ⟨bR, oR, none⟩ S.nr V.cr (relO S V (List.range S.nr)) (by rfl) (by rw [relO_len, List.length_range]) (rel_news hS' HVR.out) (relO_one S V _) (by omega) (by unfold maxLen; omega) (by omega) hsz w'.heap.size rfl ?_
        intro gR' cR' wn O G _ _
        rw [List.nil_append] at O
        have hT : Below w'.heap.size w' wn := (Below.refl _ _).grown G (Nat.le_refl _) (fun r e => by simp [Value.ownBlock] at e)
        exact hK _ _ ⟨gR', cR', by rw [Nat.zero_add], by rw [Nat.zero_add] at O ⊢; exact O⟩ hT (hE'.trans (hT.mono hsz))
      refine RelV.Steps.cons (L := []) rfl (by kernel_rfl) ?_ ?_
      · intro vals w' D hE hF hR K hK
        have hE' : Below PB wr w' := hE
        have hbc := (hE'.block _ hZP).trans HR2.out.2.2.2.2.1
        have c0 : w'.cell? ⟨Z + 1, 0, none⟩ = some (.string ⟨#[97, 103, 97, 105, 110]⟩) := cell_in hbc rfl
        have c1 : w'.cell? ⟨Z + 1, 1, none⟩ = some (.slice IA (S.rn r) lc) := cell_in hbc rfl
        clear hbc
        simp only [Rel.putL, Rel.dst, z1, z2, z3, z4, Act.put, z5, z6, z7] at hK ⊢
        go_simp
        exact hK _ _ rfl (Below.refl _ _) hE
      refine RelV.Steps.cons (L := [3]) rfl (by kernel_rfl) ?_ ?_
      · intro vals w' D hE hF hR K hK
        have d3 : vals 3 = .agg #[.string ⟨#[97, 103, 97, 105, 110]⟩, .slice IA (S.rn r) lc] := hR.1
        have hE' : Below PB wr w' := hE
        have hsz : PB ≤ w'.heap.size := by have := hE'.size; omega
        simp only [Rel.putL, Rel.dst, z1, z2, z3, z4, Act.put, z5, z6, z7, d3] at hK ⊢
        go_simp
        exact hK _ _ ⟨w'.heap.size, rfl, heap_alloc_new w' _⟩ ((Below.refl _ _).alloc (Nat.le_refl _) _) (hE'.alloc hsz _)
      exact RelV.Steps.done
    · intro vals Wx D hD hE hR
      have hE' : Below PB wr Wx := hE
      obtain ⟨r0, r1, ⟨g', c', r2, ho⟩, r3, ⟨b', r4, hb'⟩, _⟩ := hR
      have d0 : vals 0 = .pointer (some ⟨w2.heap.size, 1, none⟩) := r0
      have d1 : vals 1 = .slice (some ⟨bR, oR, none⟩) S.nr V.cr := r1
      have d3 : vals 3 = .agg #[.string ⟨#[97, 103, 97, 105, 110]⟩, .slice IA (S.rn r) lc] := r3
      rw [r2] at ho
      have hsz : PB ≤ Wx.heap.size := by have := hE'.size; omega
      have hgP := (ho.lt g' rfl).1
      have hbz := (hE'.block _ (by omega)).trans HR2.out.2.2.2.1
      have HZ := Lib.hid (And.intro ho (And.intro hb' (And.intro hE' hbz)))
      simp only [Rel.putL, Rel.dst, z1, z2, z3, z4, Act.put, z5, z6, z7, d0, d1, r2, d3, r4]
      clear hE hD hE' ho hb' hbz r0 r1 r2 r3 r4 d0 d1 d3
      refine wpList_append_lies _ rfl (.tmp 45) (.tmp 47) 25 rfl PB 33 er (.agg #[.string ⟨#[]⟩, .slice none 0 0]) 2 40 Try.underlying25 HIR.out.1 HIR.out.2.1 HIR.out.2.2.1 HIR.out.2.2.2 rfl (by decide) (.slice (some ⟨g', 0, none⟩) S.nr c') S.nr (relO S V (List.range S.nr)) rfl HZ.out.1 ⟨b', 0, none⟩ 1 1 [.string ⟨#[97, 103, 97, 105, 110]⟩, .slice IA (S.rn r) lc] rfl rfl (World.news_of_block (cs := #[.string ⟨#[97, 103, 97, 105, 110]⟩, .slice IA (S.rn r) lc]) (t := 33) (fr := (0, 0)) HZ.out.2.1) (by simp [Value.oneCell']) (by omega) (by unfold maxLen; omega) (by omega) hsz Wx.heap.size rfl ?_
      intro gA cA wm hown hgrow hblk hgl
      have hbx := (Keeps.grown hgrow).block HZ.out.2.2.2 (fun e => by have e5 : g' = Z := by simpa [Value.ownBlock] using e
                                                                      omega)
      have e0 : wm.cell? ⟨Z, 1, none⟩ = some (.slice V.R S.nr V.cr) := cell_in hbx rfl
      have f0 : wm.frozen? ⟨Z, 1, none⟩ = false := by simp [World.frozen?, hbx]
      have hcap := slim_capsO hown
      have hgr : ∀ r, (Value.slice (some ⟨g', 0, none⟩) S.nr c').ownBlock = some r → PB ≤ r := fun r e => by
        have e5 : g' = r := by simpa [Value.ownBlock] using e
        omega
      have hBm : Below PB wr wm := HZ.out.2.2.1.trans ((Below.refl _ _).grown hgrow hsz hgr)
      have hks := Keeps.set wm Z 1 (.slice (some ⟨gA, 0, none⟩) (S.nr + 1) cA)
      have hK2 : Keeps w2 (wm.setCell ⟨Z, 1, none⟩ (.slice (some ⟨gA, 0, none⟩) (S.nr + 1) cA)) (some g) := by
        refine ⟨by have := HR2.out.2.1.1; have := hBm.size; simp [World.setCell]; omega, fun q hq hne => ?_⟩
        exact (hks.2 q (by have := hBm.size; have := HR2.out.2.1.1; omega) (fun e => by injection e; omega)).trans ((hBm.block q (by omega)).trans (HR2.out.2.1.2 q hq hne))
      have hSm := HK.out _ hK2
      have hLow : Below w.heap.size w (wm.setCell ⟨Z, 1, none⟩ (.slice (some ⟨gA, 0, none⟩) (S.nr + 1) cA)) := (HR2.out.1.trans (hBm.mono (by omega))).setCell (p := ⟨Z, 1, none⟩) hwZ _
      have hzz := Lib.heap_setCell_same hbx (i := 1) (.slice (some ⟨gA, 0, none⟩) (S.nr + 1) cA)
      have hoz := ownsRow_setCell_below hown (a := ⟨Z, 1, none⟩) (by show Z < PB; omega) (.slice (some ⟨gA, 0, none⟩) (S.nr + 1) cA)
      have hlowf : Below w2.heap.size w2 (wm.setCell ⟨Z, 1, none⟩ (.slice (some ⟨gA, 0, none⟩) (S.nr + 1) cA)) := (HR2.out.2.2.2.2.2.trans (hBm.mono (by omega))).setCell (p := ⟨Z, 1, none⟩) (by show w2.heap.size ≤ Z; omega) _
      have hxf := H2.out.2.2.2.1.below hlowf
      have hzi := more_in (nm := ⟨#[97, 103, 97, 105, 110]⟩) hSm hoz hrn hxf (by decide) (by omega)
      have hbxf : (wm.setCell ⟨Z, 1, none⟩ (.slice (some ⟨gA, 0, none⟩) (S.nr + 1) cA)).heap[w2.heap.size]? = _ := (Below.heap_setCell wm ⟨Z, 1, none⟩ (.slice (some ⟨gA, 0, none⟩) (S.nr + 1) cA) w2.heap.size (by show w2.heap.size ≠ Z; omega)).trans ((hBm.block _ (by omega)).trans HR2.out.2.2.1)
      have hma := more_again HV.out.1 HV.out.2.1 HV.out.2.2 H2.out.2.2.2.2
      have HF := Lib.hid (And.intro hLow (And.intro hSm (And.intro hzi (And.intro hbxf (And.intro hzz hma)))))
      have hszf : Z < (wm.setCell ⟨Z, 1, none⟩ (.slice (some ⟨gA, 0, none⟩) (S.nr + 1) cA)).heap.size := lt_of_block hzz
      clear hown hgrow hblk hgl hbx hcap hgr hBm hks hK2 hSm hLow hzz hoz hxf hzi hbxf hma hlowf HZ HR2 hsz hgP hPB
      go_upto_region 9 with fail
      clear e0 f0
      generalize wm.setCell ⟨Z, 1, none⟩ (.slice (some ⟨gA, 0, none⟩) (S.nr + 1) cA) = wf at *
      have q0 : wf.cell? ⟨w2.heap.size, 0, none⟩ = some (.slice V.A S.na V.ca) := cell_in HF.out.2.2.2.1 rfl
      have q1 : wf.cell? ⟨w2.heap.size, 1, none⟩ = some (.slice V.R S.nr V.cr) := cell_in HF.out.2.2.2.1 rfl
      have q2 : wf.cell? ⟨w2.heap.size, 2, none⟩ = some (.slice V.F S.nf V.cf) := cell_in HF.out.2.2.2.1 rfl
      have q3 : wf.cell? ⟨w2.heap.size, 3, none⟩ = some (.int .i64 S.label) := cell_in HF.out.2.2.2.1 rfl
      go_wp2_with fail
      refine (Reduce_any HF.out.2.1).mono ?_
      rintro e w5 ⟨v, u, rfl, ⟨A5, c5, rfl, _, _⟩, ⟨A6, c6, rfl, hl6, _⟩, hb⟩
      have hzz5 := (hb.block _ hszf).trans HF.out.2.2.2.2.1
      have H5 := Lib.hid (And.intro (Below.step HF.out.1 hb) (And.intro (HF.out.2.1.below hb) (And.intro (HF.out.2.2.1.below hb) ((hb.block _ (lt_of_block HF.out.2.2.2.1)).trans HF.out.2.2.2.1))))
      clear q0 q1 q2 q3 hb
      have q0 := cell_in hzz5 (j := 0) rfl
      have q1 := cell_in hzz5 (j := 1) rfl
      have q2 := cell_in hzz5 (j := 2) rfl
      have q3 := cell_in hzz5 (j := 3) rfl
      clear hzz5
      go_wp2_with fail
      refine (red_more H5.out.2.2.1).mono ?_
      rintro e w6 ⟨v, u, rfl, ⟨A7, c7, rfl, _, _⟩, ⟨A8, c8, rfl, hl8, _⟩, hb⟩
      obtain ⟨hm1, hm2⟩ := HF.out.2.2.2.2.2
      rw [hm1] at hl8 ⊢
      obtain ⟨k, hk⟩ : ∃ k, k = (redO S).2.length := ⟨_, rfl⟩
      rw [← hk] at hl6 hl8 hm2 ⊢
      have H6 := Lib.hid (And.intro (Below.step H5.out.1 hb) (And.intro (H5.out.2.1.below hb) ((hb.block _ (lt_of_block H5.out.2.2.2)).trans H5.out.2.2.2)))
      clear q0 q1 q2 q3 hb hm1 hk H5 HF
      have hmk := make_bool S.nr (by omega)
      go_upto_region 11 with fail
      go_cut [73] (fun s73 wy => s73 = .bool false ∧ Hid (wy = w6))
      case first =>
        by_cases h2 : S.nr ≤ 2
        · have h2i : (S.nr : Int) ≤ 2 := by omega
          have hk1 := hm2 h2
          subst hk1
          go_wp2_with fail
          go_meet
          exact ⟨rfl, Lib.hid rfl⟩
        · have h2i : ¬ (S.nr : Int) ≤ 2 := by omega
          go_wp2_with fail
          go_meet
          exact ⟨rfl, Lib.hid rfl⟩
      obtain ⟨rfl, hw6⟩ := hcut
      obtain rfl : wc = w6 := hw6.out
      clear hw6 hm2
      go_upto_region 14 with fail
      clear hmk
      have hR := RowV.new wc 4 (.bool false) S.nr
      have hA := (Below.refl wc.heap.size wc).alloc (Nat.le_refl _) (.cells (madeCells #[Value.bool false] S.nr) 4)
      have H7 := Lib.hid (And.intro hR hA)
      generalize wc.alloc (.cells (madeCells #[Value.bool false] S.nr) 4) = w7 at *
      have hGx : w2.heap.size < wc.heap.size := lt_of_block H6.out.2.2
      generalize hG : wc.heap.size = G at *
      clear hR hA
      go_wp2_with fail
      go_loopg [78] S.nr (fun gg s78 wx => ∃ i : Nat, i + gg = S.nr ∧ s78 = .int .i64 (i : Int) ∧ Hid (Below G wc wx ∧ RowV wx 4 G S.nr fun j => .bool (decide (j < i))))
      case atStart => exact ⟨0, by omega, rfl, Lib.hid ⟨H7.out.2, H7.out.1⟩⟩
      case round =>
        obtain ⟨i, hi, rfl, HR⟩ := hrel
        by_cases hlt : i < S.nr
        · have f0 := HR.out.2.free i
          have k0 := HR.out.2.cell hlt
          have HS := Lib.hid (And.intro (HR.out.1.setCell (p := ⟨G, i, none⟩) (Nat.le_refl _) (.bool true)) (HR.out.2.set hlt (.bool true)))
          go_wp2
          go_roundg (S.nr - (i + 1))
          case measure => omega
          case rel => exact ⟨i + 1, by omega, by go_num, Lib.hid ⟨HS.out.1, HS.out.2.congr fun j _ => by
            by_cases e : j = i
            · rw [if_pos e, decide_eq_true (by omega : j < i + 1)]
            · rw [if_neg e]
              by_cases e2 : j < i
              · rw [decide_eq_true e2, decide_eq_true (by omega : j < i + 1)]
              · rw [decide_eq_false e2, decide_eq_false (by omega : ¬ j < i + 1)]⟩⟩
        · have ein : i = S.nr := by omega
          subst ein
          have hlow8 : Below w.heap.size w wr := H6.out.1.trans (HR.out.1.mono (by have := H6.out.1.size; omega))
          have hbA : BoolAt wr (some ⟨G, 0, none⟩) S.nr fun _ => true := fun _ => ⟨G, 0, rfl, HR.out.2.lt, fun j hj => by
            rw [Nat.zero_add, HR.out.2.cell hj, decide_eq_true hj]⟩
          have H8 := Lib.hid (And.intro hlow8 (And.intro (H6.out.2.1.below (hG ▸ HR.out.1)) (And.intro ((HR.out.1.block _ hGx).trans H6.out.2.2) hbA)))
          clear hlt hi hlow8 hbA HR H7 H6
          generalize wr = w8 at *
          go_wp2_with fail
          go_loopg [87] S.nr (fun gg s87 wx => ∃ i : Nat, i + gg = S.nr ∧ s87 = .int .i64 (i : Int) ∧ Hid (Below w8.heap.size w8 wx))
          case atStart => exact ⟨0, by omega, rfl, Lib.hid (Below.refl _ _)⟩
          case round =>
            obtain ⟨i, hi, rfl, HR⟩ := hrel
            by_cases hlt : i < S.nr
            · have hbk := (HR.out.block _ (lt_of_block H8.out.2.2.1)).trans H8.out.2.2.1
              have hSr := H8.out.2.1.below HR.out
              have hEar := Ear_any (c := S.nr) (i : Int) hSr (H8.out.2.2.2.below HR.out) (by omega)
              have q0 : wr.cell? ⟨w2.heap.size, 0, none⟩ = some (.slice V.A S.na V.ca) := cell_in hbk rfl
              have q1 : wr.cell? ⟨w2.heap.size, 1, none⟩ = some (.slice V.R S.nr V.cr) := cell_in hbk rfl
              have q2 : wr.cell? ⟨w2.heap.size, 2, none⟩ = some (.slice V.F S.nf V.cf) := cell_in hbk rfl
              have q3 : wr.cell? ⟨w2.heap.size, 3, none⟩ = some (.int .i64 S.label) := cell_in hbk rfl
              have H9 := Lib.hid (And.intro hbk hSr)
              clear hbk hSr
              cases hq : earW S S.nr (fun _ => true) (i : Int) with
              | none =>
                rw [hq] at hEar
                clear hq
                go_wp2_with fail
                refine hEar.mono ?_
                rintro e w9 ⟨rfl, hb⟩
                have HB := Lib.hid (Below.step HR.out hb)
                clear hb q0 q1 q2 q3 hEar
                simp only [witV]
                go_wp2
                go_roundg (S.nr - (i + 1))
                case measure => omega
                case rel => exact ⟨i + 1, by omega, by go_num, HB⟩
              | some u =>
                rw [hq] at hEar
                have HE := Lib.hid (ear_all HV.out.1 hlt hq)
                clear hq
                go_wp2_with fail
                refine hEar.mono ?_
                rintro e w9 ⟨rfl, hb⟩
                have H10 := Lib.hid (And.intro (Below.step HR.out hb) (And.intro (H9.out.2.below hb) ((hb.block _ (lt_of_block H9.out.1)).trans H9.out.1)))
                clear hb hEar q0 q1 q2 q3
                obtain ⟨hu1, hu2, _⟩ := HE.out
                obtain ⟨bi, oi, Ii, li, hVi, hbi, ci0, ci1, hrni, hxi⟩ := rel_at H10.out.2.1 hlt
                have x1 : w9.cell? ⟨w2.heap.size, 1, none⟩ = some (.slice V.R S.nr V.cr) := cell_in H10.out.2.2 rfl
                rw [hVi] at x1
                have HVi := Lib.hid (And.intro hVi (And.intro hxi hrni))
                have hi0 : (0 : Int) ≤ (i : Int) := by omega
                have hi1 : (i : Int) < (S.nr : Int) := by omega
                have hcr := H10.out.2.1.cr
                have hcrm := H10.out.2.1.crm
                unfold maxLen at hcrm
                clear hVi hxi ci0
                simp only [witV]
                go_wp2_with fail
                clear x1 ci1
                go_loopg [106] (S.rn i) (fun gg s106 wx => ∃ jj : Nat, jj + gg = S.rn i ∧ s106 = .int .i64 (jj : Int) ∧ Hid (Below w9.heap.size w9 wx))
                case atStart => exact ⟨0, by omega, rfl, Lib.hid (Below.refl _ _)⟩
                case round =>
                  obtain ⟨jj, hjj, rfl, HX⟩ := hrel
                  by_cases hjl : jj < S.rn i
                  · obtain ⟨b', off', rfl, hbl', hc'⟩ := (HVi.out.2.1.below HX.out) (by omega)
                    have c1 : wr.cell? ⟨b', off' + jj, none⟩ = some (.int .i64 (S.rat i jj)) := hc' jj hjl
                    have hmem : S.rat i jj ∈ attrs S i := List.mem_map.2 ⟨jj, List.mem_range.2 hjl, rfl⟩
                    obtain ⟨kk, hkk⟩ : ∃ kk, kk = S.rat i jj := ⟨_, rfl⟩
                    rw [← hkk] at c1 hmem
                    have HM := Lib.hid hmem
                    have hbk := (HX.out.block _ (lt_of_block H10.out.2.2)).trans H10.out.2.2
                    have x1 : wr.cell? ⟨w2.heap.size, 1, none⟩ = some (.slice V.R S.nr V.cr) := cell_in hbk rfl
                    rw [HVi.out.1] at x1
                    clear hbl' hc' hmem hkk hbk
                    generalize wr = wa at *
                    go_wp2_with fail
                    clear c1 x1
                    go_loopg [20, 113] S.nr (fun gg s20 s113 wx => ∃ (f : Bool) (jx : Nat), jx + gg = S.nr ∧ s20 = .bool f ∧ s113 = .int .i64 (jx : Int) ∧ Hid (Below wa.heap.size wa wx ∧ f = anyB jx fun y => decide (y ≠ i ∧ kk ∈ attrs S y)))
                    case atStart => exact ⟨false, 0, by omega, rfl, rfl, Lib.hid ⟨Below.refl _ _, rfl⟩⟩
                    case round =>
                      obtain ⟨f, jx, hjx, rfl, rfl, HY⟩ := hrel
                      have hBr := Below.step HX.out HY.out.1
                      have hSr := H10.out.2.1.below hBr
                      have hbk := (hBr.block _ (lt_of_block H10.out.2.2)).trans H10.out.2.2
                      by_cases hjn : jx < S.nr
                      · obtain ⟨bj, oj, Ij, lj, hVj, hbj, cj0, cj1, hrnj, hxj⟩ := rel_at hSr hjn
                        rw [HVi.out.1] at hVj
                        injection hVj with hVj
                        injection hVj with e1 e2
                        subst e1 e2
                        have hg5 : Below wr.heap.size wr (wr.alloc (.cells #[.string (S.rname jx), .slice Ij (S.rn jx) lj] 33)) := (Below.refl _ _).alloc (Nat.le_refl _) _
                        have hin := in_int (c := lj) kk (by rw [attrs_len]; exact hrnj) (hxj.below hg5).attrs
                        rw [attrs_len] at hin
                        obtain ⟨q, hq⟩ : ∃ q, q = decide (kk ∈ attrs S jx) := ⟨_, rfl⟩
                        rw [← hq] at hin
                        have hstep : anyB (jx + 1) (fun y => decide (y ≠ i ∧ kk ∈ attrs S y)) = (f || (decide (jx ≠ i) && q)) := by
                          rw [hq, HY.out.2]
                          unfold anyB
                          rw [List.range_succ, List.any_append]
                          simp
                        obtain ⟨nmj, hnmj⟩ : ∃ nmj, nmj = S.rname jx := ⟨_, rfl⟩
                        rw [← hnmj] at cj0 hin hg5
                        have HS := Lib.hid (And.intro hstep (Below.step HY.out.1 hg5))
                        clear hbk hSr hxj hstep hq hnmj hg5 hBr
                        cases f with
                        | true =>
                          go_wp2
                          go_roundg (S.nr - (jx + 1))
                          case measure => omega
                          case rel => exact ⟨true, jx + 1, by omega, rfl, by go_num, Lib.hid ⟨HS.out.2, by rw [HS.out.1]; rfl⟩⟩
                        | false =>
                          by_cases hne : jx = i
                          · subst hne
                            go_wp2
                            go_roundg (S.nr - (jx + 1))
                            case measure => omega
                            case rel => exact ⟨false, jx + 1, by omega, rfl, by go_num, Lib.hid ⟨HS.out.2, by rw [HS.out.1, decide_eq_false (fun h => h rfl)]; rfl⟩⟩
                          · have hneb : ((jx : Int) == (i : Int)) = false := by rw [beq_eq_false_iff_ne]; omega
                            have hnei : ¬ (jx : Int) = (i : Int) := by omega
                            have HN := Lib.hid hne
                            clear hne
                            go_wp2_with fail
                            refine hin.mono ?_
                            rintro e wb ⟨rfl, rfl⟩
                            go_wp2
                            go_roundg (S.nr - (jx + 1))
                            case measure => omega
                            case rel => exact ⟨_, jx + 1, by omega, rfl, by go_num, Lib.hid ⟨HS.out.2, by rw [HS.out.1, decide_eq_true HN.out, show ((jx : Int) != (i : Int)) = true by rw [bne, hneb]; rfl]; rfl⟩⟩
                      · have ejn : jx = S.nr := by omega
                        have hff : f = anyB S.nr fun y => decide (y ≠ i ∧ kk ∈ attrs S y) := by rw [HY.out.2, ejn]
                        obtain ⟨bu, ou, Iu, lu, hVu, hbu, cu0, cu1, hrnu, hxu⟩ := rel_at hSr hu1
                        have x1 : wr.cell? ⟨w2.heap.size, 1, none⟩ = some (.slice V.R S.nr V.cr) := cell_in hbk rfl
                        rw [hVu] at x1
                        have hin := in_int (c := lu) kk (by rw [attrs_len]; exact hrnu) hxu.attrs
                        rw [attrs_len] at hin
                        have hui : ((u : Int) == (i : Int)) = false := by rw [beq_eq_false_iff_ne]; omega
                        have huin : ¬ (u : Int) = (i : Int) := by omega
                        have hu0 : ¬ (u : Int) < 0 := by omega
                        have hu3 : ¬ (S.nr : Int) ≤ (u : Int) := by omega
                        have hu4 : (0 : Int) ≤ (u : Int) := by omega
                        have hu5 : (u : Int) < (S.nr : Int) := by omega
                        have HBW := Lib.hid hBr
                        rw [ejn]
                        clear hjn hjx ejn hbk hSr hxu hVu cu0 hBr
                        cases f with
                        | true =>
                          have hku : kk ∈ attrs S u := by
                            obtain ⟨y, hy, h3⟩ := anyB_true.1 hff.symm
                            have h4 := of_decide_eq_true h3
                            exact HE.out.2.2 kk HM.out ⟨y, hy, h4.1, h4.2⟩
                          rw [decide_eq_true hku] at hin
                          clear hff hku
                          go_wp2_with fail
                          refine hin.mono ?_
                          rintro e wb ⟨rfl, rfl⟩
                          go_wp2
                          go_roundg (S.rn i - (jj + 1))
                          case measure => omega
                          case rel => exact ⟨jj + 1, by omega, by go_num, HBW⟩
                        | false =>
                          clear hff
                          go_wp2
                          go_roundg (S.rn i - (jj + 1))
                          case measure => omega
                          case rel => exact ⟨jj + 1, by omega, by go_num, HBW⟩
                  · have ejl : jj = S.rn i := by omega
                    have HBW := Lib.hid (Below.step H10.out.1 HX.out)
                    rw [ejl]
                    clear hjl hjj ejl
                    go_wp2
                    go_roundg (S.nr - (i + 1))
                    case measure => omega
                    case rel => exact ⟨i + 1, by omega, by go_num, HBW⟩
            · have ein : i = S.nr := by omega
              subst ein
              clear hlt hi
              go_wp2_with fail
              refine sane07.mono ?_
              rintro e wa ⟨rfl, hb⟩
              have HA := Lib.hid (Below.step (Below.step H8.out.1 HR.out) hb)
              clear hb
              go_wp2
              go_ret
              exact ⟨rfl, HA.out⟩
end Go.Proofs.Ytiakgcaflnpmeaa
