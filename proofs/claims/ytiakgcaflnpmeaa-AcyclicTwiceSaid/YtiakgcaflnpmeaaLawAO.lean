/- The law AcyclicOrder. -/
import Derived.Test.YtiakgcaflnpmeaaAcV
import Derived.Test.YtiakgcaflnpmeaaOrdT
import Derived.Deep.DeepCutAuto
namespace Go.Proofs.Ytiakgcaflnpmeaa
open Go Go.RowKit

theorem red_put {W : World} {S : Sc} {V : Sv} {l : List Nat} {R : Option Addr} {c : Nat} (h : SchIn W (S.put l) (Vo V R c l)) :
    Calls Try.prog 11 #[.agg #[.slice V.A S.na V.ca, .slice R S.nr c, .slice V.F S.nf V.cf, .int .i64 S.label]] W fun e w' => ∃ v u, e = .returned (.tuple #[v, u]) ∧ IntL w' v (redO (S.put l)).1 ∧ IntL w' u (redO (S.put l)).2 ∧ Below W.heap.size W w' := Reduce_any (S := S.put l) (V := Vo V R c l) h
theorem acyc_more {W : World} {S : Sc} {V : Sv} {g c n c1 : Nat} {A1 : Option Addr} {nm : ByteArray} {x : Nat → Int} (h : SchIn W (S.more nm n x) (Vm S V g c (A1, n, c1))) :
    Calls Try.prog 23 #[.agg #[.slice V.A S.na V.ca, .slice (some ⟨g, 0, none⟩) (S.nr + 1) c, .slice V.F S.nf V.cf, .int .i64 S.label]] W fun e w' => e = .returned (.bool (treeB (S.more nm n x))) ∧ Below W.heap.size W w' :=
  Acyclic_any (S := S.more nm n x) (V := Vm S V g c (A1, n, c1)) h
theorem attrs_more {S : Sc} {nm : ByteArray} {n : Nat} {x : Nat → Int} : (∀ i, i < S.nr → attrs (S.more nm n x) i = attrs S i) ∧ attrs (S.more nm n x) S.nr = (List.range n).map x := by
  constructor
  · intro i hi
    show (List.range (if i < S.nr then S.rn i else n)).map (if i < S.nr then S.rat i else x) = _
    rw [if_pos hi, if_pos hi]; rfl
  · show (List.range (if S.nr < S.nr then S.rn S.nr else n)).map (if S.nr < S.nr then S.rat S.nr else x) = _
    rw [if_neg (Nat.lt_irrefl _), if_neg (Nat.lt_irrefl _)]
theorem more_all {S : Sc} (hv : Valid S) (h5 : S.nr ≤ 5) (hn : ∀ i, i < S.nr → S.rname i = rnL i) : treeB (S.more ⟨#[97, 108, 108]⟩ S.na fun j => (((List.range S.na).getD j 0 : Nat) : Int)) = true := by
  have hg : ∀ j, j < S.na → (((List.range S.na).getD j 0 : Nat) : Int) = (j : Int) := fun j hj => by simp [List.getD, hj]
  have hvm : Valid (S.more ⟨#[97, 108, 108]⟩ S.na fun j => (((List.range S.na).getD j 0 : Nat) : Int)) := hv.more h5 (by decide) (fun i hi e => by
      rw [hn i hi] at e
      have := congrArg ByteArray.size e
      simp [rnL, ByteArray.size] at this) hv.na1 (fun j hj => by rw [hg j hj]; omega) (fun j hj => by rw [hg j (by omega), hg (j + 1) hj]; omega)
  rw [treeB_core hvm]
  refine decide_eq_true ?_
  have h1 : Acy.Red (attrs (S.more ⟨#[97, 108, 108]⟩ S.na fun j => (((List.range S.na).getD j 0 : Nat) : Int))) (List.range (S.nr + 1)) 1 := by
    refine Acy.red_all (m := S.nr) S.nr List.nodup_range (by simp) (by simp) fun i a hi ha => ?_
    have hr := hvm.range (List.mem_range.1 hi) ha
    rw [attrs_more.2]
    obtain ⟨b, rfl⟩ := Int.eq_ofNat_of_zero_le hr.1
    have hb : b < S.na := by have := hr.2; exact Int.ofNat_lt.1 this
    exact List.mem_map.2 ⟨b, List.mem_range.2 hb, hg b hb⟩
  exact (red_left _).eq h1 List.nodup_range
set_option linter.unusedSimpArgs false in
set_option maxHeartbeats 12800000 in
set_option maxRecDepth 100000 in
theorem law_aord {w : World} {A : Option Addr} {n c : Nat} (h : Nums w A n) (hc : n ≤ c) (hcm : c ≤ maxLen) :
    Calls Try.prog 7 #[.slice A n c] w fun e w' => e = .returned (.bool true) ∧ Below w.heap.size w w' := by
  obtain ⟨er, hi, hz, hss, hbs⟩ := info_parts infoRel
  have HIR := Lib.hid (And.intro hi (And.intro hz (And.intro hss hbs)))
  clear hi hz hss hbs
  obtain ⟨ei, hi, hz, hss, hbs⟩ := info_parts infoInt
  have HI := Lib.hid (And.intro hi (And.intro hz (And.intro hss hbs)))
  clear hi hz hss hbs
  have H := Lib.hid h
  clear h
  by_cases g0 : 300 < n
  · have g0i : (300 : Int) < (n : Int) := by omega
    go_enter Try.func7, Try.ntmps7
    go_wp2_with fail
    refine sane07.mono ?_
    rintro e w1 ⟨rfl, hb⟩
    go_wp2
    go_ret
    exact ⟨rfl, hb⟩
  · have g0i : ¬ (300 : Int) < (n : Int) := by omega
    go_enter Try.func7, Try.ntmps7
    go_wp2_with fail
    refine (new_any H.out hc hcm).mono ?_
    rintro e w1 ⟨g, rfl, hgl, hs, hb⟩
    have H1 := Lib.hid (And.intro hb (And.intro hgl hs))
    have HG := Lib.hid (show w.heap.size ≤ g from hgl)
    clear hb hgl hs
    go_wp2_with fail
    refine (relations_any H1.out.2.2).mono ?_
    rintro e w2 ⟨v, rfl, ps, ⟨V, rfl, hin, hkp⟩, hd, h1, h5, hcv, hs2, hk⟩
    have hval := (sch_valid hd h1 h5 hcv).1
    have hnm2 : (schS ps).nr ≤ 5 ∧ ∀ i, i < (schS ps).nr → (schS ps).rname i = rnL i := by
      have hnr := rsK_len ps ps.length
      refine ⟨by show (rsK ps ps.length).length ≤ 5; omega, fun i hi => ?_⟩
      have hi : i < ps.length := by rw [show (schS ps).nr = ps.length from hnr] at hi; exact hi
      show ((rsK ps ps.length).getD i rsD).1 = _
      rw [rsK_at hi]
    generalize schS ps = S at *
    clear hd h1 h5 hcv ps
    have hnr1 := hval.nr1
    have hnr6 := hval.nr2
    obtain ⟨bR, oR, hVR, hbR, hcR⟩ := hin.rel (by omega)
    have HVR := Lib.hid hVR
    have HV := Lib.hid (And.intro hval hnm2)
    have H2 := Lib.hid (And.intro (H1.out.1.trans (hk.1.mono H1.out.2.1)) (And.intro hin (And.intro hs2 (And.intro hkp (And.intro hbR hcR)))))
    have hgw2 := hs2.lt
    clear hin hval hs2 hk hbR hcR hkp H1 hnm2 hVR
    go_upto_region 7 with fail
    obtain ⟨X, hX⟩ : ∃ X : Obj, X = .cells #[.slice V.A S.na V.ca, .slice V.R S.nr V.cr, .slice V.F S.nf V.cf, .int .i64 S.label] 28 := ⟨_, rfl⟩
    obtain ⟨Y, hY⟩ : ∃ Y : Obj, Y = .cells #[.slice V.A S.na V.ca, .slice none 0 0, .slice V.F S.nf V.cf, .int .i64 S.label] 28 := ⟨_, rfl⟩
    obtain ⟨hbx, hby, hlow, hsz1⟩ := ord_two w2 X Y
    rw [← hX, ← hY]
    generalize (w2.alloc X).alloc Y = W1 at *
    rw [hX] at hbx
    rw [hY] at hby
    have c1 := cell_in hbx (j := 1) rfl
    clear hX hY
    have H3 := Lib.hid (And.intro hbx (And.intro hby (And.intro hlow (srcBelowB H2.out.2.2.1 hlow hgw2))))
    clear hbx hby hlow
    go_wp2_with fail
    refine (shuffle_src H3.out.2.2.2 (by omega)).mono ?_
    rintro e w4 ⟨lv, l, rfl, O, hord, hs4, hk4⟩
    have hol := hord.len
    obtain ⟨gl, cl, hlv, hgl1, hgl2⟩ := O.form (by omega)
    subst hlv
    have hsz4 : w2.heap.size + 1 + 1 ≤ w4.heap.size := by have h1 := Nat.lt_of_le_of_lt hgl1 hgl2; omega
    have hkp2 : Keeps w2 w4 (some g) := (Keeps.below H3.out.2.2.1 _).trans (Keeps.src hk4)
    have hsch : ∀ W, Keeps w2 W (some g) → SchIn W S V := H2.out.2.2.2.1
    have hlw : Below w.heap.size w w4 := by
      have h1 : Below w.heap.size w W1 := H2.out.1.trans (H3.out.2.2.1.mono H2.out.1.size)
      exact h1.trans (hk4.1.mono HG.out)
    have hOL : OrdL w w2 g w2.heap.size w4.heap.size S.nr S V (.slice (some ⟨gl, 0, none⟩) S.nr cl) l [] (.slice none 0 0) w4 := by
      refine ⟨hlw, hkp2, rfl, H2.out.1.size, ?_, ?_, by rw [← hsz1]; exact O, fun k e => ?_, World.ownsRow_nil _ _ _ _, Nat.le_refl _, hsz4⟩
      · exact (hk4.2 _ (lt_of_block H3.out.1) (by omega)).trans H3.out.1
      · exact (hk4.2 _ (lt_of_block H3.out.2.1) (by omega)).trans H3.out.2.1
      · obtain rfl : gl = k := by simpa [Value.ownBlock] using e
        exact hgl2
    obtain ⟨P, hbase⟩ : ∃ P, P = w4.heap.size := ⟨_, rfl⟩
    rw [← hbase] at hOL
    have HO := Lib.hid (And.intro hOL (And.intro hord hsch))
    have hlen := hord.len
    have HL := Lib.hid hlen
    clear O hord hs4 hk4 hkp2 hsch hlw hOL hbase c1 hsz1 hgl1 hgl2 H3 hgw2 hlen hol
    go_wp2_with fail
    go_loopg [31] S.nr (fun gg s31 wx => ∃ (i : Nat) (sv : Value), i + gg = S.nr ∧ s31 = .int .i64 (i : Int) ∧ Hid (OrdL w w2 g w2.heap.size P S.nr S V (.slice (some ⟨gl, 0, none⟩) S.nr cl) l (l.take i) sv wx))
    case atStart => exact ⟨0, _, by omega, rfl, Lib.hid HO.out.1⟩
    case round =>
      obtain ⟨i, sv, hi, rfl, HR⟩ := hrel
      by_cases hlt : i < S.nr
      · obtain ⟨j, hj⟩ : ∃ j, j = l.getD i 0 := ⟨_, rfl⟩
        have hjn : j < S.nr := by rw [hj]; exact HO.out.2.1.lt hlt
        have cl0 : wr.cell? ⟨gl, i, none⟩ = some (.int .i64 (j : Int)) := by rw [hj]; exact (HR.out.lst.cellAt i (by omega)).trans (ordV_at (by rw [HL.out]; exact hlt))
        have g0 : (0 : Int) ≤ (j : Int) := by omega
        have g1 : (j : Int) < (S.nr : Int) := by omega
        obtain ⟨dn, hdn⟩ : ∃ dn, dn = l.take i := ⟨_, rfl⟩
        have hdl : dn.length ≤ 6 := by rw [hdn, List.length_take]; omega
        have htk : l.take (i + 1) = dn ++ [j] := by
          have hil : i < l.length := by rw [HL.out]; exact hlt
          rw [List.take_succ_eq_append_getElem hil, hdn, hj]
          simp [List.getD, hil]
        rw [← hdn] at HR
        have hrel2 : ∀ W, Keeps w2 W (some g) → W.cell? ⟨bR, oR + j * 2, none⟩ = some (.string (S.rname j)) ∧ W.cell? ⟨bR, oR + j * 2 + 1, none⟩ = some (.slice (V.L j).1 (V.L j).2.1 (V.L j).2.2) := fun W hW => by
          obtain ⟨b', o', e', _, hc'⟩ := (HO.out.2.2 W hW).rel (by omega)
          rw [HVR.out] at e'
          injection e' with e'
          injection e' with e1 e2
          rw [e1, e2]
          exact hc' j hjn
        obtain ⟨nm, hnm⟩ : ∃ nm, nm = S.rname j := ⟨_, rfl⟩
        rcases hLj : V.L j with ⟨A1, l1, k1⟩
        rw [← hnm, hLj] at hrel2
        have HN := Lib.hid (show Value.string nm = .string (S.rname j) ∧ Value.slice A1 l1 k1 = .slice (V.L j).1 (V.L j).2.1 (V.L j).2.2 ∧ ∀ W, Keeps w2 W (some g) → W.cell? ⟨bR, oR + j * 2, none⟩ = some (.string nm) ∧ W.cell? ⟨bR, oR + j * 2 + 1, none⟩ = some (.slice A1 l1 k1) from ⟨by rw [hnm], by rw [hLj], hrel2⟩)
        have HT := Lib.hid htk
        clear hj hdn htk hrel2 hnm hLj
        go_upto_region 10 with fail
        refine RelV.region_full0 11 [0, 1, 2, 3, 4, 5, 6, 7, 8, 9, 10] rfl rfl (R := [fun v _ => v = .pointer (some ⟨w2.heap.size + 1, 1, none⟩), fun v _ => v = sv, fun v _ => v = .pointer (some ⟨w2.heap.size, 1, none⟩), fun v _ => v = .slice (some ⟨bR, oR, none⟩) S.nr V.cr, fun v _ => v = .int .i64 (j : Int), fun v _ => v = .pointer (some ⟨bR, oR + j * 2, none⟩), fun v _ => v = .agg #[.string nm, .slice A1 l1 k1], RelNew (w2.heap.size + 1) sv (.string nm) (.slice A1 l1 k1), fun v _ => v ≠ undef, fun v _ => v = .pointer (some ⟨w2.heap.size + 1, 1, none⟩), fun _ _ => True])
          (E := OrdE w w2 g w2.heap.size P S.nr S V (.slice (some ⟨gl, 0, none⟩) S.nr cl) l dn j sv) (T := OrdT (w2.heap.size + 1) sv) (by kernel_rfl) (by kernel_rfl) (OrdE.start HR.out) ?_ ?_ ?_
        · intro D Q q u1 u2 u3 hq hE hT hv
          match q, hq with
          | 7, _ => exact RelNew.keep hv hT
          | 0, _ | 1, _ | 2, _ | 3, _ | 4, _ | 5, _ | 6, _ | 8, _ | 9, _ | 10, _ => exact hv
          | q + 11, hq => exact absurd hq (by omega)
        · refine RelV.Steps.cons (L := []) rfl (by kernel_rfl) ?_ ?_
          · intro Q w' D hE hF hR K hK
            simp only [Rel.putL, Rel.dst, z1, z2, z3, z4, Act.put, z5, z6, z7] at hK ⊢
            go_simp
            exact hK _ _ rfl OrdT.same (hE.same (by decide) (by decide) _)
          refine RelV.Steps.cons (L := [0]) rfl (by kernel_rfl) ?_ ?_
          · intro Q w' D hE hF hR K hK
            have d0 : Q 0 = .pointer (some ⟨w2.heap.size + 1, 1, none⟩) := hR.1
            have n10 : 10 ∉ D := hF.not (by kernel_rfl)
            have c1 : w'.cell? ⟨w2.heap.size + 1, 1, none⟩ = some sv := cell_in (hE.box n10) rfl
            simp only [Rel.putL, Rel.dst, z1, z2, z3, z4, Act.put, z5, z6, z7, d0] at hK ⊢
            go_simp
            exact hK _ _ rfl OrdT.same (hE.same (by decide) (by decide) _)
          refine RelV.Steps.cons (L := []) rfl (by kernel_rfl) ?_ ?_
          · intro Q w' D hE hF hR K hK
            simp only [Rel.putL, Rel.dst, z1, z2, z3, z4, Act.put, z5, z6, z7] at hK ⊢
            go_simp
            exact hK _ _ rfl OrdT.same (hE.same (by decide) (by decide) _)
          refine RelV.Steps.cons (L := [2]) rfl (by kernel_rfl) ?_ ?_
          · intro Q w' D hE hF hR K hK
            have d2 : Q 2 = .pointer (some ⟨w2.heap.size, 1, none⟩) := hR.1
            have c1 : w'.cell? ⟨w2.heap.size, 1, none⟩ = some (.slice (some ⟨bR, oR, none⟩) S.nr V.cr) := by have h1 := cell_in hE.bx (j := 1) rfl; rw [HVR.out] at h1; exact h1
            simp only [Rel.putL, Rel.dst, z1, z2, z3, z4, Act.put, z5, z6, z7, d2] at hK ⊢
            go_simp
            exact hK _ _ rfl OrdT.same (hE.same (by decide) (by decide) _)
          refine RelV.Steps.cons (L := []) rfl (by kernel_rfl) ?_ ?_
          · intro Q w' D hE hF hR K hK
            simp only [Rel.putL, Rel.dst, z1, z2, z3, z4, Act.put, z5, z6, z7] at hK ⊢
            go_simp
            exact hK _ _ rfl OrdT.same (hE.same (by decide) (by decide) _)
          refine RelV.Steps.cons (L := [3, 4]) rfl (by kernel_rfl) ?_ ?_
          · intro Q w' D hE hF hR K hK
            have d3 : Q 3 = .slice (some ⟨bR, oR, none⟩) S.nr V.cr := hR.1
            have d4 : Q 4 = .int .i64 (j : Int) := hR.2.1
            simp only [Rel.putL, Rel.dst, z1, z2, z3, z4, Act.put, z5, z6, z7, d3, d4] at hK ⊢
            go_simp
            exact hK _ _ rfl OrdT.same (hE.same (by decide) (by decide) _)
          refine RelV.Steps.cons (L := [5]) rfl (by kernel_rfl) ?_ ?_
          · intro Q w' D hE hF hR K hK
            have d5 : Q 5 = .pointer (some ⟨bR, oR + j * 2, none⟩) := hR.1
            have c1 := (HN.out.2.2 w' hE.kp).1
            have c2 := (HN.out.2.2 w' hE.kp).2
            simp only [Rel.putL, Rel.dst, z1, z2, z3, z4, Act.put, z5, z6, z7, d5] at hK ⊢
            go_simp
            exact hK _ _ rfl OrdT.same (hE.same (by decide) (by decide) _)
          refine RelV.Steps.cons (L := [6]) rfl (by kernel_rfl) ?_ ?_
          · intro Q w' D hE hF hR K hK
            have d6 : Q 6 = .agg #[.string nm, .slice A1 l1 k1] := hR.1
            have n8 : 8 ∉ D := hF.not (by kernel_rfl)
            have n10 : 10 ∉ D := hF.not (by kernel_rfl)
            simp only [Rel.putL, Rel.dst, z1, z2, z3, z4, Act.put, z5, z6, z7, d6] at hK ⊢
            go_simp
            exact hK _ _ (hE.newsAt n8 n10 _ _) ⟨by simp, fun k hk _ _ => Below.heap_alloc _ _ _ (by omega)⟩ (hE.news n8 n10 _ _)
          refine RelV.Steps.cons (L := [1, 7]) rfl (by kernel_rfl) ?_ ?_
          · intro Q w' D hE hF hR K hK
            have d1 : Q 1 = sv := hR.1
            obtain ⟨g7, d7, hg7, _, _⟩ := hR.2.1
            have n8 : 8 ∉ D := hF.1
            have n10 : 10 ∉ D := hF.not (by kernel_rfl)
            have hr := hE.pre n8 n10
            simp only [Rel.putL, Rel.dst, z1, z2, z3, z4, Act.put, z5, z6, z7, d1, d7] at hK ⊢
            refine wp_append_lies _ (.tmp 36) (.tmp 42) 25 (by rfl) P 33 er (.agg #[.string ⟨#[]⟩, .slice none 0 0]) 2 40 Try.underlying25 HIR.out.1 HIR.out.2.1 HIR.out.2.2.1 HIR.out.2.2.2 rfl (by omega) sv dn.length (relO S V dn) (by rfl) hr.own ⟨g7, 0, none⟩ 1 1 [.string nm, .slice A1 l1 k1] (by rfl) (by rfl) (World.news_of_block (cs := #[.string nm, .slice A1 l1 k1]) (t := 33) (fr := (0, 0)) hg7) (by simp [Value.oneCell']) (by omega) (by unfold maxLen; omega) (by omega) hr.sz w'.heap.size rfl ?_
            intro gR cR wn O G _ _
            rw [HN.out.1, HN.out.2.1] at O
            obtain ⟨hT, hE2⟩ := hE.app n8 n10 O G
            exact hK _ _ (by intro e; cases e) hT hE2
          refine RelV.Steps.cons (L := []) rfl (by kernel_rfl) ?_ ?_
          · intro Q w' D hE hF hR K hK
            simp only [Rel.putL, Rel.dst, z1, z2, z3, z4, Act.put, z5, z6, z7] at hK ⊢
            go_simp
            exact hK _ _ rfl OrdT.same (hE.same (by decide) (by decide) _)
          refine RelV.Steps.cons (L := [9, 8]) rfl (by kernel_rfl) ?_ ?_
          · intro Q w' D hE hF hR K hK
            have d9 : Q 9 = .pointer (some ⟨w2.heap.size + 1, 1, none⟩) := hR.1
            have d8 : Q 8 ≠ undef := hR.2.1
            have n10 : 10 ∉ D := hF.1
            obtain ⟨⟨gR, cR, e8⟩, hT, hE2⟩ := hE.put n10 d8
            have c2 : w'.cell? ⟨w2.heap.size + 1, 1, none⟩ = some sv := cell_in (hE.box n10) rfl
            have f2 : w'.frozen? ⟨w2.heap.size + 1, 1, none⟩ = false := by simp [World.frozen?, hE.box n10]
            rw [e8] at hT hE2
            simp only [Rel.putL, Rel.dst, z1, z2, z3, z4, Act.put, z5, z6, z7, d9, e8] at hK ⊢
            go_simp
            exact hK undef (w'.setCell ⟨w2.heap.size + 1, 1, none⟩ (.slice (some ⟨gR, 0, none⟩) (dn.length + 1) cR)) trivial hT (hE2 _)
          exact RelV.Steps.done
        · intro Q Wx D hD hE hR
          obtain ⟨sv', hL⟩ := hE.fin ((hD 10).2 (by omega))
          rw [← HT.out] at hL
          have HL2 := Lib.hid hL
          simp only [Rel.putL, Rel.dst, z1, z2, z3, z4, Act.put, z5, z6, z7]
          clear hR hE hD hL HR cl0
          go_wp2_with fail
          go_roundg (S.nr - (i + 1))
          case measure => omega
          case rel => exact ⟨i + 1, sv', by omega, by go_num, HL2⟩
      · have ein : i = S.nr := by omega
        subst ein
        have hsx := HO.out.2.2 wr HR.out.kp
        have htl : l.take S.nr = l := by rw [← HL.out, List.take_length]
        have hOL := HR.out
        rw [htl] at hOL
        have hll := HL.out
        have O := hOL.own
        rw [hll] at O
        obtain ⟨gR, cR, rfl, _, hgR⟩ := O.form (by omega)
        have hcR := slim_capsO O
        have hsy := put_in hsx HO.out.2.1 O hcR hgR
        have HT := Lib.hid (And.intro (show TwoS w wr w2.heap.size S V l (some ⟨gR, 0, none⟩) cR from ⟨hOL.low, hsx, hsy, hOL.bx, hOL.box⟩) hOL.kp)
        have HK := Lib.hid HO.out.2.2
        have HVO := Lib.hid (And.intro HV.out HO.out.2.1)
        clear hsx htl hOL hll O hcR hsy hgR HR HO HL HV H2
        go_upto_region 12 with fail
        obtain ⟨a0, a1, a2, a3, b0, b1, b2, b3⟩ := HT.out.1.eight
        go_wp2_with fail
        refine (Reduce_any HT.out.1.sx).mono ?_
        rintro e w5 ⟨v, u, rfl, ⟨A5, c5, rfl, _, _⟩, ⟨A6, c6, rfl, hl6, _⟩, hb⟩
        have HT5 := Lib.hid (And.intro (HT.out.1.next hb) (HT.out.2.trans (Keeps.below hb _)))
        clear hb a0 a1 a2 a3 b0 b1 b2 b3 HT
        obtain ⟨a0, a1, a2, a3, b0, b1, b2, b3⟩ := HT5.out.1.eight
        go_wp2_with fail
        refine (red_put HT5.out.1.sy).mono ?_
        rintro e w6 ⟨v, u, rfl, ⟨A7, c7, rfl, _, _⟩, ⟨A8, c8, rfl, hl8, _⟩, hb⟩
        have HT6 := Lib.hid (And.intro (HT5.out.1.next hb) (HT5.out.2.trans (Keeps.below hb _)))
        have hsame : (redO (S.put l)).2.length = (redO S).2.length := by
          unfold redO
          rw [if_pos (HVO.out.1.1.put HVO.out.2).check, if_pos HVO.out.1.1.check, castL_len, castL_len]
          exact ((red_left (S.put l)).put HVO.out.2 fun j _ => rfl).eq (red_left S) List.nodup_range
        obtain ⟨k, hk⟩ : ∃ k, k = (redO S).2.length := ⟨_, rfl⟩
        rw [hsame] at hl8 ⊢
        rw [← hk] at hl6 hl8 ⊢
        clear hb a0 a1 a2 a3 b0 b1 b2 b3 HT5 hsame hk
        obtain ⟨a0, a1, a2, a3, b0, b1, b2, b3⟩ := HT6.out.1.eight
        clear b0 b1 b2 b3
        go_upto_region 16 with fail
        obtain ⟨hbz, hbc, hlow, hsz7⟩ := ord_two w6 (.cells #[.slice V.A S.na V.ca, .slice V.R S.nr V.cr, .slice V.F S.nf V.cf, .int .i64 S.label] 28) (.cells #[.string ⟨#[97, 108, 108]⟩, .slice none 0 0] 33)
        generalize (w6.alloc (.cells #[.slice V.A S.na V.ca, .slice V.R S.nr V.cr, .slice V.F S.nf V.cf, .int .i64 S.label] 28)).alloc (.cells #[.string ⟨#[97, 108, 108]⟩, .slice none 0 0] 33) = W7 at *
        have hbx := (hlow.block _ (lt_of_block HT6.out.1.bx)).trans HT6.out.1.bx
        have hxz : w2.heap.size < w6.heap.size := lt_of_block HT6.out.1.bx
        have H7 := Lib.hid (And.intro (HT6.out.1.low.trans (hlow.mono HT6.out.1.low.size)) (And.intro (HT6.out.2.trans (Keeps.below hlow _)) (And.intro hbx (And.intro hbz hbc))))
        have hna6 := HVO.out.1.1.na2
        have hwZ : w.heap.size ≤ w6.heap.size := HT6.out.1.low.size
        clear hbx hbz hbc hlow a0 a1 a2 a3 HT6
        obtain ⟨Z, hZ⟩ : ∃ Z, Z = w6.heap.size := ⟨_, rfl⟩
        rw [← hZ] at hsz7 hxz H7 hwZ ⊢
        clear hZ
        have a0 : W7.cell? ⟨w2.heap.size, 0, none⟩ = some (.slice V.A S.na V.ca) := cell_in H7.out.2.2.1 rfl
        go_wp2_with fail
        clear a0
        go_loopg [61] S.na (fun gg s61 wx => ∃ (i : Nat) (v : Value), i + gg = S.na ∧ s61 = .int .i64 (i : Int) ∧ Hid (Below (Z + 1) W7 wx ∧ wx.heap[Z + 1]? = some (.cells #[.string ⟨#[97, 108, 108]⟩, v] 33 (0, 0)) ∧ wx.ownsRow (Z + 1 + 1) 3 1 v i (natV (List.range i))))
        case atStart => exact ⟨0, _, by omega, rfl, Lib.hid ⟨Below.refl _ _, H7.out.2.2.2.2, World.ownsRow_nil _ _ _ _⟩⟩
        case round =>
          obtain ⟨i, v, hi, rfl, HR⟩ := hrel
          obtain ⟨vA, vc, hv⟩ := own_slice HR.out.2.2
          subst hv
          have hszr : Z + 1 < wr.heap.size := lt_of_block HR.out.2.1
          by_cases hlt : i < S.na
          · have b1 : wr.cell? ⟨Z + 1, 1, none⟩ = some (.slice vA i vc) := cell_in HR.out.2.1 rfl
            have hrow : ∀ r, (Value.slice vA i vc).ownBlock = some r → Z + 1 + 1 ≤ r := fun r hr => (HR.out.2.2.lt r hr).1
            have HRW := Lib.hid hrow
            clear hrow
            go_wp2_with (at_builtin; refine wpList_append_lies _ rfl (.tmp 65) (.tmp 67) 22 rfl (Z + 1 + 1) 3 ei (.int .i64 0) 1 8 Try.underlying22 HI.out.1 HI.out.2.1 HI.out.2.2.1 HI.out.2.2.2 rfl (by decide) (.slice vA i vc) i (natV (List.range i)) rfl (HR.out.2.2.alloc _) ⟨wr.heap.size, 0, none⟩ 1 1 [.int .i64 (i : Int)] rfl rfl (by intro j u hj; match j, hj with | 0, hj => simp at hj; subst hj; simp [Addr.add]) (by intro u hu; simp at hu; subst hu; rfl) (by omega) (by unfold maxLen; omega) (by omega) (by first | omega | (simp <;> omega)) (wr.heap.size + 1) (by simp) ?_; intro gA cA wm hown hgrow hblk hgl; have hbx := (Keeps.grown hgrow).block (block_alloc (.cells #[.int .i64 (i : Int)] 3) HR.out.2.1) (fun e => by have := HRW.out _ e; omega); have e0 : wm.cell? ⟨Z + 1, 1, none⟩ = some (.slice vA i vc) := cell_in hbx rfl; have f0 : wm.frozen? ⟨Z + 1, 1, none⟩ = false := (by simp [World.frozen?, hbx]); have HQ := Lib.hid (And.intro hown (And.intro hgrow hbx)); clear hown hgrow hblk hgl hbx)
            have hB : Below (Z + 1) W7 (wm.setCell ⟨Z + 1, 1, none⟩ (.slice (some ⟨gA, 0, none⟩) (i + 1) cA)) := ((HR.out.1.alloc (by omega) (.cells #[.int .i64 (i : Int)] 3)).grown HQ.out.2.1 (by simp; omega) (fun r hr => by have := HRW.out r hr; omega)).setCell (p := ⟨Z + 1, 1, none⟩) (Nat.le_refl _) _
            have hbk := Lib.heap_setCell_same HQ.out.2.2 (i := 1) (.slice (some ⟨gA, 0, none⟩) (i + 1) cA)
            have ho := ownsRow_setCell_below HQ.out.1 (a := ⟨Z + 1, 1, none⟩) (by show Z + 1 < Z + 1 + 1; omega) (.slice (some ⟨gA, 0, none⟩) (i + 1) cA)
            have HN := Lib.hid (And.intro hB (And.intro hbk ho))
            clear hB hbk ho b1 e0 f0 HQ
            go_roundg (S.na - (i + 1))
            case measure => omega
            case rel => exact ⟨i + 1, _, by omega, by go_num, Lib.hid ⟨HN.out.1, HN.out.2.1, by rw [List.range_succ, natV_snoc]; exact HN.out.2.2⟩⟩
          · have ein : i = S.na := by omega
            subst ein
            have hkpr : Keeps w2 wr (some g) := ⟨Nat.le_trans H7.out.2.1.1 HR.out.1.size, fun k hk hne => (HR.out.1.block k (by omega)).trans (H7.out.2.1.2 k hk hne)⟩
            have HR2 := Lib.hid (And.intro (H7.out.1.trans (HR.out.1.mono (by omega))) (And.intro hkpr (And.intro ((HR.out.1.block _ (by omega)).trans H7.out.2.2.1) (And.intro ((HR.out.1.block _ (by omega)).trans H7.out.2.2.2.1) HR.out.2))))
            have hx2 := own_ints (l := List.range S.na) (by rw [List.length_range]; exact HR.out.2.2)
            rw [List.length_range] at hx2
            have HXI := Lib.hid hx2
            clear hlt hi hkpr hx2 HR H7
            generalize hPB : wr.heap.size = PB at *
            have hZP : Z + 1 < PB := hszr
            go_upto_region 21 with fail
            refine RelV.region_rest 5 [0, 1, 2, 3, 4] _ rfl rfl (R := [fun v _ => v = .pointer (some ⟨w2.heap.size, 1, none⟩), fun v _ => v = .slice (some ⟨bR, oR, none⟩) S.nr V.cr, fun v w => ∃ g' c', v = .slice (some ⟨g', 0, none⟩) S.nr c' ∧ w.ownsRow PB 33 2 v S.nr (relO S V (List.range S.nr)), fun v _ => v = .agg #[.string ⟨#[97, 108, 108]⟩, .slice vA S.na vc], fun v w => ∃ b', v = .slice (some ⟨b', 0, none⟩) 1 1 ∧ w.heap[b']? = some (.cells #[.string ⟨#[97, 108, 108]⟩, .slice vA S.na vc] 33 (0, 0))])
              (E := fun _ _ w' => Below PB wr w') (T := fun w w' => Below w.heap.size w w') (by kernel_rfl) (by kernel_rfl) (by kernel_rfl) (fun _ => by rw [← hPB]; exact below_drew _) ?_ ?_ ?_
            · intro D vals i v w1 w2' hi hE hT hv
              match i, hi with
              | 2, _ =>
                obtain ⟨g', c', e, ho⟩ := hv
                exact ⟨g', c', e, own_below' ho hT⟩
              | 4, _ =>
                obtain ⟨b', e, hb'⟩ := hv
                exact ⟨b', e, (hT.block _ (lt_of_block hb')).trans hb'⟩
              | 0, _ | 1, _ | 3, _ => exact hv
              | i + 5, hi => exact absurd hi (by omega)
            · skip
              refine RelV.Steps.cons (L := []) rfl (by kernel_rfl) ?_ ?_
              · intro vals w' D hE hF hR K hK
                simp only [Rel.putL, Rel.dst, z1, z2, z3, z4, Act.put, z5, z6, z7] at hK ⊢
                go_simp
                exact hK _ _ rfl (Below.refl _ _) hE
              refine RelV.Steps.cons (L := [0]) rfl (by kernel_rfl) ?_ ?_
              · intro vals w' D hE hF hR K hK
                have d0 : vals 0 = .pointer (some ⟨w2.heap.size, 1, none⟩) := hR.1
                have c1 : w'.cell? ⟨w2.heap.size, 1, none⟩ = some (.slice (some ⟨bR, oR, none⟩) S.nr V.cr) := by
                  have h1 := cell_in (((show Below PB wr w' from hE).block _ (by omega)).trans HR2.out.2.2.1) (j := 1) rfl
                  rw [HVR.out] at h1
                  exact h1
                simp only [Rel.putL, Rel.dst, z1, z2, z3, z4, Act.put, z5, z6, z7, d0] at hK ⊢
                go_simp
                exact hK _ _ rfl (Below.refl _ _) hE
              refine RelV.Steps.cons (L := [1]) rfl (by kernel_rfl) ?_ ?_
              · intro vals w' D hE hF hR K hK
                have d1 : vals 1 = .slice (some ⟨bR, oR, none⟩) S.nr V.cr := hR.1
                have hE' : Below PB wr w' := hE
                have hsz : PB ≤ w'.heap.size := by have := hE'.size; omega
                have hS' : SchIn w' S V := HK.out _ (HR2.out.2.1.trans ⟨hE'.size, fun k hk _ => hE'.block k (by omega)⟩)
                simp only [Rel.putL, Rel.dst, z1, z2, z3, z4, Act.put, z5, z6, z7, d1] at hK ⊢
                refine wp_append_lies _ (.const (Value.slice none 0 0)) (.tmp 72) 25 (by rfl) PB 33 er (.agg #[.string ⟨#[]⟩, .slice none 0 0]) 2 40 Try.underlying25 HIR.out.1 HIR.out.2.1 HIR.out.2.2.1 HIR.out.2.2.2 rfl (by omega) (.slice none 0 0) 0 [] (by rfl) (World.ownsRow_nil _ _ _ _) ⟨bR, oR, none⟩ S.nr V.cr (relO S V (List.range S.nr)) (by rfl) (by rw [relO_len, List.length_range]) (rel_news hS' HVR.out) (relO_one S V _) (by omega) (by unfold maxLen; omega) (by omega) hsz w'.heap.size rfl ?_
                intro gR' cR' wn O G _ _
                rw [List.nil_append] at O
                have hT : Below w'.heap.size w' wn := (Below.refl _ _).grown G (Nat.le_refl _) (fun r e => by simp [Value.ownBlock] at e)
                exact hK _ _ ⟨gR', cR', by rw [Nat.zero_add], by rw [Nat.zero_add] at O ⊢; exact O⟩ hT (hE'.trans (hT.mono hsz))
              refine RelV.Steps.cons (L := []) rfl (by kernel_rfl) ?_ ?_
              · intro vals w' D hE hF hR K hK
                have hE' : Below PB wr w' := hE
                have hbc := (hE'.block _ hZP).trans HR2.out.2.2.2.2.1
                have c0 : w'.cell? ⟨Z + 1, 0, none⟩ = some (.string ⟨#[97, 108, 108]⟩) := cell_in hbc rfl
                have c1 : w'.cell? ⟨Z + 1, 1, none⟩ = some (.slice vA S.na vc) := cell_in hbc rfl
                clear hbc
                simp only [Rel.putL, Rel.dst, z1, z2, z3, z4, Act.put, z5, z6, z7] at hK ⊢
                go_simp
                exact hK _ _ rfl (Below.refl _ _) hE
              refine RelV.Steps.cons (L := [3]) rfl (by kernel_rfl) ?_ ?_
              · intro vals w' D hE hF hR K hK
                have d3 : vals 3 = .agg #[.string ⟨#[97, 108, 108]⟩, .slice vA S.na vc] := hR.1
                have hE' : Below PB wr w' := hE
                have hsz : PB ≤ w'.heap.size := by have := hE'.size; omega
                simp only [Rel.putL, Rel.dst, z1, z2, z3, z4, Act.put, z5, z6, z7, d3] at hK ⊢
                go_simp
                exact hK _ _ ⟨w'.heap.size, rfl, heap_alloc_new w' _⟩ ((Below.refl _ _).alloc (Nat.le_refl _) _) (hE'.alloc hsz _)
              exact RelV.Steps.done
            · intro vals Wx D hD hE hR
              have hE' : Below PB wr Wx := hE
              obtain ⟨r0, r1, ⟨g', c', r2, ho⟩, r3, ⟨b', r4, hb'⟩, _⟩ := hR
              have d0 : vals 0 = .pointer (some ⟨w2.heap.size, 1, none⟩) := r0
              have d1 : vals 1 = .slice (some ⟨bR, oR, none⟩) S.nr V.cr := r1
              have d3 : vals 3 = .agg #[.string ⟨#[97, 108, 108]⟩, .slice vA S.na vc] := r3
              rw [r2] at ho
              have hsz : PB ≤ Wx.heap.size := by have := hE'.size; omega
              have hgP := (ho.lt g' rfl).1
              have hbz := (hE'.block _ (by omega)).trans HR2.out.2.2.2.1
              have HZ := Lib.hid (And.intro ho (And.intro hb' (And.intro hE' hbz)))
              simp only [Rel.putL, Rel.dst, z1, z2, z3, z4, Act.put, z5, z6, z7, d0, d1, r2, d3, r4]
              clear hE hD hE' ho hb' hbz r0 r1 r2 r3 r4 d0 d1 d3
              refine wpList_append_lies _ rfl (.tmp 73) (.tmp 75) 25 rfl PB 33 er (.agg #[.string ⟨#[]⟩, .slice none 0 0]) 2 40 Try.underlying25 HIR.out.1 HIR.out.2.1 HIR.out.2.2.1 HIR.out.2.2.2 rfl (by decide) (.slice (some ⟨g', 0, none⟩) S.nr c') S.nr (relO S V (List.range S.nr)) rfl HZ.out.1 ⟨b', 0, none⟩ 1 1 [.string ⟨#[97, 108, 108]⟩, .slice vA S.na vc] rfl rfl (World.news_of_block (cs := #[.string ⟨#[97, 108, 108]⟩, .slice vA S.na vc]) (t := 33) (fr := (0, 0)) HZ.out.2.1) (by simp [Value.oneCell']) (by omega) (by unfold maxLen; omega) (by omega) hsz Wx.heap.size rfl ?_
              intro gA cA wm hown hgrow hblk hgl
              have hbx := (Keeps.grown hgrow).block HZ.out.2.2.2 (fun e => by have e5 : g' = Z := by simpa [Value.ownBlock] using e
                                                                              omega)
              have e0 : wm.cell? ⟨Z, 1, none⟩ = some (.slice V.R S.nr V.cr) := cell_in hbx rfl
              have f0 : wm.frozen? ⟨Z, 1, none⟩ = false := by simp [World.frozen?, hbx]
              have hcap := slim_capsO hown
              have hgr : ∀ r, (Value.slice (some ⟨g', 0, none⟩) S.nr c').ownBlock = some r → PB ≤ r := fun r e => by
                have e5 : g' = r := by simpa [Value.ownBlock] using e
                omega
              have hBm : Below PB wr wm := HZ.out.2.2.1.trans ((Below.refl _ _).grown hgrow hsz hgr)
              have hks := Keeps.set wm Z 1 (.slice (some ⟨gA, 0, none⟩) (S.nr + 1) cA)
              have hK2 : Keeps w2 (wm.setCell ⟨Z, 1, none⟩ (.slice (some ⟨gA, 0, none⟩) (S.nr + 1) cA)) (some g) := by
                refine ⟨by have := HR2.out.2.1.1; have := hBm.size; simp [World.setCell]; omega, fun q hq hne => ?_⟩
                exact (hks.2 q (by have := hBm.size; have := HR2.out.2.1.1; omega) (fun e => by injection e; omega)).trans ((hBm.block q (by omega)).trans (HR2.out.2.1.2 q hq hne))
              have hSm := HK.out _ hK2
              have hLow : Below w.heap.size w (wm.setCell ⟨Z, 1, none⟩ (.slice (some ⟨gA, 0, none⟩) (S.nr + 1) cA)) := (HR2.out.1.trans (hBm.mono (by omega))).setCell (p := ⟨Z, 1, none⟩) hwZ _
              have hzz := Lib.heap_setCell_same hbx (i := 1) (.slice (some ⟨gA, 0, none⟩) (S.nr + 1) cA)
              have hoz := ownsRow_setCell_below hown (a := ⟨Z, 1, none⟩) (by show Z < PB; omega) (.slice (some ⟨gA, 0, none⟩) (S.nr + 1) cA)
              have hvo := ownsRow_setCell_below (own_below' HR2.out.2.2.2.2.2 (hPB ▸ hBm)) (a := ⟨Z, 1, none⟩) (by show Z < Z + 1 + 1; omega) (.slice (some ⟨gA, 0, none⟩) (S.nr + 1) cA)
              have hxo := own_ints (l := List.range S.na) (by rw [List.length_range]; exact hvo)
              rw [List.length_range] at hxo
              have hzi := more_in (nm := ⟨#[97, 108, 108]⟩) hSm hoz (by omega) hxo (by decide) (by omega)
              have hac := acyc_more hzi
              rw [more_all HVO.out.1.1 HVO.out.1.2.1 HVO.out.1.2.2] at hac
              have z0 := cell_in hzz (j := 0) rfl
              have z1' := cell_in hzz (j := 1) rfl
              have z2' := cell_in hzz (j := 2) rfl
              have z3' := cell_in hzz (j := 3) rfl
              have HL := Lib.hid hLow
              clear hown hgrow hblk hgl hbx hcap hgr hBm hks hK2 hSm hLow hzz hoz hvo hxo hzi
              go_upto_region 22 with fail
              generalize wm.setCell ⟨Z, 1, none⟩ (.slice (some ⟨gA, 0, none⟩) (S.nr + 1) cA) = wf at *
              go_wp2_with fail
              refine hac.mono ?_
              rintro e wg ⟨rfl, hb⟩
              have HM := Lib.hid (Below.step HL.out hb)
              clear hb hac z0 z1' z2' z3'
              go_wp2_with fail
              refine sane07.mono ?_
              rintro e wa ⟨rfl, hb⟩
              have HA := Lib.hid (Below.step HM.out hb)
              clear hb
              go_wp2
              go_ret
              exact ⟨rfl, HA.out⟩
end Go.Proofs.Ytiakgcaflnpmeaa
