/- The law SchemaUses. -/
import Derived.Test.YtigplffpnbdkeaaGreatDoorSchV
namespace Go.Proofs.YtigplffpnbdkeaaGreatDoor
open Go Go.RowKit

theorem mem_sel {n j : Nat} {p : Nat → Bool} : j ∈ selL n p ↔ j < n ∧ p j = true := by
  unfold selL
  rw [List.mem_filter, List.mem_range]
theorem mem_uses {S : Sc} {a : Int} {i : Nat} : i ∈ usesL S a ↔ i < S.nr ∧ hasB S i a = true := mem_sel
theorem uses_some {S : Sc} (h : Valid S) {a : Nat} (ha : a < S.na) : 1 ≤ (usesL S (a : Int)).length := by
  obtain ⟨i, j, hi, hj, e⟩ := h.ru a ha
  have hm : i ∈ usesL S (a : Int) := mem_uses.2 ⟨hi, hasB_true.2 ⟨j, hj, e⟩⟩
  exact List.length_pos_iff.2 fun e => by rw [e] at hm; exact absurd hm (by simp)
theorem joined_mem {S : Sc} {a : Nat} (ha : a < S.na) : decide (a ∈ joinedL S) = decide (1 < (usesL S (a : Int)).length) := by
  have : a ∈ joinedL S ↔ 1 < (usesL S (a : Int)).length := (mem_sel (n := S.na) (p := fun a => decide (1 < (usesL S (a : Int)).length))).trans ⟨fun h => of_decide_eq_true h.2, fun h => ⟨ha, decide_eq_true h⟩⟩
  exact decide_eq_decide.2 this
theorem find_same {S : Sc} (h : Valid S) {a : Nat} (ha : a < S.na) : findI S (S.name a) = (a : Int) :=
  idxB_hit (sameB_true.2 rfl) (fun j hj => sameB_false.2 (h.ad a j ha hj)) ha
theorem linked_any_of {S : Sc} {a b : Int} : ((usesL S b).any fun r => decide (r ∈ usesL S a)) = linkedB S a b := by
  rw [Bool.eq_iff_iff, List.any_eq_true]
  unfold linkedB
  rw [anyB_true]
  refine ⟨fun ⟨r, h1, h2⟩ => ?_, fun ⟨r, h1, h2⟩ => ?_⟩
  · have h3 := mem_uses.1 h1
    have h4 := mem_uses.1 (of_decide_eq_true h2)
    exact ⟨r, h3.1, by rw [h4.2, h3.2]; rfl⟩
  · rw [Bool.and_eq_true] at h2
    exact ⟨r, mem_uses.2 ⟨h1, h2.2⟩, decide_eq_true (mem_uses.2 ⟨h1, h2.1⟩)⟩
theorem linked_symm {S : Sc} {a b : Int} : linkedB S a b = linkedB S b a := by
  unfold linkedB
  congr 1
  funext j
  rw [Bool.and_comm]
theorem uses_len {S : Sc} (h : Valid S) (a : Int) : (usesL S a).length ≤ 6 := Nat.le_trans (selL_len _ _) h.nr2
theorem in_low {w : World} {v : Value} {l : List Nat} {a : Nat} (hv : ListAt w v l) :
    Calls Tryz.prog 32 #[v, .int .i64 (a : Int)] w fun e w' => e = .returned (.bool (decide (a ∈ l))) ∧ Below w.heap.size w w' :=
  (in_any hv).mono fun _ _ ⟨h1, h2⟩ => ⟨h1, h2 ▸ Below.refl _ _⟩
/-- Where the law stands: the schema lies in memory and in its box B. -/
structure Sit (w wx : World) (B : Nat) (S : Sc) (V : Sv) : Prop where
  low : Below w.heap.size w wx
  sch : SchIn wx S V
  box : Box4 wx B S V
theorem Sit.next {w wx wy : World} {B : Nat} {S : Sc} {V : Sv} (h : Sit w wx B S V) (hb : Below wx.heap.size wx wy) : Sit w wy B S V :=
  ⟨h.low.trans (hb.mono h.low.size), h.sch.below hb, h.box.below hb⟩
theorem Sit.drew {w wx : World} {B : Nat} {S : Sc} {V : Sv} (h : Sit w wx B S V) : Sit w wx.drew B S V := h.next (Below.refl _ _).drew
theorem Sit.nm {w wx : World} {B b off ca0 cr0 cf0 a : Nat} {R0 F0 : Option Addr} {L0 : Nat → Option Addr × Nat × Nat} {S : Sc} (h : Sit w wx B S ⟨some ⟨b, off, none⟩, ca0, R0, cr0, F0, cf0, L0⟩) (ha : a < S.na) :
    wx.cell? ⟨b, off + a * 2, none⟩ = some (.string (S.name a)) := by
  obtain ⟨b', off', e, _, hc⟩ := h.sch.attr (by show 0 < S.na; omega)
  injection e with e
  injection e with e1 e2
  subst e1 e2
  exact (hc a ha).1
/-- .. with the two lists at hand. -/
structure US (w wx : World) (B : Nat) (S : Sc) (V : Sv) (jv uv : Value) (L : List Nat) : Prop where
  sit : Sit w wx B S V
  jl : ListAt wx jv (joinedL S)
  ul : ListAt wx uv L
theorem US.next {w wx wy : World} {B : Nat} {S : Sc} {V : Sv} {jv uv : Value} {L : List Nat} (h : US w wx B S V jv uv L) (hb : Below wx.heap.size wx wy) : US w wy B S V jv uv L :=
  ⟨h.sit.next hb, h.jl.below hb, h.ul.below hb⟩
theorem US.drew {w wx : World} {B : Nat} {S : Sc} {V : Sv} {jv uv : Value} {L : List Nat} (h : US w wx B S V jv uv L) : US w wx.drew B S V jv uv L := h.next (Below.refl _ _).drew
theorem take_any {l : List Nat} {k : Nat} (hk : k < l.length) (p : Nat → Bool) : (l.take (k + 1)).any p = ((l.take k).any p || p (l.getD k 0)) := by
  rw [List.take_succ_eq_append_getElem hk, List.any_append]
  simp [List.getD, hk]
set_option maxHeartbeats 6400000 in
set_option maxRecDepth 100000 in
theorem law_suses {w : World} {A : Option Addr} {n c : Nat} (hm : Lx w) (h : Nums w A n) (hc : n ≤ c) (hcm : c ≤ maxLen) :
    Calls Tryz.prog 6 #[.slice A n c] w fun e w' => e = .returned (.bool true) ∧ Below w.heap.size w w' := by
  have H := Lib.hid (And.intro hm h)
  clear hm h
  by_cases g0 : 300 < n
  · have g0i : (300 : Int) < (n : Int) := by omega
    go_enter Tryz.func6, Tryz.ntmps6
    go_wp2_with fail
    refine (sane05 H.out.1).mono ?_
    rintro e w1 ⟨rfl, hb⟩
    go_wp2
    go_ret
    exact ⟨rfl, hb⟩
  · have g0i : ¬ (300 : Int) < (n : Int) := by omega
    go_enter Tryz.func6, Tryz.ntmps6
    go_wp2_with fail
    refine (new_any H.out.2 hc hcm).mono ?_
    rintro e w1 ⟨g, rfl, hgl, hs, hb⟩
    have H1 := Lib.hid (And.intro hb (And.intro hgl hs))
    clear hb hgl hs
    go_wp2_with fail
    refine (schema_src H1.out.2.2).mono ?_
    rintro e w2 ⟨v, rfl, S, ⟨A0, ca0, R0, cr0, F0, cf0, L0⟩, rfl, hin, hval, hna, hs2, hk⟩
    have hv0 := hval.check
    have hna1 := hval.na1
    obtain ⟨b, off, eA, _, _⟩ := hin.attr (by omega)
    replace eA : A0 = some ⟨b, off, none⟩ := eA
    subst eA
    have HV := Lib.hid (And.intro hval hv0)
    have H2 := Lib.hid (And.intro (H1.out.1.trans (hk.1.mono H1.out.2.1)) hin)
    clear hin hval hs2 hk hv0
    go_upto_region 5 with fail
    have HS := Lib.hid (show Sit w (w2.alloc (.cells #[.slice (some ⟨b, off, none⟩) S.na ca0, .slice R0 S.nr cr0, .slice F0 S.nf cf0, .int .i64 S.label] 54)) w2.heap.size S ⟨some ⟨b, off, none⟩, ca0, R0, cr0, F0, cf0, L0⟩ from ⟨H2.out.1.trans (((Below.refl _ _).alloc (Nat.le_refl _) _).mono H2.out.1.size), H2.out.2.below ((Below.refl _ _).alloc (Nat.le_refl _) _), Box4.new (S := S) (V := ⟨some ⟨b, off, none⟩, ca0, R0, cr0, F0, cf0, L0⟩)⟩)
    obtain ⟨B, hB⟩ : ∃ B, B = w2.heap.size := ⟨_, rfl⟩
    rw [← hB] at HS ⊢
    generalize (w2.alloc (.cells #[.slice (some ⟨b, off, none⟩) S.na ca0, .slice R0 S.nr cr0, .slice F0 S.nf cf0, .int .i64 S.label] 54)) = W at *
    clear H1 H2 hB
    have c0 : W.cell? ⟨B, 0, none⟩ = some (.slice (some ⟨b, off, none⟩) S.na ca0) := HS.out.box.c0
    have c1 : W.cell? ⟨B, 1, none⟩ = some (.slice R0 S.nr cr0) := HS.out.box.c1
    have c2 : W.cell? ⟨B, 2, none⟩ = some (.slice F0 S.nf cf0) := HS.out.box.c2
    have c3 : W.cell? ⟨B, 3, none⟩ = some (.int .i64 S.label) := HS.out.box.c3
    go_wp2_with fail
    refine (joined_any HS.out.sch HV.out.2).mono ?_
    rintro e w3 ⟨jv, rfl, hj, hb⟩
    have HJ := Lib.hid (And.intro (HS.out.next hb) hj)
    clear hb hj c0 c1 c2 c3 HS
    have c0 : w3.cell? ⟨B, 0, none⟩ = some (.slice (some ⟨b, off, none⟩) S.na ca0) := HJ.out.1.box.c0
    go_wp2_with fail
    clear c0
    go_loopg [25] S.na (fun gg s25 wx => ∃ a : Nat, a + gg = S.na ∧ s25 = .int .i64 (a : Int) ∧ Hid (Sit w wx B S ⟨some ⟨b, off, none⟩, ca0, R0, cr0, F0, cf0, L0⟩ ∧ ListAt wx jv (joinedL S)))
    case atStart => exact ⟨0, by omega, rfl, HJ⟩
    case round =>
      clear HJ
      obtain ⟨a, ha, rfl, HR⟩ := hrel
      by_cases hla : a < S.na
      · have c0 : wr.cell? ⟨B, 0, none⟩ = some (.slice (some ⟨b, off, none⟩) S.na ca0) := HR.out.1.box.c0
        have c1 : wr.cell? ⟨B, 1, none⟩ = some (.slice R0 S.nr cr0) := HR.out.1.box.c1
        have c2 : wr.cell? ⟨B, 2, none⟩ = some (.slice F0 S.nf cf0) := HR.out.1.box.c2
        have c3 : wr.cell? ⟨B, 3, none⟩ = some (.int .i64 S.label) := HR.out.1.box.c3
        go_wp2_with fail
        refine (uses_any HR.out.1.sch HV.out.2).mono ?_
        rintro e w4 ⟨u, rfl, hu, hb⟩
        have HU := Lib.hid (show US w w4 B S ⟨some ⟨b, off, none⟩, ca0, R0, cr0, F0, cf0, L0⟩ jv u (usesL S (a : Int)) from ⟨HR.out.1.next hb, HR.out.2.below hb, hu⟩)
        have hus := uses_some HV.out.1 hla
        obtain ⟨L, hL⟩ : ∃ L, L = usesL S (a : Int) := ⟨_, rfl⟩
        obtain ⟨q, hq⟩ : ∃ q, q = decide ((1 : Int) < (L.length : Int)) := ⟨_, rfl⟩
        have hjq : decide (a ∈ joinedL S) = q := by
          rw [joined_mem hla, hq, ← hL]
          exact decide_eq_decide.2 (by omega)
        rw [← hL] at HU hus hu
        have HLL := Lib.hid (And.intro hL hjq)
        obtain ⟨uA, uc, rfl, hul, _⟩ := hu
        have hz : ((L.length : Int) == 0) = false := beq_eq_false_iff_ne.2 (by omega)
        have hqs := hq.symm
        have HQ := Lib.hid hq
        clear hb hL hq hjq c0 c1 c2 c3 HR hus
        obtain ⟨nm, hnm⟩ : ∃ nm, nm = S.name a := ⟨_, rfl⟩
        have HNM := Lib.hid (And.intro hnm hla)
        clear hnm
        go_upto_region 10 with fail
        go_cut [54] (fun s54 wy => s54 = .bool false ∧ Hid (US w wy B S ⟨some ⟨b, off, none⟩, ca0, R0, cr0, F0, cf0, L0⟩ jv (.slice uA L.length uc) L))
        case first =>
          have hD := HU.out.drew
          have hD0 := hD.sit.box.c0
          have hD1 := hD.sit.box.c1
          have hD2 := hD.sit.box.c2
          have hD3 := hD.sit.box.c3
          have hDn : w4.drew.cell? ⟨b, off + a * 2, none⟩ = some (.string nm) := by rw [HNM.out.1]; exact hD.sit.nm HNM.out.2
          go_region_held3 (fun w' => w'.cell? ⟨B, 0, none⟩ = some (.slice (some ⟨b, off, none⟩) S.na ca0) ∧ w'.cell? ⟨B, 1, none⟩ = some (.slice R0 S.nr cr0) ∧ w'.cell? ⟨B, 2, none⟩ = some (.slice F0 S.nf cf0) ∧ w'.cell? ⟨B, 3, none⟩ = some (.int .i64 S.label) ∧ w'.cell? ⟨b, off + a * 2, none⟩ = some (.string nm) ∧ US w w' B S ⟨some ⟨b, off, none⟩, ca0, R0, cr0, F0, cf0, L0⟩ jv (.slice uA L.length uc) L)
            (first | exact ⟨q2.sit.box.c0, q2.sit.box.c1, q2.sit.box.c2, q2.sit.box.c3, q2n, q2⟩ | exact ⟨q1.sit.box.c0, q1.sit.box.c1, q1.sit.box.c2, q1.sit.box.c3, q1n, q1⟩ | exact ⟨hD0, hD1, hD2, hD3, hDn, hD⟩)
            (first
              | (go_at_call 32; go_split_ands; ((with_reducible refine (in_low hD.jl).mono ?_); rw [HLL.out.2]; rintro e w5 ⟨rfl, hb5⟩; have q1 := hD.next hb5; have q1n : w5.cell? ⟨b, off + a * 2, none⟩ = some (.string nm) := (by rw [HNM.out.1]; exact q1.sit.nm HNM.out.2)))
              | (go_at_call 33; go_split_ands; ((with_reducible refine (find_any (V := ⟨some ⟨b, off, none⟩, ca0, R0, cr0, F0, cf0, L0⟩) q1.sit.sch HV.out.2).mono ?_); rw [HNM.out.1, find_same HV.out.1 HNM.out.2]; rintro e w6 ⟨rfl, hb6⟩; have q2 := q1.next hb6; have q2n : w6.cell? ⟨b, off + a * 2, none⟩ = some (.string nm) := (by rw [HNM.out.1]; exact q2.sit.nm HNM.out.2))))
          go_wp2_with fail
          go_meet
          exact ⟨rfl, Lib.hid q2⟩
        clear HU
        obtain ⟨rfl, HU⟩ := hcut
        have c0 : wc.cell? ⟨B, 0, none⟩ = some (.slice (some ⟨b, off, none⟩) S.na ca0) := HU.out.sit.box.c0
        have c1 : wc.cell? ⟨B, 1, none⟩ = some (.slice R0 S.nr cr0) := HU.out.sit.box.c1
        have c2 : wc.cell? ⟨B, 2, none⟩ = some (.slice F0 S.nf cf0) := HU.out.sit.box.c2
        have c3 : wc.cell? ⟨B, 3, none⟩ = some (.int .i64 S.label) := HU.out.sit.box.c3
        go_wp2_with fail
        clear c0 c1 c2 c3
        go_loopg [58] S.na (fun gg s58 wx => ∃ d : Nat, d + gg = S.na ∧ s58 = .int .i64 (d : Int) ∧ Hid (US w wx B S ⟨some ⟨b, off, none⟩, ca0, R0, cr0, F0, cf0, L0⟩ jv (.slice uA L.length uc) L))
        case atStart => exact ⟨0, by omega, rfl, HU⟩
        case round =>
          clear HU
          obtain ⟨d, hd, rfl, HX⟩ := hrel
          by_cases hld : d < S.na
          · have c0 : wr.cell? ⟨B, 0, none⟩ = some (.slice (some ⟨b, off, none⟩) S.na ca0) := HX.out.sit.box.c0
            have c1 : wr.cell? ⟨B, 1, none⟩ = some (.slice R0 S.nr cr0) := HX.out.sit.box.c1
            have c2 : wr.cell? ⟨B, 2, none⟩ = some (.slice F0 S.nf cf0) := HX.out.sit.box.c2
            have c3 : wr.cell? ⟨B, 3, none⟩ = some (.int .i64 S.label) := HX.out.sit.box.c3
            go_wp2_with fail
            refine (uses_any (V := ⟨some ⟨b, off, none⟩, ca0, R0, cr0, F0, cf0, L0⟩) HX.out.sit.sch HV.out.2).mono ?_
            rintro e w7 ⟨u2, rfl, hu2, hb7⟩
            obtain ⟨M, hM⟩ : ∃ M, M = usesL S (d : Int) := ⟨_, rfl⟩
            rw [← hM] at hu2
            have HM := Lib.hid hM
            have HY := Lib.hid (And.intro (HX.out.next hb7) hu2)
            obtain ⟨mA, mc, rfl, hml, _⟩ := hu2
            clear hb7 hM c0 c1 c2 c3 HX
            go_wp2_with fail
            go_loopg [65, 9] M.length (fun gg s65 s9 wx => ∃ k : Nat, k + gg = M.length ∧ s65 = .int .i64 (k : Int) ∧ s9 = .bool ((M.take k).any fun r => decide (r ∈ L)) ∧ Hid (US w wx B S ⟨some ⟨b, off, none⟩, ca0, R0, cr0, F0, cf0, L0⟩ jv (.slice uA L.length uc) L ∧ ListAt wx (.slice mA M.length mc) M))
            case atStart => exact ⟨0, by omega, rfl, by simp, HY⟩
            case round =>
              clear HY
              obtain ⟨k, hk, rfl, rfl, HZ⟩ := hrel
              by_cases hlk : k < M.length
              · obtain ⟨bm, om, hmA, hcm⟩ : ∃ bm om, mA = some ⟨bm, om, none⟩ ∧ wr.cell? ⟨bm, om + k, none⟩ = some (.int .i64 ((M.getD k 0 : Nat) : Int)) := by
                  obtain ⟨A', c', e1, _, e2⟩ := HZ.out.2
                  injection e1 with e3 e4 e5
                  obtain ⟨b', o', e6, _, e7⟩ := e2 (by omega)
                  exact ⟨b', o', by rw [e3, e6], e7 k hlk⟩
                subst hmA
                have HT := Lib.hid (take_any hlk fun r => decide (r ∈ L))
                obtain ⟨y, hy⟩ : ∃ y, y = (M.take k).any fun r => decide (r ∈ L) := ⟨_, rfl⟩
                rw [← hy] at HT ⊢
                clear hy
                cases y with
                | true =>
                  go_wp2_with fail
                  go_roundg (M.length - (k + 1))
                  case measure => omega
                  case rel => exact ⟨k + 1, by omega, by go_num, by rw [HT.out]; rfl, HZ⟩
                | false =>
                  go_wp2_with fail
                  refine (in_low HZ.out.1.ul).mono ?_
                  rintro e w8 ⟨rfl, hb8⟩
                  have HZ2 := Lib.hid (And.intro (HZ.out.1.next hb8) (HZ.out.2.below hb8))
                  clear hb8 HZ
                  go_wp2_with fail
                  go_roundg (M.length - (k + 1))
                  case measure => omega
                  case rel => exact ⟨k + 1, by omega, by go_num, by rw [HT.out]; simp [List.getD, hlk], HZ2⟩
              · have ek : k = M.length := by omega
                have HW := Lib.hid HZ.out.1
                obtain ⟨y, hy⟩ : ∃ y, y = linkedB S (a : Int) (d : Int) := ⟨_, rfl⟩
                have hyk : ((M.take k).any fun r => decide (r ∈ L)) = y := by rw [ek, List.take_length, HM.out, HLL.out.1, hy]; exact linked_any_of
                have HYY := Lib.hid hy
                rw [hyk]
                clear hyk hy ek HZ
                have c0 : wr.cell? ⟨B, 0, none⟩ = some (.slice (some ⟨b, off, none⟩) S.na ca0) := HW.out.sit.box.c0
                have c1 : wr.cell? ⟨B, 1, none⟩ = some (.slice R0 S.nr cr0) := HW.out.sit.box.c1
                have c2 : wr.cell? ⟨B, 2, none⟩ = some (.slice F0 S.nf cf0) := HW.out.sit.box.c2
                have c3 : wr.cell? ⟨B, 3, none⟩ = some (.int .i64 S.label) := HW.out.sit.box.c3
                go_wp2_with fail
                refine (linked_any (V := ⟨some ⟨b, off, none⟩, ca0, R0, cr0, F0, cf0, L0⟩) HW.out.sit.sch HV.out.2).mono ?_
                rw [← HYY.out]
                rintro e w9 ⟨rfl, hb9⟩
                have HW2 := Lib.hid (HW.out.next hb9)
                clear hb9 c0 c1 c2 c3 HW
                have c0 : w9.cell? ⟨B, 0, none⟩ = some (.slice (some ⟨b, off, none⟩) S.na ca0) := HW2.out.sit.box.c0
                have c1 : w9.cell? ⟨B, 1, none⟩ = some (.slice R0 S.nr cr0) := HW2.out.sit.box.c1
                have c2 : w9.cell? ⟨B, 2, none⟩ = some (.slice F0 S.nf cf0) := HW2.out.sit.box.c2
                have c3 : w9.cell? ⟨B, 3, none⟩ = some (.int .i64 S.label) := HW2.out.sit.box.c3
                go_wp2_with fail
                refine (linked_any (V := ⟨some ⟨b, off, none⟩, ca0, R0, cr0, F0, cf0, L0⟩) HW2.out.sit.sch HV.out.2).mono ?_
                rw [linked_symm, ← HYY.out]
                rintro e w10 ⟨rfl, hb10⟩
                have HW3 := Lib.hid (HW2.out.next hb10)
                clear hb10 c0 c1 c2 c3 HW2
                go_wp2_with fail
                go_roundg (S.na - (d + 1))
                case measure => omega
                case rel => exact ⟨d + 1, by omega, by go_num, HW3⟩
          · have HW := Lib.hid (And.intro HX.out.sit HX.out.jl)
            clear HX
            go_wp2_with fail
            go_roundg (S.na - (a + 1))
            case measure => omega
            case rel => exact ⟨a + 1, by omega, by go_num, HW⟩
      · go_wp2_with fail
        refine (sane05 (H.out.1.below HR.out.1.low)).mono ?_
        rintro e w9 ⟨rfl, hb⟩
        have HE := Lib.hid (HR.out.1.low.trans (hb.mono HR.out.1.low.size))
        clear hb HR
        go_wp2
        go_ret
        exact ⟨rfl, HE.out⟩
end Go.Proofs.YtigplffpnbdkeaaGreatDoor
