/- Package acyclic: Reduce, Tree, Acyclic, Ear. -/
import Derived.Test.YtiakgcaflnpmeaaAcC
namespace Go.Proofs.Ytiakgcaflnpmeaa
open Go Go.RowKit

theorem check_nr {S : Sc} (h : checkE S = 0) : 1 ≤ S.nr ∧ S.nr ≤ 6 ∧ 1 ≤ S.na ∧ S.na ≤ 12 := by
  unfold checkE at h
  cases hs : sizesB S with
  | false => rw [hs, if_pos rfl] at h; exact absurd h (by decide)
  | true =>
    unfold sizesB at hs
    simp only [Bool.and_eq_true, decide_eq_true_eq] at hs
    omega
/-- What Reduce gives. -/
def redO (S : Sc) : List Int × List Int := if checkE S = 0 then (castL ((redS S).1.map Prod.fst), castL (redS S).2) else ([], [])
theorem redS_len (S : Sc) : (redS S).1.length + (redS S).2.length = S.nr := by
  have := (Acy.red_red (A := attrs S) S.nr (E := List.range S.nr) List.nodup_range (by simp)).2
  rw [List.length_range] at this
  exact this
theorem take_map_fst {l : List (Nat × Nat)} {i : Nat} (h : i < l.length) : (l.take (i + 1)).map Prod.fst = (l.take i).map Prod.fst ++ [(l.getD i (0, 0)).1] := by
  rw [List.take_add_one, List.map_append, show l[i]? = some (l.getD i (0, 0)) by simp [List.getD, h]]
  rfl
theorem intL_nil (w : World) : IntL w (.slice none 0 0) [] := ⟨none, 0, rfl, by simp, fun h => absurd h (by simp)⟩
set_option linter.unusedSimpArgs false in
set_option maxHeartbeats 6400000 in
set_option maxRecDepth 100000 in
theorem Reduce_any {w : World} {S : Sc} {V : Sv} (h : SchIn w S V) :
    Calls Try.prog 11 #[.agg #[.slice V.A S.na V.ca, .slice V.R S.nr V.cr, .slice V.F S.nf V.cf, .int .i64 S.label]] w fun e w' => ∃ v u, e = .returned (.tuple #[v, u]) ∧ IntL w' v (redO S).1 ∧ IntL w' u (redO S).2 ∧ Below w.heap.size w w' := by
  obtain ⟨ei, hi, hz, hss, hbs⟩ := info_parts infoInt
  have HI := Lib.hid (And.intro hi (And.intro hz (And.intro hss hbs)))
  clear hi hz hss hbs
  have hg : Below w.heap.size w (w.alloc (.cells #[.slice V.A S.na V.ca, .slice V.R S.nr V.cr, .slice V.F S.nf V.cf, .int .i64 S.label] 28)) := (Below.refl _ _).alloc (Nat.le_refl _) _
  have H := Lib.hid (And.intro h (And.intro hg (Box4.new (w := w) (S := S) (V := V))))
  clear h hg
  go_enter Try.func11, Try.ntmps11
  go_wp2_with fail
  refine (check_any (H.out.1.below H.out.2.1)).mono ?_
  rintro e w1 ⟨rfl, hb⟩
  have H1 := Lib.hid (And.intro (Below.step H.out.2.1 hb) (H.out.2.2.below hb))
  clear hb
  by_cases he : checkE S = 0
  · have HE := Lib.hid he
    rw [he]
    clear he
    have q0 := H1.out.2.c0
    have q1 := H1.out.2.c1
    have q2 := H1.out.2.c2
    have q3 := H1.out.2.c3
    go_wp2_with fail
    refine (reduce_any (H.out.1.below H1.out.1)).mono ?_
    rintro e w2 ⟨v, u, rfl, ⟨A2, c2, rfl, hl2, hr2⟩, hu, hb⟩
    have hln := redS_len S
    have hnr := check_nr HE.out
    have H2 := Lib.hid (And.intro (Below.step H1.out.1 hb) (And.intro hr2 hu))
    have hl6 : (redS S).1.length ≤ 6 := by omega
    clear hb hr2 hu q0 q1 q2 q3 hln hnr hl2
    obtain ⟨l, hl⟩ : ∃ l, l = (redS S).1 := ⟨_, rfl⟩
    rw [← hl] at H2 hl6 ⊢
    have HL := Lib.hid hl
    clear hl
    go_wp2_with fail
    go_loopg [2, 17] l.length (fun gg s2 s17 wr => ∃ (v : Value) (i : Nat), i + gg = l.length ∧ s2 = v ∧ s17 = .int .i64 (i : Int) ∧ Hid (Below w2.heap.size w2 wr ∧ wr.ownsRow w2.heap.size 3 1 v i (intV (castL ((l.take i).map Prod.fst)))))
    case atStart => exact ⟨_, 0, by omega, rfl, rfl, Lib.hid ⟨Below.refl _ _, ⟨rfl, .inl ⟨rfl, rfl⟩⟩⟩⟩
    case round =>
      obtain ⟨sv, i, hi, hsv, rfl, HR⟩ := hrel
      have hsv2 := hsv.symm
      clear hsv
      subst hsv2
      by_cases hlt : i < l.length
      · obtain ⟨b, off, rfl, hbl, hc⟩ := H2.out.2.1 (by omega)
        obtain ⟨c0, c1⟩ := hc i hlt
        have d0 := (HR.out.1.cell hbl).trans c0
        have d1 := (HR.out.1.cell hbl).trans c1
        have hblr := Nat.lt_of_lt_of_le hbl HR.out.1.size
        have htm := take_map_fst hlt
        obtain ⟨x, hx⟩ : ∃ x, x = l.getD i (0, 0) := ⟨_, rfl⟩
        rw [← hx] at d0 d1 htm
        have HX := Lib.hid htm
        have hszr := HR.out.1.size
        clear hc c0 c1 hx htm
        obtain ⟨x1, x2⟩ := x
        go_wp2_with (at_builtin; refine wpList_append_own_at _ rfl (.tmp 21) (.tmp 24) 22 rfl w2.heap.size 3 ei (.int .i64 0) 1 8 Try.underlying22 HI.out.1 HI.out.2.1 HI.out.2.2.1 HI.out.2.2.2 rfl (by decide) sv i (intV (castL ((l.take i).map Prod.fst))) rfl ((HR.out.2.alloc _).alloc _) ⟨wr.heap.size + 1, 0, none⟩ 1 1 [.int .i64 (x1 : Int)] rfl rfl (by intro j u hj; match j, hj with | 0, hj => simp at hj; subst hj; simp [Addr.add]) (by intro u hu; simp at hu; subst hu; rfl) (by unfold maxLen; omega) (by omega) (by simp; omega) ?_; intro v' w3 hown hgrow hnil hblk; have HO := Lib.hid (And.intro hown hgrow); clear hown hgrow hnil hblk)
        have hrow : ∀ k, sv.ownBlock = some k → w2.heap.size ≤ k := fun k hk => (HR.out.2.lt k hk).1
        have hB3 : Below w2.heap.size w2 w3 := (((HR.out.1.alloc hszr _).alloc (by simp; omega) _).grown HO.out.2 (by simp; omega) hrow)
        have HF := Lib.hid hB3
        clear hrow hB3
        go_wp2
        go_roundg (l.length - (i + 1))
        case measure => omega
        case rel =>
          refine ⟨_, i + 1, by omega, rfl, by go_num, Lib.hid ⟨HF.out, ?_⟩⟩
          have h3 := HO.out.1
          rw [HX.out]
          rw [show intV (castL ((l.take i).map Prod.fst ++ [x1])) = intV (castL ((l.take i).map Prod.fst)) ++ [.int .i64 (x1 : Int)] by simp [intV, castL]]
          exact h3
      · have ein : i = l.length := by omega
        have HF := Lib.hid (show IntL wr sv (redO S).1 by
          unfold redO
          rw [if_pos HE.out, ← HL.out]
          have := HR.out.2
          rw [ein, List.take_length] at this
          exact intL_own (by rw [castL_len, List.length_map]; exact this) (by rw [castL_len, List.length_map]; omega))
        have HU := Lib.hid (show IntL wr u (redO S).2 by
          unfold redO
          rw [if_pos HE.out]
          exact H2.out.2.2.below HR.out.1)
        rw [ein]
        clear hlt hi ein
        go_wp2
        go_ret2
        exact ⟨_, _, rfl, HF.out, HU.out, Below.step H2.out.1 HR.out.1⟩
  · have heb : (checkE S == 0) = false := beq_eq_false_iff_ne.2 he
    have HE := Lib.hid (show redO S = ([], []) by unfold redO; rw [if_neg he])
    clear he
    go_wp2
    go_ret2
    exact ⟨_, _, rfl, by rw [HE.out]; exact intL_nil _, by rw [HE.out]; exact intL_nil _, H1.out.1⟩
/-- The parents, when the ears of l are hung on their witnesses and c is the root. -/
def pf (l : List (Nat × Nat)) (c r : Nat) : Int := match l.find? fun x => x.1 == r with
  | some x => (x.2 : Int)
  | none => if r = c then -1 else 0
theorem pf_snoc {l : List (Nat × Nat)} {x : Nat × Nat} (h : x.1 ∉ l.map Prod.fst) (c r : Nat) : pf (l ++ [x]) c r = if r = x.1 then (x.2 : Int) else pf l c r := by
  unfold pf
  rw [List.find?_append]
  by_cases e : r = x.1
  · subst e
    have : l.find? (fun y => y.1 == x.1) = none := by
      rw [List.find?_eq_none]
      intro y hy hq
      exact h (List.mem_map.2 ⟨y, hy, beq_iff_eq.1 hq⟩)
    rw [this, if_pos rfl]
    simp
  · rw [if_neg e]
    have : ([x] : List (Nat × Nat)).find? (fun y => y.1 == r) = none := by
      rw [List.find?_eq_none]
      intro y hy
      rw [List.mem_singleton] at hy
      subst hy
      simpa using fun e2 : y.1 = r => e e2.symm
    rw [this, Option.or_none]
theorem pf_mem {l : List (Nat × Nat)} {c : Nat} (hnd : (l.map Prod.fst).Nodup) {x : Nat × Nat} (hx : x ∈ l) : pf l c x.1 = (x.2 : Int) := by
  induction l with
  | nil => exact absurd hx (by simp)
  | cons y l ih =>
    rw [List.map_cons, List.nodup_cons] at hnd
    unfold pf
    rcases List.mem_cons.1 hx with rfl | hx
    · simp
    · have hne : ¬ y.1 = x.1 := fun e => hnd.1 (by rw [e]; exact List.mem_map.2 ⟨x, hx, rfl⟩)
      have := ih hnd.2 hx
      unfold pf at this
      rw [List.find?_cons_of_neg (by simpa using hne)]
      exact this
theorem pf_root {l : List (Nat × Nat)} {c : Nat} (h : c ∉ l.map Prod.fst) : pf l c c = -1 := by
  unfold pf
  have : l.find? (fun y => y.1 == c) = none := by
    rw [List.find?_eq_none]
    intro y hy hq
    exact h (List.mem_map.2 ⟨y, hy, beq_iff_eq.1 hq⟩)
  rw [this, if_pos rfl]
def coreOf (S : Sc) : Nat := (redS S).2.getD 0 0
def parF (S : Sc) (r : Nat) : Int := pf (redS S).1 (coreOf S) r
def treeB (S : Sc) : Bool := decide (checkE S = 0) && decide ((redS S).2.length ≤ 1)
/-- The parents that Tree gives. -/
def treeL (S : Sc) : List Int := if treeB S then (List.range S.nr).map (parF S) else []
theorem core_pos {S : Sc} (h : checkE S = 0) : 1 ≤ (redS S).2.length := by
  have h1 := (Acy.red_red (A := attrs S) S.nr (E := List.range S.nr) List.nodup_range (by simp)).1
  have := h1.le (by have := check_nr h; simp; omega)
  exact this
theorem core_mem {S : Sc} {x : Nat} (h : x ∈ (redS S).2) : x < S.nr := List.mem_range.1 ((Acy.red_sub (A := attrs S) S.nr (E := List.range S.nr)).2 x h)
theorem rem_mem {S : Sc} {x : Nat × Nat} (h : x ∈ (redS S).1) : x.1 < S.nr ∧ x.2 < S.nr := by
  have := (Acy.red_sub (A := attrs S) S.nr (E := List.range S.nr)).1 x h
  exact ⟨List.mem_range.1 this.1, List.mem_range.1 this.2⟩
theorem rem_nodup (S : Sc) : ((redS S).1.map Prod.fst).Nodup := (Acy.red_nodup (A := attrs S) S.nr (E := List.range S.nr) List.nodup_range).1
end Go.Proofs.Ytiakgcaflnpmeaa
