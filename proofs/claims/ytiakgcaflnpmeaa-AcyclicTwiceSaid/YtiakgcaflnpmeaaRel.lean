/- A region that draws its order, whose operations give results that are known by a relation alone (a fresh place in memory, say): one walk of each operation, none of the orders. No program stands here. -/
import Derived.Handy
import Derived.Orders
import Derived.Tactics
import Derived.WalkKit
import Derived.Lib.Hide
namespace Go.Proofs.Ytiakgcaflnpmeaa
open Go Go.RowKit
namespace Rel

section
variable {P : Program} {ops : Array Oper} {Q : Exit → Act → World → Prop}

/-- Where operation j leaves its result. -/
def dst (ops : Array Oper) (j : Nat) : Option Tmp := (ops[j]?).bind (·.dst)
/-- The operations that i waits for. -/
def deps (o : Oper) : List Nat := (o.after.toList.filter fun e => Region.binds .any e).map (·.on)
/-- Those of them that o looks at. -/
def need (ops : Array Oper) (o : Oper) : List Nat := ((deps o).filter fun j => match dst ops j with | some d => (o.looksAt ops).contains d | none => false).eraseDups
theorem need_deps {o : Oper} {j : Nat} (h : j ∈ need ops o) : j ∈ deps o := (List.mem_filter.1 (List.mem_eraseDups.1 h)).1
theorem need_of {o : Oper} {j : Nat} {d : Tmp} (h : j ∈ deps o) (hd : dst ops j = some d) (hl : d ∈ o.looksAt ops) : j ∈ need ops o :=
  List.mem_eraseDups.2 (List.mem_filter.2 ⟨h, by simp [hd, hl]⟩)
/-- The results of the operations of L, put in order. -/
def putL (ops : Array Oper) (vals : Nat → Value) : List Nat → Act → Act
  | [], a => a
  | j :: L, a => putL ops vals L (a.put (dst ops j) (vals j))
/-- What is known of the results of the operations of L. -/
def AllR (R : List (Value → World → Prop)) (vals : Nat → Value) (w : World) : List Nat → Prop
  | [] => True
  | j :: L => (R.getD j (fun _ _ => True)) (vals j) w ∧ AllR R vals w L
theorem AllR.mem {R : List (Value → World → Prop)} {vals : Nat → Value} {w : World} : ∀ {L : List Nat}, AllR R vals w L ↔ ∀ j ∈ L, (R.getD j (fun _ _ => True)) (vals j) w
  | [] => by simp [AllR]
  | j :: L => by simp [AllR, AllR.mem (L := L)]

/-- What i waits for, and what that waits for. -/
def anc (ops : Array Oper) : Nat → Nat → List Nat
  | 0, _ => []
  | n + 1, i => match ops[i]? with
    | none => []
    | some o => (deps o).flatMap fun j => j :: anc ops n j
/-- Nothing of D waits for i, nor is it i. -/
def Free (ops : Array Oper) (i : Nat) (D : List Nat) : Prop := i ∉ D ∧ ∀ j ∈ D, (anc ops ops.size j).contains i = false
theorem Free.not {i j : Nat} {D : List Nat} (h : Free ops i D) (hj : (anc ops ops.size j).contains i = true) : j ∉ D := fun hm => by
  have := h.2 j hm
  rw [hj] at this
  cases this

/-- The operation i, walked from what it looks at alone. -/
def Step (P : Program) (ops : Array Oper) (R : List (Value → World → Prop)) (E : List Nat → World → Prop) (T : World → World → Prop) (a0 : Act) (i : Nat) (o : Oper) (L : List Nat) : Prop :=
  ∀ (vals : Nat → Value) (w : World) (D : List Nat), E D w → Free ops i D → AllR R vals w L → ∀ K : Act → World → Prop,
    (∀ v w', (R.getD i (fun _ _ => True)) v w' → T w w' → E (D ++ [i]) w' → K ((putL ops vals L a0).put o.dst v) w') → Oper.wp P o (putL ops vals L a0) w K (fun _ _ _ => False)
/-- All operations from i on, up to m. -/
def Steps (P : Program) (ops : Array Oper) (R : List (Value → World → Prop)) (E : List Nat → World → Prop) (T : World → World → Prop) (a0 : Act) (i m : Nat) : Prop :=
  ∀ j o, i ≤ j → j < m → ops[j]? = some o → Step P ops R E T a0 j o (need ops o)
theorem Steps.done {R : List (Value → World → Prop)} {E : List Nat → World → Prop} {T : World → World → Prop} {a0 : Act} {m : Nat} : Steps P ops R E T a0 m m := fun j o h1 h2 _ => absurd h2 (by omega)
theorem Steps.cons {R : List (Value → World → Prop)} {E : List Nat → World → Prop} {T : World → World → Prop} {a0 : Act} {i m : Nat} {o : Oper} {L : List Nat} (ho : ops[i]? = some o) (hL : need ops o = L)
    (h : Step P ops R E T a0 i o L) (hs : Steps P ops R E T a0 (i + 1) m) : Steps P ops R E T a0 i m := by
  intro j oj h1 h2 hoj
  rcases Nat.lt_or_ge i j with h3 | h3
  · exact hs j oj (by omega) h2 hoj
  · obtain rfl : j = i := by omega
    rw [ho] at hoj
    injection hoj with hoj
    subst hoj
    rw [hL]; exact h

/-- What is asked of the region's text: no guards, no selects; each slot is written once; an operation looks at no slot that another writes, but for those that it waits for; it waits for earlier ones alone; and the operations from m on wait for all before m. -/
def okOp (ops : Array Oper) (i : Nat) (o : Oper) : Bool :=
  o.guard.isNone && (match o.op with | .select .. => false | .defer .. => false | _ => true) &&
  (deps o).all (fun j => decide (j < i)) &&
  (o.after.toList.all fun e => !Region.binds .any e || decide (e.on < i)) &&
  (List.range ops.size).all fun j => match dst ops j with
    | none => true
    | some d => j == i || ((o.dst != some d) && (!(o.looksAt ops).contains d || (deps o).contains j))
def ok (ops : Array Oper) (m : Nat) : Bool :=
  decide (m ≤ ops.size) &&
  ((List.range ops.size).all fun i => match ops[i]? with | none => false | some o => okOp ops i o && (match o.dst with | some d => !(o.looksAt ops).contains d | none => true)) &&
  ((List.range ops.size).all fun i => decide (i < m) || (List.range m).all fun j => (anc ops ops.size i).contains j)

theorem okOp_spec {i : Nat} {o : Oper} (h : okOp ops i o = true) : o.guard = none ∧ (∀ cs b, o.op ≠ .select cs b) ∧ (∀ c, o.op ≠ .defer c) ∧ (∀ j ∈ deps o, j < i) ∧
    (∀ j d, dst ops j = some d → j ≠ i → o.dst ≠ some d ∧ (d ∈ o.looksAt ops → j ∈ deps o)) := by
  unfold okOp at h
  simp only [Bool.and_eq_true, List.all_eq_true, List.mem_range, decide_eq_true_eq, Option.isNone_iff_eq_none] at h
  obtain ⟨⟨⟨⟨h1, h2⟩, h3⟩, _⟩, h5⟩ := h
  refine ⟨h1, ?_, ?_, h3, ?_⟩
  · intro cs b e; rw [e] at h2; simp at h2
  · intro c e; rw [e] at h2; simp at h2
  · intro j d hd hne
    have hj : j < ops.size := by
      rcases Nat.lt_or_ge j ops.size with h6 | h6
      · exact h6
      · simp [dst, Array.getElem?_eq_none h6] at hd
    have h6 := h5 j hj
    rw [hd] at h6
    simp only [Bool.or_eq_true, beq_iff_eq, hne, false_or, Bool.and_eq_true, bne_iff_ne, ne_eq, Bool.not_eq_true', List.contains_eq_mem, decide_eq_true_eq, decide_eq_false_iff_not] at h6
    exact ⟨h6.1, fun hm => h6.2.resolve_left (fun h7 => h7 hm)⟩

/-- One slot behind the results of L: written by j0 alone. -/
theorem putL_get {vals : Nat → Value} {t : Tmp} {j0 : Nat} (hu : ∀ j, dst ops j = some t → j = j0) (h0 : dst ops j0 = some t) : ∀ (L : List Nat) (a : Act),
    (putL ops vals L a).tmps[t]? = if j0 ∈ L then (a.tmps.setIfInBounds t (vals j0))[t]? else a.tmps[t]?
  | [], a => by simp [putL]
  | j :: L, a => by
    rw [putL, putL_get hu h0 L]
    by_cases hj : j = j0
    · subst hj
      simp only [h0, Act.put, List.mem_cons, true_or, if_true]
      split <;> simp [Array.getElem?_setIfInBounds]
    · have hne : dst ops j ≠ some t := fun e => hj (hu j e)
      have e1 : ∀ v : Value, ((a.put (dst ops j) (vals j)).tmps.setIfInBounds t v)[t]? = (a.tmps.setIfInBounds t v)[t]? := by
        intro v
        cases hd : dst ops j with
        | none => rfl
        | some d => simp [Act.put, Array.getElem?_setIfInBounds]
      have e2 : (a.put (dst ops j) (vals j)).tmps[t]? = a.tmps[t]? := by
        cases hd : dst ops j with
        | none => rfl
        | some d =>
          have : d ≠ t := fun e => hne (by rw [hd, e])
          simp [Act.put, Array.getElem?_setIfInBounds_ne this]
      rw [e1, e2]
      have : (j0 ∈ j :: L) = (j0 ∈ L) := by simp [Ne.symm hj]
      simp only [this]
theorem putL_none {vals : Nat → Value} {t : Tmp} : ∀ (L : List Nat) (a : Act), (∀ j ∈ L, dst ops j ≠ some t) → (putL ops vals L a).tmps[t]? = a.tmps[t]?
  | [], a, _ => rfl
  | j :: L, a, h => by
    rw [putL, putL_none L _ (fun k hk => h k (List.mem_cons_of_mem _ hk))]
    have hne := h j List.mem_cons_self
    cases hd : dst ops j with
    | none => rfl
    | some d =>
      have : d ≠ t := fun e => hne (by rw [hd, e])
      simp [Act.put, Array.getElem?_setIfInBounds_ne this]
theorem putL_defers {vals : Nat → Value} : ∀ (L : List Nat) (a : Act), (putL ops vals L a).defers = a.defers
  | [], _ => rfl
  | j :: L, a => by
    rw [putL, putL_defers L]
    cases hd : dst ops j <;> rfl
theorem putL_snoc {vals : Nat → Value} : ∀ (L : List Nat) (i : Nat) (a : Act), putL ops vals (L ++ [i]) a = (putL ops vals L a).put (dst ops i) (vals i)
  | [], _, _ => rfl
  | _ :: L, i, a => by rw [List.cons_append, putL, putL, putL_snoc L]
theorem putL_congr {vals vals' : Nat → Value} : ∀ (L : List Nat) (a : Act), (∀ j ∈ L, vals j = vals' j) → putL ops vals L a = putL ops vals' L a
  | [], _, _ => rfl
  | j :: L, a, h => by rw [putL, putL, h j List.mem_cons_self, putL_congr L _ (fun k hk => h k (List.mem_cons_of_mem _ hk))]
/-- Slots are written once. -/
def Once (ops : Array Oper) : Prop := ∀ i j d, dst ops i = some d → dst ops j = some d → j = i
theorem putL_slot {vals : Nat → Value} (ho : Once ops) {t : Tmp} {L L' : List Nat} (a : Act) (h : ∀ j, dst ops j = some t → (j ∈ L ↔ j ∈ L')) : (putL ops vals L a).tmps[t]? = (putL ops vals L' a).tmps[t]? := by
  by_cases hw : ∃ j, dst ops j = some t
  · obtain ⟨j0, h0⟩ := hw
    have hu : ∀ j, dst ops j = some t → j = j0 := fun j hj => ho j0 j t h0 hj
    rw [putL_get hu h0, putL_get hu h0]
    simp only [h j0 h0]
  · rw [putL_none L a (fun j _ e => hw ⟨j, e⟩), putL_none L' a (fun j _ e => hw ⟨j, e⟩)]
theorem putL_perm {vals : Nat → Value} (ho : Once ops) {L L' : List Nat} (a : Act) (h : ∀ j, j ∈ L ↔ j ∈ L') : putL ops vals L a = putL ops vals L' a := by
  have h1 : (putL ops vals L a).tmps = (putL ops vals L' a).tmps := Array.ext_getElem? fun t => putL_slot ho a (fun j _ => h j)
  have h2 : (putL ops vals L a).defers = (putL ops vals L' a).defers := by rw [putL_defers, putL_defers]
  cases hx : putL ops vals L a
  cases hy : putL ops vals L' a
  rw [hx, hy] at h1 h2
  simp at h1 h2
  rw [h1, h2]
/-- An operation sees the same. -/
theorem exec_same {vals : Nat → Value} (ho : Once ops) {i : Nat} {o : Oper} (hok : okOp ops i o = true) (hi : ops[i]? = some o) {L : List Nat} (a : Act) (hL : ∀ j ∈ deps o, j ∈ L) (hself : ∀ d, o.dst = some d → d ∉ o.looksAt ops) :
    execOp (putL ops vals L a).eval o = execOp (putL ops vals (need ops o) a).eval o := by
  obtain ⟨_, hs, _, _, hl⟩ := okOp_spec hok
  refine execOp_congr o hs fun x hx => ?_
  cases x with
  | tmp t =>
    have hlook : t ∈ o.looksAt ops := List.mem_append_left _ (List.mem_filterMap.2 ⟨.tmp t, by simpa using hx, rfl⟩)
    have := putL_slot (vals := vals) ho (t := t) (L := L) (L' := need ops o) a (fun j hj => by
      by_cases hji : j = i
      · subst hji
        exfalso
        exact hself t (by simpa [dst, hi] using hj) hlook
      · have := (hl j t hj hji).2 hlook
        exact ⟨fun _ => need_of this hj hlook, fun _ => hL j this⟩)
    simp [Act.eval, Array.getD_eq_getD_getElem?, this]
  | _ => rfl

theorem anc_listed {L : List Nat} (hdown : ∀ i ∈ L, ∀ o, ops[i]? = some o → ∀ j ∈ deps o, j ∈ L) : ∀ (n i : Nat), (∀ o, ops[i]? = some o → ∀ j ∈ deps o, j ∈ L) → ∀ j ∈ anc ops n i, j ∈ L
  | 0, _, _, j, hj => by simp [anc] at hj
  | n + 1, i, hi, j, hj => by
    unfold anc at hj
    cases ho : ops[i]? with
    | none => simp [ho] at hj
    | some o =>
      simp only [ho, List.mem_flatMap, List.mem_cons] at hj
      obtain ⟨k, hk, rfl | h⟩ := hj
      · exact hi o ho _ hk
      · exact anc_listed hdown n k (fun o' ho' => hdown k (hi o ho k hk) o' ho') j h

/-- THE LAW: the first m operations by relations; then what is left, from a state in which all of them are there. -/
theorem any_rel {R : List (Value → World → Prop)} {E : List Nat → World → Prop} {T : World → World → Prop} {a0 : Act} {m : Nat} (hok : ok ops m = true)
    (hstable : ∀ D i v w w', i < m → E D w → T w w' → (R.getD i (fun _ _ => True)) v w → (R.getD i (fun _ _ => True)) v w')
    (hops : Steps P ops R E T a0 0 m)
    (hend : ∀ vals w D, (∀ j, j ∈ D ↔ j < m) → E D w → AllR R vals w (List.range m) → ∀ listed : Array Bool, listed.size = ops.size → (∀ i, i < ops.size → (listed.getD i true = true ↔ i < m)) → wpAny P .any ops Q (ops.size - m) listed (putL ops vals (List.range m) a0) w) :
    ∀ (fuel : Nat) (listed : Array Bool) (L : List Nat) (vals : Nat → Value) (w : World), L.Nodup → (∀ i, i ∈ L → i < m) → L.length + fuel = ops.size → listed.size = ops.size → (∀ i, i < ops.size → (listed.getD i true = true ↔ i ∈ L)) →
      (∀ i ∈ L, ∀ o, ops[i]? = some o → ∀ j ∈ deps o, j ∈ L) → E L w → AllR R vals w L → wpAny P .any ops Q fuel listed (putL ops vals L a0) w := by
  unfold ok at hok
  simp only [Bool.and_eq_true, List.all_eq_true, List.mem_range, decide_eq_true_eq] at hok
  obtain ⟨⟨hm, hall⟩, htail⟩ := hok
  have hall' : ∀ i o, ops[i]? = some o → okOp ops i o = true ∧ (∀ d, o.dst = some d → d ∉ o.looksAt ops) := by
    intro i o ho
    have := hall i (Array.getElem?_eq_some_iff.1 ho).1
    rw [ho] at this
    simp only [Bool.and_eq_true] at this
    refine ⟨this.1, fun d hd => ?_⟩
    have h2 := this.2
    rw [hd] at h2
    simpa using h2
  have honce : Once ops := by
    intro i j d hi hj
    rcases Nat.decEq j i with h | h
    · exfalso
      cases ho : ops[i]? with
      | none => simp [dst, ho] at hi
      | some o =>
        have h1 := (okOp_spec (hall' i o ho).1).2.2.2.2 j d hj h
        exact h1.1 (by simpa [dst, ho] using hi)
    · exact h
  intro fuel
  induction fuel with
  | zero =>
    intro listed L vals w hnd hlt hlen hls hlist hdown hEw hR
    -- all are listed: m is the size
    have hperm : ∀ j, j ∈ L ↔ j ∈ List.range m := by
      have hsub : L.length ≤ m := by
        have := List.Nodup.length_le_of_subset hnd (l₂ := List.range m) (fun x hx => List.mem_range.2 (hlt x hx))
        simpa using this
      have hmm : m = ops.size := by omega
      intro j
      refine ⟨fun h => List.mem_range.2 (hlt j h), fun h => ?_⟩
      rcases Classical.em (j ∈ L) with h1 | h1
      · exact h1
      · exfalso
        have h2 : (j :: L).Nodup := List.nodup_cons.2 ⟨h1, hnd⟩
        have h3 := List.Nodup.length_le_of_subset h2 (l₂ := List.range m) (fun x hx => by
          rcases List.mem_cons.1 hx with rfl | hx
          · exact h
          · exact List.mem_range.2 (hlt x hx))
        simp at h3
        omega
    rw [putL_perm honce a0 hperm]
    have hsz : ops.size - m = 0 := by
      have := List.Nodup.length_le_of_subset hnd (l₂ := List.range m) (fun x hx => List.mem_range.2 (hlt x hx))
      simp at this
      omega
    have := hend vals w L (fun j => (hperm j).trans List.mem_range) hEw (AllR.mem.2 fun j hj => AllR.mem.1 hR j ((hperm j).2 hj)) listed hls (fun i hi => by rw [hlist i hi, hperm i, List.mem_range])
    rw [hsz] at this
    exact this
  | succ fuel ih =>
    intro listed L vals w hnd hlt hlen hls hlist hdown hEw hR
    by_cases hfull : ∀ j, j < m → j ∈ L
    · -- all of the first m are there
      have hperm : ∀ j, j ∈ L ↔ j ∈ List.range m := fun j => ⟨fun h => List.mem_range.2 (hlt j h), fun h => hfull j (List.mem_range.1 h)⟩
      rw [putL_perm honce a0 hperm]
      have hsz : ops.size - m = fuel + 1 := by
        have h1 := List.Nodup.length_le_of_subset hnd (l₂ := List.range m) (fun x hx => List.mem_range.2 (hlt x hx))
        have h2 := List.Nodup.length_le_of_subset List.nodup_range (l₁ := List.range m) (l₂ := L) (fun x hx => hfull x (List.mem_range.1 hx))
        simp at h1 h2
        omega
      have := hend vals w L (fun j => (hperm j).trans List.mem_range) hEw (AllR.mem.2 fun j hj => AllR.mem.1 hR j ((hperm j).2 hj)) listed hls (fun i hi => by rw [hlist i hi, hperm i, List.mem_range])
      rw [hsz] at this
      exact this
    · -- some operation below m comes up next
      have hex : ∃ j, j < m ∧ j ∉ L := by
        rcases Classical.em (∃ j, j < m ∧ j ∉ L) with h | h
        · exact h
        · exfalso
          exact hfull fun j hj => by
            rcases Classical.em (j ∈ L) with h1 | h1
            · exact h1
            · exact absurd ⟨j, hj, h1⟩ h
      have hready : ∀ i, i ∈ Region.ready .any ops listed → i < m ∧ i ∉ L ∧ ∃ o, ops[i]? = some o ∧ ∀ j ∈ deps o, j ∈ L := by
        intro i hi
        obtain ⟨h0, o, ho, hdep⟩ := mem_ready.1 hi
        have hisz := (Array.getElem?_eq_some_iff.1 ho).1
        have hnL : i ∉ L := fun h => by rw [(hlist i hisz).2 h] at h0; cases h0
        have hdL : ∀ j ∈ deps o, j ∈ L := by
          intro j hj
          obtain ⟨e, he, rfl⟩ := List.mem_map.1 hj
          obtain ⟨he1, he2⟩ := List.mem_filter.1 he
          have h1 := hdep e (by simpa using he1) he2
          have hjlt := (okOp_spec (hall' i o ho).1).2.2.2.1 e.on hj
          have h2 : listed.getD e.on true = true := by
            have hsz2 : e.on < listed.size := by omega
            simp [hsz2] at h1 ⊢; exact h1
          exact (hlist e.on (by omega)).1 h2
        refine ⟨?_, hnL, o, ho, hdL⟩
        rcases Nat.lt_or_ge i m with h1 | h1
        · exact h1
        · exfalso
          obtain ⟨j, hj, hjL⟩ := hex
          have h2 := htail i hisz
          simp only [Bool.or_eq_true, decide_eq_true_eq, List.all_eq_true, List.mem_range] at h2
          have h3 := h2.resolve_left (by omega) j hj
          exact hjL (anc_listed hdown ops.size i (fun o' ho' => by rw [ho] at ho'; injection ho' with e; rw [← e]; exact hdL) j (by simpa using h3))
      refine ⟨fun h0 => ?_, fun i hi => ?_⟩
      · -- the least that is not there is ready
        exfalso
        have hleast : ∃ j, j < m ∧ j ∉ L ∧ ∀ k, k < j → k ∈ L := by
          obtain ⟨j, hj, hjL⟩ := hex
          induction j using Nat.strongRecOn with
          | _ j ihj =>
            rcases Classical.em (∀ k, k < j → k ∈ L) with h | h
            · exact ⟨j, hj, hjL, h⟩
            · obtain ⟨k, hk⟩ := Classical.not_forall.1 h
              obtain ⟨hkj, hkL⟩ := Classical.not_imp.1 hk
              exact ihj k hkj (by omega) hkL
        obtain ⟨j, hj, hjL, hbel⟩ := hleast
        have hjsz : j < ops.size := by omega
        obtain ⟨o, ho⟩ : ∃ o, ops[j]? = some o := ⟨_, Array.getElem?_eq_getElem hjsz⟩
        have : j ∈ Region.ready .any ops listed := by
          refine mem_ready.2 ⟨?_, o, ho, fun e he hb => ?_⟩
          · cases hc : listed.getD j true with
            | false => rfl
            | true => exact absurd ((hlist j hjsz).1 hc) hjL
          · have hmem : e.on ∈ deps o := List.mem_map.2 ⟨e, List.mem_filter.2 ⟨by simpa using he, hb⟩, rfl⟩
            have hlt2 := (okOp_spec (hall' j o ho).1).2.2.2.1 e.on hmem
            have h2 := (hlist e.on (by omega)).2 (hbel e.on hlt2)
            have hsz2 : e.on < listed.size := by omega
            simp [hsz2] at h2 ⊢; exact h2
        rw [h0] at this
        cases this
      · obtain ⟨him, hiL, o, ho, hdL⟩ := hready i hi
        have hspec := okOp_spec (hall' i o ho).1
        have hfree : Free ops i L := ⟨hiL, fun j hj => by
          rw [← Bool.not_eq_true, List.contains_eq_mem, decide_eq_true_eq]
          intro hm
          exact hiL (anc_listed hdown ops.size j (fun o' ho' => hdown j hj o' ho') i hm)⟩
        have hst := hops i o (Nat.zero_le _) him ho vals w L hEw hfree (AllR.mem.2 fun j hj => AllR.mem.1 hR j (hdL j (need_deps hj)))
        have hex2 := exec_same (vals := vals) honce (hall' i o ho).1 ho a0 hdL (hall' i o ho).2
        have hisz : i < ops.size := by omega
        have hdsti : dst ops i = o.dst := by simp [dst, ho]
        -- what follows, from the result on
        have hnext : ∀ v w', (R.getD i (fun _ _ => True)) v w' → T w w' → E (L ++ [i]) w' → wpAny P .any ops Q fuel (listed.setIfInBounds i true) ((putL ops vals L a0).put o.dst v) w' := by
          intro v w' hv hT hEL
          have hvals : ∀ j ∈ L, vals j = (fun k => if k = i then v else vals k) j := by
            intro j hj
            have : j ≠ i := fun e => hiL (e ▸ hj)
            simp [this]
          have := ih (listed.setIfInBounds i true) (L ++ [i]) (fun k => if k = i then v else vals k) w'
            (by rw [List.nodup_append]; exact ⟨hnd, by simp, by simp; intro a ha e; exact hiL (e ▸ ha)⟩)
            (by intro k hk; rcases List.mem_append.1 hk with h | h; exact hlt k h; simp at h; omega)
            (by simp; omega) (by simp [hls])
            (by
              intro k hk
              by_cases hki : i = k
              · subst hki
                have : i < listed.size := by omega
                simp [this]
              · rw [getD_set_ne true hki, hlist k hk]; simp [Ne.symm hki])
            (by
              intro k hk o' ho' j hj
              rcases List.mem_append.1 hk with h | h
              · exact List.mem_append_left _ (hdown k h o' ho' j hj)
              · simp at h
                subst h
                rw [ho] at ho'
                injection ho' with e
                subst e
                exact List.mem_append_left _ (hdL j hj))
            hEL
            (AllR.mem.2 (by
              intro k hk
              by_cases hki : k = i
              · subst hki; simpa using hv
              · rcases List.mem_append.1 hk with h | h
                · simp only [hki, if_false]
                  exact hstable L k _ w w' (hlt k h) hEw hT (AllR.mem.1 hR k h)
                · simp at h; exact absurd h hki))
          rw [putL_snoc, hdsti, ← putL_congr L a0 hvals] at this
          simpa using this
        have hw : Region.wanted o (yielded ops (putL ops vals L a0).tmps) = true := by unfold Region.wanted; rw [hspec.1]
        have hgo := hst (fun a' w' => ∃ v, a' = (putL ops vals (need ops o) a0).put o.dst v ∧ (R.getD i (fun _ _ => True)) v w' ∧ T w w' ∧ E (L ++ [i]) w') (fun v w' h1 h2 h3 => ⟨v, rfl, h1, h2, h3⟩)
        unfold wpOp
        simp only [ho, hw, if_true]
        refine .inl ?_
        unfold Oper.wp at hgo ⊢
        rw [hex2]
        -- the result's value can be read off where there is a slot; where there is none it does not matter
        generalize (execOp (putL ops vals (need ops o) a0).eval o).run P w = r at hgo ⊢
        have hput : ∀ (u v : Value), (putL ops vals (need ops o) a0).put o.dst u = (putL ops vals (need ops o) a0).put o.dst v → (putL ops vals L a0).put o.dst u = (putL ops vals L a0).put o.dst v := by
          intro u v h
          cases hd : o.dst with
          | none => rfl
          | some d =>
            rw [hd] at h
            simp only [Act.put] at h ⊢
            have h1 : (putL ops vals (need ops o) a0).tmps.setIfInBounds d u = (putL ops vals (need ops o) a0).tmps.setIfInBounds d v := congrArg Act.tmps h
            have hsize : ∀ (M : List Nat) (a : Act), (putL ops vals M a).tmps.size = a.tmps.size := by
              intro M
              induction M with
              | nil => intro a; rfl
              | cons j M ihM =>
                intro a
                rw [putL, ihM]
                cases dst ops j <;> simp [Act.put]
            by_cases hdb : d < a0.tmps.size
            · have h2 := congrArg (fun t => t[d]?) h1
              simp [hsize, hdb] at h2
              rw [h2]
            · have : ∀ z : Value, (putL ops vals L a0).tmps.setIfInBounds d z = (putL ops vals L a0).tmps := by
                intro z
                have hsz := hsize L a0
                have hle : (putL ops vals L a0).tmps.size ≤ d := by rw [hsz]; exact Nat.le_of_not_lt hdb
                exact Array.setIfInBounds_eq_of_size_le hle
              rw [this, this]
        cases r with
        | ok n w1 =>
          cases n with
          | value u =>
            simp only [Oper.upon] at hgo ⊢
            obtain ⟨v, h1, h2, h3, h4⟩ := hgo
            rw [hput u v h1]
            exact hnext v w1 h2 h3 h4
          | skip =>
            simp only [Oper.upon] at hgo ⊢
            obtain ⟨v, h1, h2, h3, h4⟩ := hgo
            rw [hput undef v h1]
            exact hnext v w1 h2 h3 h4
          | defer d =>
            simp only [Oper.upon] at hgo
            obtain ⟨v, h1, _⟩ := hgo
            exfalso
            have h2 := congrArg Act.defers h1
            have h3 : ∀ (a : Act) (x : Option Tmp) (z : Value), (a.put x z).defers = a.defers := by intro a x z; cases x <;> rfl
            rw [h3, h3] at h2
            have h4 := congrArg List.length h2
            simp at h4
          | enter f args =>
            simp only [Oper.upon] at hgo ⊢
            refine Calls.mono hgo fun e w2 he => ?_
            cases e with
            | returned u =>
              simp only at he ⊢
              obtain ⟨v, h1, h2, h3, h4⟩ := he
              rw [hput u v h1]
              exact hnext v w2 h2 h3 h4
            | panicked c => exact False.elim he
            | outgrown => 
              obtain ⟨_, _, hf⟩ := he
              exact hf.elim
          | row row args =>
            simp only [Oper.upon] at hgo ⊢
            refine Rows.mono hgo fun u w2 he => ?_
            obtain ⟨v, h1, h2, h3, h4⟩ := he
            rw [hput u v h1]
            exact hnext v w2 h2 h3 h4
          | _ => exact False.elim hgo
        | halt x w1 => cases x <;> exact False.elim hgo

/-- The first m are there. -/
def listedTo (n m : Nat) : Array Bool := ((List.range n).map fun i => decide (i < m)).toArray
theorem listedTo_eq {listed : Array Bool} {n m : Nat} (hs : listed.size = n) (h : ∀ i, i < n → (listed.getD i true = true ↔ i < m)) : listed = listedTo n m := by
  apply Array.ext
  · simp [listedTo, hs]
  · intro i h1 h2
    have h3 := h i (by omega)
    simp [h1] at h3
    simp [listedTo]
    rw [Bool.eq_iff_iff, decide_eq_true_iff]
    exact h3
theorem region_any {R : List (Value → World → Prop)} {E : List Nat → World → Prop} {T : World → World → Prop} {l : List Oper} {id : Nat} {a : Act} {w : World} (m : Nat) (hf : P.follows .mixedOrders = true) (hok : ok l.toArray m = true) (hE0 : E [] w.drew)
    (hstable : ∀ D i v w w', i < m → E D w → T w w' → (R.getD i (fun _ _ => True)) v w → (R.getD i (fun _ _ => True)) v w')
    (hops : Steps P l.toArray R E T a 0 m)
    (hend : ∀ vals w D, (∀ j, j ∈ D ↔ j < m) → E D w → AllR R vals w (List.range m) → wpAny P .any l.toArray Q (l.length - m) (listedTo l.length m) (putL l.toArray vals (List.range m) a) w) : (Code.region id l.toArray true).wp P Q a w := by
  refine wp_region_any hf ?_
  have h0 : ∀ i, i < l.toArray.size → ((Array.replicate l.toArray.size false).getD i true = true ↔ i ∈ ([] : List Nat)) := by
    intro i hi
    simp at hi
    simp [hi]
  exact any_rel (Q := Q) hok hstable hops (fun vals w D hd h1 h2 listed h3 h4 => by
    rw [listedTo_eq h3 h4]
    simpa using hend vals w D hd h1 h2) l.toArray.size (Array.replicate l.toArray.size false) [] (fun _ => undef) w.drew (by simp) (by simp) (by simp) (by simp) h0 (by simp) hE0 trivial
theorem ready_full {ops : Array Oper} : Region.ready .any ops (listedTo ops.size ops.size) = [] := by
  unfold Region.ready
  rw [List.filter_eq_nil_iff]
  intro i hi
  have := List.mem_range.1 hi
  simp [listedTo, this]
/-- ALL by relations. -/
theorem region_all {R : List (Value → World → Prop)} {E : List Nat → World → Prop} {T : World → World → Prop} {l : List Oper} {id : Nat} {a : Act} {w : World} (hf : P.follows .mixedOrders = true) (hok : ok l.toArray l.length = true) (hE0 : E [] w.drew)
    (hstable : ∀ D i v w w', i < l.length → E D w → T w w' → (R.getD i (fun _ _ => True)) v w → (R.getD i (fun _ _ => True)) v w')
    (hops : Steps P l.toArray R E T a 0 l.length)
    (hend : ∀ vals w D, (∀ j, j ∈ D ↔ j < l.length) → E D w → AllR R vals w (List.range l.length) → Q .normal (putL l.toArray vals (List.range l.length) a) w) : (Code.region id l.toArray true).wp P Q a w := by
  refine region_any l.length hf hok hE0 hstable hops fun vals w D hd h1 h2 => ?_
  rw [Nat.sub_self]
  exact ⟨by have := ready_full (ops := l.toArray); simpa using this, hend vals w D hd h1 h2⟩
/-- ALL BUT THE LAST, which waits for all of them. -/
theorem region_last {R : List (Value → World → Prop)} {E : List Nat → World → Prop} {T : World → World → Prop} {l : List Oper} {o : Oper} {id : Nat} {a : Act} {w : World} (hf : P.follows .mixedOrders = true) (hok : ok (l ++ [o]).toArray l.length = true) (hE0 : E [] w.drew)
    (hstable : ∀ D i v w w', i < l.length → E D w → T w w' → (R.getD i (fun _ _ => True)) v w → (R.getD i (fun _ _ => True)) v w')
    (hops : Steps P (l ++ [o]).toArray R E T a 0 l.length)
    (hend : ∀ vals w D, (∀ j, j ∈ D ↔ j < l.length) → E D w → AllR R vals w (List.range l.length) → wpList P (l ++ [o]).toArray Q [o] (putL (l ++ [o]).toArray vals (List.range l.length) a) w) : (Code.region id (l ++ [o]).toArray true).wp P Q a w := by
  refine region_any l.length hf hok hE0 hstable hops fun vals w D hd h1 h2 => ?_
  have hl := hend vals w D hd h1 h2
  have hlen : (l ++ [o]).length - l.length = 1 := by simp
  rw [hlen]
  have hi : (l ++ [o]).toArray[l.length]? = some o := by simp
  have hok' : okOp (l ++ [o]).toArray l.length o = true := by
    unfold ok at hok
    simp only [Bool.and_eq_true, List.all_eq_true, List.mem_range] at hok
    have := hok.1.2 l.length (by simp)
    rw [hi] at this
    simp only [Bool.and_eq_true] at this
    exact this.1
  have hget : ∀ i d, i < l.length + 1 → (listedTo (l ++ [o]).length l.length).getD i d = decide (i < l.length) := by
    intro i d hi
    simp [listedTo, hi]
  have hdep := (okOp_spec hok').2.2.2.1
  have hmem : l.length ∈ Region.ready .any (l ++ [o]).toArray (listedTo (l ++ [o]).length l.length) := by
    refine mem_ready.2 ⟨by rw [hget _ _ (by omega)]; simp, o, hi, fun e he hb => ?_⟩
    have := hdep e.on (List.mem_map.2 ⟨e, List.mem_filter.2 ⟨by simpa using he, hb⟩, rfl⟩)
    rw [hget _ _ (by omega), decide_eq_true this]
  refine ⟨fun h0 => (by rw [h0] at hmem; cases hmem), fun i hir => ?_⟩
  have him : i = l.length := by
    obtain ⟨h3, o', ho', _⟩ := mem_ready.1 hir
    have h4 := (Array.getElem?_eq_some_iff.1 ho').1
    simp at h4
    rw [hget _ _ (by omega)] at h3
    have := of_decide_eq_false h3
    omega
  subst him
  have hfull : (listedTo (l ++ [o]).length l.length).setIfInBounds l.length true = listedTo (l ++ [o]).toArray.size (l ++ [o]).toArray.size := by
    refine listedTo_eq (by simp [listedTo]) fun i hi => ?_
    simp at hi
    by_cases hil : l.length = i
    · subst hil; simp [listedTo]
    · rw [getD_set_ne true hil, hget _ _ (by omega)]; simp; omega
  rw [hfull]
  have hdone : ∀ a w, Q .normal a w → wpAny P .any (l ++ [o]).toArray Q 0 (listedTo (l ++ [o]).toArray.size (l ++ [o]).toArray.size) a w := fun a w hq => ⟨ready_full, hq⟩
  unfold wpOp
  simp only [hi]
  unfold wpList at hl
  split
  · rename_i hw
    rw [if_pos hw] at hl
    rcases hl with hl | hl
    · exact .inl (Oper.wp_mono (fun a w h => hdone a w h) hl)
    · exact .inr hl
  · rename_i hw
    rw [if_neg hw] at hl
    exact hdone _ _ hl
/-- The same, the list written out: its last operation is number m. -/
theorem region_tail {R : List (Value → World → Prop)} {E : List Nat → World → Prop} {T : World → World → Prop} {l : List Oper} {o : Oper} {id : Nat} {a : Act} {w : World} (m : Nat) (hf : P.follows .mixedOrders = true) (ho : l.drop m = [o]) (hok : ok l.toArray m = true) (hE0 : E [] w.drew)
    (hstable : ∀ D i v w w', i < m → E D w → T w w' → (R.getD i (fun _ _ => True)) v w → (R.getD i (fun _ _ => True)) v w')
    (hops : Steps P l.toArray R E T a 0 m)
    (hend : ∀ vals w D, (∀ j, j ∈ D ↔ j < m) → E D w → AllR R vals w (List.range m) → wpList P l.toArray Q [o] (putL l.toArray vals (List.range m) a) w) : (Code.region id l.toArray true).wp P Q a w := by
  have hl : l = l.take m ++ [o] := by rw [← ho, List.take_append_drop]
  have hm : (l.take m).length = m := by
    have h1 := congrArg List.length ho
    simp at h1 ⊢
    omega
  generalize l.take m = l' at *
  subst hl
  subst hm
  exact region_last hf hok hE0 hstable hops hend
/-- ALL by relations, the numbers written out. -/
theorem region_full {R : List (Value → World → Prop)} {E : List Nat → World → Prop} {T : World → World → Prop} {l : List Oper} {id : Nat} {a : Act} {w : World} (m : Nat) (LL : List Nat) (hm : l.length = m) (hLL : List.range m = LL)
    (hf : P.follows .mixedOrders = true) (hok : ok l.toArray m = true) (hE0 : E [] w.drew)
    (hstable : ∀ D i v w w', i < m → E D w → T w w' → (R.getD i (fun _ _ => True)) v w → (R.getD i (fun _ _ => True)) v w')
    (hops : Steps P l.toArray R E T a 0 m)
    (hend : ∀ vals w D, (∀ j, j ∈ D ↔ j < m) → E D w → AllR R vals w LL → Q .normal (putL l.toArray vals LL a) w) : (Code.region id l.toArray true).wp P Q a w := by
  subst hm hLL
  exact region_all hf hok hE0 hstable hops hend
end
end Rel
end Go.Proofs.Ytiakgcaflnpmeaa
