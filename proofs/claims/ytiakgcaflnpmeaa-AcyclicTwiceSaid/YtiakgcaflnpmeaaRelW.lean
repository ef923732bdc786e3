/- A region that draws its order, by relations: as Rel, but what is kept sees the results too (two fresh places are two). And what waits for all before it runs in the order of the text. No program stands here. As RelV, for operations with guards: by relations: as Rel, but what is kept sees the results too (two fresh places are two). And what waits for all before it runs in the order of the text. No program stands here. -/
import Derived.Test.YtiakgcaflnpmeaaRel
namespace Go.Proofs.Ytiakgcaflnpmeaa
open Go Go.RowKit
namespace RelV
open Rel

section
variable {P : Program} {ops : Array Oper} {Q : Exit → Act → World → Prop}

/-- The operation i, walked from what it looks at alone. -/
def Step (P : Program) (ops : Array Oper) (R : List (Value → World → Prop)) (E : List Nat → (Nat → Value) → World → Prop) (T : World → World → Prop) (a0 : Act) (i : Nat) (o : Oper) (L : List Nat) : Prop :=
  ∀ (vals : Nat → Value) (w : World) (D : List Nat), E D vals w → Free ops i D → AllR R vals w L → ∀ K : Act → World → Prop,
    (∀ v w', (R.getD i (fun _ _ => True)) v w' → T w w' → E (D ++ [i]) (fun k => if k = i then v else vals k) w' → K ((putL ops vals L a0).put o.dst v) w') → Oper.wp P o (putL ops vals L a0) w K (fun _ _ _ => False)
/-- All operations from i on, up to m. -/
def Steps (P : Program) (ops : Array Oper) (R : List (Value → World → Prop)) (E : List Nat → (Nat → Value) → World → Prop) (T : World → World → Prop) (a0 : Act) (i m : Nat) : Prop :=
  ∀ j o, i ≤ j → j < m → ops[j]? = some o → Step P ops R E T a0 j o (need ops o)
theorem Steps.done {R : List (Value → World → Prop)} {E : List Nat → (Nat → Value) → World → Prop} {T : World → World → Prop} {a0 : Act} {m : Nat} : Steps P ops R E T a0 m m := fun j o h1 h2 _ => absurd h2 (by omega)
theorem Steps.cons {R : List (Value → World → Prop)} {E : List Nat → (Nat → Value) → World → Prop} {T : World → World → Prop} {a0 : Act} {i m : Nat} {o : Oper} {L : List Nat} (ho : ops[i]? = some o) (hL : need ops o = L)
    (h : Step P ops R E T a0 i o L) (hs : Steps P ops R E T a0 (i + 1) m) : Steps P ops R E T a0 i m := by
  intro j oj h1 h2 hoj
  rcases Nat.lt_or_ge i j with h3 | h3
  · exact hs j oj (by omega) h2 hoj
  · obtain rfl : j = i := by omega
    rw [ho] at hoj
    injection hoj with hoj
    subst hoj
    rw [hL]; exact h

/-- THE LAW: the first m operations by relations; then what is left, from a state in which all of them are there. -/
theorem any_rel {R : List (Value → World → Prop)} {E : List Nat → (Nat → Value) → World → Prop} {T : World → World → Prop} {a0 : Act} {m : Nat} (hok : ok ops m = true)
    (hstable : ∀ D vals i v w w', i < m → E D vals w → T w w' → (R.getD i (fun _ _ => True)) v w → (R.getD i (fun _ _ => True)) v w')
    (hops : Steps P ops R E T a0 0 m)
    (hend : ∀ vals w D, (∀ j, j ∈ D ↔ j < m) → E D vals w → AllR R vals w (List.range m) → ∀ listed : Array Bool, listed.size = ops.size → (∀ i, i < ops.size → (listed.getD i true = true ↔ i < m)) → wpAny P .any ops Q (ops.size - m) listed (putL ops vals (List.range m) a0) w) :
    ∀ (fuel : Nat) (listed : Array Bool) (L : List Nat) (vals : Nat → Value) (w : World), L.Nodup → (∀ i, i ∈ L → i < m) → L.length + fuel = ops.size → listed.size = ops.size → (∀ i, i < ops.size → (listed.getD i true = true ↔ i ∈ L)) →
      (∀ i ∈ L, ∀ o, ops[i]? = some o → ∀ j ∈ deps o, j ∈ L) → E L vals w → AllR R vals w L → wpAny P .any ops Q fuel listed (putL ops vals L a0) w := by
  unfold ok at hok
  simp only [Bool.and_eq_true, List.all_eq_true, List.mem_range, decide_eq_true_eq] at hok
  obtain ⟨⟨hm, hall⟩, htail⟩ := hok
  have hall' : ∀ i o, ops[i]? = some o → okOp ops i o = true ∧ (∀ d, o.dst = some d → d ∉ o.looksAt ops) := by
    intro i o ho
    have := hall i (Array.getElem?_eq_some_iff.1 ho).1
    rw [ho] at this
    simp only [Bool.and_eq_true] at this
    refine ⟨this.1, fun d hd => ?_⟩
    have h2 := this.2
    rw [hd] at h2
    simpa using h2
  have honce : Once ops := by
    intro i j d hi hj
    rcases Nat.decEq j i with h | h
    · exfalso
      cases ho : ops[i]? with
      | none => simp [dst, ho] at hi
      | some o =>
        have h1 := (okOp_spec (hall' i o ho).1).2.2.2.2 j d hj h
        exact h1.1 (by simpa [dst, ho] using hi)
    · exact h
  intro fuel
  induction fuel with
  | zero =>
    intro listed L vals w hnd hlt hlen hls hlist hdown hEw hR
    -- all are listed: m is the size
    have hperm : ∀ j, j ∈ L ↔ j ∈ List.range m := by
      have hsub : L.length ≤ m := by
        have := List.Nodup.length_le_of_subset hnd (l₂ := List.range m) (fun x hx => List.mem_range.2 (hlt x hx))
        simpa using this
      have hmm : m = ops.size := by omega
      intro j
      refine ⟨fun h => List.mem_range.2 (hlt j h), fun h => ?_⟩
      rcases Classical.em (j ∈ L) with h1 | h1
      · exact h1
      · exfalso
        have h2 : (j :: L).Nodup := List.nodup_cons.2 ⟨h1, hnd⟩
        have h3 := List.Nodup.length_le_of_subset h2 (l₂ := List.range m) (fun x hx => by
          rcases List.mem_cons.1 hx with rfl | hx
          · exact h
          · exact List.mem_range.2 (hlt x hx))
        simp at h3
        omega
    rw [putL_perm honce a0 hperm]
    have hsz : ops.size - m = 0 := by
      have := List.Nodup.length_le_of_subset hnd (l₂ := List.range m) (fun x hx => List.mem_range.2 (hlt x hx))
      simp at this
      omega
    have := hend vals w L (fun j => (hperm j).trans List.mem_range) hEw (AllR.mem.2 fun j hj => AllR.mem.1 hR j ((hperm j).2 hj)) listed hls (fun i hi => by rw [hlist i hi, hperm i, List.mem_range])
    rw [hsz] at this
    exact this
  | succ fuel ih =>
    intro listed L vals w hnd hlt hlen hls hlist hdown hEw hR
    by_cases hfull : ∀ j, j < m → j ∈ L
    · -- all of the first m are there
      have hperm : ∀ j, j ∈ L ↔ j ∈ List.range m := fun j => ⟨fun h => List.mem_range.2 (hlt j h), fun h => hfull j (List.mem_range.1 h)⟩
      rw [putL_perm honce a0 hperm]
      have hsz : ops.size - m = fuel + 1 := by
        have h1 := List.Nodup.length_le_of_subset hnd (l₂ := List.range m) (fun x hx => List.mem_range.2 (hlt x hx))
        have h2 := List.Nodup.length_le_of_subset List.nodup_range (l₁ := List.range m) (l₂ := L) (fun x hx => hfull x (List.mem_range.1 hx))
        simp at h1 h2
        omega
      have := hend vals w L (fun j => (hperm j).trans List.mem_range) hEw (AllR.mem.2 fun j hj => AllR.mem.1 hR j ((hperm j).2 hj)) listed hls (fun i hi => by rw [hlist i hi, hperm i, List.mem_range])
      rw [hsz] at this
      exact this
    · -- some operation below m comes up next
      have hex : ∃ j, j < m ∧ j ∉ L := by
        rcases Classical.em (∃ j, j < m ∧ j ∉ L) with h | h
        · exact h
        · exfalso
          exact hfull fun j hj => by
            rcases Classical.em (j ∈ L) with h1 | h1
            · exact h1
            · exact absurd ⟨j, hj, h1⟩ h
      have hready : ∀ i, i ∈ Region.ready .any ops listed → i < m ∧ i ∉ L ∧ ∃ o, ops[i]? = some o ∧ ∀ j ∈ deps o, j ∈ L := by
        intro i hi
        obtain ⟨h0, o, ho, hdep⟩ := mem_ready.1 hi
        have hisz := (Array.getElem?_eq_some_iff.1 ho).1
        have hnL : i ∉ L := fun h => by rw [(hlist i hisz).2 h] at h0; cases h0
        have hdL : ∀ j ∈ deps o, j ∈ L := by
          intro j hj
          obtain ⟨e, he, rfl⟩ := List.mem_map.1 hj
          obtain ⟨he1, he2⟩ := List.mem_filter.1 he
          have h1 := hdep e (by simpa using he1) he2
          have hjlt := (okOp_spec (hall' i o ho).1).2.2.2.1 e.on hj
          have h2 : listed.getD e.on true = true := by
            have hsz2 : e.on < listed.size := by omega
            simp [hsz2] at h1 ⊢; exact h1
          exact (hlist e.on (by omega)).1 h2
        refine ⟨?_, hnL, o, ho, hdL⟩
        rcases Nat.lt_or_ge i m with h1 | h1
        · exact h1
        · exfalso
          obtain ⟨j, hj, hjL⟩ := hex
          have h2 := htail i hisz
          simp only [Bool.or_eq_true, decide_eq_true_eq, List.all_eq_true, List.mem_range] at h2
          have h3 := h2.resolve_left (by omega) j hj
          exact hjL (anc_listed hdown ops.size i (fun o' ho' => by rw [ho] at ho'; injection ho' with e; rw [← e]; exact hdL) j (by simpa using h3))
      refine ⟨fun h0 => ?_, fun i hi => ?_⟩
      · -- the least that is not there is ready
        exfalso
        have hleast : ∃ j, j < m ∧ j ∉ L ∧ ∀ k, k < j → k ∈ L := by
          obtain ⟨j, hj, hjL⟩ := hex
          induction j using Nat.strongRecOn with
          | _ j ihj =>
            rcases Classical.em (∀ k, k < j → k ∈ L) with h | h
            · exact ⟨j, hj, hjL, h⟩
            · obtain ⟨k, hk⟩ := Classical.not_forall.1 h
              obtain ⟨hkj, hkL⟩ := Classical.not_imp.1 hk
              exact ihj k hkj (by omega) hkL
        obtain ⟨j, hj, hjL, hbel⟩ := hleast
        have hjsz : j < ops.size := by omega
        obtain ⟨o, ho⟩ : ∃ o, ops[j]? = some o := ⟨_, Array.getElem?_eq_getElem hjsz⟩
        have : j ∈ Region.ready .any ops listed := by
          refine mem_ready.2 ⟨?_, o, ho, fun e he hb => ?_⟩
          · cases hc : listed.getD j true with
            | false => rfl
            | true => exact absurd ((hlist j hjsz).1 hc) hjL
          · have hmem : e.on ∈ deps o := List.mem_map.2 ⟨e, List.mem_filter.2 ⟨by simpa using he, hb⟩, rfl⟩
            have hlt2 := (okOp_spec (hall' j o ho).1).2.2.2.1 e.on hmem
            have h2 := (hlist e.on (by omega)).2 (hbel e.on hlt2)
            have hsz2 : e.on < listed.size := by omega
            simp [hsz2] at h2 ⊢; exact h2
        rw [h0] at this
        cases this
      · obtain ⟨him, hiL, o, ho, hdL⟩ := hready i hi
        have hspec := okOp_spec (hall' i o ho).1
        have hfree : Free ops i L := ⟨hiL, fun j hj => by
          rw [← Bool.not_eq_true, List.contains_eq_mem, decide_eq_true_eq]
          intro hm
          exact hiL (anc_listed hdown ops.size j (fun o' ho' => hdown j hj o' ho') i hm)⟩
        have hst := hops i o (Nat.zero_le _) him ho vals w L hEw hfree (AllR.mem.2 fun j hj => AllR.mem.1 hR j (hdL j (need_deps hj)))
        have hex2 := exec_same (vals := vals) honce (hall' i o ho).1 ho a0 hdL (hall' i o ho).2
        have hisz : i < ops.size := by omega
        have hdsti : dst ops i = o.dst := by simp [dst, ho]
        -- what follows, from the result on
        have hnext : ∀ v w', (R.getD i (fun _ _ => True)) v w' → T w w' → E (L ++ [i]) (fun k => if k = i then v else vals k) w' → wpAny P .any ops Q fuel (listed.setIfInBounds i true) ((putL ops vals L a0).put o.dst v) w' := by
          intro v w' hv hT hEL
          have hvals : ∀ j ∈ L, vals j = (fun k => if k = i then v else vals k) j := by
            intro j hj
            have : j ≠ i := fun e => hiL (e ▸ hj)
            simp [this]
          have := ih (listed.setIfInBounds i true) (L ++ [i]) (fun k => if k = i then v else vals k) w'
            (by rw [List.nodup_append]; exact ⟨hnd, by simp, by simp; intro a ha e; exact hiL (e ▸ ha)⟩)
            (by intro k hk; rcases List.mem_append.1 hk with h | h; exact hlt k h; simp at h; omega)
            (by simp; omega) (by simp [hls])
            (by
              intro k hk
              by_cases hki : i = k
              · subst hki
                have : i < listed.size := by omega
                simp [this]
              · rw [getD_set_ne true hki, hlist k hk]; simp [Ne.symm hki])
            (by
              intro k hk o' ho' j hj
              rcases List.mem_append.1 hk with h | h
              · exact List.mem_append_left _ (hdown k h o' ho' j hj)
              · simp at h
                subst h
                rw [ho] at ho'
                injection ho' with e
                subst e
                exact List.mem_append_left _ (hdL j hj))
            hEL
            (AllR.mem.2 (by
              intro k hk
              by_cases hki : k = i
              · subst hki; simpa using hv
              · rcases List.mem_append.1 hk with h | h
                · simp only [hki, if_false]
                  exact hstable L vals k _ w w' (hlt k h) hEw hT (AllR.mem.1 hR k h)
                · simp at h; exact absurd h hki))
          rw [putL_snoc, hdsti, ← putL_congr L a0 hvals] at this
          simpa using this
        have hw : Region.wanted o (yielded ops (putL ops vals L a0).tmps) = true := by unfold Region.wanted; rw [hspec.1]
        have hgo := hst (fun a' w' => ∃ v, a' = (putL ops vals (need ops o) a0).put o.dst v ∧ (R.getD i (fun _ _ => True)) v w' ∧ T w w' ∧ E (L ++ [i]) (fun k => if k = i then v else vals k) w') (fun v w' h1 h2 h3 => ⟨v, rfl, h1, h2, h3⟩)
        unfold wpOp
        simp only [ho, hw, if_true]
        refine .inl ?_
        unfold Oper.wp at hgo ⊢
        rw [hex2]
        -- the result's value can be read off where there is a slot; where there is none it does not matter
        generalize (execOp (putL ops vals (need ops o) a0).eval o).run P w = r at hgo ⊢
        have hput : ∀ (u v : Value), (putL ops vals (need ops o) a0).put o.dst u = (putL ops vals (need ops o) a0).put o.dst v → (putL ops vals L a0).put o.dst u = (putL ops vals L a0).put o.dst v := by
          intro u v h
          cases hd : o.dst with
          | none => rfl
          | some d =>
            rw [hd] at h
            simp only [Act.put] at h ⊢
            have h1 : (putL ops vals (need ops o) a0).tmps.setIfInBounds d u = (putL ops vals (need ops o) a0).tmps.setIfInBounds d v := congrArg Act.tmps h
            have hsize : ∀ (M : List Nat) (a : Act), (putL ops vals M a).tmps.size = a.tmps.size := by
              intro M
              induction M with
              | nil => intro a; rfl
              | cons j M ihM =>
                intro a
                rw [putL, ihM]
                cases dst ops j <;> simp [Act.put]
            by_cases hdb : d < a0.tmps.size
            · have h2 := congrArg (fun t => t[d]?) h1
              simp [hsize, hdb] at h2
              rw [h2]
            · have : ∀ z : Value, (putL ops vals L a0).tmps.setIfInBounds d z = (putL ops vals L a0).tmps := by
                intro z
                have hsz := hsize L a0
                have hle : (putL ops vals L a0).tmps.size ≤ d := by rw [hsz]; exact Nat.le_of_not_lt hdb
                exact Array.setIfInBounds_eq_of_size_le hle
              rw [this, this]
        cases r with
        | ok n w1 =>
          cases n with
          | value u =>
            simp only [Oper.upon] at hgo ⊢
            obtain ⟨v, h1, h2, h3, h4⟩ := hgo
            rw [hput u v h1]
            exact hnext v w1 h2 h3 h4
          | skip =>
            simp only [Oper.upon] at hgo ⊢
            obtain ⟨v, h1, h2, h3, h4⟩ := hgo
            rw [hput undef v h1]
            exact hnext v w1 h2 h3 h4
          | defer d =>
            simp only [Oper.upon] at hgo
            obtain ⟨v, h1, _⟩ := hgo
            exfalso
            have h2 := congrArg Act.defers h1
            have h3 : ∀ (a : Act) (x : Option Tmp) (z : Value), (a.put x z).defers = a.defers := by intro a x z; cases x <;> rfl
            rw [h3, h3] at h2
            have h4 := congrArg List.length h2
            simp at h4
          | enter f args =>
            simp only [Oper.upon] at hgo ⊢
            refine Calls.mono hgo fun e w2 he => ?_
            cases e with
            | returned u =>
              simp only at he ⊢
              obtain ⟨v, h1, h2, h3, h4⟩ := he
              rw [hput u v h1]
              exact hnext v w2 h2 h3 h4
            | panicked c => exact False.elim he
            | outgrown => 
              obtain ⟨_, _, hf⟩ := he
              exact hf.elim
          | row row args =>
            simp only [Oper.upon] at hgo ⊢
            refine Rows.mono hgo fun u w2 he => ?_
            obtain ⟨v, h1, h2, h3, h4⟩ := he
            rw [hput u v h1]
            exact hnext v w2 h2 h3 h4
          | _ => exact False.elim hgo
        | halt x w1 => cases x <;> exact False.elim hgo

theorem region_any {R : List (Value → World → Prop)} {E : List Nat → (Nat → Value) → World → Prop} {T : World → World → Prop} {l : List Oper} {id : Nat} {a : Act} {w : World} (m : Nat) (hf : P.follows .mixedOrders = true) (hok : ok l.toArray m = true) (hE0 : ∀ vals, E [] vals w.drew)
    (hstable : ∀ D vals i v w w', i < m → E D vals w → T w w' → (R.getD i (fun _ _ => True)) v w → (R.getD i (fun _ _ => True)) v w')
    (hops : Steps P l.toArray R E T a 0 m)
    (hend : ∀ vals w D, (∀ j, j ∈ D ↔ j < m) → E D vals w → AllR R vals w (List.range m) → wpAny P .any l.toArray Q (l.length - m) (listedTo l.length m) (putL l.toArray vals (List.range m) a) w) : (Code.region id l.toArray true).wp P Q a w := by
  refine wp_region_any hf ?_
  have h0 : ∀ i, i < l.toArray.size → ((Array.replicate l.toArray.size false).getD i true = true ↔ i ∈ ([] : List Nat)) := by
    intro i hi
    simp at hi
    simp [hi]
  exact any_rel (Q := Q) hok hstable hops (fun vals w D hd h1 h2 listed h3 h4 => by
    rw [listedTo_eq h3 h4]
    simpa using hend vals w D hd h1 h2) l.toArray.size (Array.replicate l.toArray.size false) [] (fun _ => undef) w.drew (by simp) (by simp) (by simp) (by simp) h0 (by simp) (hE0 _) trivial
/-- ALL by relations. -/
theorem region_all {R : List (Value → World → Prop)} {E : List Nat → (Nat → Value) → World → Prop} {T : World → World → Prop} {l : List Oper} {id : Nat} {a : Act} {w : World} (hf : P.follows .mixedOrders = true) (hok : ok l.toArray l.length = true) (hE0 : ∀ vals, E [] vals w.drew)
    (hstable : ∀ D vals i v w w', i < l.length → E D vals w → T w w' → (R.getD i (fun _ _ => True)) v w → (R.getD i (fun _ _ => True)) v w')
    (hops : Steps P l.toArray R E T a 0 l.length)
    (hend : ∀ vals w D, (∀ j, j ∈ D ↔ j < l.length) → E D vals w → AllR R vals w (List.range l.length) → Q .normal (putL l.toArray vals (List.range l.length) a) w) : (Code.region id l.toArray true).wp P Q a w := by
  refine region_any l.length hf hok hE0 hstable hops fun vals w D hd h1 h2 => ?_
  rw [Nat.sub_self]
  exact ⟨by have := ready_full (ops := l.toArray); simpa using this, hend vals w D hd h1 h2⟩
/-- ALL by relations, the numbers written out. -/
theorem region_full {R : List (Value → World → Prop)} {E : List Nat → (Nat → Value) → World → Prop} {T : World → World → Prop} {l : List Oper} {id : Nat} {a : Act} {w : World} (m : Nat) (LL : List Nat) (hm : l.length = m) (hLL : List.range m = LL)
    (hf : P.follows .mixedOrders = true) (hok : ok l.toArray m = true) (hE0 : ∀ vals, E [] vals w.drew)
    (hstable : ∀ D vals i v w w', i < m → E D vals w → T w w' → (R.getD i (fun _ _ => True)) v w → (R.getD i (fun _ _ => True)) v w')
    (hops : Steps P l.toArray R E T a 0 m)
    (hend : ∀ vals w D, (∀ j, j ∈ D ↔ j < m) → E D vals w → AllR R vals w LL → Q .normal (putL l.toArray vals LL a) w) : (Code.region id l.toArray true).wp P Q a w := by
  subst hm hLL
  exact region_all hf hok hE0 hstable hops hend
/-! The same, where what is kept says of each result whether it is there already. -/
theorem region_any0 {R : List (Value → World → Prop)} {E : List Nat → (Nat → Value) → World → Prop} {T : World → World → Prop} {l : List Oper} {id : Nat} {a : Act} {w : World} (m : Nat) (hf : P.follows .mixedOrders = true) (hok : ok l.toArray m = true) (hE0 : E [] (fun _ => undef) w.drew)
    (hstable : ∀ D vals i v w w', i < m → E D vals w → T w w' → (R.getD i (fun _ _ => True)) v w → (R.getD i (fun _ _ => True)) v w')
    (hops : Steps P l.toArray R E T a 0 m)
    (hend : ∀ vals w D, (∀ j, j ∈ D ↔ j < m) → E D vals w → AllR R vals w (List.range m) → wpAny P .any l.toArray Q (l.length - m) (listedTo l.length m) (putL l.toArray vals (List.range m) a) w) : (Code.region id l.toArray true).wp P Q a w := by
  refine wp_region_any hf ?_
  have h0 : ∀ i, i < l.toArray.size → ((Array.replicate l.toArray.size false).getD i true = true ↔ i ∈ ([] : List Nat)) := by
    intro i hi
    simp at hi
    simp [hi]
  exact any_rel (Q := Q) hok hstable hops (fun vals w D hd h1 h2 listed h3 h4 => by
    rw [listedTo_eq h3 h4]
    simpa using hend vals w D hd h1 h2) l.toArray.size (Array.replicate l.toArray.size false) [] (fun _ => undef) w.drew (by simp) (by simp) (by simp) (by simp) h0 (by simp) hE0 trivial
theorem region_all0 {R : List (Value → World → Prop)} {E : List Nat → (Nat → Value) → World → Prop} {T : World → World → Prop} {l : List Oper} {id : Nat} {a : Act} {w : World} (hf : P.follows .mixedOrders = true) (hok : ok l.toArray l.length = true) (hE0 : E [] (fun _ => undef) w.drew)
    (hstable : ∀ D vals i v w w', i < l.length → E D vals w → T w w' → (R.getD i (fun _ _ => True)) v w → (R.getD i (fun _ _ => True)) v w')
    (hops : Steps P l.toArray R E T a 0 l.length)
    (hend : ∀ vals w D, (∀ j, j ∈ D ↔ j < l.length) → E D vals w → AllR R vals w (List.range l.length) → Q .normal (putL l.toArray vals (List.range l.length) a) w) : (Code.region id l.toArray true).wp P Q a w := by
  refine region_any0 l.length hf hok hE0 hstable hops fun vals w D hd h1 h2 => ?_
  rw [Nat.sub_self]
  exact ⟨by have := ready_full (ops := l.toArray); simpa using this, hend vals w D hd h1 h2⟩
theorem region_full0 {R : List (Value → World → Prop)} {E : List Nat → (Nat → Value) → World → Prop} {T : World → World → Prop} {l : List Oper} {id : Nat} {a : Act} {w : World} (m : Nat) (LL : List Nat) (hm : l.length = m) (hLL : List.range m = LL)
    (hf : P.follows .mixedOrders = true) (hok : ok l.toArray m = true) (hE0 : E [] (fun _ => undef) w.drew)
    (hstable : ∀ D vals i v w w', i < m → E D vals w → T w w' → (R.getD i (fun _ _ => True)) v w → (R.getD i (fun _ _ => True)) v w')
    (hops : Steps P l.toArray R E T a 0 m)
    (hend : ∀ vals w D, (∀ j, j ∈ D ↔ j < m) → E D vals w → AllR R vals w LL → Q .normal (putL l.toArray vals LL a) w) : (Code.region id l.toArray true).wp P Q a w := by
  subst hm hLL
  exact region_all0 hf hok hE0 hstable hops hend
theorem mem_ready_chain {ops : Array Oper} {m k : Nat} (hok : ok ops m = true) (hch : ∀ i, m ≤ i → i < ops.size → ∀ j, j < i → j ∈ anc ops ops.size i) (hmk : m ≤ k) (hk : k < ops.size) :
    k ∈ Region.ready .any ops (listedTo ops.size k) ∧ ∀ i, i ∈ Region.ready .any ops (listedTo ops.size k) → i = k := by
  unfold ok at hok
  simp only [Bool.and_eq_true, List.all_eq_true, List.mem_range, decide_eq_true_eq] at hok
  obtain ⟨⟨_, hall⟩, _⟩ := hok
  have hdep : ∀ i o, ops[i]? = some o → ∀ j ∈ deps o, j < i := by
    intro i o ho
    have := hall i (Array.getElem?_eq_some_iff.1 ho).1
    rw [ho] at this
    simp only [Bool.and_eq_true] at this
    exact (okOp_spec this.1).2.2.2.1
  have hget : ∀ i d, i < ops.size → (listedTo ops.size k).getD i d = decide (i < k) := by
    intro i d hi
    simp [listedTo, hi]
  obtain ⟨o, ho⟩ : ∃ o, ops[k]? = some o := ⟨_, Array.getElem?_eq_getElem hk⟩
  refine ⟨mem_ready.2 ⟨by rw [hget _ _ hk]; simp, o, ho, fun e he hb => ?_⟩, fun i hi => ?_⟩
  · have := hdep k o ho e.on (List.mem_map.2 ⟨e, List.mem_filter.2 ⟨by simpa using he, hb⟩, rfl⟩)
    rw [hget _ _ (by omega), decide_eq_true this]
  · obtain ⟨h3, o', ho', hd'⟩ := mem_ready.1 hi
    have hisz := (Array.getElem?_eq_some_iff.1 ho').1
    rw [hget _ _ hisz] at h3
    have hik : k ≤ i := by have := of_decide_eq_false h3; omega
    rcases Nat.lt_or_ge k i with h4 | h4
    · exfalso
      have hmem := hch i (by omega) hisz k h4
      have hL : ∀ j ∈ anc ops ops.size i, j ∈ List.range k := anc_listed (L := List.range k) (fun i' hi' o'' ho'' j hj => by
          have := hdep i' o'' ho'' j hj
          have h5 := List.mem_range.1 hi'
          exact List.mem_range.2 (by omega)) ops.size i (fun o'' ho'' j hj => by
        rw [ho'] at ho''
        injection ho'' with e
        subst e
        obtain ⟨e, he, rfl⟩ := List.mem_map.1 hj
        obtain ⟨he1, he2⟩ := List.mem_filter.1 he
        have h1 := hd' e (by simpa using he1) he2
        have hlt := hdep i o' ho' e.on hj
        rw [hget _ _ (by omega)] at h1
        exact List.mem_range.2 (of_decide_eq_true h1))
      have := List.mem_range.1 (hL k hmem)
      omega
    · omega
theorem chain_any {ops : Array Oper} {m : Nat} (hok : ok ops m = true) (hch : ∀ i, m ≤ i → i < ops.size → ∀ j, j < i → j ∈ anc ops ops.size i) :
    ∀ (n k : Nat), m ≤ k → k + n = ops.size → ∀ (a : Act) (w : World), wpList P ops Q (ops.toList.drop k) a w → wpAny P .any ops Q n (listedTo ops.size k) a w := by
  intro n
  induction n with
  | zero =>
    intro k _ hk a w h
    have hkk : k = ops.size := by omega
    subst hkk
    rw [List.drop_of_length_le (by simp)] at h
    exact ⟨ready_full, h⟩
  | succ n ih =>
    intro k hmk hk a w h
    have hks : k < ops.size := by omega
    obtain ⟨hmem, huniq⟩ := mem_ready_chain hok hch hmk hks
    obtain ⟨o, ho⟩ : ∃ o, ops[k]? = some o := ⟨_, Array.getElem?_eq_getElem hks⟩
    have hdrop : ops.toList.drop k = o :: ops.toList.drop (k + 1) := by
      have := List.drop_eq_getElem_cons (l := ops.toList) (i := k) (by simpa using hks)
      rw [this]
      congr 1
      have h2 := (Array.getElem?_eq_some_iff.1 ho).2
      simpa using h2
    rw [hdrop] at h
    refine ⟨fun h0 => (by rw [h0] at hmem; cases hmem), fun i hi => ?_⟩
    obtain rfl : i = k := huniq i hi
    have hset : (listedTo ops.size i).setIfInBounds i true = listedTo ops.size (i + 1) := by
      refine listedTo_eq (by simp [listedTo]) fun j hj => ?_
      by_cases hij : i = j
      · subst hij; simp [listedTo, hj]
      · rw [getD_set_ne true hij]; simp [listedTo, hj]; omega
    rw [hset]
    unfold wpOp
    simp only [ho]
    unfold wpList at h
    split
    · rename_i hw
      rw [if_pos hw] at h
      rcases h with h | h
      · exact .inl (Oper.wp_mono (fun a w h => ih (i + 1) (by omega) (by omega) a w h) h)
      · exact .inr h
    · rename_i hw
      rw [if_neg hw] at h
      exact ih (i + 1) (by omega) (by omega) _ _ h
/-- The first m by relations; the rest, each of which waits for all before it, in the order of the text. -/
theorem region_rest {R : List (Value → World → Prop)} {E : List Nat → (Nat → Value) → World → Prop} {T : World → World → Prop} {l : List Oper} {id : Nat} {a : Act} {w : World} (m : Nat) (LL : List Nat) (l2 : List Oper) (hl2 : l.drop m = l2) (hLL : List.range m = LL)
    (hf : P.follows .mixedOrders = true) (hok : ok l.toArray m = true) (hch : ((List.range l.length).all fun i => decide (i < m) || ((List.range i).all fun j => (anc l.toArray l.toArray.size i).contains j)) = true) (hE0 : ∀ vals, E [] vals w.drew)
    (hstable : ∀ D vals i v w w', i < m → E D vals w → T w w' → (R.getD i (fun _ _ => True)) v w → (R.getD i (fun _ _ => True)) v w')
    (hops : Steps P l.toArray R E T a 0 m)
    (hend : ∀ vals w D, (∀ j, j ∈ D ↔ j < m) → E D vals w → AllR R vals w LL → wpList P l.toArray Q l2 (putL l.toArray vals LL a) w) : (Code.region id l.toArray true).wp P Q a w := by
  subst hl2 hLL
  have hmle : m ≤ l.length := by
    have := hok
    unfold ok at this
    simp only [Bool.and_eq_true, decide_eq_true_eq] at this
    simpa using this.1.1
  have hch' : ∀ i, m ≤ i → i < l.toArray.size → ∀ j, j < i → j ∈ anc l.toArray l.toArray.size i := by
    intro i hi hil j hj
    have h1 := List.all_eq_true.1 hch i (List.mem_range.2 (by simpa using hil))
    simp only [Bool.or_eq_true, decide_eq_true_eq, List.all_eq_true, List.mem_range] at h1
    have h2 := (h1.resolve_left (by omega)) j hj
    simpa using h2
  refine region_any m hf hok hE0 hstable hops fun vals w D hd h1 h2 => ?_
  exact chain_any hok hch' (l.length - m) m (Nat.le_refl _) (by simp; omega) _ _ (by simpa using hend vals w D hd h1 h2)
/-- Operations i and j (if they are there) have made two places of this call, not the same. -/
def Fresh2 (n0 i j : Nat) (D : List Nat) (vals : Nat → Value) (w : World) : Prop :=
  (i ∈ D → ∃ g, vals i = .pointer (some ⟨g, 0, none⟩) ∧ n0 ≤ g ∧ g < w.heap.size) ∧ (j ∈ D → ∃ g, vals j = .pointer (some ⟨g, 0, none⟩) ∧ n0 ≤ g ∧ g < w.heap.size) ∧ (i ∈ D → j ∈ D → vals i ≠ vals j)
theorem Fresh2.start {n0 i j : Nat} (vals : Nat → Value) (w : World) : Fresh2 n0 i j [] vals w := ⟨fun h => absurd h (by simp), fun h => absurd h (by simp), fun h => absurd h (by simp)⟩
theorem Fresh2.other {n0 i j k : Nat} {D : List Nat} {vals : Nat → Value} {w w' : World} {v : Value} (h : Fresh2 n0 i j D vals w) (hs : w.heap.size ≤ w'.heap.size) (hi : k ≠ i) (hj : k ≠ j) : Fresh2 n0 i j (D ++ [k]) (fun x => if x = k then v else vals x) w' := by
  have ei : ∀ {x : Nat}, k ≠ x → x ∈ D ++ [k] → x ∈ D := fun hx hm => by
    rcases List.mem_append.1 hm with h | h
    · exact h
    · exact absurd (List.mem_singleton.1 h) (Ne.symm hx)
  have hvi : (if i = k then v else vals i) = vals i := if_neg (Ne.symm hi)
  have hvj : (if j = k then v else vals j) = vals j := if_neg (Ne.symm hj)
  unfold Fresh2
  simp only [hvi, hvj]
  exact ⟨fun hm => by obtain ⟨g, e, h1, h2⟩ := h.1 (ei hi hm); exact ⟨g, e, h1, by omega⟩, fun hm => by obtain ⟨g, e, h1, h2⟩ := h.2.1 (ei hj hm); exact ⟨g, e, h1, by omega⟩, fun h1 h2 => h.2.2 (ei hi h1) (ei hj h2)⟩
theorem Fresh2.first {n0 i j : Nat} {D : List Nat} {vals : Nat → Value} {w w' : World} (h : Fresh2 n0 i j D vals w) (hij : i ≠ j) (h0 : n0 ≤ w.heap.size) (hs : w.heap.size < w'.heap.size) : Fresh2 n0 i j (D ++ [i]) (fun x => if x = i then .pointer (some ⟨w.heap.size, 0, none⟩) else vals x) w' := by
  have ej : j ∈ D ++ [i] → j ∈ D := fun hm => by
    rcases List.mem_append.1 hm with h | h
    · exact h
    · exact absurd (List.mem_singleton.1 h) (Ne.symm hij)
  have hvj : (if j = i then Value.pointer (some ⟨w.heap.size, 0, none⟩) else vals j) = vals j := if_neg (Ne.symm hij)
  unfold Fresh2
  simp only [hvj, if_true]
  refine ⟨fun _ => ⟨_, rfl, h0, hs⟩, fun hm => ?_, fun _ hm => ?_⟩
  · obtain ⟨g, e, h1, h2⟩ := h.2.1 (ej hm); exact ⟨g, e, h1, by omega⟩
  · obtain ⟨g, e, h1, h2⟩ := h.2.1 (ej hm)
    rw [e]
    intro e2
    injection e2 with e2
    injection e2 with e2
    injection e2 with e2
    omega
theorem Fresh2.second {n0 i j : Nat} {D : List Nat} {vals : Nat → Value} {w w' : World} (h : Fresh2 n0 i j D vals w) (hij : i ≠ j) (h0 : n0 ≤ w.heap.size) (hs : w.heap.size < w'.heap.size) : Fresh2 n0 i j (D ++ [j]) (fun x => if x = j then .pointer (some ⟨w.heap.size, 0, none⟩) else vals x) w' := by
  have h' : Fresh2 n0 j i D vals w := ⟨h.2.1, h.1, fun a b e => h.2.2 b a e.symm⟩
  have h2 := h'.first (Ne.symm hij) h0 hs
  exact ⟨h2.2.1, h2.1, fun a b e => h2.2.2 b a e.symm⟩
end
end RelV
end Go.Proofs.Ytiakgcaflnpmeaa
namespace Go.Proofs.Ytiakgcaflnpmeaa
open Go Go.RowKit
namespace RelG
open Rel hiding okOp ok okOp_spec exec_same Step Steps any_rel region_any region_all region_full

theorem yes {c : Bool} {a b : Prop} (h : c = true) (ha : a) : if c = true then a else b := by rw [if_pos h]; exact ha
theorem no {c : Bool} {a b : Prop} (h : c = false) (hb : b) : if c = true then a else b := by rw [if_neg (by rw [h]; decide)]; exact hb
section
variable {P : Program} {ops : Array Oper} {Q : Exit → Act → World → Prop}

/-- What is asked of the region's text: no selects; each slot is written once; an operation looks at no slot that another writes, but for those that it waits for; it waits for earlier ones alone; and the operations from m on wait for all before m. -/
def okOp (ops : Array Oper) (i : Nat) (o : Oper) : Bool :=
  true && (match o.op with | .select .. => false | .defer .. => false | _ => true) &&
  (deps o).all (fun j => decide (j < i)) &&
  (o.after.toList.all fun e => !Region.binds .any e || decide (e.on < i)) &&
  (List.range ops.size).all fun j => match dst ops j with
    | none => true
    | some d => j == i || ((o.dst != some d) && (!(o.looksAt ops).contains d || (deps o).contains j))
def ok (ops : Array Oper) (m : Nat) : Bool :=
  decide (m ≤ ops.size) &&
  ((List.range ops.size).all fun i => match ops[i]? with | none => false | some o => okOp ops i o && (match o.dst with | some d => !(o.looksAt ops).contains d | none => true)) &&
  ((List.range ops.size).all fun i => decide (i < m) || (List.range m).all fun j => (anc ops ops.size i).contains j)

theorem okOp_spec {i : Nat} {o : Oper} (h : okOp ops i o = true) : True ∧ (∀ cs b, o.op ≠ .select cs b) ∧ (∀ c, o.op ≠ .defer c) ∧ (∀ j ∈ deps o, j < i) ∧
    (∀ j d, dst ops j = some d → j ≠ i → o.dst ≠ some d ∧ (d ∈ o.looksAt ops → j ∈ deps o)) := by
  unfold okOp at h
  simp only [Bool.and_eq_true, List.all_eq_true, List.mem_range, decide_eq_true_eq] at h
  obtain ⟨⟨⟨⟨_, h2⟩, h3⟩, _⟩, h5⟩ := h
  refine ⟨trivial, ?_, ?_, h3, ?_⟩
  · intro cs b e; rw [e] at h2; simp at h2
  · intro c e; rw [e] at h2; simp at h2
  · intro j d hd hne
    have hj : j < ops.size := by
      rcases Nat.lt_or_ge j ops.size with h6 | h6
      · exact h6
      · simp [dst, Array.getElem?_eq_none h6] at hd
    have h6 := h5 j hj
    rw [hd] at h6
    simp only [Bool.or_eq_true, beq_iff_eq, hne, false_or, Bool.and_eq_true, bne_iff_ne, ne_eq, Bool.not_eq_true', List.contains_eq_mem, decide_eq_true_eq, decide_eq_false_iff_not] at h6
    exact ⟨h6.1, fun hm => h6.2.resolve_left (fun h7 => h7 hm)⟩

/-- An operation sees the same. -/
theorem exec_same {vals : Nat → Value} (ho : Once ops) {i : Nat} {o : Oper} (hok : okOp ops i o = true) (hi : ops[i]? = some o) {L : List Nat} (a : Act) (hL : ∀ j ∈ deps o, j ∈ L) (hself : ∀ d, o.dst = some d → d ∉ o.looksAt ops) :
    execOp (putL ops vals L a).eval o = execOp (putL ops vals (need ops o) a).eval o := by
  obtain ⟨_, hs, _, _, hl⟩ := okOp_spec hok
  refine execOp_congr o hs fun x hx => ?_
  cases x with
  | tmp t =>
    have hlook : t ∈ o.looksAt ops := List.mem_append_left _ (List.mem_filterMap.2 ⟨.tmp t, by simpa using hx, rfl⟩)
    have := putL_slot (vals := vals) ho (t := t) (L := L) (L' := need ops o) a (fun j hj => by
      by_cases hji : j = i
      · subst hji
        exfalso
        exact hself t (by simpa [dst, hi] using hj) hlook
      · have := (hl j t hj hji).2 hlook
        exact ⟨fun _ => need_of this hj hlook, fun _ => hL j this⟩)
    simp [Act.eval, Array.getD_eq_getD_getElem?, this]
  | _ => rfl

/-- Whether it is wanted is the same too. -/
theorem wanted_same {vals : Nat → Value} (ho : Once ops) {i : Nat} {o : Oper} (hok : okOp ops i o = true) (hi : ops[i]? = some o) {L : List Nat} (a : Act) (hL : ∀ j ∈ deps o, j ∈ L) (hself : ∀ d, o.dst = some d → d ∉ o.looksAt ops) :
    Region.wanted o (yielded ops (putL ops vals L a).tmps) = Region.wanted o (yielded ops (putL ops vals (need ops o) a).tmps) := by
  obtain ⟨_, _, _, _, hl⟩ := okOp_spec hok
  unfold Region.wanted
  cases hg : o.guard with
  | none => rfl
  | some gw =>
    obtain ⟨g, want⟩ := gw
    have hy : yielded ops (putL ops vals L a).tmps g = yielded ops (putL ops vals (need ops o) a).tmps g := by
      unfold yielded
      cases ht : (ops[g]?).bind (·.dst) with
      | none => rfl
      | some t =>
        have hlook : t ∈ o.looksAt ops := by simp [Oper.looksAt, hg, ht]
        have := putL_slot (vals := vals) ho (t := t) (L := L) (L' := need ops o) a (fun j hj => by
          by_cases hji : j = i
          · subst hji
            exfalso
            exact hself t (by simpa [dst, hi] using hj) hlook
          · have := (hl j t hj hji).2 hlook
            exact ⟨fun _ => need_of this hj hlook, fun _ => hL j this⟩)
        simp [this]
    simp only [hy]
/-- The operation i, walked from what it looks at alone. -/
def Step (P : Program) (ops : Array Oper) (R : List (Value → World → Prop)) (E : List Nat → (Nat → Value) → World → Prop) (T : World → World → Prop) (a0 : Act) (i : Nat) (o : Oper) (L : List Nat) : Prop :=
  ∀ (vals : Nat → Value) (w : World) (D : List Nat), E D vals w → Free ops i D → AllR R vals w L → ∀ K : Act → World → Prop,
    (∀ v w', (R.getD i (fun _ _ => True)) v w' → T w w' → E (D ++ [i]) (fun k => if k = i then v else vals k) w' → K ((putL ops vals L a0).put o.dst v) w') → if Region.wanted o (yielded ops (putL ops vals L a0).tmps) = true then Oper.wp P o (putL ops vals L a0) w K (fun _ _ _ => False) else K ((putL ops vals L a0).put o.dst undef) w
/-- All operations from i on, up to m. -/
def Steps (P : Program) (ops : Array Oper) (R : List (Value → World → Prop)) (E : List Nat → (Nat → Value) → World → Prop) (T : World → World → Prop) (a0 : Act) (i m : Nat) : Prop :=
  ∀ j o, i ≤ j → j < m → ops[j]? = some o → Step P ops R E T a0 j o (need ops o)
theorem Steps.done {R : List (Value → World → Prop)} {E : List Nat → (Nat → Value) → World → Prop} {T : World → World → Prop} {a0 : Act} {m : Nat} : Steps P ops R E T a0 m m := fun j o h1 h2 _ => absurd h2 (by omega)
theorem Steps.cons {R : List (Value → World → Prop)} {E : List Nat → (Nat → Value) → World → Prop} {T : World → World → Prop} {a0 : Act} {i m : Nat} {o : Oper} {L : List Nat} (ho : ops[i]? = some o) (hL : need ops o = L)
    (h : Step P ops R E T a0 i o L) (hs : Steps P ops R E T a0 (i + 1) m) : Steps P ops R E T a0 i m := by
  intro j oj h1 h2 hoj
  rcases Nat.lt_or_ge i j with h3 | h3
  · exact hs j oj (by omega) h2 hoj
  · obtain rfl : j = i := by omega
    rw [ho] at hoj
    injection hoj with hoj
    subst hoj
    rw [hL]; exact h

/-- THE LAW: the first m operations by relations; then what is left, from a state in which all of them are there. -/
theorem any_rel {R : List (Value → World → Prop)} {E : List Nat → (Nat → Value) → World → Prop} {T : World → World → Prop} {a0 : Act} {m : Nat} (hok : ok ops m = true)
    (hstable : ∀ D vals i v w w', i < m → E D vals w → T w w' → (R.getD i (fun _ _ => True)) v w → (R.getD i (fun _ _ => True)) v w')
    (hops : Steps P ops R E T a0 0 m)
    (hend : ∀ vals w D, (∀ j, j ∈ D ↔ j < m) → E D vals w → AllR R vals w (List.range m) → ∀ listed : Array Bool, listed.size = ops.size → (∀ i, i < ops.size → (listed.getD i true = true ↔ i < m)) → wpAny P .any ops Q (ops.size - m) listed (putL ops vals (List.range m) a0) w) :
    ∀ (fuel : Nat) (listed : Array Bool) (L : List Nat) (vals : Nat → Value) (w : World), L.Nodup → (∀ i, i ∈ L → i < m) → L.length + fuel = ops.size → listed.size = ops.size → (∀ i, i < ops.size → (listed.getD i true = true ↔ i ∈ L)) →
      (∀ i ∈ L, ∀ o, ops[i]? = some o → ∀ j ∈ deps o, j ∈ L) → E L vals w → AllR R vals w L → wpAny P .any ops Q fuel listed (putL ops vals L a0) w := by
  unfold ok at hok
  simp only [Bool.and_eq_true, List.all_eq_true, List.mem_range, decide_eq_true_eq] at hok
  obtain ⟨⟨hm, hall⟩, htail⟩ := hok
  have hall' : ∀ i o, ops[i]? = some o → okOp ops i o = true ∧ (∀ d, o.dst = some d → d ∉ o.looksAt ops) := by
    intro i o ho
    have := hall i (Array.getElem?_eq_some_iff.1 ho).1
    rw [ho] at this
    simp only [Bool.and_eq_true] at this
    refine ⟨this.1, fun d hd => ?_⟩
    have h2 := this.2
    rw [hd] at h2
    simpa using h2
  have honce : Once ops := by
    intro i j d hi hj
    rcases Nat.decEq j i with h | h
    · exfalso
      cases ho : ops[i]? with
      | none => simp [dst, ho] at hi
      | some o =>
        have h1 := (okOp_spec (hall' i o ho).1).2.2.2.2 j d hj h
        exact h1.1 (by simpa [dst, ho] using hi)
    · exact h
  intro fuel
  induction fuel with
  | zero =>
    intro listed L vals w hnd hlt hlen hls hlist hdown hEw hR
    -- all are listed: m is the size
    have hperm : ∀ j, j ∈ L ↔ j ∈ List.range m := by
      have hsub : L.length ≤ m := by
        have := List.Nodup.length_le_of_subset hnd (l₂ := List.range m) (fun x hx => List.mem_range.2 (hlt x hx))
        simpa using this
      have hmm : m = ops.size := by omega
      intro j
      refine ⟨fun h => List.mem_range.2 (hlt j h), fun h => ?_⟩
      rcases Classical.em (j ∈ L) with h1 | h1
      · exact h1
      · exfalso
        have h2 : (j :: L).Nodup := List.nodup_cons.2 ⟨h1, hnd⟩
        have h3 := List.Nodup.length_le_of_subset h2 (l₂ := List.range m) (fun x hx => by
          rcases List.mem_cons.1 hx with rfl | hx
          · exact h
          · exact List.mem_range.2 (hlt x hx))
        simp at h3
        omega
    rw [putL_perm honce a0 hperm]
    have hsz : ops.size - m = 0 := by
      have := List.Nodup.length_le_of_subset hnd (l₂ := List.range m) (fun x hx => List.mem_range.2 (hlt x hx))
      simp at this
      omega
    have := hend vals w L (fun j => (hperm j).trans List.mem_range) hEw (AllR.mem.2 fun j hj => AllR.mem.1 hR j ((hperm j).2 hj)) listed hls (fun i hi => by rw [hlist i hi, hperm i, List.mem_range])
    rw [hsz] at this
    exact this
  | succ fuel ih =>
    intro listed L vals w hnd hlt hlen hls hlist hdown hEw hR
    by_cases hfull : ∀ j, j < m → j ∈ L
    · -- all of the first m are there
      have hperm : ∀ j, j ∈ L ↔ j ∈ List.range m := fun j => ⟨fun h => List.mem_range.2 (hlt j h), fun h => hfull j (List.mem_range.1 h)⟩
      rw [putL_perm honce a0 hperm]
      have hsz : ops.size - m = fuel + 1 := by
        have h1 := List.Nodup.length_le_of_subset hnd (l₂ := List.range m) (fun x hx => List.mem_range.2 (hlt x hx))
        have h2 := List.Nodup.length_le_of_subset List.nodup_range (l₁ := List.range m) (l₂ := L) (fun x hx => hfull x (List.mem_range.1 hx))
        simp at h1 h2
        omega
      have := hend vals w L (fun j => (hperm j).trans List.mem_range) hEw (AllR.mem.2 fun j hj => AllR.mem.1 hR j ((hperm j).2 hj)) listed hls (fun i hi => by rw [hlist i hi, hperm i, List.mem_range])
      rw [hsz] at this
      exact this
    · -- some operation below m comes up next
      have hex : ∃ j, j < m ∧ j ∉ L := by
        rcases Classical.em (∃ j, j < m ∧ j ∉ L) with h | h
        · exact h
        · exfalso
          exact hfull fun j hj => by
            rcases Classical.em (j ∈ L) with h1 | h1
            · exact h1
            · exact absurd ⟨j, hj, h1⟩ h
      have hready : ∀ i, i ∈ Region.ready .any ops listed → i < m ∧ i ∉ L ∧ ∃ o, ops[i]? = some o ∧ ∀ j ∈ deps o, j ∈ L := by
        intro i hi
        obtain ⟨h0, o, ho, hdep⟩ := mem_ready.1 hi
        have hisz := (Array.getElem?_eq_some_iff.1 ho).1
        have hnL : i ∉ L := fun h => by rw [(hlist i hisz).2 h] at h0; cases h0
        have hdL : ∀ j ∈ deps o, j ∈ L := by
          intro j hj
          obtain ⟨e, he, rfl⟩ := List.mem_map.1 hj
          obtain ⟨he1, he2⟩ := List.mem_filter.1 he
          have h1 := hdep e (by simpa using he1) he2
          have hjlt := (okOp_spec (hall' i o ho).1).2.2.2.1 e.on hj
          have h2 : listed.getD e.on true = true := by
            have hsz2 : e.on < listed.size := by omega
            simp [hsz2] at h1 ⊢; exact h1
          exact (hlist e.on (by omega)).1 h2
        refine ⟨?_, hnL, o, ho, hdL⟩
        rcases Nat.lt_or_ge i m with h1 | h1
        · exact h1
        · exfalso
          obtain ⟨j, hj, hjL⟩ := hex
          have h2 := htail i hisz
          simp only [Bool.or_eq_true, decide_eq_true_eq, List.all_eq_true, List.mem_range] at h2
          have h3 := h2.resolve_left (by omega) j hj
          exact hjL (anc_listed hdown ops.size i (fun o' ho' => by rw [ho] at ho'; injection ho' with e; rw [← e]; exact hdL) j (by simpa using h3))
      refine ⟨fun h0 => ?_, fun i hi => ?_⟩
      · -- the least that is not there is ready
        exfalso
        have hleast : ∃ j, j < m ∧ j ∉ L ∧ ∀ k, k < j → k ∈ L := by
          obtain ⟨j, hj, hjL⟩ := hex
          induction j using Nat.strongRecOn with
          | _ j ihj =>
            rcases Classical.em (∀ k, k < j → k ∈ L) with h | h
            · exact ⟨j, hj, hjL, h⟩
            · obtain ⟨k, hk⟩ := Classical.not_forall.1 h
              obtain ⟨hkj, hkL⟩ := Classical.not_imp.1 hk
              exact ihj k hkj (by omega) hkL
        obtain ⟨j, hj, hjL, hbel⟩ := hleast
        have hjsz : j < ops.size := by omega
        obtain ⟨o, ho⟩ : ∃ o, ops[j]? = some o := ⟨_, Array.getElem?_eq_getElem hjsz⟩
        have : j ∈ Region.ready .any ops listed := by
          refine mem_ready.2 ⟨?_, o, ho, fun e he hb => ?_⟩
          · cases hc : listed.getD j true with
            | false => rfl
            | true => exact absurd ((hlist j hjsz).1 hc) hjL
          · have hmem : e.on ∈ deps o := List.mem_map.2 ⟨e, List.mem_filter.2 ⟨by simpa using he, hb⟩, rfl⟩
            have hlt2 := (okOp_spec (hall' j o ho).1).2.2.2.1 e.on hmem
            have h2 := (hlist e.on (by omega)).2 (hbel e.on hlt2)
            have hsz2 : e.on < listed.size := by omega
            simp [hsz2] at h2 ⊢; exact h2
        rw [h0] at this
        cases this
      · obtain ⟨him, hiL, o, ho, hdL⟩ := hready i hi
        have hspec := okOp_spec (hall' i o ho).1
        have hfree : Free ops i L := ⟨hiL, fun j hj => by
          rw [← Bool.not_eq_true, List.contains_eq_mem, decide_eq_true_eq]
          intro hm
          exact hiL (anc_listed hdown ops.size j (fun o' ho' => hdown j hj o' ho') i hm)⟩
        have hst := hops i o (Nat.zero_le _) him ho vals w L hEw hfree (AllR.mem.2 fun j hj => AllR.mem.1 hR j (hdL j (need_deps hj)))
        have hex2 := exec_same (vals := vals) honce (hall' i o ho).1 ho a0 hdL (hall' i o ho).2
        have hisz : i < ops.size := by omega
        have hdsti : dst ops i = o.dst := by simp [dst, ho]
        -- what follows, from the result on
        have hnext : ∀ v w', (R.getD i (fun _ _ => True)) v w' → T w w' → E (L ++ [i]) (fun k => if k = i then v else vals k) w' → wpAny P .any ops Q fuel (listed.setIfInBounds i true) ((putL ops vals L a0).put o.dst v) w' := by
          intro v w' hv hT hEL
          have hvals : ∀ j ∈ L, vals j = (fun k => if k = i then v else vals k) j := by
            intro j hj
            have : j ≠ i := fun e => hiL (e ▸ hj)
            simp [this]
          have := ih (listed.setIfInBounds i true) (L ++ [i]) (fun k => if k = i then v else vals k) w'
            (by rw [List.nodup_append]; exact ⟨hnd, by simp, by simp; intro a ha e; exact hiL (e ▸ ha)⟩)
            (by intro k hk; rcases List.mem_append.1 hk with h | h; exact hlt k h; simp at h; omega)
            (by simp; omega) (by simp [hls])
            (by
              intro k hk
              by_cases hki : i = k
              · subst hki
                have : i < listed.size := by omega
                simp [this]
              · rw [getD_set_ne true hki, hlist k hk]; simp [Ne.symm hki])
            (by
              intro k hk o' ho' j hj
              rcases List.mem_append.1 hk with h | h
              · exact List.mem_append_left _ (hdown k h o' ho' j hj)
              · simp at h
                subst h
                rw [ho] at ho'
                injection ho' with e
                subst e
                exact List.mem_append_left _ (hdL j hj))
            hEL
            (AllR.mem.2 (by
              intro k hk
              by_cases hki : k = i
              · subst hki; simpa using hv
              · rcases List.mem_append.1 hk with h | h
                · simp only [hki, if_false]
                  exact hstable L vals k _ w w' (hlt k h) hEw hT (AllR.mem.1 hR k h)
                · simp at h; exact absurd h hki))
          rw [putL_snoc, hdsti, ← putL_congr L a0 hvals] at this
          simpa using this
        have hws := wanted_same (vals := vals) honce (hall' i o ho).1 ho a0 hdL (hall' i o ho).2
        have hgo := hst (fun a' w' => ∃ v, a' = (putL ops vals (need ops o) a0).put o.dst v ∧ (R.getD i (fun _ _ => True)) v w' ∧ T w w' ∧ E (L ++ [i]) (fun k => if k = i then v else vals k) w') (fun v w' h1 h2 h3 => ⟨v, rfl, h1, h2, h3⟩)
        -- the result's value can be read off where there is a slot; where there is none it does not matter
        have hput : ∀ (u v : Value), (putL ops vals (need ops o) a0).put o.dst u = (putL ops vals (need ops o) a0).put o.dst v → (putL ops vals L a0).put o.dst u = (putL ops vals L a0).put o.dst v := by
          intro u v h
          cases hd : o.dst with
          | none => rfl
          | some d =>
            rw [hd] at h
            simp only [Act.put] at h ⊢
            have h1 : (putL ops vals (need ops o) a0).tmps.setIfInBounds d u = (putL ops vals (need ops o) a0).tmps.setIfInBounds d v := congrArg Act.tmps h
            have hsize : ∀ (M : List Nat) (a : Act), (putL ops vals M a).tmps.size = a.tmps.size := by
              intro M
              induction M with
              | nil => intro a; rfl
              | cons j M ihM =>
                intro a
                rw [putL, ihM]
                cases dst ops j <;> simp [Act.put]
            by_cases hdb : d < a0.tmps.size
            · have h2 := congrArg (fun t => t[d]?) h1
              simp [hsize, hdb] at h2
              rw [h2]
            · have : ∀ z : Value, (putL ops vals L a0).tmps.setIfInBounds d z = (putL ops vals L a0).tmps := by
                intro z
                have hsz := hsize L a0
                have hle : (putL ops vals L a0).tmps.size ≤ d := by rw [hsz]; exact Nat.le_of_not_lt hdb
                exact Array.setIfInBounds_eq_of_size_le hle
              rw [this, this]
        unfold wpOp
        simp only [ho]
        by_cases hw : Region.wanted o (yielded ops (putL ops vals (need ops o) a0).tmps) = true
        · rw [if_pos hw] at hgo
          rw [hws, if_pos hw]
          refine .inl ?_
          unfold Oper.wp at hgo ⊢
          rw [hex2]
          generalize (execOp (putL ops vals (need ops o) a0).eval o).run P w = r at hgo ⊢
          cases r with
          | ok n w1 =>
            cases n with
            | value u =>
              simp only [Oper.upon] at hgo ⊢
              obtain ⟨v, h1, h2, h3, h4⟩ := hgo
              rw [hput u v h1]
              exact hnext v w1 h2 h3 h4
            | skip =>
              simp only [Oper.upon] at hgo ⊢
              obtain ⟨v, h1, h2, h3, h4⟩ := hgo
              rw [hput undef v h1]
              exact hnext v w1 h2 h3 h4
            | defer d =>
              simp only [Oper.upon] at hgo
              obtain ⟨v, h1, _⟩ := hgo
              exfalso
              have h2 := congrArg Act.defers h1
              have h3 : ∀ (a : Act) (x : Option Tmp) (z : Value), (a.put x z).defers = a.defers := by intro a x z; cases x <;> rfl
              rw [h3, h3] at h2
              have h4 := congrArg List.length h2
              simp at h4
            | enter f args =>
              simp only [Oper.upon] at hgo ⊢
              refine Calls.mono hgo fun e w2 he => ?_
              cases e with
              | returned u =>
                simp only at he ⊢
                obtain ⟨v, h1, h2, h3, h4⟩ := he
                rw [hput u v h1]
                exact hnext v w2 h2 h3 h4
              | panicked c => exact False.elim he
              | outgrown => 
                obtain ⟨_, _, hf⟩ := he
                exact hf.elim
            | row row args =>
              simp only [Oper.upon] at hgo ⊢
              refine Rows.mono hgo fun u w2 he => ?_
              obtain ⟨v, h1, h2, h3, h4⟩ := he
              rw [hput u v h1]
              exact hnext v w2 h2 h3 h4
            | _ => exact False.elim hgo
          | halt x w1 => cases x <;> exact False.elim hgo
        · rw [if_neg hw] at hgo
          rw [hws, if_neg hw]
          obtain ⟨v, h1, h2, h3, h4⟩ := hgo
          rw [hput undef v h1]
          exact hnext v w h2 h3 h4

theorem region_any {R : List (Value → World → Prop)} {E : List Nat → (Nat → Value) → World → Prop} {T : World → World → Prop} {l : List Oper} {id : Nat} {a : Act} {w : World} (m : Nat) (hf : P.follows .mixedOrders = true) (hok : ok l.toArray m = true) (hE0 : ∀ vals, E [] vals w.drew)
    (hstable : ∀ D vals i v w w', i < m → E D vals w → T w w' → (R.getD i (fun _ _ => True)) v w → (R.getD i (fun _ _ => True)) v w')
    (hops : Steps P l.toArray R E T a 0 m)
    (hend : ∀ vals w D, (∀ j, j ∈ D ↔ j < m) → E D vals w → AllR R vals w (List.range m) → wpAny P .any l.toArray Q (l.length - m) (listedTo l.length m) (putL l.toArray vals (List.range m) a) w) : (Code.region id l.toArray true).wp P Q a w := by
  refine wp_region_any hf ?_
  have h0 : ∀ i, i < l.toArray.size → ((Array.replicate l.toArray.size false).getD i true = true ↔ i ∈ ([] : List Nat)) := by
    intro i hi
    simp at hi
    simp [hi]
  exact any_rel (Q := Q) hok hstable hops (fun vals w D hd h1 h2 listed h3 h4 => by
    rw [listedTo_eq h3 h4]
    simpa using hend vals w D hd h1 h2) l.toArray.size (Array.replicate l.toArray.size false) [] (fun _ => undef) w.drew (by simp) (by simp) (by simp) (by simp) h0 (by simp) (hE0 _) trivial
/-- ALL by relations. -/
theorem region_all {R : List (Value → World → Prop)} {E : List Nat → (Nat → Value) → World → Prop} {T : World → World → Prop} {l : List Oper} {id : Nat} {a : Act} {w : World} (hf : P.follows .mixedOrders = true) (hok : ok l.toArray l.length = true) (hE0 : ∀ vals, E [] vals w.drew)
    (hstable : ∀ D vals i v w w', i < l.length → E D vals w → T w w' → (R.getD i (fun _ _ => True)) v w → (R.getD i (fun _ _ => True)) v w')
    (hops : Steps P l.toArray R E T a 0 l.length)
    (hend : ∀ vals w D, (∀ j, j ∈ D ↔ j < l.length) → E D vals w → AllR R vals w (List.range l.length) → Q .normal (putL l.toArray vals (List.range l.length) a) w) : (Code.region id l.toArray true).wp P Q a w := by
  refine region_any l.length hf hok hE0 hstable hops fun vals w D hd h1 h2 => ?_
  rw [Nat.sub_self]
  exact ⟨by have := ready_full (ops := l.toArray); simpa using this, hend vals w D hd h1 h2⟩
/-- ALL by relations, the numbers written out. -/
theorem region_full {R : List (Value → World → Prop)} {E : List Nat → (Nat → Value) → World → Prop} {T : World → World → Prop} {l : List Oper} {id : Nat} {a : Act} {w : World} (m : Nat) (LL : List Nat) (hm : l.length = m) (hLL : List.range m = LL)
    (hf : P.follows .mixedOrders = true) (hok : ok l.toArray m = true) (hE0 : ∀ vals, E [] vals w.drew)
    (hstable : ∀ D vals i v w w', i < m → E D vals w → T w w' → (R.getD i (fun _ _ => True)) v w → (R.getD i (fun _ _ => True)) v w')
    (hops : Steps P l.toArray R E T a 0 m)
    (hend : ∀ vals w D, (∀ j, j ∈ D ↔ j < m) → E D vals w → AllR R vals w LL → Q .normal (putL l.toArray vals LL a) w) : (Code.region id l.toArray true).wp P Q a w := by
  subst hm hLL
  exact region_all hf hok hE0 hstable hops hend
theorem mem_ready_chain {ops : Array Oper} {m k : Nat} (hok : ok ops m = true) (hch : ∀ i, m ≤ i → i < ops.size → ∀ j, j < i → j ∈ anc ops ops.size i) (hmk : m ≤ k) (hk : k < ops.size) :
    k ∈ Region.ready .any ops (listedTo ops.size k) ∧ ∀ i, i ∈ Region.ready .any ops (listedTo ops.size k) → i = k := by
  unfold ok at hok
  simp only [Bool.and_eq_true, List.all_eq_true, List.mem_range, decide_eq_true_eq] at hok
  obtain ⟨⟨_, hall⟩, _⟩ := hok
  have hdep : ∀ i o, ops[i]? = some o → ∀ j ∈ deps o, j < i := by
    intro i o ho
    have := hall i (Array.getElem?_eq_some_iff.1 ho).1
    rw [ho] at this
    simp only [Bool.and_eq_true] at this
    exact (okOp_spec this.1).2.2.2.1
  have hget : ∀ i d, i < ops.size → (listedTo ops.size k).getD i d = decide (i < k) := by
    intro i d hi
    simp [listedTo, hi]
  obtain ⟨o, ho⟩ : ∃ o, ops[k]? = some o := ⟨_, Array.getElem?_eq_getElem hk⟩
  refine ⟨mem_ready.2 ⟨by rw [hget _ _ hk]; simp, o, ho, fun e he hb => ?_⟩, fun i hi => ?_⟩
  · have := hdep k o ho e.on (List.mem_map.2 ⟨e, List.mem_filter.2 ⟨by simpa using he, hb⟩, rfl⟩)
    rw [hget _ _ (by omega), decide_eq_true this]
  · obtain ⟨h3, o', ho', hd'⟩ := mem_ready.1 hi
    have hisz := (Array.getElem?_eq_some_iff.1 ho').1
    rw [hget _ _ hisz] at h3
    have hik : k ≤ i := by have := of_decide_eq_false h3; omega
    rcases Nat.lt_or_ge k i with h4 | h4
    · exfalso
      have hmem := hch i (by omega) hisz k h4
      have hL : ∀ j ∈ anc ops ops.size i, j ∈ List.range k := anc_listed (L := List.range k) (fun i' hi' o'' ho'' j hj => by
          have := hdep i' o'' ho'' j hj
          have h5 := List.mem_range.1 hi'
          exact List.mem_range.2 (by omega)) ops.size i (fun o'' ho'' j hj => by
        rw [ho'] at ho''
        injection ho'' with e
        subst e
        obtain ⟨e, he, rfl⟩ := List.mem_map.1 hj
        obtain ⟨he1, he2⟩ := List.mem_filter.1 he
        have h1 := hd' e (by simpa using he1) he2
        have hlt := hdep i o' ho' e.on hj
        rw [hget _ _ (by omega)] at h1
        exact List.mem_range.2 (of_decide_eq_true h1))
      have := List.mem_range.1 (hL k hmem)
      omega
    · omega
theorem chain_any {ops : Array Oper} {m : Nat} (hok : ok ops m = true) (hch : ∀ i, m ≤ i → i < ops.size → ∀ j, j < i → j ∈ anc ops ops.size i) :
    ∀ (n k : Nat), m ≤ k → k + n = ops.size → ∀ (a : Act) (w : World), wpList P ops Q (ops.toList.drop k) a w → wpAny P .any ops Q n (listedTo ops.size k) a w := by
  intro n
  induction n with
  | zero =>
    intro k _ hk a w h
    have hkk : k = ops.size := by omega
    subst hkk
    rw [List.drop_of_length_le (by simp)] at h
    exact ⟨ready_full, h⟩
  | succ n ih =>
    intro k hmk hk a w h
    have hks : k < ops.size := by omega
    obtain ⟨hmem, huniq⟩ := mem_ready_chain hok hch hmk hks
    obtain ⟨o, ho⟩ : ∃ o, ops[k]? = some o := ⟨_, Array.getElem?_eq_getElem hks⟩
    have hdrop : ops.toList.drop k = o :: ops.toList.drop (k + 1) := by
      have := List.drop_eq_getElem_cons (l := ops.toList) (i := k) (by simpa using hks)
      rw [this]
      congr 1
      have h2 := (Array.getElem?_eq_some_iff.1 ho).2
      simpa using h2
    rw [hdrop] at h
    refine ⟨fun h0 => (by rw [h0] at hmem; cases hmem), fun i hi => ?_⟩
    obtain rfl : i = k := huniq i hi
    have hset : (listedTo ops.size i).setIfInBounds i true = listedTo ops.size (i + 1) := by
      refine listedTo_eq (by simp [listedTo]) fun j hj => ?_
      by_cases hij : i = j
      · subst hij; simp [listedTo, hj]
      · rw [getD_set_ne true hij]; simp [listedTo, hj]; omega
    rw [hset]
    unfold wpOp
    simp only [ho]
    unfold wpList at h
    split
    · rename_i hw
      rw [if_pos hw] at h
      rcases h with h | h
      · exact .inl (Oper.wp_mono (fun a w h => ih (i + 1) (by omega) (by omega) a w h) h)
      · exact .inr h
    · rename_i hw
      rw [if_neg hw] at h
      exact ih (i + 1) (by omega) (by omega) _ _ h
/-- The first m by relations; the rest, each of which waits for all before it, in the order of the text. -/
theorem region_rest {R : List (Value → World → Prop)} {E : List Nat → (Nat → Value) → World → Prop} {T : World → World → Prop} {l : List Oper} {id : Nat} {a : Act} {w : World} (m : Nat) (LL : List Nat) (l2 : List Oper) (hl2 : l.drop m = l2) (hLL : List.range m = LL)
    (hf : P.follows .mixedOrders = true) (hok : ok l.toArray m = true) (hch : ((List.range l.length).all fun i => decide (i < m) || ((List.range i).all fun j => (anc l.toArray l.toArray.size i).contains j)) = true) (hE0 : ∀ vals, E [] vals w.drew)
    (hstable : ∀ D vals i v w w', i < m → E D vals w → T w w' → (R.getD i (fun _ _ => True)) v w → (R.getD i (fun _ _ => True)) v w')
    (hops : Steps P l.toArray R E T a 0 m)
    (hend : ∀ vals w D, (∀ j, j ∈ D ↔ j < m) → E D vals w → AllR R vals w LL → wpList P l.toArray Q l2 (putL l.toArray vals LL a) w) : (Code.region id l.toArray true).wp P Q a w := by
  subst hl2 hLL
  have hmle : m ≤ l.length := by
    have := hok
    unfold ok at this
    simp only [Bool.and_eq_true, decide_eq_true_eq] at this
    simpa using this.1.1
  have hch' : ∀ i, m ≤ i → i < l.toArray.size → ∀ j, j < i → j ∈ anc l.toArray l.toArray.size i := by
    intro i hi hil j hj
    have h1 := List.all_eq_true.1 hch i (List.mem_range.2 (by simpa using hil))
    simp only [Bool.or_eq_true, decide_eq_true_eq, List.all_eq_true, List.mem_range] at h1
    have h2 := (h1.resolve_left (by omega)) j hj
    simpa using h2
  refine region_any m hf hok hE0 hstable hops fun vals w D hd h1 h2 => ?_
  exact chain_any hok hch' (l.length - m) m (Nat.le_refl _) (by simp; omega) _ _ (by simpa using hend vals w D hd h1 h2)
end
end RelG
end Go.Proofs.Ytiakgcaflnpmeaa
namespace Go.Proofs.Ytiakgcaflnpmeaa
theorem z1 {α : Type} {l : List α} {i : Nat} : l.toArray[i]? = l[i]? := List.getElem?_toArray
theorem z2 {α : Type} {a : α} {l : List α} : (a :: l)[0]? = some a := List.getElem?_cons_zero
theorem z3 {α : Type} {a : α} {l : List α} {i : Nat} : (a :: l)[i + 1]? = l[i]? := List.getElem?_cons_succ
theorem z4 {α β : Type} (a : α) (f : α → Option β) : (some a).bind f = f a := Option.bind_some a f
theorem z5 {α : Type} (l : List α) (i : Nat) (a : α) : l.toArray.setIfInBounds i a = (l.set i a).toArray := List.setIfInBounds_toArray l i a
theorem z6 {α : Type} {a b : α} {l : List α} : (a :: l).set 0 b = b :: l := List.set_cons_zero
theorem z7 {α : Type} {a b : α} {l : List α} {n : Nat} : (a :: l).set (n + 1) b = a :: l.set n b := List.set_cons_succ
end Go.Proofs.Ytiakgcaflnpmeaa
