/- Removing ears from a set of relations: what is left is as much, whatever is removed first. No program stands here. -/
namespace Acy

/-- A set of relations without one. -/
def oth (E : List Nat) (r : Nat) : List Nat := E.filter fun x => x != r
theorem mem_oth {E : List Nat} {r x : Nat} : x ∈ oth E r ↔ x ∈ E ∧ x ≠ r := by simp [oth]
theorem oth_nodup {E : List Nat} {r : Nat} (h : E.Nodup) : (oth E r).Nodup := by
  unfold oth; rw [← h.erase_eq_filter]; exact h.erase r
theorem oth_len {E : List Nat} {r : Nat} (h : E.Nodup) (hr : r ∈ E) : (oth E r).length = E.length - 1 := by
  unfold oth; rw [← h.erase_eq_filter]; exact List.length_erase_of_mem hr
theorem oth_comm (E : List Nat) (r s : Nat) : oth (oth E r) s = oth (oth E s) r := by
  unfold oth
  rw [List.filter_filter, List.filter_filter]
  congr 1; funext x; exact Bool.and_comm _ _
/-- What a relation of a set shares with another one. -/
def Sh (A : Nat → List Int) (E : List Nat) (x : Nat) (a : Int) : Prop := a ∈ A x ∧ ∃ t, t ∈ E ∧ t ≠ x ∧ a ∈ A t
/-- r is an ear of a set, w its witness. -/
def Ear (A : Nat → List Int) (E : List Nat) (r w : Nat) : Prop := r ∈ E ∧ w ∈ E ∧ w ≠ r ∧ ∀ a, Sh A E r a → a ∈ A w
/-- So many are left where ears are removed as long as there is one. -/
inductive Red (A : Nat → List Int) : List Nat → Nat → Prop
  | stop {E : List Nat} : (∀ r w, ¬ Ear A E r w) → Red A E E.length
  | step {E : List Nat} {r w k : Nat} : Ear A E r w → Red A (oth E r) k → Red A E k
structure Iso (A A' : Nat → List Int) (E E' : List Nat) (f : Nat → Nat) : Prop where
  to : ∀ x, x ∈ E → f x ∈ E'
  onto : ∀ y, y ∈ E' → ∃ x, x ∈ E ∧ f x = y
  inj : ∀ x y, x ∈ E → y ∈ E → f x = f y → x = y
  nd : E.Nodup
  nd' : E'.Nodup
  len : E'.length = E.length
  sh : ∀ x a, x ∈ E → (Sh A E x a ↔ Sh A' E' (f x) a)
theorem sh_oth {A : Nat → List Int} {E : List Nat} {r x : Nat} {a : Int} (hx : x ∈ E) : Sh A (oth E r) x a ↔ Sh A E x a ∧ ∃ t, t ∈ E ∧ t ≠ r ∧ t ≠ x ∧ Sh A E t a := by
  constructor
  · rintro ⟨h1, t, ht, hne, h2⟩
    obtain ⟨ht1, ht2⟩ := mem_oth.1 ht
    exact ⟨⟨h1, t, ht1, hne, h2⟩, t, ht1, ht2, hne, h2, x, hx, fun e => hne e.symm, h1⟩
  · rintro ⟨⟨h1, _⟩, t, ht1, ht2, hne, h2, _⟩
    exact ⟨h1, t, mem_oth.2 ⟨ht1, ht2⟩, hne, h2⟩
theorem Iso.ear {A A' : Nat → List Int} {E E' : List Nat} {f : Nat → Nat} (h : Iso A A' E E' f) {r w : Nat} (he : Ear A E r w) : Ear A' E' (f r) (f w) := by
  obtain ⟨h1, h2, h3, h4⟩ := he
  refine ⟨h.to r h1, h.to w h2, fun e => h3 (h.inj _ _ h2 h1 e), fun a ha => ?_⟩
  have hr := (h.sh r a h1).2 ha
  have hw : Sh A E w a := ⟨h4 a hr, r, h1, fun e => h3 e.symm, hr.1⟩
  exact ((h.sh w a h2).1 hw).1
theorem Iso.ear_of {A A' : Nat → List Int} {E E' : List Nat} {f : Nat → Nat} (h : Iso A A' E E' f) {r w : Nat} (he : Ear A' E' r w) : ∃ r0 w0, Ear A E r0 w0 ∧ f r0 = r := by
  obtain ⟨h1, h2, h3, h4⟩ := he
  obtain ⟨r0, hr0, rfl⟩ := h.onto r h1
  obtain ⟨w0, hw0, rfl⟩ := h.onto w h2
  refine ⟨r0, w0, ⟨hr0, hw0, fun e => h3 (by rw [e]), fun a ha => ?_⟩, rfl⟩
  have hr := (h.sh r0 a hr0).1 ha
  have hw : Sh A' E' (f w0) a := ⟨h4 a hr, f r0, h1, fun e => h3 e.symm, hr.1⟩
  exact ((h.sh w0 a hw0).2 hw).1
theorem Iso.oth {A A' : Nat → List Int} {E E' : List Nat} {f : Nat → Nat} (h : Iso A A' E E' f) {r : Nat} (hr : r ∈ E) : Iso A A' (oth E r) (oth E' (f r)) f where
  to x hx := by
    obtain ⟨h1, h2⟩ := mem_oth.1 hx
    exact mem_oth.2 ⟨h.to x h1, fun e => h2 (h.inj _ _ h1 hr e)⟩
  onto y hy := by
    obtain ⟨h1, h2⟩ := mem_oth.1 hy
    obtain ⟨x, hx, rfl⟩ := h.onto y h1
    exact ⟨x, mem_oth.2 ⟨hx, fun e => h2 (by rw [e])⟩, rfl⟩
  inj x y hx hy := h.inj x y (mem_oth.1 hx).1 (mem_oth.1 hy).1
  nd := oth_nodup h.nd
  nd' := oth_nodup h.nd'
  len := by rw [oth_len h.nd hr, oth_len h.nd' (h.to r hr), h.len]
  sh x a hx := by
    have hx1 := (mem_oth.1 hx).1
    rw [sh_oth hx1, sh_oth (h.to x hx1), h.sh x a hx1]
    constructor
    · rintro ⟨h1, t, ht, h2, h3, h4⟩
      exact ⟨h1, f t, h.to t ht, fun e => h2 (h.inj _ _ ht hr e), fun e => h3 (h.inj _ _ ht hx1 e), (h.sh t a ht).1 h4⟩
    · rintro ⟨h1, t', ht', h2, h3, h4⟩
      obtain ⟨t, ht, rfl⟩ := h.onto t' ht'
      exact ⟨h1, t, ht, fun e => h2 (by rw [e]), fun e => h3 (by rw [e]), (h.sh t a ht).2 h4⟩
theorem Red.iso {A A' : Nat → List Int} {E : List Nat} {k : Nat} (h : Red A E k) : ∀ {E' : List Nat} {f : Nat → Nat}, Iso A A' E E' f → Red A' E' k := by
  induction h with
  | stop hn =>
    intro E' f hi
    rw [← hi.len]
    refine .stop fun r w he => ?_
    obtain ⟨r0, w0, h0, _⟩ := hi.ear_of he
    exact hn _ _ h0
  | step he _ ih =>
    intro E' f hi
    exact .step (hi.ear he) (ih (hi.oth he.1))
theorem red_some (A : Nat → List Int) : ∀ (n : Nat) (E : List Nat), E.Nodup → E.length ≤ n → ∃ k, Red A E k := by
  intro n
  induction n with
  | zero =>
    intro E _ hl
    have : E = [] := List.eq_nil_of_length_eq_zero (by omega)
    subst this
    exact ⟨_, .stop fun r w he => absurd he.1 (by simp)⟩
  | succ n ih =>
    intro E hnd hl
    by_cases h : ∃ r w, Ear A E r w
    · obtain ⟨r, w, he⟩ := h
      have := oth_len hnd he.1
      have hp : 0 < E.length := List.length_pos_of_mem he.1
      obtain ⟨k, hk⟩ := ih (Acy.oth E r) (oth_nodup hnd) (by omega)
      exact ⟨k, .step he hk⟩
    · exact ⟨_, .stop fun r w he => h ⟨r, w, he⟩⟩
/-- Two ears: either may go first, or they share the same with the others. -/
theorem two_ears {A : Nat → List Int} {E : List Nat} {r s v w : Nat} (hnd : E.Nodup) (hr : Ear A E r v) (hs : Ear A E s w) (hne : r ≠ s) :
    ((∃ v', Ear A (oth E s) r v') ∧ ∃ w', Ear A (oth E r) s w') ∨ ∃ f, Iso A A (oth E r) (oth E s) f := by
  by_cases hw : w = r
  · by_cases hv : v = s
    · subst hw hv
      right
      have h1 : ∀ a, Sh A E w a ↔ Sh A E v a := fun a =>
        ⟨fun h => ⟨hr.2.2.2 a h, w, hr.1, hne, h.1⟩, fun h => ⟨hs.2.2.2 a h, v, hs.1, fun e => hne e.symm, h.1⟩⟩
      refine ⟨fun x => if x = v then w else x, ?_, ?_, ?_, oth_nodup hnd, oth_nodup hnd, by rw [oth_len hnd hr.1, oth_len hnd hs.1], ?_⟩
      · intro x hx
        obtain ⟨hx1, hx2⟩ := mem_oth.1 hx
        by_cases e : x = v
        · rw [if_pos e]; exact mem_oth.2 ⟨hr.1, hne⟩
        · rw [if_neg e]; exact mem_oth.2 ⟨hx1, e⟩
      · intro y hy
        obtain ⟨hy1, hy2⟩ := mem_oth.1 hy
        by_cases e : y = w
        · exact ⟨v, mem_oth.2 ⟨hs.1, fun e => hne e.symm⟩, by rw [if_pos rfl, e]⟩
        · exact ⟨y, mem_oth.2 ⟨hy1, e⟩, if_neg hy2⟩
      · intro x y hx hy e
        obtain ⟨hx1, hx2⟩ := mem_oth.1 hx
        obtain ⟨hy1, hy2⟩ := mem_oth.1 hy
        by_cases e1 : x = v
        · by_cases e2 : y = v
          · rw [e1, e2]
          · rw [if_pos e1, if_neg e2] at e; exact absurd e.symm hy2
        · by_cases e2 : y = v
          · rw [if_neg e1, if_pos e2] at e; exact absurd e hx2
          · rw [if_neg e1, if_neg e2] at e; exact e
      · intro x a hx
        obtain ⟨hx1, hx2⟩ := mem_oth.1 hx
        rw [sh_oth hx1]
        by_cases e : x = v
        · subst e
          rw [if_pos rfl, sh_oth hr.1, ← h1]
          constructor
          · rintro ⟨h, t, ht, h2, h3, h4⟩; exact ⟨h, t, ht, h3, h2, h4⟩
          · rintro ⟨h, t, ht, h2, h3, h4⟩; exact ⟨h, t, ht, h3, h2, h4⟩
        · rw [if_neg e, sh_oth hx1]
          constructor
          · rintro ⟨h, t, ht, h2, h3, h4⟩
            by_cases et : t = v
            · subst et; exact ⟨h, w, hr.1, hne, fun e => hx2 e.symm, (h1 a).2 h4⟩
            · exact ⟨h, t, ht, et, h3, h4⟩
          · rintro ⟨h, t, ht, h2, h3, h4⟩
            by_cases et : t = w
            · subst et; exact ⟨h, v, hs.1, fun e => hne e.symm, fun e' => e e'.symm, (h1 a).1 h4⟩
            · exact ⟨h, t, ht, et, h3, h4⟩
    · left
      subst hw
      refine ⟨⟨v, mem_oth.2 ⟨hr.1, hne⟩, mem_oth.2 ⟨hr.2.1, hv⟩, hr.2.2.1, fun a ha => hr.2.2.2 a ((sh_oth hr.1).1 ha).1⟩, ⟨v, mem_oth.2 ⟨hs.1, fun e => hne e.symm⟩, mem_oth.2 ⟨hr.2.1, hr.2.2.1⟩, hv, fun a ha => ?_⟩⟩
      have h1 := ((sh_oth hs.1).1 ha)
      have h2 := hs.2.2.2 a h1.1
      exact hr.2.2.2 a ⟨h2, s, hs.1, fun e => hne e.symm, h1.1.1⟩
  · have hs' : Ear A (oth E r) s w := ⟨mem_oth.2 ⟨hs.1, fun e => hne e.symm⟩, mem_oth.2 ⟨hs.2.1, hw⟩, hs.2.2.1, fun a ha => hs.2.2.2 a ((sh_oth hs.1).1 ha).1⟩
    left
    by_cases hv : v = s
    · subst hv
      refine ⟨⟨w, mem_oth.2 ⟨hr.1, hne⟩, mem_oth.2 ⟨hs.2.1, hs.2.2.1⟩, hw, fun a ha => ?_⟩, w, hs'⟩
      have h1 := ((sh_oth hr.1).1 ha)
      have h2 := hr.2.2.2 a h1.1
      exact hs.2.2.2 a ⟨h2, r, hr.1, hne, h1.1.1⟩
    · exact ⟨⟨v, mem_oth.2 ⟨hr.1, hne⟩, mem_oth.2 ⟨hr.2.1, hv⟩, hr.2.2.1, fun a ha => hr.2.2.2 a ((sh_oth hr.1).1 ha).1⟩, w, hs'⟩
/-- What is left is as much, whatever goes first. -/
theorem red_one {A : Nat → List Int} : ∀ (n : Nat) {E : List Nat} {k k' : Nat}, E.Nodup → E.length ≤ n → Red A E k → Red A E k' → k = k' := by
  intro n
  induction n with
  | zero =>
    intro E k k' _ hl h h'
    have hE : E = [] := List.eq_nil_of_length_eq_zero (by omega)
    subst hE
    cases h with
    | stop _ => cases h' with
      | stop _ => rfl
      | step he _ => exact absurd he.1 (by simp)
    | step he _ => exact absurd he.1 (by simp)
  | succ n ih =>
    intro E k k' hnd hl h h'
    cases h with
    | stop hn => cases h' with
      | stop _ => rfl
      | step he _ => exact absurd he (hn _ _)
    | @step _ r v _ hr hk => cases h' with
      | stop hn => exact absurd hr (hn _ _)
      | @step _ s w _ hs hk' =>
        have l1 := oth_len hnd hr.1
        have l2 := oth_len hnd hs.1
        have hp : 0 < E.length := List.length_pos_of_mem hr.1
        by_cases e : r = s
        · subst e; exact ih (oth_nodup hnd) (by omega) hk hk'
        · rcases two_ears hnd hr hs e with ⟨⟨v', hv⟩, w', hw⟩ | ⟨f, hf⟩
          · obtain ⟨m, hm⟩ := red_some A _ (Acy.oth (Acy.oth E r) s) (oth_nodup (oth_nodup hnd)) (Nat.le_refl _)
            have e1 := ih (oth_nodup hnd) (by omega) hk (.step hw hm)
            have e2 := ih (oth_nodup hnd) (by omega) hk' (.step hv (by rw [oth_comm]; exact hm))
            omega
          · exact ih (oth_nodup hnd) (by omega) (hk.iso hf) hk'
theorem Red.eq {A : Nat → List Int} {E : List Nat} {k k' : Nat} (h : Red A E k) (h' : Red A E k') (hnd : E.Nodup) : k = k' := red_one _ hnd (Nat.le_refl _) h h'
theorem Red.le {A : Nat → List Int} {E : List Nat} {k : Nat} (h : Red A E k) : 0 < E.length → 0 < k := by
  induction h with
  | stop _ => exact id
  | step he _ ih => exact fun _ => ih (List.length_pos_of_mem (mem_oth.2 ⟨he.2.1, he.2.2.1⟩))
/-- The relations in another order. -/
theorem Red.put {A A' : Nat → List Int} {n k : Nat} {l : List Nat} (h : Red A' (List.range n) k) (hl : l.Perm (List.range n)) (hA : ∀ j, j < n → A' j = A (l.getD j 0)) : Red A (List.range n) k := by
  have hlen : l.length = n := by have := hl.length_eq; simpa using this
  have hnd : l.Nodup := hl.nodup_iff.2 List.nodup_range
  have hget : ∀ j (hj : j < n), l.getD j 0 = l[j]'(by omega) := fun j hj => by simp [List.getD, (by omega : j < l.length)]
  have hinj : ∀ x y, x ∈ List.range n → y ∈ List.range n → l.getD x 0 = l.getD y 0 → x = y := fun x y hx hy e => by
    rw [hget x (List.mem_range.1 hx), hget y (List.mem_range.1 hy)] at e
    exact (List.getElem_inj hnd).1 e
  have hto : ∀ x, x ∈ List.range n → l.getD x 0 ∈ List.range n := fun x hx => by
    rw [hget x (List.mem_range.1 hx)]; exact hl.mem_iff.1 (List.getElem_mem _)
  have honto : ∀ y, y ∈ List.range n → ∃ x, x ∈ List.range n ∧ l.getD x 0 = y := fun y hy => by
    obtain ⟨j, hj, e⟩ := List.getElem_of_mem (hl.mem_iff.2 hy)
    exact ⟨j, List.mem_range.2 (by omega), by rw [hget j (by omega)]; exact e⟩
  refine h.iso (f := fun j => l.getD j 0) ⟨hto, honto, hinj, List.nodup_range, List.nodup_range, rfl, fun x a hx => ?_⟩
  constructor
  · rintro ⟨h1, t, ht, hne, h2⟩
    rw [hA x (List.mem_range.1 hx)] at h1
    rw [hA t (List.mem_range.1 ht)] at h2
    exact ⟨h1, _, hto t ht, fun e => hne (hinj _ _ ht hx e), h2⟩
  · rintro ⟨h1, t', ht', hne, h2⟩
    obtain ⟨t, ht, rfl⟩ := honto t' ht'
    refine ⟨by rw [hA x (List.mem_range.1 hx)]; exact h1, t, ht, fun e => hne (by rw [e]), by rw [hA t (List.mem_range.1 ht)]; exact h2⟩
/-- One more relation, with what another one has, leaves as many. -/
theorem Red.again {A : Nat → List Int} {n k m : Nat} (h : Red A (List.range n) k) (hm : m < n) (hA : ∀ a, a ∈ A n → a ∈ A m) : Red A (List.range (n + 1)) k := by
  refine .step (r := n) (w := m) ⟨by simp, by simp; omega, by omega, fun a ha => hA a ha.1⟩ ?_
  have : oth (List.range (n + 1)) n = List.range n := by
    unfold oth
    rw [List.range_succ, List.filter_append]
    simp only [List.filter_cons, bne_self_eq_false, Bool.false_eq_true, if_false, List.filter_nil, List.append_nil]
    rw [List.filter_eq_self]
    intro x hx
    have := List.mem_range.1 hx
    simp; omega
  rw [this]; exact h
/-- The same relations, looked at by another function. -/
theorem Red.congr {A A' : Nat → List Int} {E : List Nat} {k : Nat} (h : Red A E k) (hnd : E.Nodup) (hA : ∀ x, x ∈ E → A' x = A x) : Red A' E k := by
  refine h.iso (f := id) ⟨fun _ h => h, fun y h => ⟨y, h, rfl⟩, fun _ _ _ _ e => e, hnd, hnd, rfl, fun x a hx => ?_⟩
  constructor
  · rintro ⟨h1, t, ht, hne, h2⟩; exact ⟨by rw [id, hA x hx]; exact h1, t, ht, hne, by rw [hA t ht]; exact h2⟩
  · rintro ⟨h1, t, ht, hne, h2⟩; exact ⟨by rw [id, hA x hx] at h1; exact h1, t, ht, hne, by rw [hA t ht] at h2; exact h2⟩
/-- A relation that has all attributes of the others: one is left. -/
theorem red_all {A : Nat → List Int} {m : Nat} : ∀ (n : Nat) {E : List Nat}, E.Nodup → E.length = n + 1 → m ∈ E → (∀ x a, x ∈ E → a ∈ A x → a ∈ A m) → Red A E 1 := by
  intro n
  induction n with
  | zero =>
    intro E hnd hl hm hA
    have h1 : Red A E E.length := .stop fun r w he => by
      have := oth_len hnd he.1
      have h2 : w ∈ oth E r := mem_oth.2 ⟨he.2.1, he.2.2.1⟩
      have := List.length_pos_of_mem h2
      omega
    rw [hl] at h1; exact h1
  | succ n ih =>
    intro E hnd hl hm hA
    have h1 : ∃ r, r ∈ oth E m := by
      have := oth_len hnd hm
      cases h : oth E m with
      | nil => rw [h] at this; simp at this; omega
      | cons x l => exact ⟨x, by simp⟩
    obtain ⟨r, hr⟩ := h1
    obtain ⟨hr1, hr2⟩ := mem_oth.1 hr
    refine .step (r := r) (w := m) ⟨hr1, hm, fun e => hr2 e.symm, fun a ha => hA r a hr1 ha.1⟩ (ih (oth_nodup hnd) (by rw [oth_len hnd hr1]; omega) (mem_oth.2 ⟨hm, fun e => hr2 e.symm⟩) fun x a hx => hA x a (mem_oth.1 hx).1)

def okW (A : Nat → List Int) (E : List Nat) (r w : Nat) : Bool := (A r).all fun a => !((oth E r).any fun k => (A k).contains a) || (A w).contains a
/-- The least witness of a relation of a set. -/
def wit (A : Nat → List Int) (E : List Nat) (r : Nat) : Option Nat := (oth E r).find? fun w => okW A E r w
def witI (A : Nat → List Int) (E : List Nat) (r : Int) : Option Nat := if 0 ≤ r ∧ r.toNat ∈ E then wit A E r.toNat else none
/-- The least ear, and its least witness. -/
def ear1 (A : Nat → List Int) (E : List Nat) : Option (Nat × Nat) := E.findSome? fun r => (wit A E r).map fun w => (r, w)
def red (A : Nat → List Int) : Nat → List Nat → List (Nat × Nat) × List Nat
  | 0, E => ([], E)
  | n + 1, E => match ear1 A E with
    | none => ([], E)
    | some x => (x :: (red A n (oth E x.1)).1, (red A n (oth E x.1)).2)
theorem okW_true {A : Nat → List Int} {E : List Nat} {r w : Nat} : okW A E r w = true ↔ ∀ a, Sh A E r a → a ∈ A w := by
  unfold okW
  rw [List.all_eq_true]
  constructor
  · rintro h a ⟨h1, t, ht, hne, h2⟩
    have := h a h1
    rw [Bool.or_eq_true, Bool.not_eq_true', List.contains_iff_mem] at this
    rcases this with h3 | h3
    · rw [List.any_eq_false] at h3
      exact absurd (List.contains_iff_mem.2 h2) (h3 t (mem_oth.2 ⟨ht, hne⟩))
    · exact h3
  · intro h a h1
    rw [Bool.or_eq_true, Bool.not_eq_true', List.contains_iff_mem]
    cases h3 : (oth E r).any fun k => (A k).contains a with
    | false => exact .inl rfl
    | true =>
      obtain ⟨t, ht, h4⟩ := List.any_eq_true.1 h3
      obtain ⟨h5, h6⟩ := mem_oth.1 ht
      exact .inr (h a ⟨h1, t, h5, h6, List.contains_iff_mem.1 h4⟩)
theorem wit_some {A : Nat → List Int} {E : List Nat} {r w : Nat} (hr : r ∈ E) (h : wit A E r = some w) : Ear A E r w := by
  obtain ⟨h1, h2⟩ := mem_oth.1 (List.mem_of_find?_eq_some h)
  exact ⟨hr, h1, h2, okW_true.1 (List.find?_some (p := fun w => okW A E r w) h)⟩
theorem wit_none {A : Nat → List Int} {E : List Nat} {r : Nat} (h : wit A E r = none) (w : Nat) : ¬ Ear A E r w := fun ⟨_, h2, h3, h4⟩ =>
  List.find?_eq_none.1 h w (mem_oth.2 ⟨h2, h3⟩) (okW_true.2 h4)
theorem ear1_some {A : Nat → List Int} {E : List Nat} {x : Nat × Nat} (h : ear1 A E = some x) : x.1 ∈ E ∧ wit A E x.1 = some x.2 ∧ Ear A E x.1 x.2 := by
  obtain ⟨l, r, l', rfl, h2, _⟩ := List.findSome?_eq_some_iff.1 h
  cases hw : wit A (l ++ r :: l') r with
  | none => rw [hw] at h2; exact absurd h2 (by simp)
  | some w =>
    rw [hw] at h2
    obtain rfl : (r, w) = x := by simpa using h2
    exact ⟨by simp, hw, wit_some (by simp) hw⟩
theorem ear1_none {A : Nat → List Int} {E : List Nat} (h : ear1 A E = none) (r w : Nat) : ¬ Ear A E r w := fun he => by
  have := List.findSome?_eq_none_iff.1 h r he.1
  exact wit_none (by simpa using this) w he
theorem no_ear1 {A : Nat → List Int} {E : List Nat} (h : ∀ r w, ¬ Ear A E r w) : ear1 A E = none := by
  cases h1 : ear1 A E with
  | none => rfl
  | some x => exact absurd (ear1_some h1).2.2 (h _ _)
theorem red_red {A : Nat → List Int} : ∀ (n : Nat) {E : List Nat}, E.Nodup → E.length ≤ n → Red A E (red A n E).2.length ∧ (red A n E).1.length + (red A n E).2.length = E.length
  | 0, E, hnd, hl => by
    have hE : E = [] := List.eq_nil_of_length_eq_zero (by omega)
    subst hE
    exact ⟨.stop fun r w he => absurd he.1 (by simp), rfl⟩
  | n + 1, E, hnd, hl => by
    unfold red
    cases h : ear1 A E with
    | none => exact ⟨.stop (ear1_none h), by simp⟩
    | some x =>
      obtain ⟨h1, h2, h3⟩ := ear1_some h
      have h4 := oth_len hnd h1
      have h5 : 0 < E.length := List.length_pos_of_mem h1
      obtain ⟨h6, h7⟩ := red_red n (E := oth E x.1) (oth_nodup hnd) (by omega)
      exact ⟨.step h3 h6, by simp only [List.length_cons]; omega⟩
theorem red_sub {A : Nat → List Int} : ∀ (n : Nat) {E : List Nat}, (∀ x, x ∈ (red A n E).1 → x.1 ∈ E ∧ x.2 ∈ E) ∧ ∀ x, x ∈ (red A n E).2 → x ∈ E
  | 0, E => ⟨fun x h => absurd h (by simp [red]), fun x h => h⟩
  | n + 1, E => by
    unfold red
    cases h : ear1 A E with
    | none => exact ⟨fun x h => absurd h (by simp), fun x h => h⟩
    | some y =>
      obtain ⟨h1, h2, h3⟩ := ear1_some h
      obtain ⟨h6, h7⟩ := red_sub (A := A) n (E := oth E y.1)
      refine ⟨fun x hx => ?_, fun x hx => (mem_oth.1 (h7 x hx)).1⟩
      rcases List.mem_cons.1 hx with rfl | hx
      · exact ⟨h1, h3.2.1⟩
      · exact ⟨(mem_oth.1 (h6 x hx).1).1, (mem_oth.1 (h6 x hx).2).1⟩
/-- The ears are different, and none is left. -/
theorem red_nodup {A : Nat → List Int} : ∀ (n : Nat) {E : List Nat}, E.Nodup → ((red A n E).1.map Prod.fst).Nodup ∧ (red A n E).2.Nodup ∧ ∀ x, x ∈ (red A n E).1 → x.1 ∉ (red A n E).2
  | 0, E, hnd => ⟨List.nodup_nil, hnd, fun x h => absurd h (by simp [red])⟩
  | n + 1, E, hnd => by
    unfold red
    cases h : ear1 A E with
    | none => exact ⟨List.nodup_nil, hnd, fun x h => absurd h (by simp)⟩
    | some y =>
      obtain ⟨h6, h7, h8⟩ := red_nodup (A := A) n (E := oth E y.1) (oth_nodup hnd)
      have hs := red_sub (A := A) n (E := oth E y.1)
      refine ⟨?_, h7, fun x hx => ?_⟩
      · rw [List.map_cons, List.nodup_cons]
        refine ⟨fun hm => ?_, h6⟩
        obtain ⟨z, hz, e⟩ := List.mem_map.1 hm
        exact (mem_oth.1 (hs.1 z hz).1).2 e
      · rcases List.mem_cons.1 hx with rfl | hx
        · exact fun hm => (mem_oth.1 (hs.2 _ hm)).2 rfl
        · exact h8 x hx
/-- A relation that is highest, among those of a set that have an attribute. -/
def Top (A : Nat → List Int) (E : List Nat) (p : Nat → Int) (a : Int) (r : Nat) : Prop := r ∈ E ∧ a ∈ A r ∧ ∀ w, w ∈ E → p r = (w : Int) → a ∉ A w
/-- Whether the parents lead up to -1 in so many steps. -/
def lead (p : Nat → Int) (n : Nat) : Nat → Nat → Bool
  | 0, _ => false
  | k + 1, r => if p r < 0 ∨ (n : Int) ≤ p r then decide (p r = -1) else lead p n k (p r).toNat
theorem lead_more {p : Nat → Int} {n : Nat} : ∀ {k r : Nat}, lead p n k r = true → lead p n (k + 1) r = true
  | 0, r, h => absurd h (by simp [lead])
  | k + 1, r, h => by
    unfold lead at h ⊢
    by_cases c : p r < 0 ∨ (n : Int) ≤ p r
    · rw [if_pos c] at h ⊢; exact h
    · rw [if_neg c] at h ⊢; exact lead_more h
theorem lead_le {p : Nat → Int} {n k m r : Nat} (h : lead p n k r = true) (hm : k ≤ m) : lead p n m r = true := by
  induction hm with
  | refl => exact h
  | step _ ih => exact lead_more ih
/-- The tree that hangs each ear on its witness is right. -/
theorem red_tree {A : Nat → List Int} {p : Nat → Int} {c m : Nat} (hc : p c = -1) : ∀ (n : Nat) {E : List Nat}, E.Nodup → E.length ≤ n → (∀ x, x ∈ E → x < m) → (red A n E).2 = [c] → (∀ x, x ∈ (red A n E).1 → p x.1 = (x.2 : Int)) →
    c ∈ E ∧ (∀ r, r ∈ E → r = c ∨ ∃ w, w ∈ E ∧ p r = (w : Int)) ∧ (∀ r, r ∈ E → lead p m E.length r = true) ∧ ∀ a, (∃ x, x ∈ E ∧ a ∈ A x) → ∃ r, Top A E p a r ∧ ∀ r', Top A E p a r' → r' = r
  | 0, E, hnd, hl, hm, he, hp => by
    have hE : E = [] := List.eq_nil_of_length_eq_zero (by omega)
    subst hE
    exact absurd he (by simp [red])
  | n + 1, E, hnd, hl, hm, he, hp => by
    unfold red at he hp
    cases h : ear1 A E with
    | none =>
      rw [h] at he hp
      have hE : E = [c] := he
      subst hE
      refine ⟨by simp, fun r hr => .inl (by simpa using hr), fun r hr => ?_, fun a ⟨x, hx, ha⟩ => ?_⟩
      · obtain rfl : r = c := by simpa using hr
        show (if p r < 0 ∨ (m : Int) ≤ p r then decide (p r = -1) else lead p m 0 (p r).toNat) = true
        rw [hc, if_pos (by omega)]; rfl
      · obtain rfl : x = c := by simpa using hx
        exact ⟨x, ⟨hx, ha, fun w _ e => by rw [hc] at e; omega⟩, fun r' h' => by simpa using h'.1⟩
    | some x =>
      rw [h] at he hp
      obtain ⟨h1, h2, h3⟩ := ear1_some h
      have h4 := oth_len hnd h1
      have h5 : 0 < E.length := List.length_pos_of_mem h1
      obtain ⟨i1, i2, i3, i4⟩ := red_tree hc n (E := oth E x.1) (oth_nodup hnd) (by omega) (fun y hy => hm y (mem_oth.1 hy).1) he (fun y hy => hp y (List.mem_cons_of_mem _ hy))
      have hx : p x.1 = (x.2 : Int) := hp x (by simp)
      have hw : x.2 ∈ oth E x.1 := mem_oth.2 ⟨h3.2.1, h3.2.2.1⟩
      have hcx : c ≠ x.1 := (mem_oth.1 i1).2
      refine ⟨(mem_oth.1 i1).1, fun r hr => ?_, fun r hr => ?_, fun a ⟨y, hy, ha⟩ => ?_⟩
      · by_cases e : r = x.1
        · subst e; exact .inr ⟨x.2, h3.2.1, hx⟩
        · rcases i2 r (mem_oth.2 ⟨hr, e⟩) with e2 | ⟨w, hw, e2⟩
          · exact .inl e2
          · exact .inr ⟨w, (mem_oth.1 hw).1, e2⟩
      · by_cases e : r = x.1
        · subst e
          rw [show E.length = (oth E x.1).length + 1 by omega]
          unfold lead
          have := hm x.2 h3.2.1
          rw [hx, if_neg (by omega)]
          exact i3 x.2 hw
        · exact lead_le (i3 r (mem_oth.2 ⟨hr, e⟩)) (by omega)
      · have old : ∀ z, z ∈ oth E x.1 → (Top A (oth E x.1) p a z ↔ Top A E p a z) := fun z hz => by
          constructor
          · rintro ⟨t1, t2, t3⟩
            refine ⟨(mem_oth.1 t1).1, t2, fun w hw hz2 => ?_⟩
            rcases i2 z hz with e2 | ⟨w', hw', e2⟩
            · rw [e2, hc] at hz2; omega
            · have : w = w' := by omega
              exact t3 w (this ▸ hw') hz2
          · rintro ⟨t1, t2, t3⟩
            exact ⟨hz, t2, fun w hw => t3 w (mem_oth.1 hw).1⟩
        by_cases hsh : ∃ z, z ∈ oth E x.1 ∧ a ∈ A z
        · obtain ⟨r, hr, hu⟩ := i4 a hsh
          refine ⟨r, (old r hr.1).1 hr, fun r' h' => ?_⟩
          by_cases e : r' = x.1
          · exfalso
            subst e
            obtain ⟨z, hz, haz⟩ := hsh
            obtain ⟨z1, z2⟩ := mem_oth.1 hz
            exact h'.2.2 x.2 h3.2.1 hx (h3.2.2.2 a ⟨h'.2.1, z, z1, z2, haz⟩)
          · exact hu r' ((old r' (mem_oth.2 ⟨h'.1, e⟩)).2 h')
        · have hno : ∀ z, z ∈ E → a ∈ A z → z = x.1 := fun z hz haz => Classical.byContradiction fun e => hsh ⟨z, mem_oth.2 ⟨hz, e⟩, haz⟩
          obtain rfl := hno y hy ha
          refine ⟨x.1, ⟨h1, ha, fun w hw e hwa => ?_⟩, fun r' h' => hno r' h'.1 h'.2.1⟩
          have : w = x.2 := by omega
          subst this
          exact h3.2.2.1 (hno _ hw hwa)
def dep (p : Nat → Int) (n : Nat) : Nat → Nat → Nat
  | 0, _ => 0
  | k + 1, r => if p r < 0 ∨ (n : Int) ≤ p r then 0 else dep p n k (p r).toNat + 1
theorem dep_more {p : Nat → Int} {n : Nat} : ∀ {k r : Nat}, lead p n k r = true → dep p n (k + 1) r = dep p n k r
  | 0, r, h => absurd h (by simp [lead])
  | k + 1, r, h => by
    unfold lead at h
    unfold dep
    by_cases c : p r < 0 ∨ (n : Int) ≤ p r
    · rw [if_pos c, if_pos c]
    · rw [if_neg c] at h
      rw [if_neg c, if_neg c, dep_more h]
/-- A join tree of a set, in which d goes up. -/
structure JT (A : Nat → List Int) (E : List Nat) (p : Nat → Int) (c : Nat) (d : Nat → Nat) : Prop where
  root : c ∈ E
  neg : p c = -1
  par : ∀ r, r ∈ E → r ≠ c → ∃ w, w ∈ E ∧ p r = (w : Int) ∧ d w < d r
  one : ∀ a r r', Top A E p a r → Top A E p a r' → r = r'
theorem most (d : Nat → Nat) : ∀ {l : List Nat}, l ≠ [] → ∃ r, r ∈ l ∧ ∀ x, x ∈ l → d x ≤ d r
  | [], h => absurd rfl h
  | y :: l, _ => by
    by_cases hl : l = []
    · subst hl
      refine ⟨y, by simp, fun x hx => ?_⟩
      obtain rfl : x = y := by simpa using hx
      exact Nat.le_refl _
    · obtain ⟨r, hr, h⟩ := most d hl
      by_cases e : d r ≤ d y
      · exact ⟨y, by simp, fun x hx => by
          rcases List.mem_cons.1 hx with rfl | hx
          · exact Nat.le_refl _
          · exact Nat.le_trans (h x hx) e⟩
      · exact ⟨r, List.mem_cons_of_mem _ hr, fun x hx => by
          rcases List.mem_cons.1 hx with rfl | hx
          · omega
          · exact h x hx⟩
theorem JT.leaf {A : Nat → List Int} {E : List Nat} {p : Nat → Int} {c : Nat} {d : Nat → Nat} (h : JT A E p c d) (hnd : E.Nodup) (hl : 2 ≤ E.length) : ∃ r w, Ear A E r w ∧ JT A (oth E r) p c d := by
  have h1 : oth E c ≠ [] := fun e => by have := oth_len hnd h.root; rw [e] at this; simp at this; omega
  obtain ⟨r, hr, hmax⟩ := most d h1
  obtain ⟨hr1, hr2⟩ := mem_oth.1 hr
  obtain ⟨w, hw, hpw, hdw⟩ := h.par r hr1 hr2
  have leaf : ∀ t, t ∈ E → p t ≠ (r : Int) := fun t ht e => by
    have htc : t ≠ c := fun e2 => by rw [e2, h.neg] at e; omega
    obtain ⟨w', _, h3, h4⟩ := h.par t ht htc
    have : w' = r := by omega
    subst this
    have := hmax t (mem_oth.2 ⟨ht, htc⟩)
    omega
  refine ⟨r, w, ⟨hr1, hw, fun e => by subst e; omega, fun a ⟨ha, t, ht, htr, hta⟩ => ?_⟩, ⟨mem_oth.2 ⟨h.root, fun e => hr2 e.symm⟩, h.neg, fun x hx hxc => ?_, fun a x x' hx hx' => ?_⟩⟩
  · apply Classical.byContradiction
    intro hna
    have top : Top A E p a r := by
      refine ⟨hr1, ha, fun w' _ e => ?_⟩
      have : w' = w := by omega
      subst this
      exact hna
    have climb : ∀ m t, t ∈ E → d t ≤ m → a ∈ A t → t ≠ r → ∃ t', Top A E p a t' ∧ t' ≠ r := by
      intro m
      induction m with
      | zero =>
        intro t ht hd hta htr
        refine ⟨t, ⟨ht, hta, fun w' hw' e => ?_⟩, htr⟩
        exfalso
        have htc : t ≠ c := fun e2 => by rw [e2, h.neg] at e; omega
        obtain ⟨w'', _, h3, h4⟩ := h.par t ht htc
        omega
      | succ m ih =>
        intro t ht hd hta htr
        by_cases hT : Top A E p a t
        · exact ⟨t, hT, htr⟩
        · have : ∃ w', w' ∈ E ∧ p t = (w' : Int) ∧ a ∈ A w' := by
            apply Classical.byContradiction
            intro hn
            exact hT ⟨ht, hta, fun w' h1 h2 h3 => hn ⟨w', h1, h2, h3⟩⟩
          obtain ⟨w', hw', e, hwa⟩ := this
          have htc : t ≠ c := fun e2 => by rw [e2, h.neg] at e; omega
          obtain ⟨w'', _, h3, h4⟩ := h.par t ht htc
          have : w'' = w' := by omega
          subst this
          exact ih w'' hw' (by omega) hwa fun e2 => leaf t ht (by rw [e, e2])
    obtain ⟨t', h5, h6⟩ := climb (d t) t ht (Nat.le_refl _) hta htr
    exact h6 (h.one a t' r h5 top)
  · obtain ⟨hx1, hx2⟩ := mem_oth.1 hx
    obtain ⟨w', h3, h4, h5⟩ := h.par x hx1 hxc
    exact ⟨w', mem_oth.2 ⟨h3, fun e => leaf x hx1 (by rw [h4, e])⟩, h4, h5⟩
  · have up : ∀ y, Top A (oth E r) p a y → Top A E p a y := fun y ⟨h3, h4, h5⟩ =>
      ⟨(mem_oth.1 h3).1, h4, fun w' hw' e => h5 w' (mem_oth.2 ⟨hw', fun e2 => leaf y (mem_oth.1 h3).1 (by rw [e, e2])⟩) e⟩
    exact h.one a x x' (up x hx) (up x' hx')
theorem JT.red {A : Nat → List Int} {p : Nat → Int} {c : Nat} {d : Nat → Nat} : ∀ (n : Nat) {E : List Nat}, E.Nodup → E.length ≤ n + 1 → JT A E p c d → Red A E 1
  | n, E, hnd, hl, h => by
    have hp : 0 < E.length := List.length_pos_of_mem h.root
    by_cases h1 : E.length = 1
    · rw [← h1]
      refine .stop fun r w he => ?_
      have := oth_len hnd he.1
      have h2 : w ∈ oth E r := mem_oth.2 ⟨he.2.1, he.2.2.1⟩
      have := List.length_pos_of_mem h2
      omega
    · obtain ⟨r, w, h2, h3⟩ := h.leaf hnd (by omega)
      match n, hl with
      | 0, hl => omega
      | n + 1, hl => exact .step h2 (JT.red n (oth_nodup hnd) (by rw [oth_len hnd h2.1]; omega) h3)
/-- What is accepted as a join tree. -/
structure Right (A : Nat → List Int) (n m : Nat) (p : Nat → Int) : Prop where
  root : ∃ c, c < n ∧ p c = -1 ∧ ∀ r, r < n → p r = -1 → r = c
  lead : ∀ r, r < n → lead p n n r = true
  one : ∀ a : Nat, a < m → ∃ r, Top A (List.range n) p (a : Int) r ∧ ∀ r', Top A (List.range n) p (a : Int) r' → r' = r
theorem Right.red {A : Nat → List Int} {n m : Nat} {p : Nat → Int} (h : Right A n m p) (hA : ∀ r a, r < n → a ∈ A r → 0 ≤ a ∧ a < m) : Red A (List.range n) 1 := by
  obtain ⟨c, hc, hpc, hu⟩ := h.root
  have hl : (List.range n).length ≤ (n - 1) + 1 := by simp; omega
  refine JT.red (p := p) (c := c) (d := dep p n n) _ List.nodup_range hl ⟨List.mem_range.2 hc, hpc, fun r hr hrc => ?_, fun a r r' hr hr' => ?_⟩
  · have hr := List.mem_range.1 hr
    have h1 := h.lead r hr
    obtain ⟨k, rfl⟩ : ∃ k, n = k + 1 := ⟨n - 1, by omega⟩
    unfold Acy.lead at h1
    by_cases cc : p r < 0 ∨ ((k + 1 : Nat) : Int) ≤ p r
    · rw [if_pos cc] at h1
      exact absurd (hu r hr (of_decide_eq_true h1)) hrc
    · rw [if_neg cc] at h1
      refine ⟨(p r).toNat, List.mem_range.2 (by omega), by omega, ?_⟩
      rw [dep_more h1]
      conv => rhs; unfold dep
      rw [if_neg cc]; omega
  · have h0 := hA r a (List.mem_range.1 hr.1) hr.2.1
    obtain ⟨b, rfl⟩ := Int.eq_ofNat_of_zero_le h0.1
    obtain ⟨t, _, h2⟩ := h.one b (by omega)
    exact (h2 r hr).trans (h2 r' hr').symm
theorem right_of_red {A : Nat → List Int} {n m : Nat} {p : Nat → Int} {c : Nat} (hc : p c = -1) (he : (red A n (List.range n)).2 = [c]) (hp : ∀ x, x ∈ (red A n (List.range n)).1 → p x.1 = (x.2 : Int)) (hA : ∀ a : Nat, a < m → ∃ x, x < n ∧ (a : Int) ∈ A x) : Right A n m p := by
  obtain ⟨h1, h2, h3, h4⟩ := red_tree hc n List.nodup_range (by simp) (m := n) (fun x hx => List.mem_range.1 hx) he hp
  refine ⟨⟨c, List.mem_range.1 h1, hc, fun r hr e => ?_⟩, fun r hr => by simpa using h3 r (List.mem_range.2 hr), fun a ha => ?_⟩
  · rcases h2 r (List.mem_range.2 hr) with e2 | ⟨w, _, e2⟩
    · exact e2
    · omega
  · obtain ⟨x, hx, hxa⟩ := hA a ha
    exact h4 a ⟨x, List.mem_range.2 hx, hxa⟩
/-- What is left where relations are removed one after the other, if each is an ear. -/
def closeL (A : Nat → List Int) : List Int → List Nat → Option (List Nat)
  | [], E => some E
  | r :: o, E => match witI A E r with
    | none => none
    | some _ => closeL A o (oth E r.toNat)
def closed (A : Nat → List Int) (n : Nat) (o c : List Int) : Bool := decide (2 ≤ c.length) && match closeL A o (List.range n) with
  | none => false
  | some E => (E.map fun (x : Nat) => (x : Int)) == c && (ear1 A E).isNone
theorem closeL_red {A : Nat → List Int} : ∀ {o : List Int} {E F : List Nat} {k : Nat}, closeL A o E = some F → Red A F k → Red A E k
  | [], E, F, k, h, hr => by obtain rfl : E = F := by simpa [closeL] using h
                             exact hr
  | r :: o, E, F, k, h, hr => by
    unfold closeL at h
    cases hw : witI A E r with
    | none => rw [hw] at h; exact absurd h (by simp)
    | some w =>
      rw [hw] at h
      unfold witI at hw
      by_cases hc : 0 ≤ r ∧ r.toNat ∈ E
      · rw [if_pos hc] at hw
        exact .step (wit_some hc.2 hw) (closeL_red h hr)
      · rw [if_neg hc] at hw; exact absurd hw (by simp)
theorem closed_red {A : Nat → List Int} {n : Nat} {o c : List Int} (h : closed A n o c = true) : 2 ≤ c.length ∧ Red A (List.range n) c.length := by
  unfold closed at h
  rw [Bool.and_eq_true, decide_eq_true_eq] at h
  refine ⟨h.1, ?_⟩
  have h2 := h.2
  cases hl : closeL A o (List.range n) with
  | none => rw [hl] at h2; exact absurd h2 (by simp)
  | some E =>
    rw [hl] at h2
    rw [Bool.and_eq_true, beq_iff_eq, Option.isNone_iff_eq_none] at h2
    rw [← h2.1, List.length_map]
    exact closeL_red hl (.stop (ear1_none h2.2))
theorem red_closeL {A : Nat → List Int} : ∀ (n : Nat) {E : List Nat}, closeL A ((red A n E).1.map fun x => (x.1 : Int)) E = some (red A n E).2
  | 0, E => rfl
  | n + 1, E => by
    unfold red
    cases h : ear1 A E with
    | none => rfl
    | some x =>
      obtain ⟨h1, h2, h3⟩ := ear1_some h
      show closeL A ((x.1 : Int) :: (red A n (oth E x.1)).1.map fun x => (x.1 : Int)) E = _
      unfold closeL
      have : witI A E (x.1 : Int) = some x.2 := by
        unfold witI
        rw [if_pos ⟨by omega, by simpa using h1⟩]
        exact h2
      rw [this]
      exact red_closeL n
theorem red_noear {A : Nat → List Int} : ∀ (n : Nat) {E : List Nat}, E.Nodup → E.length ≤ n → ear1 A (red A n E).2 = none
  | 0, E, hnd, hl => by
    have hE : E = [] := List.eq_nil_of_length_eq_zero (by omega)
    subst hE; rfl
  | n + 1, E, hnd, hl => by
    unfold red
    cases h : ear1 A E with
    | none => exact h
    | some x =>
      obtain ⟨h1, h2, h3⟩ := ear1_some h
      have h4 := oth_len hnd h1
      have h5 : 0 < E.length := List.length_pos_of_mem h1
      exact red_noear n (oth_nodup hnd) (by omega)
theorem red_closed {A : Nat → List Int} {n : Nat} : closed A n ((red A n (List.range n)).1.map fun x => (x.1 : Int)) ((red A n (List.range n)).2.map fun (x : Nat) => (x : Int)) = decide (2 ≤ (red A n (List.range n)).2.length) := by
  unfold closed
  rw [red_closeL, List.length_map]
  have h := red_noear (A := A) n List.nodup_range (Nat.le_of_eq List.length_range)
  simp only [h, Option.isNone_none, beq_self_eq_true, Bool.and_true]
/-- No tree is accepted where an order and a core are. -/
theorem no_tree {A : Nat → List Int} {n m : Nat} {p : Nat → Int} {o c : List Int} (hA : ∀ r a, r < n → a ∈ A r → 0 ≤ a ∧ a < m) (h : Right A n m p) : closed A n o c = false := by
  cases hc : closed A n o c with
  | false => rfl
  | true =>
    obtain ⟨h1, h2⟩ := closed_red hc
    have := (h.red hA).eq h2 List.nodup_range
    omega
end Acy
