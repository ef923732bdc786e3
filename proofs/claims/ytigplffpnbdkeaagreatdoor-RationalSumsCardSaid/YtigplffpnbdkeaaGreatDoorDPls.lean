/- Places of a call, by what they hold: numbers and fractions of the reference. -/
import Derived.Test.YtigplffpnbdkeaaGreatDoorDDiv
import Derived.Test.YtigplffpnbdkeaaGreatDoorPlz
import Derived.Test.YtigplffpnbdkeaaGreatDoorRelW
import Derived.Deep.DeepCutAuto
import Derived.WalkSpells
namespace Go.Proofs.YtigplffpnbdkeaaGreatDoor
open Go Go.RowKit

/-- v is the fraction x of the reference. -/
def IsFrac (w : World) (v : Value) (x : Rat) : Prop := ∃ s A l c t A' l' c', v = .agg #[.bool s, .slice A l c, .bool t, .slice A' l' c'] ∧ DBig w (.agg #[.bool s, .slice A l c]) x.num ∧ DBig w (.agg #[.bool t, .slice A' l' c']) (x.den : Int)
theorem IsFrac.keepB {w w' : World} {v : Value} {x : Rat} (h : IsFrac w v x) {B : Nat} (hb : Below B w w') (hB : w.heap.size ≤ B) : IsFrac w' v x := by
  obtain ⟨s, A, l, c, t, A', l', c', e, hn, hd⟩ := h
  exact ⟨s, A, l, c, t, A', l', c', e, hn.below hb hB, hd.below hb hB⟩
theorem IsFrac.below {w w' : World} {v : Value} {x : Rat} (h : IsFrac w v x) (hb : Below w.heap.size w w') : IsFrac w' v x := h.keepB hb (Nat.le_refl _)
theorem IsFrac.mk {w : World} {s t : Bool} {A A' : Option Addr} {l c l' c' : Nat} {x : Rat} (hn : DBig w (.agg #[.bool s, .slice A l c]) x.num) (hd : DBig w (.agg #[.bool t, .slice A' l' c']) (x.den : Int)) :
    IsFrac w (.agg #[.bool s, .slice A l c, .bool t, .slice A' l' c']) x := ⟨s, A, l, c, t, A', l', c', rfl, hn, hd⟩
theorem IsFrac.shape {w : World} {v : Value} {x : Rat} (h : IsFrac w v x) : ∃ s A l c t A' l' c', v = .agg #[.bool s, .slice A l c, .bool t, .slice A' l' c'] := by
  obtain ⟨s, A, l, c, t, A', l', c', e, _⟩ := h
  exact ⟨s, A, l, c, t, A', l', c', e⟩
theorem IsFrac.parts {w : World} {s t : Bool} {A A' : Option Addr} {l c l' c' : Nat} {x : Rat} (h : IsFrac w (.agg #[.bool s, .slice A l c, .bool t, .slice A' l' c']) x) : DBig w (.agg #[.bool s, .slice A l c]) x.num ∧ DBig w (.agg #[.bool t, .slice A' l' c']) (x.den : Int) := by
  obtain ⟨s1, A1, l1, c1, t1, A1', l1', c1', e, hn, hd⟩ := h
  injection e with e
  simp at e
  obtain ⟨rfl, ⟨rfl, rfl, rfl⟩, rfl, rfl, rfl, rfl⟩ := e
  exact ⟨hn, hd⟩
theorem DBig.form {w : World} {v : Value} {z : Int} (h : DBig w v z) : ∃ s A l c, v = .agg #[.bool s, .slice A l c] := by
  obtain ⟨A, l, c, e, _⟩ := h
  exact ⟨_, A, l, c, e⟩
/-- No cell of the block is a limb of the reference. -/
def noD (cs : Array Value) : Bool := cs.toList.all fun v => match v with | .int _ _ => false | _ => true
theorem noD_get {cs : Array Value} (h : noD cs = true) {j : Nat} {k : IntKind} {x : Int} : cs[j]? ≠ some (.int k x) := by
  intro e
  have hm : Value.int k x ∈ cs.toList := by
    rw [← Array.getElem?_toList] at e
    exact List.mem_of_getElem? e
  have := List.all_eq_true.1 h _ hm
  exact absurd this (by simp)

/-- What a place holds. -/
inductive DP where
  | hole
  | int (z : Int)
  | rhole
  | rat (x : Rat)
def DP.At (w : World) (g : Nat) : DP → Prop
  | .hole => ∃ s A l c, w.heap[g]? = some (.cells #[.bool s, .slice A l c] 85 (0, 0))
  | .int z => ∃ s A l c, w.heap[g]? = some (.cells #[.bool s, .slice A l c] 85 (0, 0)) ∧ DBig w (.agg #[.bool s, .slice A l c]) z
  | .rhole => ∃ s A l c t A' l' c', w.heap[g]? = some (.cells #[.bool s, .slice A l c, .bool t, .slice A' l' c'] 87 (0, 0))
  | .rat x => ∃ s A l c t A' l' c', w.heap[g]? = some (.cells #[.bool s, .slice A l c, .bool t, .slice A' l' c'] 87 (0, 0)) ∧ IsFrac w (.agg #[.bool s, .slice A l c, .bool t, .slice A' l' c']) x
/-- Its cells: none of them is a limb. -/
theorem DP.At.block {w : World} {g : Nat} : ∀ {p : DP}, p.At w g → ∃ cs ty, w.heap[g]? = some (.cells cs ty (0, 0)) ∧ noD cs = true
  | .hole, ⟨_, _, _, _, h⟩ => ⟨_, _, h, rfl⟩
  | .int _, ⟨_, _, _, _, h, _⟩ => ⟨_, _, h, rfl⟩
  | .rhole, ⟨_, _, _, _, _, _, _, _, h⟩ => ⟨_, _, h, rfl⟩
  | .rat _, ⟨_, _, _, _, _, _, _, _, h, _⟩ => ⟨_, _, h, rfl⟩
theorem DP.At.lt {w : World} {g : Nat} {p : DP} (h : p.At w g) : g < w.heap.size := by
  obtain ⟨_, _, h, _⟩ := h.block
  exact lt_of_block h
theorem DP.At.keep {w w' : World} {g : Nat} (hg : w'.heap[g]? = w.heap[g]?) (hi : ∀ v z, DBig w v z → DBig w' v z) : ∀ {p : DP}, p.At w g → p.At w' g
  | .hole, ⟨s, A, l, c, h⟩ => ⟨s, A, l, c, hg.trans h⟩
  | .int _, ⟨s, A, l, c, h, h1⟩ => ⟨s, A, l, c, hg.trans h, hi _ _ h1⟩
  | .rhole, ⟨s, A, l, c, t, A', l', c', h⟩ => ⟨s, A, l, c, t, A', l', c', hg.trans h⟩
  | .rat _, ⟨s, A, l, c, t, A', l', c', h, h1⟩ => ⟨s, A, l, c, t, A', l', c', hg.trans h, by
      obtain ⟨s, A, l, c, t, A', l', c', e, hn, hd⟩ := h1
      exact ⟨s, A, l, c, t, A', l', c', e, hi _ _ hn, hi _ _ hd⟩⟩
theorem DP.At.below {w w' : World} {g : Nat} {p : DP} (h : p.At w g) (hb : Below w.heap.size w w') : p.At w' g := h.keep (hb.block _ h.lt) fun _ _ hi => hi.below hb (Nat.le_refl _)

structure DPs (w0 : World) (ps : List (Nat × DP)) (w : World) : Prop where
  mem : ∀ p ∈ ps, p.2.At w p.1
  own : ∀ p ∈ ps, w0.heap.size ≤ p.1
  one : (ps.map (·.1)).Nodup
  below : Below w0.heap.size w0 w
section
variable {w0 w w' : World} {ps : List (Nat × DP)}
theorem DPs.start (w : World) : DPs w [] w := ⟨fun _ h => absurd h (by simp), fun _ h => absurd h (by simp), by simp, Below.refl _ _⟩
theorem DPs.next (h : DPs w0 ps w) (hb : Below w.heap.size w w') : DPs w0 ps w' :=
  ⟨fun p hp => (h.mem p hp).below hb, h.own, h.one, h.below.trans (hb.mono h.below.size)⟩
theorem DPs.drew (h : DPs w0 ps w) : DPs w0 ps w.drew := ⟨fun p hp => (h.mem p hp).keep rfl fun _ _ hi => hi, h.own, h.one, h.below.drew⟩
theorem DPs.add (h : DPs w0 ps w) {g : Nat} {p : DP} (hp : p.At w g) (h0 : w0.heap.size ≤ g) (hn : ∀ q ∈ ps, q.1 ≠ g) : DPs w0 (ps ++ [(g, p)]) w := by
  refine ⟨fun q hq => ?_, fun q hq => ?_, ?_, h.below⟩
  · rcases List.mem_append.1 hq with h1 | h1
    · exact h.mem q h1
    · rw [List.mem_singleton] at h1; subst h1; exact hp
  · rcases List.mem_append.1 hq with h1 | h1
    · exact h.own q h1
    · rw [List.mem_singleton] at h1; subst h1; exact h0
  · rw [List.map_append, List.nodup_append]
    refine ⟨h.one, by simp, fun a ha b hb => ?_⟩
    obtain ⟨x, hx, rfl⟩ := List.mem_map.1 ha
    simp only [List.map_cons, List.map_nil, List.mem_singleton] at hb
    rw [hb]
    exact hn x hx
theorem DPs.lt (h : DPs w0 ps w) {p : Nat × DP} (hp : p ∈ ps) : p.1 < w.heap.size := (h.mem p hp).lt
theorem DPs.alloc (h : DPs w0 ps w) {cs : Array Value} {ty : TypeId} {p : DP} (hp : p.At (w.alloc (.cells cs ty)) w.heap.size) : DPs w0 (ps ++ [(w.heap.size, p)]) (w.alloc (.cells cs ty)) :=
  (h.next ((Below.refl _ _).alloc (Nat.le_refl _) _)).add hp h.below.size fun q hq e => by
    have := h.lt hq
    omega
theorem DPs.at_ (h : DPs w0 ps w) (i : Nat) {g : Nat} {p : DP} (hp : ps[i]? = some (g, p)) : p.At w g := h.mem _ (List.mem_of_getElem? hp)
theorem DPs.ge (h : DPs w0 ps w) (i : Nat) {g : Nat} {p : DP} (hp : ps[i]? = some (g, p)) : w0.heap.size ≤ g := h.own _ (List.mem_of_getElem? hp)
theorem DPs.int (h : DPs w0 ps w) (i : Nat) {g : Nat} {z : Int} (hp : ps[i]? = some (g, .int z)) : ∃ s A l c, w.cell? ⟨g, 0, none⟩ = some (.bool s) ∧ w.cell? ⟨g, 1, none⟩ = some (.slice A l c) ∧ DBig w (.agg #[.bool s, .slice A l c]) z := by
  obtain ⟨s, A, l, c, h1, h2⟩ := h.at_ i hp
  exact ⟨s, A, l, c, by simp [World.cell?, h1], by simp [World.cell?, h1], h2⟩
theorem DPs.rat (h : DPs w0 ps w) (i : Nat) {g : Nat} {x : Rat} (hp : ps[i]? = some (g, .rat x)) : ∃ s A l c t A' l' c', w.cell? ⟨g, 0, none⟩ = some (.bool s) ∧ w.cell? ⟨g, 1, none⟩ = some (.slice A l c) ∧
    w.cell? ⟨g, 2, none⟩ = some (.bool t) ∧ w.cell? ⟨g, 3, none⟩ = some (.slice A' l' c') ∧ IsFrac w (.agg #[.bool s, .slice A l c, .bool t, .slice A' l' c']) x := by
  obtain ⟨s, A, l, c, t, A', l', c', h1, h2⟩ := h.at_ i hp
  exact ⟨s, A, l, c, t, A', l', c', by simp [World.cell?, h1], by simp [World.cell?, h1], by simp [World.cell?, h1], by simp [World.cell?, h1], h2⟩
theorem DPs.hole (h : DPs w0 ps w) (i : Nat) {g : Nat} (hp : ps[i]? = some (g, .hole)) : ∃ u0 u1, w.cell? ⟨g, 0, none⟩ = some u0 ∧ w.cell? ⟨g, 1, none⟩ = some u1 ∧ w.frozen? ⟨g, 0, none⟩ = false ∧ w.frozen? ⟨g, 1, none⟩ = false := by
  obtain ⟨s, A, l, c, h1⟩ := h.at_ i hp
  exact ⟨.bool s, .slice A l c, by simp [World.cell?, h1], by simp [World.cell?, h1], by simp [World.frozen?, h1], by simp [World.frozen?, h1]⟩
theorem DPs.rhole (h : DPs w0 ps w) (i : Nat) {g : Nat} (hp : ps[i]? = some (g, .rhole)) : ∃ u0 u1 u2 u3, w.cell? ⟨g, 0, none⟩ = some u0 ∧ w.cell? ⟨g, 1, none⟩ = some u1 ∧ w.cell? ⟨g, 2, none⟩ = some u2 ∧ w.cell? ⟨g, 3, none⟩ = some u3 ∧
    w.frozen? ⟨g, 0, none⟩ = false ∧ w.frozen? ⟨g, 1, none⟩ = false ∧ w.frozen? ⟨g, 2, none⟩ = false ∧ w.frozen? ⟨g, 3, none⟩ = false := by
  obtain ⟨s, A, l, c, t, A', l', c', h1⟩ := h.at_ i hp
  exact ⟨.bool s, .slice A l c, .bool t, .slice A' l' c', by simp [World.cell?, h1], by simp [World.cell?, h1], by simp [World.cell?, h1], by simp [World.cell?, h1], by simp [World.frozen?, h1], by simp [World.frozen?, h1], by simp [World.frozen?, h1], by simp [World.frozen?, h1]⟩
/-- Setting a cell of a place leaves integers as they are. -/
theorem big_far {g : Nat} {cs : Array Value} {ty : TypeId} (hg : w.heap[g]? = some (.cells cs ty (0, 0))) (hl : noD cs = true) (j : Nat) (u : Value) {v : Value} {z : Int} (hv : DBig w v z) : DBig (w.setCell ⟨g, j, none⟩ u) v z := by
  obtain ⟨A, l, c, rfl, ⟨hn, hc⟩, r'⟩ := hv
  refine ⟨A, l, c, rfl, ⟨hn, fun h0 => ?_⟩, r'⟩
  obtain ⟨b, off, e2, hb, hc⟩ := hc h0
  have hne : b ≠ g := by
    intro e4
    subst e4
    have h5 := hc 0 h0
    simp only [World.cell?, hg] at h5
    exact noD_get hl (by simpa using h5)
  refine ⟨b, off, e2, by simp [World.setCell]; exact hb, fun k hk => ?_⟩
  rw [World.cell?_setCell_other _ _ _ _ (by intro e; injection e with e1 _; exact hne e1.symm)]
  exact hc k hk
theorem frac_far {g : Nat} {cs : Array Value} {ty : TypeId} (hg : w.heap[g]? = some (.cells cs ty (0, 0))) (hl : noD cs = true) (j : Nat) (u : Value) {v : Value} {x : Rat} (hv : IsFrac w v x) : IsFrac (w.setCell ⟨g, j, none⟩ u) v x := by
  obtain ⟨s, A, l, c, t, A', l', c', e, hn, hd⟩ := hv
  exact ⟨s, A, l, c, t, A', l', c', e, big_far hg hl j u hn, big_far hg hl j u hd⟩
theorem dset_next {g j : Nat} {cs : Array Value} {ty : TypeId} (hg : w.heap[g]? = some (.cells cs ty (0, 0))) (u : Value) : (w.setCell ⟨g, j, none⟩ u).heap[g]? = some (.cells (cs.setIfInBounds j u) ty (0, 0)) := Lib.heap_setCell_same hg u
/-- An integer is stored at a place for one. -/
def stBig (w : World) (g : Nat) (s : Bool) (A : Option Addr) (l c : Nat) : World := (w.setCell ⟨g, 0, none⟩ (.bool s)).setCell ⟨g, 1, none⟩ (.slice A l c)
def stFrac (w : World) (g : Nat) (s : Bool) (A : Option Addr) (l c : Nat) (t : Bool) (A' : Option Addr) (l' c' : Nat) : World := (((w.setCell ⟨g, 0, none⟩ (.bool s)).setCell ⟨g, 1, none⟩ (.slice A l c)).setCell ⟨g, 2, none⟩ (.bool t)).setCell ⟨g, 3, none⟩ (.slice A' l' c')
theorem stBig_keep {g : Nat} {s0 : Bool} {A0 : Option Addr} {l0 c0 : Nat} (hg : w.heap[g]? = some (.cells #[.bool s0, .slice A0 l0 c0] 85 (0, 0))) (s : Bool) (A : Option Addr) (l c : Nat) :
    (∀ v z, DBig w v z → DBig (stBig w g s A l c) v z) ∧ (stBig w g s A l c).heap[g]? = some (.cells #[.bool s, .slice A l c] 85 (0, 0)) ∧ ∀ k, k ≠ g → (stBig w g s A l c).heap[k]? = w.heap[k]? := by
  have h1 := dset_next (j := 0) hg (.bool s)
  have h2 := dset_next (j := 1) h1 (.slice A l c)
  refine ⟨fun v z hv => big_far h1 rfl 1 _ (big_far hg rfl 0 _ hv), h2, fun k hk => ?_⟩
  exact (Below.heap_setCell _ _ _ _ hk).trans (Below.heap_setCell _ _ _ _ hk)
theorem stFrac_keep {g : Nat} {s0 t0 : Bool} {A0 A0' : Option Addr} {l0 c0 l0' c0' : Nat} (hg : w.heap[g]? = some (.cells #[.bool s0, .slice A0 l0 c0, .bool t0, .slice A0' l0' c0'] 87 (0, 0))) (s : Bool) (A : Option Addr) (l c : Nat) (t : Bool) (A' : Option Addr) (l' c' : Nat) :
    (∀ v z, DBig w v z → DBig (stFrac w g s A l c t A' l' c') v z) ∧ (stFrac w g s A l c t A' l' c').heap[g]? = some (.cells #[.bool s, .slice A l c, .bool t, .slice A' l' c'] 87 (0, 0)) ∧ ∀ k, k ≠ g → (stFrac w g s A l c t A' l' c').heap[k]? = w.heap[k]? := by
  have h1 := dset_next (j := 0) hg (.bool s)
  have h2 := dset_next (j := 1) h1 (.slice A l c)
  have h3 := dset_next (j := 2) h2 (.bool t)
  have h4 := dset_next (j := 3) h3 (.slice A' l' c')
  refine ⟨fun v z hv => big_far h3 rfl 3 _ (big_far h2 rfl 2 _ (big_far h1 rfl 1 _ (big_far hg rfl 0 _ hv))), h4, fun k hk => ?_⟩
  exact (Below.heap_setCell _ _ _ _ hk).trans ((Below.heap_setCell _ _ _ _ hk).trans ((Below.heap_setCell _ _ _ _ hk).trans (Below.heap_setCell _ _ _ _ hk)))
theorem dgetElem_of_some {α : Type} {l : List α} {i : Nat} {a : α} (h : l[i]? = some a) : ∃ hi : i < l.length, l[i] = a := by
  obtain ⟨hi, e⟩ := List.getElem?_eq_some_iff.1 h
  exact ⟨hi, e⟩
/-- One place changes what it holds. -/
theorem DPs.change (h : DPs w0 ps w) (i : Nat) {g : Nat} {p q : DP} (hp : ps[i]? = some (g, p)) (hq : q.At w' g) (hi : ∀ v z, DBig w v z → DBig w' v z) (hk : ∀ k, k ≠ g → w'.heap[k]? = w.heap[k]?) (hb : Below w0.heap.size w0 w') : DPs w0 (ps.set i (g, q)) w' := by
  obtain ⟨hil, hie⟩ := dgetElem_of_some hp
  have hmap : (ps.set i (g, q)).map (·.1) = ps.map (·.1) := by
    rw [List.map_set]
    refine List.ext_getElem? fun k => ?_
    rw [List.getElem?_set]
    by_cases hki : i = k
    · subst hki; simp [hil, hie]
    · rw [if_neg hki]
  refine ⟨fun r hr => ?_, fun r hr => ?_, by rw [hmap]; exact h.one, hb⟩
  · obtain ⟨k, hkl, hkr⟩ := List.getElem_of_mem hr
    rw [List.getElem_set] at hkr
    by_cases hik : i = k
    · rw [if_pos hik] at hkr; subst hkr; exact hq
    · rw [if_neg hik] at hkr
      subst hkr
      have hk' : k < ps.length := by simpa using hkl
      have hne : ps[k].1 ≠ g := by
        intro e
        have h2 : (ps.map (·.1))[k]? = (ps.map (·.1))[i]? := by
          rw [List.getElem?_map, List.getElem?_map, hp, List.getElem?_eq_getElem hk']; simp [e]
        have := (List.getElem?_inj (by simpa using hk') h.one).1 h2
        exact hik this.symm
      exact (h.mem _ (List.getElem_mem hk')).keep (hk _ hne) hi
  · obtain ⟨k, hkl, hkr⟩ := List.getElem_of_mem hr
    rw [List.getElem_set] at hkr
    by_cases hik : i = k
    · rw [if_pos hik] at hkr; subst hkr; exact h.ge i hp
    · rw [if_neg hik] at hkr; subst hkr; exact h.own _ (List.getElem_mem _)
theorem DPs.storeInt (h : DPs w0 ps w) (i : Nat) {g : Nat} (hp : ps[i]? = some (g, .hole)) {s : Bool} {A : Option Addr} {l c : Nat} {z : Int} (hz : DBig w (.agg #[.bool s, .slice A l c]) z) : DPs w0 (ps.set i (g, .int z)) (stBig w g s A l c) := by
  obtain ⟨s0, A0, l0, c0, hg⟩ := h.at_ i hp
  obtain ⟨k1, k2, k3⟩ := stBig_keep hg s A l c
  refine h.change i hp ⟨s, A, l, c, k2, k1 _ _ hz⟩ k1 k3 ?_
  have := h.ge i hp
  exact (h.below.setCell (by simpa using this) _).setCell (by simpa using this) _
theorem DPs.storeRat (h : DPs w0 ps w) (i : Nat) {g : Nat} (hp : ps[i]? = some (g, .rhole)) {s t : Bool} {A A' : Option Addr} {l c l' c' : Nat} {x : Rat} (hz : IsFrac w (.agg #[.bool s, .slice A l c, .bool t, .slice A' l' c']) x) : DPs w0 (ps.set i (g, .rat x)) (stFrac w g s A l c t A' l' c') := by
  obtain ⟨s0, A0, l0, c0, t0, A0', l0', c0', hg⟩ := h.at_ i hp
  obtain ⟨k1, k2, k3⟩ := stFrac_keep hg s A l c t A' l' c'
  have hr : IsFrac (stFrac w g s A l c t A' l' c') (.agg #[.bool s, .slice A l c, .bool t, .slice A' l' c']) x := by
    obtain ⟨s, A, l, c, t, A', l', c', e, hn, hd⟩ := hz
    exact ⟨s, A, l, c, t, A', l', c', e, k1 _ _ hn, k1 _ _ hd⟩
  refine h.change i hp ⟨s, A, l, c, t, A', l', c', k2, hr⟩ k1 k3 ?_
  have := h.ge i hp
  exact (((h.below.setCell (by simpa using this) _).setCell (by simpa using this) _).setCell (by simpa using this) _).setCell (by simpa using this) _
end
section
variable {w0 w : World} {ps : List (Nat × DP)}
theorem DPs.boxRat (h : DPs w0 ps w) {s t : Bool} {A A' : Option Addr} {l c l' c' : Nat} {x : Rat} (hx : IsFrac w (.agg #[.bool s, .slice A l c, .bool t, .slice A' l' c']) x) {g : Nat} (hg : g = w.heap.size) :
    DPs w0 (ps ++ [(g, .rat x)]) (w.alloc (.cells #[.bool s, .slice A l c, .bool t, .slice A' l' c'] 87)) := by
  subst hg; exact h.alloc ⟨s, A, l, c, t, A', l', c', heap_alloc_new w _, hx.below ((Below.refl _ _).alloc (Nat.le_refl _) _)⟩
theorem DPs.boxInt (h : DPs w0 ps w) {s : Bool} {A : Option Addr} {l c : Nat} {z : Int} (hz : DBig w (.agg #[.bool s, .slice A l c]) z) {g : Nat} (hg : g = w.heap.size) :
    DPs w0 (ps ++ [(g, .int z)]) (w.alloc (.cells #[.bool s, .slice A l c] 85)) := by
  subst hg; exact h.alloc ⟨s, A, l, c, heap_alloc_new w _, hz.below ((Below.refl _ _).alloc (Nat.le_refl _) _) (Nat.le_refl _)⟩
theorem DPs.newHole (h : DPs w0 ps w) {g : Nat} (hg : g = w.heap.size) : DPs w0 (ps ++ [(g, .hole)]) (w.alloc (.cells #[.bool false, .slice none 0 0] 85)) := by
  subst hg; exact h.alloc ⟨_, _, _, _, heap_alloc_new w _⟩
theorem DPs.newRhole (h : DPs w0 ps w) {g : Nat} (hg : g = w.heap.size) : DPs w0 (ps ++ [(g, .rhole)]) (w.alloc (.cells #[.bool false, .slice none 0 0, .bool false, .slice none 0 0] 87)) := by
  subst hg; exact h.alloc ⟨_, _, _, _, _, _, _, _, heap_alloc_new w _⟩
/-- What is known behind a store of an integer. -/
theorem DPs.stored (h : DPs w0 ps w) (i : Nat) {g : Nat} (hp : ps[i]? = some (g, .hole)) {s : Bool} {A : Option Addr} {l c : Nat} {z : Int} (hz : DBig w (.agg #[.bool s, .slice A l c]) z) :
    (stBig w g s A l c).cell? ⟨g, 0, none⟩ = some (.bool s) ∧ (stBig w g s A l c).cell? ⟨g, 1, none⟩ = some (.slice A l c) ∧ DBig (stBig w g s A l c) (.agg #[.bool s, .slice A l c]) z ∧ DPs w0 (ps.set i (g, .int z)) (stBig w g s A l c) := by
  obtain ⟨s0, A0, l0, c0, hg⟩ := h.at_ i hp
  obtain ⟨k1, k2, _⟩ := stBig_keep hg s A l c
  exact ⟨by simp [World.cell?, k2], by simp [World.cell?, k2], k1 _ _ hz, h.storeInt i hp hz⟩
theorem DPs.rstored (h : DPs w0 ps w) (i : Nat) {g : Nat} (hp : ps[i]? = some (g, .rhole)) {s t : Bool} {A A' : Option Addr} {l c l' c' : Nat} {x : Rat} (hz : IsFrac w (.agg #[.bool s, .slice A l c, .bool t, .slice A' l' c']) x) :
    (stFrac w g s A l c t A' l' c').cell? ⟨g, 0, none⟩ = some (.bool s) ∧ (stFrac w g s A l c t A' l' c').cell? ⟨g, 1, none⟩ = some (.slice A l c) ∧ (stFrac w g s A l c t A' l' c').cell? ⟨g, 2, none⟩ = some (.bool t) ∧ (stFrac w g s A l c t A' l' c').cell? ⟨g, 3, none⟩ = some (.slice A' l' c') ∧
    IsFrac (stFrac w g s A l c t A' l' c') (.agg #[.bool s, .slice A l c, .bool t, .slice A' l' c']) x ∧ DPs w0 (ps.set i (g, .rat x)) (stFrac w g s A l c t A' l' c') := by
  obtain ⟨s0, A0, l0, c0, t0, A0', l0', c0', hg⟩ := h.at_ i hp
  obtain ⟨k1, k2, _⟩ := stFrac_keep hg s A l c t A' l' c'
  refine ⟨by simp [World.cell?, k2], by simp [World.cell?, k2], by simp [World.cell?, k2], by simp [World.cell?, k2], ?_, h.storeRat i hp hz⟩
  obtain ⟨s, A, l, c, t, A', l', c', e, hn, hd⟩ := hz
  exact ⟨s, A, l, c, t, A', l', c', e, k1 _ _ hn, k1 _ _ hd⟩
/-- A place for an integer that is left behind. -/
theorem DPs.left (h : DPs w0 ps w) (i : Nat) {g : Nat} {z : Int} (hp : ps[i]? = some (g, .int z)) : DPs w0 (ps.set i (g, .hole)) w := by
  obtain ⟨s, A, l, c, h1, _⟩ := h.at_ i hp
  exact h.change i hp ⟨s, A, l, c, h1⟩ (fun _ _ h => h) (fun _ _ => rfl) h.below
end
theorem DPs.keepInt {w0 w : World} {ps : List (Nat × DP)} (h : DPs w0 ps w) (i : Nat) {g : Nat} (hp : ps[i]? = some (g, .hole)) (s : Bool) (A : Option Addr) (l c : Nat) {v : Value} {z : Int} (hz : DBig w v z) : DBig (stBig w g s A l c) v z := by
  obtain ⟨s0, A0, l0, c0, hg⟩ := h.at_ i hp
  exact (stBig_keep hg s A l c).1 _ _ hz
/-- What a region keeps that makes no store ahead of its end: the places, and the (at most two) new ones. -/
def DRE (w0 : World) (ps : List (Nat × DP)) (n0 i j : Nat) (D : List Nat) (vals : Nat → Value) (w : World) : Prop :=
  DPs w0 ps w ∧ RelV.Fresh2 n0 i j D vals w ∧ n0 ≤ w.heap.size ∧ w0.heap.size ≤ n0 ∧ ∀ q ∈ ps, q.1 < n0
section
variable {w0 w w' : World} {ps : List (Nat × DP)} {n0 i j k : Nat} {D : List Nat} {vals : Nat → Value} {v : Value}
theorem DRE.start (h : DPs w0 ps w) (i j : Nat) (vals : Nat → Value) : DRE w0 ps w.heap.size i j [] vals w.drew := ⟨h.drew, RelV.Fresh2.start _ _, Nat.le_refl _, h.below.size, fun _ hq => h.lt hq⟩
theorem DRE.step (h : DRE w0 ps n0 i j D vals w) (hb : Below w.heap.size w w') (hi : k ≠ i) (hj : k ≠ j) : DRE w0 ps n0 i j (D ++ [k]) (fun x => if x = k then v else vals x) w' :=
  ⟨h.1.next hb, h.2.1.other hb.size hi hj, Nat.le_trans h.2.2.1 hb.size, h.2.2.2⟩
theorem DRE.same (h : DRE w0 ps n0 i j D vals w) (hi : k ≠ i) (hj : k ≠ j) : DRE w0 ps n0 i j (D ++ [k]) (fun x => if x = k then v else vals x) w := h.step (Below.refl _ _) hi hj
theorem DRE.first (h : DRE w0 ps n0 i j D vals w) (hij : i ≠ j) (o : Obj) : DRE w0 ps n0 i j (D ++ [i]) (fun x => if x = i then .pointer (some ⟨w.heap.size, 0, none⟩) else vals x) (w.alloc o) := by
  have hb := (Below.refl w.heap.size w).alloc (Nat.le_refl _) o
  have hs : (w.alloc o).heap.size = w.heap.size + 1 := by simp
  exact ⟨h.1.next hb, h.2.1.first hij h.2.2.1 (by omega), Nat.le_trans h.2.2.1 hb.size, h.2.2.2⟩
theorem DRE.second (h : DRE w0 ps n0 i j D vals w) (hij : i ≠ j) (o : Obj) : DRE w0 ps n0 i j (D ++ [j]) (fun x => if x = j then .pointer (some ⟨w.heap.size, 0, none⟩) else vals x) (w.alloc o) := by
  have hb := (Below.refl w.heap.size w).alloc (Nat.le_refl _) o
  have hs : (w.alloc o).heap.size = w.heap.size + 1 := by simp
  exact ⟨h.1.next hb, h.2.1.second hij h.2.2.1 (by omega), Nat.le_trans h.2.2.1 hb.size, h.2.2.2⟩
/-- What is known of a new place. -/
def DNewAt (n0 : Nat) (p : DP) (v : Value) (w : World) : Prop := ∃ g, v = .pointer (some ⟨g, 0, none⟩) ∧ n0 ≤ g ∧ p.At w g
theorem DNewAt.below {p : DP} (h : DNewAt n0 p v w) (hb : Below w.heap.size w w') : DNewAt n0 p v w' := by
  obtain ⟨g, e, h1, h2⟩ := h
  exact ⟨g, e, h1, h2.below hb⟩
theorem DRE.newHole (h : DRE w0 ps n0 i j D vals w) : DNewAt n0 .hole (.pointer (some ⟨w.heap.size, 0, none⟩)) (w.alloc (.cells #[.bool false, .slice none 0 0] 85)) := ⟨_, rfl, h.2.2.1, ⟨_, _, _, _, heap_alloc_new w _⟩⟩
/-- The new places join the others. -/
theorem DRE.one (h : DRE w0 ps n0 i j D vals w) {p : DP} {g : Nat} (hg : n0 ≤ g) (hp : p.At w g) : DPs w0 (ps ++ [(g, p)]) w :=
  h.1.add hp (Nat.le_trans h.2.2.2.1 hg) fun q hq e => by have := h.2.2.2.2 q hq; omega
theorem DRE.two (h : DRE w0 ps n0 i j D vals w) (hi : i ∈ D) (hj : j ∈ D) {p q : DP} {g g' : Nat} (e1 : vals i = .pointer (some ⟨g, 0, none⟩)) (hg : n0 ≤ g) (hp : p.At w g) (e2 : vals j = .pointer (some ⟨g', 0, none⟩)) (hg' : n0 ≤ g') (hq : q.At w g') :
    DPs w0 (ps ++ [(g, p)] ++ [(g', q)]) w ∧ g' ≠ g := by
  have hne : g' ≠ g := by
    intro e
    subst e
    exact h.2.1.2.2 hi hj (e1.trans e2.symm)
  refine ⟨(h.one hg hp).add hq (Nat.le_trans h.2.2.2.1 hg') fun r hr e => ?_, hne⟩
  rcases List.mem_append.1 hr with h1 | h1
  · have := h.2.2.2.2 r h1; omega
  · rw [List.mem_singleton] at h1; subst h1; exact hne e.symm
end
end Go.Proofs.YtigplffpnbdkeaaGreatDoor
