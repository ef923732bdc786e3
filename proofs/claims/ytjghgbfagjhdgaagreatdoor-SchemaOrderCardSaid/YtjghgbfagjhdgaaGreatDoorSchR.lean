/- Package schema: Value; lists of ints compared; the chapter's example. The chapter's example. -/
import Derived.Test.YtjghgbfagjhdgaaGreatDoorSchQ
import Derived.Test.YtjghgbfagjhdgaaGreatDoorTotS
import Derived.Test.YtjghgbfagjhdgaaGreatDoorRatFG
namespace Go.Proofs.YtjghgbfagjhdgaaGreatDoor
open Go Go.RowKit

set_option maxHeartbeats 1600000 in
theorem ints_same {w : World} {u v : Value} {l : List Nat} (hu : ListAt w u l) (hv : ListAt w v l) :
    Calls Tryz.prog 37 #[u, v] w fun e w' => e = .returned (.bool true) ∧ Below w.heap.size w w' := by
  obtain ⟨A, c, rfl, hl, h1⟩ := hu
  obtain ⟨A', c', rfl, _, h2⟩ := hv
  obtain ⟨n, hn⟩ : ∃ n, n = l.length := ⟨_, rfl⟩
  rw [← hn] at hl h1 h2 ⊢
  have H := Lib.hid (And.intro h1 h2)
  clear h1 h2 hn
  go_enter Tryz.func37, Tryz.ntmps37
  go_wp2_with fail
  go_loopg [13] n (fun gg s13 wr => ∃ i : Nat, i + gg = n ∧ s13 = .int .i64 (i : Int) ∧ Hid (Below w.heap.size w wr))
  case atStart => exact ⟨0, by omega, rfl, Lib.hid (Below.refl _ _)⟩
  case round =>
    obtain ⟨i, hi, rfl, HR⟩ := hrel
    by_cases hlt : i < n
    · obtain ⟨b, off, rfl, hbl, hc⟩ := (H.out.1.below HR.out) (by omega)
      obtain ⟨b', off', rfl, hbl', hc'⟩ := (H.out.2.below HR.out) (by omega)
      have c0 : wr.cell? ⟨b, off + i, none⟩ = some (.int .i64 ((l.getD i 0 : Nat) : Int)) := hc i hlt
      have c1 : wr.cell? ⟨b', off' + i, none⟩ = some (.int .i64 ((l.getD i 0 : Nat) : Int)) := hc' i hlt
      clear hbl hc hbl' hc'
      generalize ((l.getD i 0 : Nat) : Int) = y at c0 c1
      go_wp2_with fail
      go_quiet (fail)
      go_wp2
      go_roundg (n - (i + 1))
      case measure => omega
      case rel => exact ⟨i + 1, by omega, by go_num, Lib.hid (HR.out.trans (((Drawn.refl wr).drewN nq).below _))⟩
    · have ein : i = n := by omega
      subst ein
      clear hlt hi
      go_wp2
      go_ret
      exact ⟨rfl, HR.out⟩
theorem within_ok {w : World} {s : ByteArray} {n : Int} (m : Int) (hs : s.data.toList = Lib.itoa n) (h0 : -9223372036854775808 ≤ n) (h1 : n ≤ 9223372036854775807) (hm0 : 0 ≤ m) (hm : m ≤ 1000000000) :
    Calls Tryz.prog 144 #[.string s, .int .i64 m] w fun e w' => e = .returned (.bool (betweenB n (-m) m)) ∧ Below w.heap.size w w' := by
  have H := Lib.hid (small_near (w := w) hs h0 h1)
  clear hs
  go_enter Tryz.func144, Tryz.ntmps144
  go_wp2_with fail
  refine H.out.mono ?_
  cases hi : inSm n with
  | false =>
    have HI := Lib.hid hi
    clear hi
    rintro e w' ⟨rfl, hb⟩
    have HB := Lib.hid hb
    clear hb
    go_wp2
    go_ret
    exact ⟨ret_b (show betweenB n (-m) m = false by
      have h2 := of_decide_eq_false HI.out
      unfold betweenB
      rw [Bool.and_eq_false_iff, decide_eq_false_iff_not, decide_eq_false_iff_not]; omega), HB.out⟩
  | true =>
    rintro e w' ⟨rfl, hb⟩
    have HB := Lib.hid hb
    clear hb hi
    go_wp2_with fail
    refine (between_any _ _ _ _).mono ?_
    rintro e w2 ⟨rfl, rfl⟩
    go_wp2
    go_ret
    exact ⟨rfl, HB.out⟩
theorem within_bad {w : World} {s : ByteArray} (m : Int) (h : vld s.data.toList = false) :
    Calls Tryz.prog 144 #[.string s, .int .i64 m] w fun e w' => e = .returned (.bool false) ∧ Below w.heap.size w w' := by
  have H := Lib.hid (small_bad (w := w) s h)
  clear h
  go_enter Tryz.func144, Tryz.ntmps144
  go_wp2_with fail
  refine H.out.mono ?_
  rintro e w' ⟨rfl, hb⟩
  go_wp2
  go_ret
  exact ⟨rfl, hb⟩
theorem short_ok {w : World} {s : ByteArray} {x : Rat} (hm : Lx w) (hs : Short s) (hr : Rd s (some x)) (h0 : -9223372036854775808 ≤ x.num) (h1 : x.num ≤ 9223372036854775807) (h2 : x.den ≤ 9223372036854775807) :
    Calls Tryz.prog 145 #[.string s] w fun e w' => e = .returned (.bool (betweenB x.num (-1000000000) 1000000000 && betweenB x.den (-12) 12)) ∧ Below w.heap.size w w' := by
  obtain ⟨sa, hsa⟩ : ∃ sa : ByteArray, sa = ⟨(Lib.itoa x.num).toArray⟩ := ⟨_, rfl⟩
  obtain ⟨sb, hsb⟩ : ∃ sb : ByteArray, sb = ⟨(Lib.itoa (x.den : Int)).toArray⟩ := ⟨_, rfl⟩
  have hp := qparts_any (w := w) s hm hs hr
  rw [show qparts (some x) = Value.tuple #[.string sa, .string sb, .bool true] by rw [hsa, hsb]; rfl] at hp
  have ha : ∀ w, Calls Tryz.prog 144 #[.string sa, .int .i64 1000000000] w fun e w' => e = .returned (.bool (betweenB x.num (-1000000000) 1000000000)) ∧ Below w.heap.size w w' := fun w => within_ok 1000000000 (by rw [hsa]) h0 h1 (by omega) (by omega)
  have hb : ∀ w, Calls Tryz.prog 144 #[.string sb, .int .i64 12] w fun e w' => e = .returned (.bool (betweenB x.den (-12) 12)) ∧ Below w.heap.size w w' := fun w => within_ok 12 (by rw [hsb]) (by omega) (by omega) (by omega) (by omega)
  generalize betweenB x.num (-1000000000) 1000000000 = r at ha ⊢
  generalize betweenB (x.den : Int) (-12) 12 = r2 at hb ⊢
  have H := Lib.hid (And.intro hp (And.intro ha hb))
  clear hp ha hb hsa hsb hr hm hs h0 h1 h2
  go_enter Tryz.func145, Tryz.ntmps145
  go_wp2_with fail
  refine H.out.1.mono ?_
  rintro e w1 ⟨rfl, hb⟩
  have HB := Lib.hid hb
  clear hb
  go_wp2_with fail
  refine (H.out.2.1 _).mono ?_
  rintro e w2 ⟨rfl, hb⟩
  have HC := Lib.hid (Below.step HB.out hb)
  clear hb
  cases r with
  | false =>
    go_wp2
    go_ret
    exact ⟨rfl, HC.out⟩
  | true =>
    go_wp2_with fail
    refine (H.out.2.2 _).mono ?_
    rintro e w3 ⟨rfl, hb⟩
    have HD := Lib.hid (Below.step HC.out hb)
    clear hb
    go_wp2
    go_ret
    exact ⟨rfl, HD.out⟩
theorem short_bad {w : World} {s : ByteArray} (hm : Lx w) (hs : Short s) (hr : Rd s none) :
    Calls Tryz.prog 145 #[.string s] w fun e w' => e = .returned (.bool false) ∧ Below w.heap.size w w' := by
  have hp := qparts_any (w := w) s hm hs hr
  rw [show qparts none = Value.tuple #[.string ⟨#[]⟩, .string ⟨#[]⟩, .bool false] from rfl] at hp
  have H := Lib.hid hp
  clear hm hs hr hp
  go_enter Tryz.func145, Tryz.ntmps145
  go_wp2_with fail
  refine H.out.mono ?_
  rintro e w1 ⟨rfl, hb⟩
  go_wp2
  go_ret
  exact ⟨rfl, hb⟩
theorem value_key {w : World} {nm v : ByteArray} {r : Bool} (hv : 0 < v.size) (hcon : ∀ w, Calls Tryz.prog 144 #[.string v, .int .i64 1000000000] w fun e w' => e = .returned (.bool r) ∧ Below w.heap.size w w') :
    Calls Tryz.prog 87 #[.agg #[.string nm, .int .i64 1], .string v] w fun e w' => e = .returned (.bool r) ∧ Below w.heap.size w w' := by
  have he := nonempty_of hv
  have H := Lib.hid (And.intro hcon (show Below w.heap.size w (w.alloc (.cells #[.string nm, .int .i64 1] 68)) from (Below.refl _ _).alloc (Nat.le_refl _) _))
  clear hcon hv
  go_enter Tryz.func87, Tryz.ntmps87
  go_wp2_with fail
  refine (H.out.1 _).mono ?_
  rintro e w1 ⟨rfl, hb⟩
  have HB := Lib.hid (Below.step H.out.2 hb)
  clear hb
  go_wp2
  go_ret
  exact ⟨rfl, HB.out⟩
theorem value_num {w : World} {nm v : ByteArray} {r : Bool} (hv : 0 < v.size) (hm : Lx w) (hcon : ∀ w, Lx w → Calls Tryz.prog 145 #[.string v] w fun e w' => e = .returned (.bool r) ∧ Below w.heap.size w w') :
    Calls Tryz.prog 87 #[.agg #[.string nm, .int .i64 2], .string v] w fun e w' => e = .returned (.bool r) ∧ Below w.heap.size w w' := by
  have he := nonempty_of hv
  have hg : Below w.heap.size w (w.alloc (.cells #[.string nm, .int .i64 2] 68)) := (Below.refl _ _).alloc (Nat.le_refl _) _
  have H := Lib.hid (And.intro hcon (And.intro hg (hm.below hg)))
  clear hcon hv hm hg
  go_enter Tryz.func87, Tryz.ntmps87
  go_wp2_with fail
  refine (H.out.1 _ H.out.2.2).mono ?_
  rintro e w1 ⟨rfl, hb⟩
  have HB := Lib.hid (Below.step H.out.2.1 hb)
  clear hb
  go_wp2
  go_ret
  exact ⟨rfl, HB.out⟩
theorem value_cat {w : World} {nm v : ByteArray} (hv : 0 < v.size) (hm : v.size ≤ maxLen) :
    Calls Tryz.prog 87 #[.agg #[.string nm, .int .i64 3], .string v] w fun e w' => e = .returned (.bool (wordB v)) ∧ Below w.heap.size w w' := by
  have he := nonempty_of hv
  have H := Lib.hid hm
  clear hv hm
  go_enter Tryz.func87, Tryz.ntmps87
  go_wp2_with fail
  refine (sword_any v _ H.out).mono ?_
  rintro e w1 ⟨rfl, rfl⟩
  go_wp2
  go_ret
  exact ⟨rfl, by go_grown⟩
theorem value_empty {w : World} {nm : ByteArray} {k : Int} (hk : k = 1 ∨ k = 2 ∨ k = 3) :
    Calls Tryz.prog 87 #[.agg #[.string nm, .int .i64 k], .string ⟨#[]⟩] w fun e w' => e = .returned (.bool true) ∧ Below w.heap.size w w' := by
  rcases hk with rfl | rfl | rfl
  all_goals
    go_enter Tryz.func87, Tryz.ntmps87
    go_wp2
    go_ret
    exact ⟨rfl, by go_grown⟩
end Go.Proofs.YtjghgbfagjhdgaaGreatDoor
namespace Go.Proofs.YtjghgbfagjhdgaaGreatDoor
open Go Go.RowKit

def S0 : Sc where
  na := 2
  name := fun i => if i = 0 then ⟨#[97]⟩ else ⟨#[98]⟩
  kind := fun i => if i = 0 then 1 else 2
  nr := 2
  rname := fun i => if i = 0 then ⟨#[114]⟩ else ⟨#[113]⟩
  rn := fun i => if i = 0 then 2 else 1
  rat := fun _ j => (j : Int)
  nf := 1
  fa := fun _ => 1
  fk := fun _ => 1
  fm := fun _ => 0
  label := -1
def V0 (h : Nat) : Sv where
  A := some ⟨h, 0, none⟩
  ca := 2
  R := some ⟨h + 1 + 1 + 1, 0, none⟩
  cr := 2
  F := some ⟨h + 1 + 1 + 1 + 1, 0, none⟩
  cf := 1
  L := fun i => if i = 0 then (some ⟨h + 1, 0, none⟩, 2, 2) else (some ⟨h + 1 + 1, 0, none⟩, 1, 1)
theorem check0 : checkE S0 = 0 := by decide +kernel
theorem word_a1 : wordB ⟨#[97, 45, 49]⟩ = true := by decide +kernel
theorem joined0 : joinedL S0 = [0] := by decide +kernel
theorem numbers0 : numbersL S0 = [0] := by decide +kernel
theorem uses0 : usesL S0 0 = [0, 1] := by decide +kernel
theorem linked0 : linkedB S0 0 1 = true := by decide +kernel
theorem find0 : findI S0 ⟨#[98]⟩ = 1 := by decide +kernel
theorem block_alloc {w : World} {b : Nat} {x : Obj} (o : Obj) (h : w.heap[b]? = some x) : (w.alloc o).heap[b]? = some x :=
  (((Below.refl _ _).alloc (Nat.le_refl _) o).block b (lt_of_block h)).trans h
theorem block_new {w : World} {b : Nat} (o : Obj) (h : b = w.heap.size) : (w.alloc o).heap[b]? = some o := by rw [h]; exact heap_alloc_new w o
theorem cell_in {w : World} {g j : Nat} {cs : Array Value} {t : TypeId} {v : Value} (h : w.heap[g]? = some (.cells cs t (0, 0))) (hj : cs[j]? = some v) : w.cell? ⟨g, j, none⟩ = some v := by
  unfold World.cell?
  simp [h, hj]
/-- The six blocks of the example. -/
def Ex (w : World) (h : Nat) : Prop :=
  w.heap[h]? = some (.cells #[.string ⟨#[97]⟩, .int .i64 1, .string ⟨#[98]⟩, .int .i64 2] 68 (0, 0)) ∧
  w.heap[h + 1]? = some (.cells #[.int .i64 0, .int .i64 1] 3 (0, 0)) ∧
  w.heap[h + 1 + 1]? = some (.cells #[.int .i64 0] 3 (0, 0)) ∧
  w.heap[h + 1 + 1 + 1]? = some (.cells #[.string ⟨#[114]⟩, .slice (some ⟨h + 1, 0, none⟩) 2 2, .string ⟨#[113]⟩, .slice (some ⟨h + 1 + 1, 0, none⟩) 1 1] 60 (0, 0)) ∧
  w.heap[h + 1 + 1 + 1 + 1]? = some (.cells #[.int .i64 1, .int .i64 1, .int .i64 0] 121 (0, 0)) ∧
  w.heap[h + 1 + 1 + 1 + 1 + 1]? = some (.cells #[.slice (some ⟨h, 0, none⟩) 2 2, .slice (some ⟨h + 1 + 1 + 1, 0, none⟩) 2 2, .slice (some ⟨h + 1 + 1 + 1 + 1, 0, none⟩) 1 1, .int .i64 (-1)] 56 (0, 0))
theorem Ex.below {w w' : World} {h : Nat} (e : Ex w h) (hb : Below w.heap.size w w') : Ex w' h :=
  ⟨(hb.block _ (lt_of_block e.1)).trans e.1, (hb.block _ (lt_of_block e.2.1)).trans e.2.1, (hb.block _ (lt_of_block e.2.2.1)).trans e.2.2.1, (hb.block _ (lt_of_block e.2.2.2.1)).trans e.2.2.2.1, (hb.block _ (lt_of_block e.2.2.2.2.1)).trans e.2.2.2.2.1, (hb.block _ (lt_of_block e.2.2.2.2.2)).trans e.2.2.2.2.2⟩
theorem Ex.sch {w : World} {h : Nat} (e : Ex w h) : SchIn w S0 (V0 h) where
  attr := fun _ => ⟨h, 0, rfl, lt_of_block e.1, fun i hi => by
    match i, hi with
    | 0, _ => exact ⟨cell_in e.1 rfl, cell_in e.1 rfl⟩
    | 1, _ => exact ⟨cell_in e.1 rfl, cell_in e.1 rfl⟩⟩
  rel := fun _ => ⟨h + 1 + 1 + 1, 0, rfl, lt_of_block e.2.2.2.1, fun i hi => by
    match i, hi with
    | 0, _ => exact ⟨cell_in e.2.2.2.1 rfl, cell_in e.2.2.2.1 rfl⟩
    | 1, _ => exact ⟨cell_in e.2.2.2.1 rfl, cell_in e.2.2.2.1 rfl⟩⟩
  feat := fun _ => ⟨h + 1 + 1 + 1 + 1, 0, rfl, lt_of_block e.2.2.2.2.1, fun i hi => by
    match i, hi with
    | 0, _ => exact ⟨cell_in e.2.2.2.2.1 rfl, cell_in e.2.2.2.2.1 rfl, cell_in e.2.2.2.2.1 rfl⟩⟩
  ints := fun i hi => by
    match i, hi with
    | 0, _ => exact ⟨rfl, by decide, fun _ => ⟨h + 1, 0, rfl, lt_of_block e.2.1, fun j hj => by
        match j, hj with
        | 0, _ => exact cell_in e.2.1 rfl
        | 1, _ => exact cell_in e.2.1 rfl⟩⟩
    | 1, _ => exact ⟨rfl, by decide, fun _ => ⟨h + 1 + 1, 0, rfl, lt_of_block e.2.2.1, fun j hj => by
        match j, hj with
        | 0, _ => exact cell_in e.2.2.1 rfl⟩⟩
  na := by decide
  nr := by decide
  nf := by decide
  ca := show 2 ≤ 2 by decide
  cr := show 2 ≤ 2 by decide
  cf := show 1 ≤ 1 by decide
  cam := by show 2 ≤ maxLen; decide
  crm := by show 2 ≤ maxLen; decide
  cfm := by show 1 ≤ maxLen; decide
  ns := fun i hi => by
    match i, hi with
    | 0, _ => show 1 ≤ maxLen; decide
    | 1, _ => show 1 ≤ maxLen; decide
  rs := fun i hi => by
    match i, hi with
    | 0, _ => show 1 ≤ maxLen; decide
    | 1, _ => show 1 ≤ maxLen; decide
theorem list_one {w : World} : ListAt (w.alloc (.cells #[.int .i64 0] 3)) (.slice (some ⟨w.heap.size, 0, none⟩) 1 1) [0] :=
  ⟨_, _, rfl, by decide, fun _ => ⟨w.heap.size, 0, rfl, by simp, fun i hi => by
    match i, hi with
    | 0, _ => exact cell_in (heap_alloc_new w _) rfl⟩⟩
theorem list_two {w : World} : ListAt (w.alloc (.cells #[.int .i64 0, .int .i64 1] 3)) (.slice (some ⟨w.heap.size, 0, none⟩) 2 2) [0, 1] :=
  ⟨_, _, rfl, by decide, fun _ => ⟨w.heap.size, 0, rfl, by simp, fun i hi => by
    match i, hi with
    | 0, _ => exact cell_in (heap_alloc_new w _) rfl
    | 1, _ => exact cell_in (heap_alloc_new w _) rfl⟩⟩
theorem rd_712 : Rd ⟨#[55, 47, 49, 50]⟩ (some (mkRat 7 12)) := by
  show RatIs _ _
  unfold RatIs
  refine ⟨by decide +kernel, by decide +kernel, by decide +kernel⟩
theorem rd_713 : Rd ⟨#[55, 47, 49, 51]⟩ (some (mkRat 7 13)) := by
  show RatIs _ _
  unfold RatIs
  refine ⟨by decide +kernel, by decide +kernel, by decide +kernel⟩
theorem val_712 {w : World} (hm : Lx w) : Calls Tryz.prog 87 #[.agg #[.string ⟨#[98]⟩, .int .i64 2], .string ⟨#[55, 47, 49, 50]⟩] w fun e w' => e = .returned (.bool true) ∧ Below w.heap.size w w' :=
  value_num (by decide) hm fun w h => by
    have h1 := short_ok (w := w) h (by unfold Short; decide) rd_712 (by decide +kernel) (by decide +kernel) (by decide +kernel)
    rw [show (betweenB (mkRat 7 12).num (-1000000000) 1000000000 && betweenB (mkRat 7 12).den (-12) 12) = true by decide +kernel] at h1
    exact h1
theorem val_713 {w : World} (hm : Lx w) : Calls Tryz.prog 87 #[.agg #[.string ⟨#[98]⟩, .int .i64 2], .string ⟨#[55, 47, 49, 51]⟩] w fun e w' => e = .returned (.bool false) ∧ Below w.heap.size w w' :=
  value_num (by decide) hm fun w h => by
    have h1 := short_ok (w := w) h (by unfold Short; decide) rd_713 (by decide +kernel) (by decide +kernel) (by decide +kernel)
    rw [show (betweenB (mkRat 7 13).num (-1000000000) 1000000000 && betweenB (mkRat 7 13).den (-12) 12) = false by decide +kernel] at h1
    exact h1
set_option maxHeartbeats 6400000 in
set_option maxRecDepth 100000 in
theorem sane05 {w : World} (hm : Lx w) : Calls Tryz.prog 33 #[] w fun e w' => e = .returned (.bool true) ∧ Below w.heap.size w w' := by
  have H := Lib.hid hm
  clear hm
  go_enter Tryz.func33, Tryz.ntmps33
  go_wp2_with fail
  have hex : Ex (((((( w.alloc (.cells #[.string ⟨#[97]⟩, .int .i64 1, .string ⟨#[98]⟩, .int .i64 2] 68)).alloc (.cells #[.int .i64 0, .int .i64 1] 3)).alloc (.cells #[.int .i64 0] 3)).alloc (.cells #[.string ⟨#[114]⟩, .slice (some ⟨w.heap.size + 1, 0, none⟩) 2 2, .string ⟨#[113]⟩, .slice (some ⟨w.heap.size + 1 + 1, 0, none⟩) 1 1] 60)).alloc (.cells #[.int .i64 1, .int .i64 1, .int .i64 0] 121)).alloc (.cells #[.slice (some ⟨w.heap.size, 0, none⟩) 2 2, .slice (some ⟨w.heap.size + 1 + 1 + 1, 0, none⟩) 2 2, .slice (some ⟨w.heap.size + 1 + 1 + 1 + 1, 0, none⟩) 1 1, .int .i64 (-1)] 56)) w.heap.size :=
    ⟨block_alloc _ (block_alloc _ (block_alloc _ (block_alloc _ (block_alloc _ (block_new _ rfl))))), block_alloc _ (block_alloc _ (block_alloc _ (block_alloc _ (block_new _ (by simp))))), block_alloc _ (block_alloc _ (block_alloc _ (block_new _ (by simp)))), block_alloc _ (block_alloc _ (block_new _ (by simp))), block_alloc _ (block_new _ (by simp)), block_new _ (by simp)⟩
  refine (check_any hex.sch).mono ?_
  rw [check0]
  rintro e w1 ⟨rfl, hb⟩
  have hb0 : Below w.heap.size w w1 := by refine Below.trans ?_ (hb.mono ?_) <;> first | go_grown | (simp; omega)
  have HE := Lib.hid (And.intro (hex.below hb) hb0)
  clear hb hb0 hex
  have q0 : w1.cell? ⟨w.heap.size + 1 + 1 + 1 + 1 + 1, 0, none⟩ = some (.slice (some ⟨w.heap.size, 0, none⟩) 2 2) := cell_in HE.out.1.2.2.2.2.2 rfl
  have q1 : w1.cell? ⟨w.heap.size + 1 + 1 + 1 + 1 + 1, 1, none⟩ = some (.slice (some ⟨w.heap.size + 1 + 1 + 1, 0, none⟩) 2 2) := cell_in HE.out.1.2.2.2.2.2 rfl
  have q2 : w1.cell? ⟨w.heap.size + 1 + 1 + 1 + 1 + 1, 2, none⟩ = some (.slice (some ⟨w.heap.size + 1 + 1 + 1 + 1, 0, none⟩) 1 1) := cell_in HE.out.1.2.2.2.2.2 rfl
  have q3 : w1.cell? ⟨w.heap.size + 1 + 1 + 1 + 1 + 1, 3, none⟩ = some (.int .i64 (-1)) := cell_in HE.out.1.2.2.2.2.2 rfl
  have a2 : w1.cell? ⟨w.heap.size, 2, none⟩ = some (.string ⟨#[98]⟩) := cell_in HE.out.1.1 rfl
  have a3 : w1.cell? ⟨w.heap.size, 3, none⟩ = some (.int .i64 2) := cell_in HE.out.1.1 rfl
  go_wp2_with fail
  refine (val_712 (H.out.below HE.out.2)).mono ?_
  rintro e w2 ⟨rfl, hb⟩
  have HE2 := Lib.hid (And.intro (HE.out.1.below hb) (HE.out.2.trans (hb.mono HE.out.2.size)))
  clear hb q0 q1 q2 q3 a2 a3 HE
  have q0 : w2.cell? ⟨w.heap.size + 1 + 1 + 1 + 1 + 1, 0, none⟩ = some (.slice (some ⟨w.heap.size, 0, none⟩) 2 2) := cell_in HE2.out.1.2.2.2.2.2 rfl
  have q1 : w2.cell? ⟨w.heap.size + 1 + 1 + 1 + 1 + 1, 1, none⟩ = some (.slice (some ⟨w.heap.size + 1 + 1 + 1, 0, none⟩) 2 2) := cell_in HE2.out.1.2.2.2.2.2 rfl
  have q2 : w2.cell? ⟨w.heap.size + 1 + 1 + 1 + 1 + 1, 2, none⟩ = some (.slice (some ⟨w.heap.size + 1 + 1 + 1 + 1, 0, none⟩) 1 1) := cell_in HE2.out.1.2.2.2.2.2 rfl
  have q3 : w2.cell? ⟨w.heap.size + 1 + 1 + 1 + 1 + 1, 3, none⟩ = some (.int .i64 (-1)) := cell_in HE2.out.1.2.2.2.2.2 rfl
  have a2 : w2.cell? ⟨w.heap.size, 2, none⟩ = some (.string ⟨#[98]⟩) := cell_in HE2.out.1.1 rfl
  have a3 : w2.cell? ⟨w.heap.size, 3, none⟩ = some (.int .i64 2) := cell_in HE2.out.1.1 rfl
  go_wp2_with fail
  refine (val_713 (H.out.below HE2.out.2)).mono ?_
  rintro e w3 ⟨rfl, hb⟩
  have HE3 := Lib.hid (And.intro (HE2.out.1.below hb) (HE2.out.2.trans (hb.mono HE2.out.2.size)))
  clear hb q0 q1 q2 q3 a2 a3 HE2
  have q0 : w3.cell? ⟨w.heap.size + 1 + 1 + 1 + 1 + 1, 0, none⟩ = some (.slice (some ⟨w.heap.size, 0, none⟩) 2 2) := cell_in HE3.out.1.2.2.2.2.2 rfl
  have q1 : w3.cell? ⟨w.heap.size + 1 + 1 + 1 + 1 + 1, 1, none⟩ = some (.slice (some ⟨w.heap.size + 1 + 1 + 1, 0, none⟩) 2 2) := cell_in HE3.out.1.2.2.2.2.2 rfl
  have q2 : w3.cell? ⟨w.heap.size + 1 + 1 + 1 + 1 + 1, 2, none⟩ = some (.slice (some ⟨w.heap.size + 1 + 1 + 1 + 1, 0, none⟩) 1 1) := cell_in HE3.out.1.2.2.2.2.2 rfl
  have q3 : w3.cell? ⟨w.heap.size + 1 + 1 + 1 + 1 + 1, 3, none⟩ = some (.int .i64 (-1)) := cell_in HE3.out.1.2.2.2.2.2 rfl
  go_wp2_with fail
  refine (joined_any HE3.out.1.sch check0).mono ?_
  rw [joined0]
  rintro e w4 ⟨v, rfl, hl, hb⟩
  have HE4 := Lib.hid (And.intro (HE3.out.1.below hb) (HE3.out.2.trans (hb.mono HE3.out.2.size)))
  clear hb q0 q1 q2 q3 HE3
  have hg : Below w4.heap.size w4 (w4.alloc (.cells #[.int .i64 0] 3)) := (Below.refl _ _).alloc (Nat.le_refl _) _
  have HL := Lib.hid (And.intro (hl.below hg) hg)
  obtain ⟨A, c, rfl, hl2, hl3⟩ := hl
  clear hl2 hl3 hg
  go_wp2_with fail
  refine (ints_same HL.out.1 list_one).mono ?_
  rintro e w5 ⟨rfl, hb⟩
  have HE5 := Lib.hid (And.intro (HE4.out.1.below (Below.step HL.out.2 hb)) (HE4.out.2.trans ((Below.step HL.out.2 hb).mono HE4.out.2.size)))
  clear hb HL HE4
  have q0 : w5.cell? ⟨w.heap.size + 1 + 1 + 1 + 1 + 1, 0, none⟩ = some (.slice (some ⟨w.heap.size, 0, none⟩) 2 2) := cell_in HE5.out.1.2.2.2.2.2 rfl
  have q1 : w5.cell? ⟨w.heap.size + 1 + 1 + 1 + 1 + 1, 1, none⟩ = some (.slice (some ⟨w.heap.size + 1 + 1 + 1, 0, none⟩) 2 2) := cell_in HE5.out.1.2.2.2.2.2 rfl
  have q2 : w5.cell? ⟨w.heap.size + 1 + 1 + 1 + 1 + 1, 2, none⟩ = some (.slice (some ⟨w.heap.size + 1 + 1 + 1 + 1, 0, none⟩) 1 1) := cell_in HE5.out.1.2.2.2.2.2 rfl
  have q3 : w5.cell? ⟨w.heap.size + 1 + 1 + 1 + 1 + 1, 3, none⟩ = some (.int .i64 (-1)) := cell_in HE5.out.1.2.2.2.2.2 rfl
  go_wp2_with fail
  refine (linked_any (a := 0) (b := 1) HE5.out.1.sch check0).mono ?_
  rw [linked0]
  rintro e w6 ⟨rfl, hb⟩
  have HE6 := Lib.hid (And.intro (HE5.out.1.below hb) (HE5.out.2.trans (hb.mono HE5.out.2.size)))
  clear hb q0 q1 q2 q3 HE5
  have q0 : w6.cell? ⟨w.heap.size + 1 + 1 + 1 + 1 + 1, 0, none⟩ = some (.slice (some ⟨w.heap.size, 0, none⟩) 2 2) := cell_in HE6.out.1.2.2.2.2.2 rfl
  have q1 : w6.cell? ⟨w.heap.size + 1 + 1 + 1 + 1 + 1, 1, none⟩ = some (.slice (some ⟨w.heap.size + 1 + 1 + 1, 0, none⟩) 2 2) := cell_in HE6.out.1.2.2.2.2.2 rfl
  have q2 : w6.cell? ⟨w.heap.size + 1 + 1 + 1 + 1 + 1, 2, none⟩ = some (.slice (some ⟨w.heap.size + 1 + 1 + 1 + 1, 0, none⟩) 1 1) := cell_in HE6.out.1.2.2.2.2.2 rfl
  have q3 : w6.cell? ⟨w.heap.size + 1 + 1 + 1 + 1 + 1, 3, none⟩ = some (.int .i64 (-1)) := cell_in HE6.out.1.2.2.2.2.2 rfl
  go_wp2_with fail
  refine (find_any HE6.out.1.sch check0).mono ?_
  rw [find0]
  rintro e w7 ⟨rfl, hb⟩
  have HE7 := Lib.hid (And.intro (HE6.out.1.below hb) (HE6.out.2.trans (hb.mono HE6.out.2.size)))
  clear hb q0 q1 q2 q3 HE6
  have q0 : w7.cell? ⟨w.heap.size + 1 + 1 + 1 + 1 + 1, 0, none⟩ = some (.slice (some ⟨w.heap.size, 0, none⟩) 2 2) := cell_in HE7.out.1.2.2.2.2.2 rfl
  have q1 : w7.cell? ⟨w.heap.size + 1 + 1 + 1 + 1 + 1, 1, none⟩ = some (.slice (some ⟨w.heap.size + 1 + 1 + 1, 0, none⟩) 2 2) := cell_in HE7.out.1.2.2.2.2.2 rfl
  have q2 : w7.cell? ⟨w.heap.size + 1 + 1 + 1 + 1 + 1, 2, none⟩ = some (.slice (some ⟨w.heap.size + 1 + 1 + 1 + 1, 0, none⟩) 1 1) := cell_in HE7.out.1.2.2.2.2.2 rfl
  have q3 : w7.cell? ⟨w.heap.size + 1 + 1 + 1 + 1 + 1, 3, none⟩ = some (.int .i64 (-1)) := cell_in HE7.out.1.2.2.2.2.2 rfl
  go_wp2_with fail
  refine (uses_any (a := 0) HE7.out.1.sch check0).mono ?_
  rw [uses0]
  rintro e w8 ⟨v, rfl, hl, hb⟩
  have HE8 := Lib.hid (And.intro (HE7.out.1.below hb) (HE7.out.2.trans (hb.mono HE7.out.2.size)))
  clear hb q0 q1 q2 q3 HE7
  have hg : Below w8.heap.size w8 (w8.alloc (.cells #[.int .i64 0, .int .i64 1] 3)) := (Below.refl _ _).alloc (Nat.le_refl _) _
  have HL := Lib.hid (And.intro (hl.below hg) hg)
  obtain ⟨A, c, rfl, hl2, hl3⟩ := hl
  clear hl2 hl3 hg
  go_wp2_with fail
  refine (ints_same HL.out.1 list_two).mono ?_
  rintro e w9 ⟨rfl, hb⟩
  have HE9 := Lib.hid (And.intro (HE8.out.1.below (Below.step HL.out.2 hb)) (HE8.out.2.trans ((Below.step HL.out.2 hb).mono HE8.out.2.size)))
  clear hb HL HE8
  go_wp2_with fail
  refine (sword_any _ _ (by decide)).mono ?_
  rw [word_a1]
  rintro e w9 ⟨rfl, rfl⟩
  have q0 : w9.cell? ⟨w.heap.size + 1 + 1 + 1 + 1 + 1, 0, none⟩ = some (.slice (some ⟨w.heap.size, 0, none⟩) 2 2) := cell_in HE9.out.1.2.2.2.2.2 rfl
  have q1 : w9.cell? ⟨w.heap.size + 1 + 1 + 1 + 1 + 1, 1, none⟩ = some (.slice (some ⟨w.heap.size + 1 + 1 + 1, 0, none⟩) 2 2) := cell_in HE9.out.1.2.2.2.2.2 rfl
  have q2 : w9.cell? ⟨w.heap.size + 1 + 1 + 1 + 1 + 1, 2, none⟩ = some (.slice (some ⟨w.heap.size + 1 + 1 + 1 + 1, 0, none⟩) 1 1) := cell_in HE9.out.1.2.2.2.2.2 rfl
  have q3 : w9.cell? ⟨w.heap.size + 1 + 1 + 1 + 1 + 1, 3, none⟩ = some (.int .i64 (-1)) := cell_in HE9.out.1.2.2.2.2.2 rfl
  go_wp2_with fail
  refine (numbers_any HE9.out.1.sch check0).mono ?_
  rw [numbers0]
  rintro e w10 ⟨v, rfl, hl, hb⟩
  have HE10 := Lib.hid (And.intro (HE9.out.1.below hb) (HE9.out.2.trans (hb.mono HE9.out.2.size)))
  clear hb q0 q1 q2 q3 HE9
  have hg : Below w10.heap.size w10 (w10.alloc (.cells #[.int .i64 0] 3)) := (Below.refl _ _).alloc (Nat.le_refl _) _
  have HL := Lib.hid (And.intro (hl.below hg) hg)
  obtain ⟨A, c, rfl, hl2, hl3⟩ := hl
  clear hl2 hl3 hg
  go_wp2_with fail
  refine (ints_same HL.out.1 list_one).mono ?_
  rintro e w11 ⟨rfl, hb⟩
  have HE11 := Lib.hid (And.intro (HE10.out.1.below (Below.step HL.out.2 hb)) (HE10.out.2.trans ((Below.step HL.out.2 hb).mono HE10.out.2.size)))
  clear hb HL HE10
  go_wp2
  go_ret
  exact ⟨rfl, HE11.out.2⟩
end Go.Proofs.YtjghgbfagjhdgaaGreatDoor
