/- Stage 7: the chapter's examples (sane); what is known of the source's schemas. -/
import Derived.Test.YtiakgcaflnpmeaaAcI
import Derived.Test.YtiakgcaflnpmeaaAcS
namespace Go.Proofs.Ytiakgcaflnpmeaa
open Go Go.RowKit

theorem ll3 (w : World) (x0 x1 y0 y1 z0 z1 : Nat) : LL ((((w.alloc (.cells #[.int .i64 (x0 : Int), .int .i64 (x1 : Int)] 3)).alloc (.cells #[.int .i64 (y0 : Int), .int .i64 (y1 : Int)] 3)).alloc (.cells #[.int .i64 (z0 : Int), .int .i64 (z1 : Int)] 3)).alloc (.cells #[.slice (some ⟨w.heap.size, 0, none⟩) 2 2, .slice (some ⟨w.heap.size + 1, 0, none⟩) 2 2, .slice (some ⟨w.heap.size + 1 + 1, 0, none⟩) 2 2] 22))
    (some ⟨w.heap.size + 1 + 1 + 1, 0, none⟩) [(.slice (some ⟨w.heap.size, 0, none⟩) 2 2, [x0, x1]), (.slice (some ⟨w.heap.size + 1, 0, none⟩) 2 2, [y0, y1]), (.slice (some ⟨w.heap.size + 1 + 1, 0, none⟩) 2 2, [z0, z1])] := by
  have b0 : ((((w.alloc (.cells #[.int .i64 (x0 : Int), .int .i64 (x1 : Int)] 3)).alloc (.cells #[.int .i64 (y0 : Int), .int .i64 (y1 : Int)] 3)).alloc (.cells #[.int .i64 (z0 : Int), .int .i64 (z1 : Int)] 3)).alloc (.cells #[.slice (some ⟨w.heap.size, 0, none⟩) 2 2, .slice (some ⟨w.heap.size + 1, 0, none⟩) 2 2, .slice (some ⟨w.heap.size + 1 + 1, 0, none⟩) 2 2] 22)).heap[w.heap.size]? = some (.cells #[.int .i64 (x0 : Int), .int .i64 (x1 : Int)] 3 (0, 0)) := block_alloc _ (block_alloc _ (block_alloc _ (block_new _ rfl)))
  have b1 : ((((w.alloc (.cells #[.int .i64 (x0 : Int), .int .i64 (x1 : Int)] 3)).alloc (.cells #[.int .i64 (y0 : Int), .int .i64 (y1 : Int)] 3)).alloc (.cells #[.int .i64 (z0 : Int), .int .i64 (z1 : Int)] 3)).alloc (.cells #[.slice (some ⟨w.heap.size, 0, none⟩) 2 2, .slice (some ⟨w.heap.size + 1, 0, none⟩) 2 2, .slice (some ⟨w.heap.size + 1 + 1, 0, none⟩) 2 2] 22)).heap[w.heap.size + 1]? = some (.cells #[.int .i64 (y0 : Int), .int .i64 (y1 : Int)] 3 (0, 0)) := block_alloc _ (block_alloc _ (block_new _ (by simp)))
  have b2 : ((((w.alloc (.cells #[.int .i64 (x0 : Int), .int .i64 (x1 : Int)] 3)).alloc (.cells #[.int .i64 (y0 : Int), .int .i64 (y1 : Int)] 3)).alloc (.cells #[.int .i64 (z0 : Int), .int .i64 (z1 : Int)] 3)).alloc (.cells #[.slice (some ⟨w.heap.size, 0, none⟩) 2 2, .slice (some ⟨w.heap.size + 1, 0, none⟩) 2 2, .slice (some ⟨w.heap.size + 1 + 1, 0, none⟩) 2 2] 22)).heap[w.heap.size + 1 + 1]? = some (.cells #[.int .i64 (z0 : Int), .int .i64 (z1 : Int)] 3 (0, 0)) := block_alloc _ (block_new _ (by simp))
  have b3 : ((((w.alloc (.cells #[.int .i64 (x0 : Int), .int .i64 (x1 : Int)] 3)).alloc (.cells #[.int .i64 (y0 : Int), .int .i64 (y1 : Int)] 3)).alloc (.cells #[.int .i64 (z0 : Int), .int .i64 (z1 : Int)] 3)).alloc (.cells #[.slice (some ⟨w.heap.size, 0, none⟩) 2 2, .slice (some ⟨w.heap.size + 1, 0, none⟩) 2 2, .slice (some ⟨w.heap.size + 1 + 1, 0, none⟩) 2 2] 22)).heap[w.heap.size + 1 + 1 + 1]? = some (.cells #[.slice (some ⟨w.heap.size, 0, none⟩) 2 2, .slice (some ⟨w.heap.size + 1, 0, none⟩) 2 2, .slice (some ⟨w.heap.size + 1 + 1, 0, none⟩) 2 2] 22 (0, 0)) := block_new _ (by simp)
  generalize ((((w.alloc (.cells #[.int .i64 (x0 : Int), .int .i64 (x1 : Int)] 3)).alloc (.cells #[.int .i64 (y0 : Int), .int .i64 (y1 : Int)] 3)).alloc (.cells #[.int .i64 (z0 : Int), .int .i64 (z1 : Int)] 3)).alloc (.cells #[.slice (some ⟨w.heap.size, 0, none⟩) 2 2, .slice (some ⟨w.heap.size + 1, 0, none⟩) 2 2, .slice (some ⟨w.heap.size + 1 + 1, 0, none⟩) 2 2] 22)) = w' at *
  have two : ∀ {b u v : Nat}, w'.heap[b]? = some (.cells #[.int .i64 (u : Int), .int .i64 (v : Int)] 3 (0, 0)) → ListAt w' (.slice (some ⟨b, 0, none⟩) 2 2) [u, v] := fun {b u v} hb =>
    ⟨_, _, rfl, by show 2 ≤ 1000; omega, fun _ => ⟨b, 0, rfl, lt_of_block hb, fun i hi => by
      match i, hi with
      | 0, _ => exact cell_in hb rfl
      | 1, _ => exact cell_in hb rfl⟩⟩
  refine ⟨fun _ => ⟨_, 0, rfl, lt_of_block b3, fun i hi => ?_⟩, fun p hp => ?_⟩
  · match i, hi with
    | 0, _ => exact cell_in b3 rfl
    | 1, _ => exact cell_in b3 rfl
    | 2, _ => exact cell_in b3 rfl
  · simp only [List.mem_cons, List.not_mem_nil, or_false] at hp
    rcases hp with rfl | rfl | rfl
    · exact two b0
    · exact two b1
    · exact two b2
def ex3 (u v x : Value) (x0 x1 y0 y1 z0 z1 : Nat) : List (Value × List Nat) := [(u, [x0, x1]), (v, [y0, y1]), (x, [z0, z1])]
theorem ex_tree (u v x : Value) : treeB (schS (ex3 u v x 0 1 1 2 2 3)) = true ∧ treeL (schS (ex3 u v x 0 1 1 2 2 3)) = [1, 2, -1] := ⟨by kernel_rfl, by kernel_rfl⟩
theorem ex_red (u v x : Value) : redO (schS (ex3 u v x 0 1 1 2 0 2)) = ([], [0, 1, 2]) := by kernel_rfl
theorem ex_closed (u v x : Value) : closedB (schS (ex3 u v x 0 1 1 2 0 2)) [] [0, 1, 2] = true := by kernel_rfl
theorem three_ints {w : World} {b : Nat} {x y z : Int} (h : w.heap[b]? = some (.cells #[.int .i64 x, .int .i64 y, .int .i64 z] 3 (0, 0))) : IntAt w (some ⟨b, 0, none⟩) 3 fun i => [x, y, z].getD i 0 :=
  fun _ => ⟨b, 0, rfl, lt_of_block h, fun i hi => by
    match i, hi with
    | 0, _ => exact cell_in h rfl
    | 1, _ => exact cell_in h rfl
    | 2, _ => exact cell_in h rfl⟩
set_option maxHeartbeats 6400000 in
set_option maxRecDepth 100000 in
theorem sane07 {w : World} : Calls Try.prog 8 #[] w fun e w' => e = .returned (.bool true) ∧ Below w.heap.size w w' := by
  have hsch : ∀ (w : World) (x0 x1 y0 y1 z0 z1 : Nat), x0 ≤ 3 → x1 ≤ 3 → y0 ≤ 3 → y1 ≤ 3 → z0 ≤ 3 → z1 ≤ 3 → _ := fun w x0 x1 y0 y1 z0 z1 h1 h2 h3 h4 h5 h6 => sch_any (c := 3) (ll3 w x0 x1 y0 y1 z0 z1) (by show 3 ≤ 26; omega) (fun p hp a ha => by
    simp only [List.mem_cons, List.not_mem_nil, or_false] at hp
    rcases hp with rfl | rfl | rfl <;> simp only [List.mem_cons, List.not_mem_nil, or_false] at ha <;> omega)
  have hl1 := hsch w 0 1 1 2 2 3 (by omega) (by omega) (by omega) (by omega) (by omega) (by omega)
  have HS := Lib.hid hsch
  clear hsch
  go_enter Try.func8, Try.ntmps8
  go_wp2_with fail
  refine hl1.mono ?_
  rintro e w1 ⟨v, rfl, ⟨V, rfl, hS, _⟩, hb⟩
  have hT := Tree_any hS
  have ex := ex_tree (.slice (some ⟨w.heap.size, 0, none⟩) 2 2) (.slice (some ⟨w.heap.size + 1, 0, none⟩) 2 2) (.slice (some ⟨w.heap.size + 1 + 1, 0, none⟩) 2 2)
  unfold ex3 at ex
  rw [ex.1, ex.2] at hT
  have H1 := Lib.hid (show Below w.heap.size w w1 from (show Below w.heap.size w _ by go_grown).trans (hb.mono (by simp; omega)))
  clear hl1 hb hS ex
  go_wp2_with fail
  refine hT.mono ?_
  rintro e w2 ⟨v, rfl, ⟨A2, c2, rfl, _, hi2⟩, hb⟩
  have hg3 : Below w2.heap.size w2 (w2.alloc (.cells #[.slice A2 3 c2] 42)) := (Below.refl _ _).alloc (Nat.le_refl _) _
  have H2 := Lib.hid (And.intro (Below.step (Below.step H1.out hb) hg3) (And.intro (show IntAt (w2.alloc (.cells #[.slice A2 3 c2] 42)) A2 3 fun i => [1, 2, -1].getD i 0 from IntAt.below hi2 hg3) (heap_alloc_new w2 (.cells #[.slice A2 3 c2] 42))))
  clear hT hb hi2 hg3
  go_upto_region 2 with fail
  have hsz3 : w2.heap.size < (w2.alloc (.cells #[.slice A2 3 c2] 42)).heap.size := by simp
  generalize w2.alloc (.cells #[.slice A2 3 c2] 42) = w3 at *
  generalize w2.heap.size = B at *
  have hl2 := HS.out w3 0 1 1 2 0 2 (by omega) (by omega) (by omega) (by omega) (by omega) (by omega)
  go_wp2_with fail
  refine hl2.mono ?_
  rintro e w4 ⟨v, rfl, ⟨V4, rfl, hS, _⟩, hb⟩
  have hR := Reduce_any hS
  have ex := ex_red (.slice (some ⟨w3.heap.size, 0, none⟩) 2 2) (.slice (some ⟨w3.heap.size + 1, 0, none⟩) 2 2) (.slice (some ⟨w3.heap.size + 1 + 1, 0, none⟩) 2 2)
  unfold ex3 at ex
  rw [ex] at hR
  have H4 := Lib.hid (show Below w3.heap.size w3 w4 from (show Below w3.heap.size w3 _ by go_grown).trans (hb.mono (by simp; omega)))
  clear hl2 hb hS ex
  go_wp2_with fail
  refine hR.mono ?_
  rintro e w5 ⟨v, u, rfl, ⟨A5, c5, rfl, _, _⟩, ⟨A6, c6, rfl, _, hi6⟩, hb⟩
  have hB5 := Below.step H4.out hb
  have H5 := Lib.hid (And.intro (Below.step H2.out.1 hB5) (And.intro (H2.out.2.1.below hB5) (And.intro ((hB5.block _ hsz3).trans H2.out.2.2) (show IntAt w5 A6 3 fun i => [0, 1, 2].getD i 0 from hi6))))
  have hszB : B < w5.heap.size := Nat.lt_of_lt_of_le hsz3 hB5.size
  clear hR hb hi6 hB5
  go_upto_region 3 with fail
  have t0 : w5.cell? ⟨B, 0, none⟩ = some (.slice A2 3 c2) := cell_in H5.out.2.2.1 rfl
  have hB6 : Below w5.heap.size w5 (w5.alloc (.cells #[.int .i64 1, .int .i64 2, .int .i64 (-1)] 3)) := (Below.refl _ _).alloc (Nat.le_refl _) _
  have he1 := ref_ints (w := w5.alloc (.cells #[.int .i64 1, .int .i64 2, .int .i64 (-1)] 3)) (A := A2) (c := c2) (A' := some ⟨w5.heap.size, 0, none⟩) (c' := 3) (l := [1, 2, -1]) (m := [1, 2, -1]) (by show 3 ≤ 1000; omega) (by show 3 ≤ 1000; omega) (H5.out.2.1.below hB6) (three_ints (heap_alloc_new _ _))
  rw [decide_eq_true rfl] at he1
  have H6 := Lib.hid hB6
  clear hB6
  go_wp2_with fail
  refine he1.mono ?_
  rintro e w6 ⟨rfl, hb⟩
  have hB6 := Below.step H6.out hb
  have H7 := Lib.hid (And.intro (Below.step H5.out.1 hB6) (H5.out.2.2.2.below hB6))
  clear hb hB6 he1 t0
  have hB8 : Below w6.heap.size w6 (w6.alloc (.cells #[.int .i64 0, .int .i64 1, .int .i64 2] 3)) := (Below.refl _ _).alloc (Nat.le_refl _) _
  have he2 := ref_ints (w := w6.alloc (.cells #[.int .i64 0, .int .i64 1, .int .i64 2] 3)) (A := A6) (c := c6) (A' := some ⟨w6.heap.size, 0, none⟩) (c' := 3) (l := [0, 1, 2]) (m := [0, 1, 2]) (by show 3 ≤ 1000; omega) (by show 3 ≤ 1000; omega) (H7.out.2.below hB8) (three_ints (heap_alloc_new _ _))
  rw [decide_eq_true rfl] at he2
  have H8 := Lib.hid hB8
  clear hB8
  go_wp2_with fail
  refine he2.mono ?_
  rintro e w8 ⟨rfl, hb⟩
  have H9 := Lib.hid (Below.step H7.out.1 (Below.step H8.out hb))
  clear hb he2
  have hl3 := HS.out w8 0 1 1 2 0 2 (by omega) (by omega) (by omega) (by omega) (by omega) (by omega)
  go_wp2_with fail
  refine hl3.mono ?_
  rintro e w9 ⟨v, rfl, ⟨V9, rfl, hS, _⟩, hb⟩
  have hB9 : Below w8.heap.size w8 w9 := (show Below w8.heap.size w8 _ by go_grown).trans (hb.mono (by simp; omega))
  have hBa : Below w9.heap.size w9 (w9.alloc (.cells #[.int .i64 0, .int .i64 1, .int .i64 2] 3)) := (Below.refl _ _).alloc (Nat.le_refl _) _
  have hC := Closed_any (A := none) (c := 0) (A' := some ⟨w9.heap.size, 0, none⟩) (c' := 3) (o := []) (d := [0, 1, 2]) (hS.below hBa) (by show 0 ≤ 1000; omega) (by show 3 ≤ 1000; omega) (fun h => absurd h (by show ¬ 0 < 0; omega)) (three_ints (heap_alloc_new _ _))
  have ex := ex_closed (.slice (some ⟨w8.heap.size, 0, none⟩) 2 2) (.slice (some ⟨w8.heap.size + 1, 0, none⟩) 2 2) (.slice (some ⟨w8.heap.size + 1 + 1, 0, none⟩) 2 2)
  unfold ex3 at ex
  rw [ex] at hC
  have HA := Lib.hid (Below.step (Below.step H9.out hB9) hBa)
  clear hl3 hb hS ex hB9 hBa
  go_wp2_with fail
  refine hC.mono ?_
  rintro e wa ⟨rfl, hb⟩
  have HB := Lib.hid (Below.step HA.out hb)
  clear hb hC
  go_wp2
  go_ret
  exact ⟨rfl, HB.out⟩
end Go.Proofs.Ytiakgcaflnpmeaa
