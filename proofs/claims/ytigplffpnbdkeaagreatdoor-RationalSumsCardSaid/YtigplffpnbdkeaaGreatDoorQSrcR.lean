/- The source's lists of small fractions. -/
import Derived.Test.YtigplffpnbdkeaaGreatDoorQTot
import Derived.Deep.LoopGhost
import Derived.Laws.OwnMore
namespace Go.Proofs.YtigplffpnbdkeaaGreatDoor
open Go Go.RowKit

theorem infoRat : (Tryz.prog.info? 30).map (fun i => (i.zero, i.size, i.bytes)) = some (some (.string ⟨#[]⟩), 1, 16) := by kernel_rfl
theorem src1_grown {w0 w w' : World} {g : Nat} {row : Option Nat} (h : Src1 g w0 w) (hg0 : g < w0.heap.size) (hgr : w.grownBy w' row) (hrow : ∀ k, row = some k → w0.heap.size ≤ k) : Src1 g w0 w' :=
  ⟨h.1.grown hgr (Nat.le_trans (Nat.le_of_lt hg0) h.1.size) (fun k hk => Nat.le_trans (Nat.le_of_lt hg0) (hrow k hk)),
   fun k hk hne => (hgr.block k (Nat.lt_of_lt_of_le hk h.1.size) (fun e => by first | (have := hrow k e; omega) | (have := hrow k e.symm; omega))).trans (h.2 k hk hne)⟩
theorem own_src {w w' : World} {g base n size : Nat} {e : TypeId} {v : Value} {xs : List Value} (h : w.ownsRow base e size v n xs) (hb : Src1 g w w') (hg : g < base) : w'.ownsRow base e size v n xs := by
  refine ⟨h.1, ?_⟩
  rcases h.2 with h1 | ⟨g', cap', cur, h', h2, hg', h3⟩
  · exact .inl h1
  · exact .inr ⟨g', cap', cur, h', h2, (hb.2 g' (lt_of_block hg') (by omega)).trans hg', h3⟩
/-- A list of n texts of small fractions, which lies behind base. -/
def RList (w : World) (base : Nat) (v : Value) (n : Nat) (ts : List ByteArray) : Prop :=
  w.ownsRow base 30 1 v n (ts.map Value.string) ∧ ts.length = n ∧ ∀ t ∈ ts, ∃ x, QN t x 1
set_option linter.unusedSimpArgs false in
set_option maxHeartbeats 3200000 in
set_option maxRecDepth 100000 in
theorem rats_src {w : World} {g n : Nat} (h : SrcIn w g) (hn : n ≤ 100) :
    Calls Tryz.prog 12 #[.pointer (some ⟨g, 0, none⟩), .int .i64 (n : Int)] w fun e w' => ∃ v ts, e = .returned v ∧ RList w' w.heap.size v n ts ∧ SrcIn w' g ∧ Src1 g w w' := by
  obtain ⟨ei, hi, hz, hss, hbs⟩ := info_parts infoRat
  have HI := Lib.hid (And.intro hi (And.intro hz (And.intro hss hbs)))
  clear hi hz hss hbs
  have hg := h.lt
  have H := Lib.hid h
  clear h
  go_enter Tryz.func12, Tryz.ntmps12
  go_wp2_with fail
  go_loopg [5, 6] n (fun gh sv iv wr => ∃ (v : Value) (i : Nat) (ts : List ByteArray), i + gh = n ∧ sv = v ∧ iv = .int .i64 (i : Int) ∧ RList wr w.heap.size v i ts ∧ SrcIn wr g ∧ Src1 g w wr)
  case atStart => exact ⟨_, 0, [], by omega, rfl, rfl, ⟨⟨rfl, .inl ⟨rfl, rfl⟩⟩, rfl, fun _ h => absurd h (by simp)⟩, H.out, Src1.refl g w⟩
  case round =>
    obtain ⟨sv, i, ts, hi, hsv, rfl, hl, hs, hb0⟩ := hrel
    have hsv2 := hsv.symm
    clear hsv
    subst hsv2
    by_cases hin : i < n
    · have HR := Lib.hid (And.intro hl (And.intro hs hb0))
      clear hl hs hb0
      go_wp2_with fail
      refine (rat_src HR.out.2.1).mono ?_
      rintro e w1 ⟨t, x, rfl, hx, hlt, hs, hb⟩
      have hown : w1.ownsRow w.heap.size 30 1 sv i (ts.map Value.string) := own_src HR.out.1.1 hb hg
      have H1 := Lib.hid (And.intro hown (And.intro hs (And.intro (HR.out.2.2.trans hb) (show QN t x 1 from ⟨hx, hlt⟩))))
      have hsz1 : w.heap.size ≤ w1.heap.size := H1.out.2.2.1.1.size
      clear hown hs hb hx hlt
      go_wp2_with (at_builtin; refine wpList_append_own _ rfl (.tmp 12) (.tmp 15) 23 rfl w.heap.size 30 ei (.string ⟨#[]⟩) 1 16 Tryz.underlying23 HI.out.1 HI.out.2.1 HI.out.2.2.1 HI.out.2.2.2 rfl (by decide) sv i (ts.map Value.string) rfl (H1.out.1.alloc _) ⟨w1.heap.size, 0, none⟩ 1 1 [.string t] rfl rfl (by intro j u hj; match j, hj with | 0, hj => simp at hj; subst hj; simp [Addr.add]) (by intro u hu; simp at hu; subst hu; rfl) (by unfold maxLen; omega) (by omega) (by have := HR.out.2.2.1.size; have := hsz1; simp; omega) ?_; intro v' w2 hown2 hgrow2 hnil; have HG := Lib.hid (And.intro hown2 hgrow2); clear hown2 hgrow2 hnil)
      have hrow : ∀ k, sv.ownBlock = some k → w.heap.size ≤ k := fun k hk => (H1.out.1.lt k hk).1
      have hA := (Below.refl w1.heap.size w1).alloc (Nat.le_refl _) (.cells #[.string t] 30)
      have hg1 : g ≤ w1.heap.size := by omega
      have hS := src1_grown (H1.out.2.2.1.trans (Src1.below hA hg1)) hg HG.out.2 hrow
      have hB : Below w.heap.size (w1.alloc (.cells #[.string t] 30)) w2 := (Below.refl _ _).grown HG.out.2 (by simp; omega) hrow
      have hI := (H1.out.2.1.below hA).belowB hB hg
      have HF := Lib.hid (And.intro hI hS)
      clear hrow hA hg1 hS hB hI
      go_roundg (n - (i + 1))
      case measure => omega
      case rel =>
        refine ⟨_, i + 1, ts ++ [t], by omega, rfl, by go_num, ⟨by rw [List.map_append]; exact HG.out.1, by rw [List.length_append, HR.out.1.2.1]; rfl, fun u hu => ?_⟩, HF.out⟩
        rcases List.mem_append.1 hu with hu | hu
        · exact HR.out.1.2.2 u hu
        · rw [List.mem_singleton] at hu; rw [hu]; exact ⟨x, H1.out.2.2.2⟩
    · have ein : n = i := by omega
      subst ein
      have HR := Lib.hid (And.intro hl (And.intro hs hb0))
      clear hl hs hb0
      go_wp2
      go_ret
      exact ⟨_, ts, rfl, HR.out⟩
end Go.Proofs.YtigplffpnbdkeaaGreatDoor
