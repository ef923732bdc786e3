/- The law IntegerRing. -/
import Derived.Test.YthibdbpgllhcpaaGreatDoorNum
namespace Go.Proofs.YthibdbpgllhcpaaGreatDoor
open Go Go.RowKit

set_option maxHeartbeats 1600000 in
set_option maxRecDepth 100000 in
theorem law_ring {w : World} {A : Option Addr} {n c : Nat} (ht : Tab w) (h : Nums w A n) (hc : n ≤ c) (hcm : c ≤ maxLen) :
    Calls Tryz.prog 7 #[.slice A n c] w fun e w' => e = .returned (.bool true) ∧ Below w.heap.size w w' := by
  have H := Lib.hid (And.intro ht h)
  clear ht h
  go_enter Tryz.func7, Tryz.ntmps7
  go_wp2_with fail
  refine (Run.new H.out.1 H.out.2 hc hcm).mono ?_
  rintro e w0 ⟨g, rfl, H0⟩
  go_wp2_with fail
  refine (H0.out.draw 40 (by omega) (by omega)).mono ?_
  rintro e w1 ⟨sa, a, rfl, HA⟩
  go_wp2_with fail
  refine (HA.out.2.draw 40 (by omega) (by omega)).mono ?_
  rintro e w2 ⟨sb, b, rfl, HB⟩
  go_wp2_with fail
  refine (HB.out.2.draw 40 (by omega) (by omega)).mono ?_
  rintro e w3 ⟨sc, z, rfl, HC⟩
  go_wp2_with fail
  refine (HC.out.2.add HA.out.1 HB.out.1 (by omega) (by omega)).mono ?_
  rintro e w4 ⟨sab, rfl, HAB⟩
  go_wp2_with fail
  refine (HAB.out.2.add HB.out.1 HA.out.1 (by omega) (by omega)).mono ?_
  rintro e w5 ⟨sba, rfl, HBA⟩
  go_wp2_with fail
  refine (HBA.out.2.mul HAB.out.1 HC.out.1 (by omega) (by omega) (by omega)).mono ?_
  rintro e w6 ⟨sp, rfl, HP⟩
  go_wp2_with fail
  refine (HP.out.2.mul HA.out.1 HC.out.1 (by omega) (by omega) (by omega)).mono ?_
  rintro e w7 ⟨sq, rfl, HQ⟩
  go_wp2_with fail
  refine (HQ.out.2.mul HB.out.1 HC.out.1 (by omega) (by omega) (by omega)).mono ?_
  rintro e w8 ⟨sr, rfl, HR⟩
  go_wp2_with fail
  refine (HR.out.2.add HQ.out.1 HR.out.1 (by omega) (by omega)).mono ?_
  rintro e w9 ⟨su, rfl, HU⟩
  go_wp2_with fail
  refine (HU.out.2.sub HAB.out.1 (HB.out.1.mono (by omega)) (by omega) (by omega)).mono ?_
  rintro e w10 ⟨sv, rfl, HV⟩
  obtain rfl : sba = sab := HBA.out.1.eq HAB.out.1 (Int.add_comm _ _)
  obtain rfl : su = sp := HU.out.1.eq HP.out.1 (Int.add_mul _ _ _).symm
  obtain rfl : sv = sa := HV.out.1.eq HA.out.1 (by omega)
  go_wp2_with fail
  refine (HV.out.2.sane H.out.1).mono ?_
  rintro e w11 ⟨rfl, hb⟩
  go_wp2
  go_ret
  exact ⟨rfl, hb⟩
end Go.Proofs.YthibdbpgllhcpaaGreatDoor
