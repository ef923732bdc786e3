/- The source's schemas: the relations are made. -/
import Derived.Test.YtiakgcaflnpmeaaSchT
import Derived.Deep.RegionHeld3
namespace Go.Proofs.Ytiakgcaflnpmeaa
open Go Go.RowKit

def nmL (j : Nat) : ByteArray := ⟨[97, UInt8.ofNat (97 + j)].toArray⟩
def rnL (j : Nat) : ByteArray := ⟨[114, UInt8.ofNat (97 + j)].toArray⟩
theorem mkletter_any {w : World} {p : ByteArray} (hp : p.size ≤ 100) {i : Nat} (hi : i < 26) :
    Calls Try.prog 40 #[.string p, .int .i64 (i : Int)] w fun e w' => e = .returned (.string (p ++ ⟨[UInt8.ofNat (97 + i)].toArray⟩)) ∧ Below w.heap.size w w' := by
  have kc := conv_one w (d := 97 + (i : Int)) (by omega) (by omega)
  obtain ⟨sx, hsx⟩ : ∃ sx : ByteArray, sx = ⟨[UInt8.ofNat (97 + (i : Int)).toNat].toArray⟩ := ⟨_, rfl⟩
  have hsl : sx.size ≤ 1 := by rw [hsx]; exact Nat.le_refl _
  rw [← hsx] at kc
  have e : (97 + (i : Int)).toNat = 97 + i := by omega
  rw [e] at hsx
  rw [← hsx]
  have h0 : (0 : Int) ≤ (i : Int) := by omega
  have h1 : (i : Int) < 26 := by omega
  have h2 : (i : Int) % 26 = (i : Int) := by omega
  clear hsx e
  go_enter Try.func40, Try.ntmps40
  go_wp2
  go_ret
  exact ⟨rfl, (Below.refl _ _).alloc (Nat.le_refl _) _⟩
theorem range13 {w : World} {g : Nat} (h : SrcIn w g) :
    Calls Try.prog 25 #[.pointer (some ⟨g, 0, none⟩), .int .i64 1, .int .i64 3] w fun e w' => ∃ z, e = .returned (.int .i64 z) ∧ (1 ≤ z ∧ z ≤ 3) ∧ SrcIn w' g ∧ Src1 g w w' := by
  have H := Lib.hid h
  clear h
  go_enter Try.func25, Try.ntmps25
  go_wp2_with fail
  refine (n_src 3 H.out (by omega) (by omega)).mono ?_
  rintro e w1 ⟨r, rfl, ⟨hr0, hr1⟩, hs, hb⟩
  have H1 := Lib.hid (And.intro hs hb)
  clear hs hb
  go_wp2
  go_ret
  exact ⟨_, rfl, ⟨by omega, by omega⟩, H1.out⟩
theorem pick4 {w : World} {g b : Nat} (h : SrcIn w g) (hne : b ≠ g) (hb : w.heap[b]? = some (.cells #[.int .i64 1, .int .i64 2, .int .i64 2, .int .i64 3] 3 (0, 0))) :
    Calls Try.prog 41 #[.pointer (some ⟨g, 0, none⟩), .slice (some ⟨b, 0, none⟩) 4 4] w fun e w' => ∃ z, e = .returned (.int .i64 z) ∧ (1 ≤ z ∧ z ≤ 3) ∧ SrcIn w' g ∧ Src1 g w w' := by
  have hlt := lt_of_block hb
  have H := Lib.hid (And.intro h (And.intro hne (And.intro hb hlt)))
  clear h hne hb hlt
  go_enter Try.func41, Try.ntmps41
  go_wp2_with fail
  refine (n_src 4 H.out.1 (by omega) (by omega)).mono ?_
  rintro e w1 ⟨r, rfl, ⟨hr0, hr1⟩, hs, hb⟩
  obtain ⟨k, rfl⟩ : ∃ k : Nat, r = (k : Int) := ⟨r.toNat, by omega⟩
  have hz : ∃ z : Int, (#[Value.int .i64 1, .int .i64 2, .int .i64 2, .int .i64 3] : Array Value)[k]? = some (.int .i64 z) ∧ 1 ≤ z ∧ z ≤ 3 := by
    match k, hr1 with
    | 0, _ | 1, _ | 2, _ | 3, _ => exact ⟨_, rfl, by decide, by decide⟩
  obtain ⟨z, hk, hsh⟩ := hz
  have hcell : w1.cell? ⟨b, k, none⟩ = some (.int .i64 z) := cell_in ((hb.2 b H.out.2.2.2 H.out.2.1).trans H.out.2.2.1) hk
  have H1 := Lib.hid (And.intro hsh (And.intro hs hb))
  clear hs hb hk hsh
  go_wp2
  go_ret
  exact ⟨_, rfl, H1.out⟩
/-- What is known of the lists while the relations are made, i of them done and xs at hand. -/
structure Ok (al : List (ByteArray × Int)) (rs : List (ByteArray × Value × List Nat)) (xs : List Nat) (i : Nat) : Prop where
  len : al.length ≤ 6
  ri : rs.length = i
  an : ∀ j (h : j < al.length), al[j].1 = nmL j ∧ 1 ≤ al[j].2 ∧ al[j].2 ≤ 3
  rn : ∀ j (h : j < rs.length), rs[j].1 = rnL j
  rx : ∀ p ∈ rs, p.2.2 ≠ [] ∧ (∀ x ∈ p.2.2, x < al.length) ∧ p.2.2.Pairwise (· < ·)
  cx : (∀ x ∈ xs, x < al.length) ∧ xs.Pairwise (· < ·)
  cov : ∀ a, a < al.length → a ∈ xs ∨ ∃ p ∈ rs, a ∈ p.2.2
theorem Ok.start : Ok [] [] [] 0 := ⟨by decide, rfl, fun _ h => absurd h (by simp), fun _ h => absurd h (by simp), fun _ h => absurd h (by simp), ⟨fun _ h => absurd h (by simp), List.Pairwise.nil⟩, fun _ h => absurd h (by simp)⟩
theorem Ok.cur {al : List (ByteArray × Int)} {rs : List (ByteArray × Value × List Nat)} {xs ys : List Nat} {i : Nat} (h : Ok al rs xs i) (hy : (∀ x ∈ ys, x < al.length) ∧ ys.Pairwise (· < ·)) (hs : ∀ x ∈ xs, x ∈ ys) : Ok al rs ys i :=
  ⟨h.len, h.ri, h.an, h.rn, h.rx, hy, fun a ha => (h.cov a ha).elim (fun h1 => .inl (hs a h1)) .inr⟩
theorem pair_snoc {xs : List Nat} {a : Nat} (h : xs.Pairwise (· < ·)) (ha : ∀ x ∈ xs, x < a) : (xs ++ [a]).Pairwise (· < ·) :=
  List.pairwise_append.2 ⟨h, List.pairwise_singleton _ _, fun x hx y hy => by rw [List.mem_singleton] at hy; rw [hy]; exact ha x hx⟩
theorem Ok.grow {al : List (ByteArray × Int)} {rs : List (ByteArray × Value × List Nat)} {xs : List Nat} {i : Nat} (h : Ok al rs xs i) (hl : al.length < 6) {z : Int} (hz : 1 ≤ z ∧ z ≤ 3) : Ok (al ++ [(nmL al.length, z)]) rs (xs ++ [al.length]) i := by
  refine ⟨by rw [List.length_append]; show al.length + 1 ≤ 6; omega, h.ri, fun j hj => ?_, h.rn, fun p hp => ⟨(h.rx p hp).1, fun x hx => ?_, (h.rx p hp).2.2⟩, ⟨fun x hx => ?_, pair_snoc h.cx.2 h.cx.1⟩, fun a ha => ?_⟩
  · rw [List.length_append] at hj
    by_cases e : j < al.length
    · rw [List.getElem_append_left e]; exact h.an j e
    · have e2 : j = al.length := by simp at hj; omega
      subst e2
      rw [List.getElem_append_right (Nat.le_refl _)]
      simpa using hz
  · rw [List.length_append]; exact Nat.lt_of_lt_of_le ((h.rx p hp).2.1 x hx) (Nat.le_add_right _ _)
  · rw [List.length_append]
    rcases List.mem_append.1 hx with hx | hx
    · exact Nat.lt_of_lt_of_le (h.cx.1 x hx) (Nat.le_add_right _ _)
    · rw [List.mem_singleton] at hx; rw [hx]; exact Nat.lt_succ_self _
  · rw [List.length_append] at ha
    by_cases e : a < al.length
    · exact (h.cov a e).elim (fun h1 => .inl (List.mem_append_left _ h1)) .inr
    · have e2 : a = al.length := by simp at ha; omega
      exact .inl (List.mem_append_right _ (by rw [e2]; simp))
theorem Ok.done {al : List (ByteArray × Int)} {rs : List (ByteArray × Value × List Nat)} {xs : List Nat} {i : Nat} (h : Ok al rs xs i) (hne : xs ≠ []) (v : Value) : Ok al (rs ++ [(rnL i, v, xs)]) [] (i + 1) := by
  refine ⟨h.len, by rw [List.length_append, h.ri]; rfl, h.an, fun j hj => ?_, fun p hp => ?_, ⟨fun _ hx => absurd hx (by simp), List.Pairwise.nil⟩, fun a ha => .inr ?_⟩
  · rw [List.length_append] at hj
    by_cases e : j < rs.length
    · rw [List.getElem_append_left e]; exact h.rn j e
    · have e2 : j = rs.length := by simp at hj; omega
      subst e2
      rw [List.getElem_append_right (Nat.le_refl _)]
      simp [h.ri]
  · rcases List.mem_append.1 hp with hp | hp
    · exact h.rx p hp
    · rw [List.mem_singleton] at hp; subst hp; exact ⟨hne, h.cx⟩
  · rcases h.cov a ha with h1 | ⟨p, hp, h1⟩
    · exact ⟨_, List.mem_append_right _ (List.mem_singleton.2 rfl), h1⟩
    · exact ⟨p, List.mem_append_left _ hp, h1⟩
end Go.Proofs.Ytiakgcaflnpmeaa
