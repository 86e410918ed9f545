/- Numbers drawn of a code, told by the code alone. -/
import Derived.Test.YtfjkchkcgnjkaaaFd
namespace Go.Proofs.Ytfjkchkcgnjkaaa.Fd
open Go.ChangeShapes Go.WideShapes Go.ChangeAt Go.RowKit

theorem below_is {B : List UInt8} {p r : Nat} {w : World} (h : Rd B p r w) (n : Nat) (h1 : 1 ≤ n) (h2 : n ≤ 60000) {v p' : Nat} (hv : bw B p n = v) (hp : bp B p n = p') : Calls Try.prog 27 #[.pointer (some ⟨r, 0, none⟩), .int .i64 n] w (Gives B r w (.int .i64 (v : Int)) p') := by
  rw [← hv, ← hp]
  exact below_any B p r w h n h1 h2
theorem or_in (a b : Int) : 0 ≤ bits .or .u64 a b ∧ bits .or .u64 a b < 18446744073709551616 := by
  obtain ⟨z, hz⟩ : ∃ z, bits .or .u64 a b = IntKind.u64.wrap z := ⟨_, rfl⟩
  rw [hz]
  simp only [IntKind.wrap, IntKind.bits, IntKind.signed]
  simp
  omega
/-- the word behind k bytes, and the place then -/
def wd (B : List UInt8) (p : Nat) : Nat → Int × Nat
  | 0 => (0, p)
  | k + 1 => (bits .or .u64 (IntKind.u64.wrap ((wd B p k).1 * 256)) ((nx B (wd B p k).2 : Nat) : Int), np B (wd B p k).2)
theorem wd_in (B : List UInt8) (p : Nat) : ∀ k, 0 ≤ (wd B p k).1 ∧ (wd B p k).1 < 18446744073709551616
  | 0 => by simp [wd]
  | k + 1 => or_in _ _

set_option maxHeartbeats 1000000 in
theorem word_any (B : List UInt8) (p r : Nat) (w : World) (h : Rd B p r w) : Calls Try.prog 41 #[.pointer (some ⟨r, 0, none⟩)] w (Gives B r w (.int .u64 (wd B p 8).1) (wd B p 8).2) := by
  have H : Hid (Rd B p r w) := h
  clear h
  go_enter Try.func41, Try.ntmps41
  go_wp2
  go_loopw [3, 4] (fun s i wr => ∃ k : Nat, k ≤ 8 ∧ i = .int .i64 k ∧ s = .int .u64 (wd B p k).1 ∧ Hid (Rd B (wd B p k).2 r wr) ∧ Hid (Turn r w wr)) (fun _ i _ => 8 - (intOf i).toNat)
  case atStart => exact ⟨0, by omega, rfl, rfl, H, Turn.refl _ _⟩
  case round =>
    obtain ⟨k, hk, rfl, rfl, K, T⟩ := hrel
    by_cases hlt : k < 8
    · have i1 : (k : Int) < 8 := by omega
      obtain ⟨hx0, hx1⟩ := wd_in B p k
      have NX : Hid (∀ wr, Rd B (wd B p k).2 r wr → Calls Try.prog 36 #[.pointer (some ⟨r, 0, none⟩)] wr (Gives B r wr (.int .i64 (nx B (wd B p k).2 : Int)) (np B (wd B p k).2))) := fun wr h => next_any B _ r wr h
      have N1 : Hid ((wd B p (k + 1)).1 = bits .or .u64 (IntKind.u64.wrap ((wd B p k).1 * 256)) ((nx B (wd B p k).2 : Nat) : Int) ∧ (wd B p (k + 1)).2 = np B (wd B p k).2) := ⟨rfl, rfl⟩
      have hn := nx_le B (wd B p k).2
      generalize (wd B p k).1 = x at *
      generalize nx B (wd B p k).2 = y at *
      go_wp2_with fail
      refine (NX.out wr K.out).mono ?_
      rintro e w1 ⟨rfl, k3, k4⟩
      have K3 : Hid (Rd B (wd B p (k + 1)).2 r w1) := (by rw [N1.out.2]; exact k3)
      have T3 : Hid (Turn r w w1) := T.out.trans k4
      clear k3 k4
      go_wp2_with fail
      go_roundw
      case rel => exact ⟨k + 1, by omega, by go_num, by rw [N1.out.1], K3, T3⟩
      case measure => simp [intOf]; omega
    · have i1 : ¬ ((k : Int) < 8) := by omega
      have ek : k = 8 := by omega
      subst ek
      go_wp2_with fail
      go_ret
      exact ⟨rfl, K.out, T.out⟩

abbrev twelve : Obj := .cells #[.int .i64 0, .int .i64 1, .int .i64 (-1), .int .i64 127, .int .i64 128, .int .i64 2147483648, .int .i64 1000000000000000, .int .i64 1000000000000001, .int .i64 (-1000000000000000), .int .i64 9007199254740993, .int .i64 9223372036854775807, .int .i64 (-9223372036854775808)] 2
def tws : List Int := [0, 1, -1, 127, 128, 2147483648, 1000000000000000, 1000000000000001, -1000000000000000, 9007199254740993, 9223372036854775807, -9223372036854775808]
theorem oneOf12 (u : Nat) (h1 : u < 12) : u = 0 ∨ u = 1 ∨ u = 2 ∨ u = 3 ∨ u = 4 ∨ u = 5 ∨ u = 6 ∨ u = 7 ∨ u = 8 ∨ u = 9 ∨ u = 10 ∨ u = 11 := by omega
theorem twelve_at (w : World) (u : Nat) (h : u < 12) : (w.alloc twelve).cell? ⟨w.heap.size, u, none⟩ = some (.int .i64 (tws.getD u 0)) := by
  rcases oneOf12 u h with rfl | rfl | rfl | rfl | rfl | rfl | rfl | rfl | rfl | rfl | rfl | rfl <;> simp [go_sem, tws]
/-- a number drawn: its value and the place behind it are the code's -/
def NumD (B : List UInt8) (p : Nat) (x : Int) (p' : Nat) : Prop := ∀ r w, Rd B p r w → Calls Try.prog 39 #[.pointer (some ⟨r, 0, none⟩)] w (Gives B r w (.int .i64 x) p')
set_option maxHeartbeats 2000000 in
theorem number_det (B : List UInt8) (p : Nat) : ∃ x p', NumD B p x p' := by
  obtain ⟨u, hu⟩ : ∃ u, bw B p 5 = u := ⟨_, rfl⟩
  obtain ⟨p1, hp1⟩ : ∃ q, bp B p 5 = q := ⟨_, rfl⟩
  have hu5 := bw_lt B p 5 (by omega)
  rw [hu] at hu5
  have hc : u = 0 ∨ u = 1 ∨ u = 2 ∨ 2 < u := by omega
  rcases hc with rfl | rfl | rfl | h3
  · refine ⟨(bw B p1 300 : Int) - 4, bp B p1 300, fun r w h => ?_⟩
    have hv := bw_lt B p1 300 (by omega)
    have C1 := below_is h 5 (by omega) (by omega) hu hp1
    go_enter Try.func39, Try.ntmps39
    go_wp2_with fail
    refine C1.mono ?_
    rintro e w1 ⟨rfl, k1, k2⟩
    go_wp2_with fail
    refine (below_any B _ r _ k1 300 (by omega) (by omega)).mono ?_
    rintro e w2 ⟨rfl, k3, k4⟩
    generalize bw B p1 300 = v at *
    go_wp2_with fail
    go_ret
    exact ⟨rfl, k3, k2.trans k4⟩
  · refine ⟨tws.getD (bw B p1 12) 0, bp B p1 12, fun r w h => ?_⟩
    have hv := bw_lt B p1 12 (by omega)
    have C1 := below_is h 5 (by omega) (by omega) hu hp1
    have hr := h.lt
    go_enter Try.func39, Try.ntmps39
    go_wp2_with fail
    refine C1.mono ?_
    rintro e w1 ⟨rfl, k1, k2⟩
    go_wp2_with fail
    have s1 := k2.size
    have kA : Rd B p1 r (w1.alloc twelve) := k1.kept ((Below.refl w1.heap.size w1).alloc (Nat.le_refl _) twelve) (by omega)
    refine (below_any B _ r _ kA 12 (by omega) (by omega)).mono ?_
    rintro e w2 ⟨rfl, k3, k4⟩
    have kt : Turn r w w2 := (k2.alloc hr twelve).trans k4
    have c0 : w2.cell? ⟨w1.heap.size, bw B p1 12, none⟩ = some (.int .i64 (tws.getD (bw B p1 12) 0)) := (k4.cell _ (by simp) (by omega)).trans (twelve_at w1 _ hv)
    generalize tws.getD (bw B p1 12) 0 = x at *
    generalize hvv : bw B p1 12 = v at *
    clear hvv
    go_wp2_with fail
    go_ret
    exact ⟨rfl, k3, kt⟩
  · obtain ⟨hx0, hx1⟩ := wd_in B p1 8
    have W := fun r w h => word_any B p1 r w h
    generalize (wd B p1 8).1 = x at *
    generalize (wd B p1 8).2 = p2 at *
    refine ⟨wrap64 (x / 2 ^ (1 + bw B p2 60)), bp B p2 60, fun r w h => ?_⟩
    have hz := bw_lt B p2 60 (by omega)
    have C1 := below_is h 5 (by omega) (by omega) hu hp1
    go_enter Try.func39, Try.ntmps39
    go_wp2_with fail
    refine C1.mono ?_
    rintro e w1 ⟨rfl, k1, k2⟩
    go_wp2_with fail
    refine (W r _ k1).mono ?_
    rintro e w2 ⟨rfl, k3, k4⟩
    go_wp2_with fail
    refine (below_any B _ r _ k3 60 (by omega) (by omega)).mono ?_
    rintro e w3 ⟨rfl, k5, k6⟩
    generalize bw B p2 60 = z at *
    go_wp2_with fail
    go_ret
    exact ⟨rfl, k5, (k2.trans k4).trans k6⟩
  · refine ⟨(bw B p1 20 : Int), bp B p1 20, fun r w h => ?_⟩
    have hv := bw_lt B p1 20 (by omega)
    have C1 := below_is h 5 (by omega) (by omega) hu hp1
    go_enter Try.func39, Try.ntmps39
    go_wp2_with fail
    refine C1.mono ?_
    rintro e w1 ⟨rfl, k1, k2⟩
    have u0 : ¬ ((u : Int) = 0) := by omega
    have u1 : ¬ ((u : Int) = 1) := by omega
    have u2 : ¬ ((u : Int) = 2) := by omega
    go_wp2_with fail
    refine (below_any B _ r _ k1 20 (by omega) (by omega)).mono ?_
    rintro e w2 ⟨rfl, k3, k4⟩
    generalize bw B p1 20 = v at *
    go_wp2_with fail
    go_ret
    exact ⟨rfl, k3, k2.trans k4⟩
end Go.Proofs.Ytfjkchkcgnjkaaa.Fd
