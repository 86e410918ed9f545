/- Blend: the program. -/
import Derived.Test.YtoemkkppopebcaaBlP
import Derived.Deep.RegionHeld3
namespace Go.Proofs.Ytoemkkppopebcaa.Bl
open Go.ChangeShapes Go.WideShapes Go.ChangeAt Go.RowKit
open Go.Proofs.Ytoemkkppopebcaa.Lists Go.Proofs.Ytoemkkppopebcaa.Al Go.Proofs.Ytoemkkppopebcaa.Su

set_option maxHeartbeats 1000000 in
theorem cl18 (b0 b1 b2 bv ov bs os n cv cs k : Nat) (A x y : Int) (w : World) (hk : k < n)
    (q0 : w.cell? ⟨b0, 0, none⟩ = some (.slice (some ⟨bv, ov, none⟩) n cv)) (q1 : w.cell? ⟨b1, 0, none⟩ = some (.int .i64 A)) (q2 : w.cell? ⟨b2, 0, none⟩ = some (.slice (some ⟨bs, os, none⟩) n cs))
    (qx : w.cell? ⟨bv, ov + k, none⟩ = some (.int .i64 x)) (qy : w.cell? ⟨bs, os + k, none⟩ = some (.int .i64 y)) (hy : 1 ≤ y)
    (h1 : IntKind.i64.wrap (A.tdiv y) = A.tdiv y) (h2 : IntKind.i64.wrap (x * A.tdiv y) = x * A.tdiv y) :
    Calls Try.prog 16 #[.int .i64 (k : Int), .pointer (some ⟨b0, 0, none⟩), .pointer (some ⟨b1, 0, none⟩), .pointer (some ⟨b2, 0, none⟩)] w fun e w' => e = .returned (.int .i64 (x * A.tdiv y)) ∧ ∃ m, w' = w.drewN m := by
  have i1 : (0 : Int) ≤ (k : Int) := by omega
  have i2 : (k : Int) < (n : Int) := by omega
  have i3 : ¬ y = 0 := by omega
  have i4 : (y == 0) = false := by simp; omega
  go_enter Try.func16, Try.ntmps16
  go_wp2_with fail
  go_region
  go_wp2_with fail
  go_ret
  exact ⟨rfl, _, rfl⟩

set_option maxHeartbeats 1000000 in
theorem cl19 (b1 b2 bs os n cs k : Nat) (A y : Int) (w : World) (hk : k < n)
    (q1 : w.cell? ⟨b1, 0, none⟩ = some (.int .i64 A)) (q2 : w.cell? ⟨b2, 0, none⟩ = some (.slice (some ⟨bs, os, none⟩) n cs))
    (qy : w.cell? ⟨bs, os + k, none⟩ = some (.int .i64 y)) (hy : 1 ≤ y)
    (h1 : IntKind.i64.wrap (A.tdiv y) = A.tdiv y) :
    Calls Try.prog 17 #[.int .i64 (k : Int), .pointer (some ⟨b1, 0, none⟩), .pointer (some ⟨b2, 0, none⟩)] w fun e w' => e = .returned (.int .i64 (A.tdiv y)) ∧ ∃ m, w' = w.drewN m := by
  have i1 : (0 : Int) ≤ (k : Int) := by omega
  have i2 : (k : Int) < (n : Int) := by omega
  have i3 : ¬ y = 0 := by omega
  have i4 : (y == 0) = false := by simp; omega
  go_enter Try.func17, Try.ntmps17
  go_wp2_with fail
  go_region
  go_wp2_with fail
  go_ret
  exact ⟨rfl, _, rfl⟩

set_option maxHeartbeats 1000000 in
theorem gcd_any (a b : Int) (w : World) (ha : 0 ≤ a) (ha' : a < 9223372036854775808) (hb : 0 ≤ b) (hb' : b < 9223372036854775808) :
    Calls Try.prog 18 #[.int .i64 a, .int .i64 b] w fun e w' => e = .returned (.int .i64 (a.gcd b : Int)) ∧ ∃ m, w' = w.drewN m := by
  obtain ⟨G, hG⟩ : ∃ G, (a.gcd b : Int) = G := ⟨_, rfl⟩
  have HG : Hid ((a.gcd b : Int) = G) := hG
  rw [hG]
  clear hG
  go_enter Try.func18, Try.ntmps18
  go_wp2_with fail
  go_loopw [0, 1] (fun x y wr => ∃ p q : Int, x = .int .i64 p ∧ y = .int .i64 q ∧ 0 ≤ p ∧ p < 9223372036854775808 ∧ 0 ≤ q ∧ q < 9223372036854775808 ∧ Hid ((p.gcd q : Int) = G) ∧ ∃ m, wr = w.drewN m) (fun _ y _ => (intOf y).toNat)
  case atStart => exact ⟨a, b, rfl, rfl, ha, ha', hb, hb', HG, 0, rfl⟩
  case round =>
    obtain ⟨p, q, rfl, rfl, hp, hp', hq, hq', HP, m, rfl⟩ := hrel
    by_cases hz : q = 0
    · subst hz
      have e1 : Hid (p = G) := by
        show _ = _
        rw [← HP.out, Int.gcd_zero_right]
        omega
      go_wp2_with fail
      go_ret
      exact ⟨by rw [← e1.out]; rfl, _, rfl⟩
    · obtain ⟨s1, s2, s3⟩ := gcd_step hp (by omega : 0 < q)
      rw [Int.tmod_eq_emod_of_nonneg hp] at s1 s2 s3
      have S3 : Hid ((q.gcd (p % q) : Int) = G) := (by show _ = _; rw [s3]; exact HP.out)
      have i3 : (q == 0) = false := by simp; omega
      have i4 : (q != 0) = true := by simp; omega
      have i5 : IntKind.i64.wrap (p % q) = p % q := IntWalk.i64_in _ (by omega)
      have S4 : Hid (0 ≤ p % q ∧ p % q < q) := ⟨s1, s2⟩
      clear s3 s1 s2
      go_wp2_with fail
      go_region
      go_wp2_with fail
      go_roundw
      case rel => exact ⟨q, p % q, rfl, rfl, hq, hq', S4.out.1, Int.lt_trans S4.out.2 hq', S3, m + 1, rfl⟩
      case measure => exact (by have := S4.out; show (p % q).toNat < q.toNat; omega)
end Go.Proofs.Ytoemkkppopebcaa.Bl
