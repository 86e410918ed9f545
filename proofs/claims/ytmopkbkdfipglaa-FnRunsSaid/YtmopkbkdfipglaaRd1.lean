/- A number read bit by bit: the program's reader. -/
import Derived.Test.YtmopkbkdfipglaaRb
import Derived.Test.YtmopkbkdfipglaaRq
import Derived.Deep.RegionWith
namespace Go.Proofs.Ytmopkbkdfipglaa.Lists
open Go.ChangeShapes Go.WideShapes Go.ChangeAt Go.RowKit
open Go.Proofs.Ytmopkbkdfipglaa.Bytes (bys)

theorem and1_u8 (x : Int) (h0 : 0 ≤ x) (h1 : x < 256) : bits BinOp.and IntKind.u8 x 1 = x % 2 := by
  obtain ⟨n, rfl⟩ : ∃ n : Nat, x = n := ⟨x.toNat, by omega⟩
  have hn : n < 2 ^ 8 := by omega
  have e : (BitVec.ofInt 8 (n : Int) &&& BitVec.ofInt 8 1).toNat = n % 2 := by
    rw [BitVec.toNat_and]
    simp only [BitVec.ofInt_natCast, BitVec.toNat_ofNat]
    rw [Nat.mod_eq_of_lt hn]
    show n &&& 1 = _
    exact Nat.and_one_is_mod n
  show IntKind.u8.wrap ((BitVec.ofInt 8 (n : Int) &&& BitVec.ofInt 8 1).toNat : Int) = _
  rw [e]
  simp [IntKind.wrap, IntKind.bits, IntKind.signed]
  omega
theorem or_even (a b : Int) (ha : 0 ≤ a ∧ a < 9223372036854775808) (hb : b = 0 ∨ b = 1) : bits BinOp.or IntKind.u64 (a * 2) b = a * 2 + b := by
  obtain ⟨x, rfl⟩ : ∃ x : Nat, a = x := ⟨a.toNat, by omega⟩
  obtain ⟨y, rfl⟩ : ∃ y : Nat, b = y := ⟨b.toNat, by omega⟩
  have hx : x * 2 < 2 ^ 64 := by omega
  have hy : y < 2 ^ 64 := by omega
  have e : (BitVec.ofInt 64 ((x : Int) * 2) ||| BitVec.ofInt 64 (y : Int)).toNat = x * 2 + y := by
    have e1 : ((x : Int) * 2) = ((x * 2 : Nat) : Int) := by omega
    rw [e1, BitVec.toNat_or]
    simp only [BitVec.ofInt_natCast, BitVec.toNat_ofNat]
    rw [Nat.mod_eq_of_lt hx, Nat.mod_eq_of_lt hy, Nat.mul_comm]
    have := Nat.two_pow_add_eq_or_of_lt (i := 1) (b := y) (by omega) x
    simpa using this.symm
  show IntKind.u64.wrap ((BitVec.ofInt 64 ((x : Int) * 2) ||| BitVec.ofInt 64 (y : Int)).toNat : Int) = _
  rw [e]
  simp [IntKind.wrap, IntKind.bits, IntKind.signed]
  omega
def upc (c : Int) : List PanicEntry := [{ v := .iface 73 (.int .i64 c), recovered := false }]
theorem upc3 : upc 3 = [{ v := .iface 73 (.int .i64 3), recovered := false }] := rfl

/-- a reader that stands at p over the bytes D -/
def RB (w : World) (b : Nat) (a : Option Addr) (N cap : Nat) (D : List Int) (p : Nat) : Prop :=
  Bl w b 99 #[.slice a N cap, .int .i64 (p : Int)] ∧ D.length = N ∧ By D ∧ (∀ i, i < N → ∃ g o, a = some ⟨g, o, none⟩ ∧ N ≤ cap ∧ cap ≤ maxLen ∧ g ≠ b ∧ g < w.heap.size ∧ w.cell? ⟨g, o + i, none⟩ = some (.int .u8 (D.getD i 0)))
theorem RB.kb {w w' : World} {b : Nat} {a : Option Addr} {N cap : Nat} {D : List Int} {p : Nat} {S : Nat → Prop} (h : RB w b a N cap D p) (k : KB S w w') (hb : ¬ S b) (hs : 0 < N → ∀ g, S g → w.heap.size ≤ g ∨ ∀ o, a ≠ some ⟨g, o, none⟩) : RB w' b a N cap D p := by
  obtain ⟨h1, h2, h3, h4⟩ := h
  refine ⟨h1.kb k hb, h2, h3, fun i hi => ?_⟩
  obtain ⟨g, o, q1, q2, q3, q4, q5, q6⟩ := h4 i hi
  refine ⟨g, o, q1, q2, q3, q4, Nat.lt_of_lt_of_le q5 k.size, (k.cell (p := ⟨g, o + i, none⟩) q5 fun e => ?_).trans q6⟩
  rcases hs (by omega) g e with q | q
  · exact absurd q5 (by omega)
  · exact q o q1
theorem RB.set {w : World} {b : Nat} {a : Option Addr} {N cap : Nat} {D : List Int} {p : Nat} (h : RB w b a N cap D p) (q : Nat) : RB (w.setCell ⟨b, 1, none⟩ (.int .i64 (q : Int))) b a N cap D q := by
  obtain ⟨h1, h2, h3, h4⟩ := h
  have k := kb_set w b 1 (.int .i64 (q : Int))
  refine ⟨h1.set 1 _, h2, h3, fun i hi => ?_⟩
  obtain ⟨g, o, q1, q2, q3, q4, q5, q6⟩ := h4 i hi
  exact ⟨g, o, q1, q2, q3, q4, Nat.lt_of_lt_of_le q5 k.size, (k.cell (p := ⟨g, o + i, none⟩) q5 q4).trans q6⟩

set_option maxHeartbeats 1000000 in
theorem ileft_any (w : World) (b : Nat) (a : Option Addr) (N cap p : Nat) (hN : N ≤ 1048576) (hp : p ≤ 8 * N) (h : Bl w b 99 #[.slice a N cap, .int .i64 (p : Int)]) :
    Calls Try.prog 71 #[.pointer (some ⟨b, 0, none⟩)] w fun e w' => e = .returned (.int .i64 ((8 * N - p : Nat) : Int)) ∧ ∃ m, w' = w.drewN m := by
  have c0 := h.cell 0
  have c1 := h.cell 1
  simp at c0 c1
  obtain ⟨r, hr⟩ : ∃ r, r = 8 * N - p := ⟨_, rfl⟩
  have er : (N : Int) * 8 - (p : Int) = (r : Int) := by omega
  rw [← hr]
  clear h hr
  go_enter Try.func71, Try.ntmps71
  go_wp2_with fail
  go_quiet (fail)
  go_wp2_with fail
  go_ret
  exact ⟨rfl, _, rfl⟩
end Go.Proofs.Ytmopkbkdfipglaa.Lists
