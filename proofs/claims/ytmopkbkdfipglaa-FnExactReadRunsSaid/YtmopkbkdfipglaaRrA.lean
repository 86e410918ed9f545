/- FnExactReadRuns: both sides answer alike, and the law says so. -/
import Derived.Test.YtmopkbkdfipglaaRrL
namespace Go.Proofs.Ytmopkbkdfipglaa.LawRrL
open Go.ChangeShapes Go.WideShapes Go.ChangeAt Go.RowKit
open Go.Proofs.Ytmopkbkdfipglaa.Lists

theorem rro_yes {w w' : World} {D L : List Int} {e : Ending} (h : RRo w D e w') (hL : RD D L) : ∃ u0, e = .returned (.tuple #[u0, .bool true]) ∧ w'.ownsRow w.heap.size 2 1 u0 L.length (ints L) ∧ Below w.heap.size w w' := by
  obtain ⟨hb, (⟨M, v, hM, rfl, r⟩ | ⟨hn, _⟩)⟩ := h
  · rw [hM.one hL] at r
    exact ⟨v, rfl, r, hb⟩
  · exact absurd hL (hn L)
theorem rro_no {w w' : World} {D : List Int} {e : Ending} (h : RRo w D e w') (hL : ∀ L, ¬ RD D L) : ∃ u0, e = .returned (.tuple #[u0, .bool false]) ∧ w'.ownsRow w.heap.size 2 1 u0 ([] : List Int).length (ints []) ∧ Below w.heap.size w w' := by
  obtain ⟨hb, (⟨M, v, hM, rfl, r⟩ | ⟨_, v, rfl, r⟩)⟩ := h
  · exact absurd hM (hL M)
  · exact ⟨v, rfl, r, hb⟩
set_option maxHeartbeats 1000000 in
theorem readAll (w : World) (v0 : Value) (L0 : List Int) (h0 : Bytes.Reads w v0 L0) (f0 : L0.length < 9223372036854775808) (hD : By L0) :
    Calls Try.prog 4 #[v0] w fun e w' => e = .returned (.bool true) ∧ Below w.heap.size w w' := by
  by_cases g0 : 1048576 < L0.length
  · obtain ⟨s0, c0, rfl⟩ := h0.form
    have i1 : (1048576 : Int) < (L0.length : Int) := by omega
    go_enter Try.func4, Try.ntmps4
    go_wp2_with fail
    go_ret
    exact ⟨rfl, Below.refl _ _⟩
  · have hN : L0.length ≤ 1048576 := by omega
    by_cases hL : ∃ L, RD L0 L
    · obtain ⟨L, hL⟩ := hL
      refine readLaw w v0 L0 h0 f0 L (by have := hL.back.2.1.1; omega) true ?_ ?_
      · intro W t h
        exact (sread14_any W t L0 h hD hN).mono fun e w' h => rro_yes h hL
      · intro W t h
        exact (iread16_any W t L0 h hD hN).mono fun e w' h => rro_yes h hL
    · have hL' : ∀ L, ¬ RD L0 L := fun L h => hL ⟨L, h⟩
      refine readLaw w v0 L0 h0 f0 [] (by simp) false ?_ ?_
      · intro W t h
        exact (sread14_any W t L0 h hD hN).mono fun e w' h => rro_no h hL'
      · intro W t h
        exact (iread16_any W t L0 h hD hN).mono fun e w' h => rro_no h hL'
end Go.Proofs.Ytmopkbkdfipglaa.LawRrL
