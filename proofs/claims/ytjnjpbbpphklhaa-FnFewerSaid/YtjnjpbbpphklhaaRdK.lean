/- Levels picked by their places. -/
import Derived.Test.YtjnjpbbpphklhaaRdJ
namespace Go.Proofs.Ytjnjpbbpphklhaa.Rd
open Go.ChangeShapes Go.WideShapes Go.ChangeAt Go.RowKit
open Flt

def pick (L : Lv) (A : List Int) : Lv := A.map fun a => (pOf L a.toNat, tOf L a.toNat)
theorem pick_len (L : Lv) (A : List Int) : (pick L A).length = A.length := by unfold pick; exact List.length_map _
theorem pick_succ (L : Lv) (A : List Int) (k : Nat) (h : k < A.length) : pick L (A.take (k + 1)) = pick L (A.take k) ++ [(pOf L (A.getD k 0).toNat, tOf L (A.getD k 0).toNat)] := by
  unfold pick
  rw [List.take_succ_eq_append_getElem h, List.map_append]
  simp [h]
theorem int_cell {w : World} {base g cap n : Nat} {A : List Int} (h : w.ownsRow base 2 1 (.slice (some ⟨g, 0, none⟩) n cap) n (ints A)) (i : Nat) (hi : i < n) : w.cell? ⟨g, i, none⟩ = some (.int .i64 (A.getD i 0)) := by
  have hl : A.length = n := by have := h.1; simpa [ints] using this
  rw [h.cellAt i (by omega)]
  simp [ints, List.getElem?_map, List.getElem?_eq_getElem (show i < A.length by omega)]

set_option maxHeartbeats 1000000 in
theorem at_any (w : World) (v va : Value) (L : Lv) (A : List Int) (base : Nat) (h : Reads w v L) (ha : w.ownsRow base 2 1 va A.length (ints A)) (hin : ∀ k, k < A.length → 0 ≤ A.getD k 0 ∧ A.getD k 0 < (L.length : Int)) (h0 : 0 < A.length) (h1 : A.length ≤ 1000) :
    Calls Try.prog 9 #[v, va] w fun e w' => ∃ v', e = .returned v' ∧ w'.ownsRow w.heap.size 32 2 v' (pick L A).length (flat (pick L A)) ∧ Below w.heap.size w w' := by
  rcases h with ⟨rfl, _⟩ | ⟨b, o, c, rfl, x1, x2, x3, x4⟩
  · have := hin 0 h0; simp at this; omega
  rcases row_cases ha with ⟨q1, _⟩ | ⟨g, cap, rfl, q2, q3, q4, q5⟩
  · omega
  have K : Hid (b < w.heap.size ∧ ∀ i, i < L.length → w.cell? ⟨b, o + i * 2, none⟩ = some (.int .i64 (pOf L i)) ∧ w.cell? ⟨b, o + i * 2 + 1, none⟩ = some (.float .f64 (tOf L i))) := ⟨x3, x4⟩
  have KA : Hid (g < w.heap.size ∧ ∀ i, i < A.length → w.cell? ⟨g, i, none⟩ = some (.int .i64 (A.getD i 0))) := ⟨q3, fun i hi => int_cell ha i hi⟩
  have HI : Hid (∀ k, k < A.length → 0 ≤ A.getD k 0 ∧ A.getD k 0 < (L.length : Int)) := hin
  obtain ⟨i0, hi, hz0, hz1, hz2⟩ := info_parts info32
  obtain ⟨n, hn⟩ : ∃ n, A.length = n := ⟨_, rfl⟩
  obtain ⟨m, hm⟩ : ∃ m, L.length = m := ⟨_, rfl⟩
  have HN : Hid (A.length = n) := hn
  have HM : Hid (L.length = m) := hm
  have HT : Hid (A.take n = A) := (by show _ = _; rw [← hn]; exact List.take_length)
  rw [hn] at h0 h1 q4 KA HI ⊢
  rw [hm] at x1 K HI ⊢
  have O0 : Hid ((w.alloc (.cells #[] 32)).ownsRow w.heap.size 32 2 (.slice (some ⟨w.heap.size, 0, none⟩) 0 0) 0 (flat (pick L (A.take 0)))) := row_nil w _ (Nat.le_refl _)
  have B0 : Hid (Below w.heap.size w (w.alloc (.cells #[] 32))) := (Below.refl _ _).alloc (Nat.le_refl _) _
  unfold maxLen at x2 q5
  clear x4 hin hn hm ha q2
  go_enter Try.func9, Try.ntmps9
  go_wp2_with fail
  go_loopw [5, 6] (fun r i wr => ∃ k : Nat, k ≤ n ∧ i = .int .i64 k ∧ Hid (wr.ownsRow w.heap.size 32 2 r k (flat (pick L (A.take k)))) ∧ Hid (Below w.heap.size w wr)) (fun _ i _ => n - (intOf i).toNat)
  case atStart => exact ⟨0, Nat.zero_le _, rfl, O0, B0⟩
  case round =>
    obtain ⟨k, hk, rfl, O, B⟩ := hrel
    clear O0 B0
    by_cases hlt : k < n
    · have a1 : (k : Int) < (n : Int) := by omega
      have a2 : (0 : Int) ≤ (k : Int) := by omega
      obtain ⟨j, hj⟩ : ∃ j : Nat, A.getD k 0 = (j : Int) := ⟨(A.getD k 0).toNat, by have := HI.out k hlt; omega⟩
      have hjm : j < m := by have := HI.out k hlt; omega
      have r1 : wr.cell? ⟨g, k, none⟩ = some (.int .i64 (j : Int)) := (by rw [← hj]; exact (B.out.cell (p := ⟨g, k, none⟩) KA.out.1).trans (KA.out.2 k hlt))
      have r2 : wr.cell? ⟨b, o + j * 2, none⟩ = some (.int .i64 (pOf L j)) := (B.out.cell (p := ⟨b, o + j * 2, none⟩) K.out.1).trans (K.out.2 j hjm).1
      have r3 : wr.cell? ⟨b, o + j * 2 + 1, none⟩ = some (.float .f64 (tOf L j)) := (B.out.cell (p := ⟨b, o + j * 2 + 1, none⟩) K.out.1).trans (K.out.2 j hjm).2
      have HP : Hid (pick L (A.take (k + 1)) = pick L (A.take k) ++ [(pOf L j, tOf L j)]) := (by show _ = _; rw [pick_succ L A k (by rw [HN.out]; exact hlt), hj]; rfl)
      have a3 : ¬ ((j : Int) < 0) := by omega
      have a4 : (j : Int) < (m : Int) := by omega
      have a5 : (0 : Int) ≤ (j : Int) := by omega
      have a6 : ¬ ((m : Int) ≤ (j : Int)) := by omega
      clear hj
      generalize pOf L j = pj at *
      generalize tOf L j = tj at *
      go_wp2_with (at_builtin; refine wpList_append_own _ rfl _ _ 24 rfl w.heap.size 32 i0 (.agg #[.int .i64 0, .float .f64 0]) 2 16 Try.underlying24 hi hz0 hz1 hz2 rfl (by decide) _ _ _ rfl (O.out.alloc _) ⟨wr.heap.size, 0, none⟩ 1 1 [.int .i64 pj, .float .f64 tj] rfl rfl (two_cells _ _ _ _) (two_one _ _) (by unfold maxLen; omega) (by omega) (by have := B.out.size; simp; omega) ?_)
      intro v7 w7 hown hgrow _
      have O7 : Hid (w7.ownsRow w.heap.size 32 2 v7 (k + 1) (flat (pick L (A.take (k + 1))))) := (by show w7.ownsRow _ _ _ _ _ _; rw [HP.out, flat_app]; exact hown)
      have B7 : Hid (Below w.heap.size w w7) := (B.out.alloc B.out.size _).grown hgrow (by have := B.out.size; simp; omega) (fun b hb => (O.out.lt b hb).1)
      clear hown hgrow O B
      go_wp2_with fail
      go_roundw
      case rel => exact ⟨k + 1, by omega, by go_num, O7, B7⟩
      case measure => simp [intOf]; omega
    · have a1 : ¬ ((k : Int) < (n : Int)) := by omega
      have e : k = n := by omega
      subst e
      go_wp2_with fail
      go_ret
      exact ⟨_, rfl, by rw [pick_len, HN.out]; have := O.out; rw [HT.out] at this; exact this, B.out⟩
end Go.Proofs.Ytjnjpbbpphklhaa.Rd
