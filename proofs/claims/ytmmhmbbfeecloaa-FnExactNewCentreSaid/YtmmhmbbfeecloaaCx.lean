/- slices.Contains of routes. -/
import Derived.Test.YtmmhmbbfeecloaaRt
namespace Go.Proofs.Ytmmhmbbfeecloaa.Cx
open Go.ChangeShapes Go.WideShapes Go.ChangeAt Go.RowKit Rt
theorem tl_inj {a b : ByteArray} (h : a.toList = b.toList) : a = b := by
  apply WideShapes.bytes_inj
  rw [ByteArray.toList_eq, ByteArray.toList_eq] at h
  exact h
set_option maxHeartbeats 1000000 in
theorem idx_any (L : Ls) (v : Value) (x0 : ByteArray) (x1 : Int) (w : World) (h : Reads w v L) (hn : L.length ≤ 2000000) : Calls Try.prog 41 #[v, .agg #[.string x0, .int .i64 x1]] w fun e w' => (∃ q : Int, e = .returned (.int .i64 q) ∧ (0 ≤ q ↔ ∃ k, k < L.length ∧ c0 L k = x0 ∧ c1 L k = x1)) ∧ Below w.heap.size w w' := by
  obtain ⟨a, c, rfl⟩ := h.form
  obtain ⟨m, hm⟩ : ∃ m, m = L.length := ⟨_, rfl⟩
  have HM : Hid (m = L.length) := hm
  have HC : Hid (∀ i, i < m → ∃ b o, a = some ⟨b, o, none⟩ ∧ ∀ w', Below w.heap.size w w' → Cs w' b o L i) := fun i hi => (by
    rw [HM.out] at hi
    rcases h with ⟨rfl, _⟩ | ⟨b, o, c, e, _, _, x, y⟩
    · simp at hi
    · simp at e; exact ⟨b, o, e.1, fun w' hb => (y i hi).below hb x⟩)
  rw [← hm] at hn ⊢
  clear h hm
  go_enter Try.func41, Try.ntmps41
  go_wp2_with fail
  have BX : Hid (w.heap.size < w.heap.size + 1) := Nat.lt_succ_self _
  go_loopw [8] (fun i wr => ∃ k : Nat, k ≤ m ∧ i = .int .i64 k ∧ Hid (Below w.heap.size w wr) ∧ (wr.cell? ⟨w.heap.size, 0, none⟩ = some (.string x0) ∧ wr.cell? ⟨w.heap.size, 1, none⟩ = some (.int .i64 x1)) ∧ Hid (∀ j, j < k → ¬ (c0 L j = x0 ∧ c1 L j = x1))) (fun i _ => m - (intOf i).toNat)
  case atStart => exact ⟨0, Nat.zero_le _, rfl, (Below.refl _ _).alloc (Nat.le_refl _) _, ⟨by simp, by simp⟩, fun j hj => by omega⟩
  case round =>
    obtain ⟨k, hk, rfl, BB, ⟨p0, p1⟩, NB⟩ := hrel
    by_cases hlt : k < m
    · obtain ⟨b, o, rfl, qq⟩ := HC.out k hlt
      obtain ⟨q0, q1⟩ := qq wr BB.out
      clear qq
      have i0 : (0 : Int) ≤ (k : Int) := by omega
      have i1 : (k : Int) < (m : Int) := by omega
      have HE : Hid (k < L.length) := (by show k < L.length; rw [← HM.out]; exact hlt)
      generalize hy0 : c0 L k = y0 at *
      generalize hy1 : c1 L k = y1 at *
      have HY : Hid (c0 L k = y0 ∧ c1 L k = y1) := ⟨hy0, hy1⟩
      clear hy0 hy1
      by_cases e0 : x0.toList = y0.toList
      · by_cases e1 : x1 = y1
        · have HW : Hid (∃ k, k < m ∧ c0 L k = x0 ∧ c1 L k = x1) := ⟨k, hlt, by rw [HY.out.1]; exact (tl_inj e0).symm, by rw [HY.out.2]; exact e1.symm⟩
          clear NB HC
          go_wp2_with fail
          go_region
          go_wp2_with fail
          go_ret
          exact ⟨⟨k, rfl, fun _ => HW.out, fun _ => by omega⟩, BB.out.drew⟩
        · have NB' : Hid (∀ j, j < k + 1 → ¬ (c0 L j = x0 ∧ c1 L j = x1)) := fun j hj hh => by
            by_cases e : j = k
            · subst e; rw [HY.out.2] at hh; exact e1 hh.2.symm
            · exact NB.out j (by omega) hh
          have P0 : wr.drew.cell? ⟨w.heap.size, 0, none⟩ = some (.string x0) := p0
          have P1 : wr.drew.cell? ⟨w.heap.size, 1, none⟩ = some (.int .i64 x1) := p1
          clear NB
          go_wp2_with fail
          go_region
          go_wp2_with fail
          go_roundw
          case rel => exact ⟨k + 1, by omega, by go_num, BB.out.drew, ⟨P0, P1⟩, NB'⟩
          case measure => simp [intOf]; omega
      · have NB' : Hid (∀ j, j < k + 1 → ¬ (c0 L j = x0 ∧ c1 L j = x1)) := fun j hj hh => by
          by_cases e : j = k
          · subst e; rw [HY.out.1] at hh; exact e0 (by rw [hh.1])
          · exact NB.out j (by omega) hh
        have P0 : wr.drew.cell? ⟨w.heap.size, 0, none⟩ = some (.string x0) := p0
        have P1 : wr.drew.cell? ⟨w.heap.size, 1, none⟩ = some (.int .i64 x1) := p1
        clear NB
        go_wp2_with fail
        go_region
        go_wp2_with fail
        go_roundw
        case rel => exact ⟨k + 1, by omega, by go_num, BB.out.drew, ⟨P0, P1⟩, NB'⟩
        case measure => simp [intOf]; omega
    · have j1 : ¬ (k : Int) < (m : Int) := by omega
      have HN : Hid (¬ ∃ k, k < m ∧ c0 L k = x0 ∧ c1 L k = x1) := fun ⟨j, hj, hh⟩ => NB.out j (by omega) hh
      go_wp2_with fail
      go_ret
      exact ⟨⟨-1, rfl, fun h => absurd h (by omega), fun h => absurd h HN.out⟩, BB.out⟩
set_option maxHeartbeats 1000000 in
theorem has_any (L : Ls) (v : Value) (x0 : ByteArray) (x1 : Int) (w : World) (h : Reads w v L) (hn : L.length ≤ 2000000) : Calls Try.prog 33 #[v, .agg #[.string x0, .int .i64 x1]] w fun e w' => (∃ q : Bool, e = .returned (.bool q) ∧ (q = true ↔ ∃ k, k < L.length ∧ c0 L k = x0 ∧ c1 L k = x1)) ∧ Below w.heap.size w w' := by
  have C : Hid (∀ w', Below w.heap.size w w' → Calls Try.prog 41 #[v, .agg #[.string x0, .int .i64 x1]] w' fun e w'' => (∃ q : Int, e = .returned (.int .i64 q) ∧ (0 ≤ q ↔ ∃ k, k < L.length ∧ c0 L k = x0 ∧ c1 L k = x1)) ∧ Below w'.heap.size w' w'') := fun w' hb => idx_any L v x0 x1 w' (h.on hb) hn
  have HP : ∃ P : Prop, P = ∃ k, k < L.length ∧ c0 L k = x0 ∧ c1 L k = x1 := ⟨_, rfl⟩
  obtain ⟨P, hP⟩ := HP
  rw [← hP] at C ⊢
  clear h hn hP
  go_enter Try.func33, Try.ntmps33
  go_wp2_with fail
  refine (C.out _ ((Below.refl _ _).alloc (Nat.le_refl _) _)).mono ?_
  rintro e w1 ⟨⟨q, rfl, hq⟩, hb⟩
  have HQ : Hid ((0 ≤ q ↔ P) ∧ Below w.heap.size w w1) := ⟨hq, ((Below.refl _ _).alloc (Nat.le_refl _) _).trans (hb.mono (by simp))⟩
  clear hq C hb
  go_wp2_with fail
  go_ret
  exact ⟨⟨decide (0 ≤ q), rfl, by rw [decide_eq_true_iff]; exact HQ.out.1⟩, HQ.out.2⟩
end Go.Proofs.Ytmmhmbbfeecloaa.Cx
