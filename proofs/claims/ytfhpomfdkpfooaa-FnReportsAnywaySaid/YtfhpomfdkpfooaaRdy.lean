/- A tied task's ready: whether all that it waits for have ended. -/
import Derived.Test.YtfhpomfdkpfooaaFr
import Derived.Deep.DrawnRows
namespace Go.Proofs.Ytfhpomfdkpfooaa.Gr
open Go.ChangeShapes Go.WideShapes Go.ChangeAt Go.RowKit
open Go.Proofs.Ytfhpomfdkpfooaa.Rk

/-- what a tied task at t waits for: k tied tasks, the i-th with its job at P i, which has the state st i -/
def Aw (w : World) (t : Addr) (k : Nat) (st : Nat → Int) : Prop := ∃ (ba oa c : Nat), k ≤ 1000 ∧ w.cell? ⟨t.block, t.off + 6, none⟩ = some (.slice (some ⟨ba, oa, none⟩) k c) ∧ ∀ i, i < k → ∃ pb po jb jo : Nat, w.cell? ⟨ba, oa + i, none⟩ = some (.pointer (some ⟨pb, po, none⟩)) ∧ w.cell? ⟨pb, po + 5, none⟩ = some (.pointer (some ⟨jb, jo, none⟩)) ∧ w.cell? ⟨jb, jo, none⟩ = some (.int .i64 (st i))
set_option maxHeartbeats 1000000 in
theorem ready_any (w : World) (bt ot k : Nat) (st : Nat → Int) (h : Aw w ⟨bt, ot, none⟩ k st) (bo : Bool) (hb : bo = true ↔ ∀ i, i < k → st i = 2) :
    Calls Try.prog 37 #[.pointer (some ⟨bt, ot, none⟩)] w fun e w' => e = .returned (.bool bo) ∧ w' = w := by
  obtain ⟨ba, oa, c, hk, h1, h2⟩ := h
  have H2 : Hid (∀ i, i < k → ∃ pb po jb jo : Nat, w.cell? ⟨ba, oa + i, none⟩ = some (.pointer (some ⟨pb, po, none⟩)) ∧ w.cell? ⟨pb, po + 5, none⟩ = some (.pointer (some ⟨jb, jo, none⟩)) ∧ w.cell? ⟨jb, jo, none⟩ = some (.int .i64 (st i))) := h2
  have HB : Hid (bo = true ↔ ∀ i, i < k → st i = 2) := hb
  clear h2 hb
  dsimp only at h1
  go_enter Try.func37, Try.ntmps37
  go_wp2_with fail
  go_loopw [10, 4] (fun i _ wr => ∃ j : Nat, j ≤ k ∧ i = .int .i64 j ∧ wr = w ∧ Hid (∀ m, m < j → st m = 2)) (fun i _ _ => k - (intOf i).toNat)
  case atStart => exact ⟨0, Nat.zero_le _, rfl, rfl, fun m hm => absurd hm (by omega)⟩
  case round =>
    obtain ⟨j, hj, rfl, rfl, OK⟩ := hrel
    by_cases hlt : j < k
    · have i1 : (0 : Int) ≤ (j : Int) := by omega
      have i2 : (j : Int) < (k : Int) := by omega
      obtain ⟨pb, po, jb, jo, q1, q2, q3⟩ := H2.out j hlt
      by_cases hs : st j = 2
      · have OK2 : Hid (∀ m, m < j + 1 → st m = 2) := fun m hm => (by
          by_cases e : m = j
          · rw [e]; exact hs
          · exact OK.out m (by omega))
        have hsb : (st j != 2) = false := by simpa using hs
        clear OK
        go_wp2_with fail
        go_roundw
        case rel => exact ⟨j + 1, by omega, by go_num, trivial, OK2⟩
        case measure => simp [intOf]; omega
      · have HF : Hid (bo = false) := (by
          show bo = false
          cases hbo : bo
          · rfl
          · exact absurd (HB.out.1 hbo j hlt) hs)
        have hsb : (st j != 2) = true := by simpa using hs
        go_wp2_with fail
        go_ret
        exact ⟨by rw [HF.out]; rfl, rfl⟩
    · have HT : Hid (bo = true) := HB.out.2 (fun m hm => OK.out m (by omega))
      have i2 : ¬ (j : Int) < (k : Int) := by omega
      go_wp2_with fail
      go_ret
      exact ⟨by rw [HT.out]; rfl, rfl⟩
end Go.Proofs.Ytfhpomfdkpfooaa.Gr
