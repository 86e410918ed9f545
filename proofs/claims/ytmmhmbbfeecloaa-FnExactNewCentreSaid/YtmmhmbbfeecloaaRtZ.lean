/- The sizes of entries. -/
import Derived.Test.YtmmhmbbfeecloaaRt
namespace Go.Proofs.Ytmmhmbbfeecloaa.Rt
open Go.ChangeShapes Go.WideShapes Go.ChangeAt Go.RowKit

def Fit (L : Ls) : Prop := ∀ i, i < L.length → (c0 L i).size < 9223372036854775808
def Fine (L : Ls) : Prop := L.length ≤ 1048576 ∧ ∀ i, i < L.length → (c0 L i).size ≤ 1048576
set_option maxHeartbeats 1000000 in
theorem szone_any (x0 : ByteArray) (x1 l : Int) (w : World) (h0 : 0 ≤ l) (h1 : l ≤ 1048576) (hs : x0.size < 9223372036854775808) :
    Calls Try.prog 13 #[.agg #[.string x0, .int .i64 x1], .int .i64 l] w fun e w' => (∃ r : Int, e = .returned (.int .i64 r) ∧ (0 ≤ r → x0.size ≤ 1048576) ∧ r ≤ 1048576) ∧ Below w.heap.size w w' := by
  have BB : Hid (Below w.heap.size w (w.alloc (Obj.cells #[.string x0, .int .i64 x1] 39))) := (Below.refl _ _).alloc (Nat.le_refl _) _
  have e1 : IntKind.i64.wrap (l - (x0.size : Int)) = l - (x0.size : Int) := IntWalk.i64_in _ (by omega)
  by_cases hn : l - (x0.size : Int) < 0
  · go_enter Try.func13, Try.ntmps13
    go_wp2_with fail
    go_ret
    exact ⟨⟨-1, rfl, fun h => by omega, by omega⟩, BB.out⟩
  · have hn' : 0 ≤ l - (x0.size : Int) := by omega
    have F : Hid (x0.size ≤ 1048576 ∧ l - (x0.size : Int) ≤ 1048576) := ⟨by omega, by omega⟩
    obtain ⟨y, hy⟩ : ∃ y : Int, y = l - (x0.size : Int) := ⟨_, rfl⟩
    rw [← hy] at e1 hn hn' F
    go_enter Try.func13, Try.ntmps13
    go_wp2_with fail
    go_ret
    exact ⟨⟨_, rfl, fun _ => F.out.1, by have := F.out.2; omega⟩, BB.out⟩

set_option maxHeartbeats 1000000 in
theorem sz_any (v : Value) (L : Ls) (l : Int) (w : World) (h0 : 0 ≤ l) (h1 : l ≤ 1048576) (h : Reads w v L) (hf : Fit L) :
    Calls Try.prog 4 #[v, .int .i64 l] w fun e w' => (∃ r : Int, e = .returned (.int .i64 r) ∧ (0 ≤ r → Fine L) ∧ r ≤ 1048576) ∧ Below w.heap.size w w' := by
  have fl := h.fits
  obtain ⟨a, cap, rfl⟩ := h.form
  have HC : Hid (∀ (w' : World) (i : Nat), Below w.heap.size w w' → i < L.length → ∃ b o, a = some ⟨b, o, none⟩ ∧ Cs w' b o L i) := fun w' i hb hi => (by
    rcases h with ⟨rfl, _⟩ | ⟨b, o, c, e, _, _, x, y⟩
    · simp at hi
    · simp at e; exact ⟨b, o, e.1, (y i hi).below hb x⟩)
  have HF : Hid (Fit L) := hf
  have HN : Hid (∀ n, n = L.length → (n ≤ 1048576 ∧ ∀ i, i < n → (c0 L i).size ≤ 1048576) → Fine L) := fun n hn h => by subst hn; exact h
  obtain ⟨n, hn⟩ : ∃ n, n = L.length := ⟨_, rfl⟩
  have HM : Hid (n = L.length) := hn
  rw [← hn] at fl HC ⊢
  clear h hf hn
  have e1 : IntKind.i64.wrap (l - (n : Int)) = l - (n : Int) := IntWalk.i64_in _ (by omega)
  by_cases hneg : l - (n : Int) < 0
  · go_enter Try.func4, Try.ntmps4
    go_wp2_with fail
    go_ret
    exact ⟨⟨-1, rfl, fun h => by omega, by omega⟩, Below.refl _ _⟩
  · have hnn : 0 ≤ l - (n : Int) := by omega
    have HLN : Hid (n ≤ 1048576) := (by show _ ≤ _; omega)
    obtain ⟨y, hy⟩ : ∃ y : Int, y = l - (n : Int) := ⟨_, rfl⟩
    have hy1 : y ≤ 1048576 := by omega
    rw [← hy] at e1 hneg hnn
    have HY : Hid (y = l - (n : Int)) := hy
    go_enter Try.func4, Try.ntmps4
    go_wp2_with fail
    rw [← HY.out]
    clear hy
    go_loopw [1, 5] (fun u i wr => ∃ (k : Nat) (z : Int), k ≤ n ∧ i = .int .i64 k ∧ u = .int .i64 z ∧ 0 ≤ z ∧ z ≤ 1048576 ∧ Hid (∀ i, i < k → (c0 L i).size ≤ 1048576) ∧ Hid (Below w.heap.size w wr)) (fun _ i _ => n - (intOf i).toNat)
    case atStart => exact ⟨0, y, Nat.zero_le _, rfl, rfl, hnn, hy1, fun i hi => by omega, Below.refl _ _⟩
    case round =>
      obtain ⟨k, z, hk, rfl, rfl, z0, z1, AK, BB⟩ := hrel
      by_cases hlt : k < n
      · have i0 : (0 : Int) ≤ (k : Int) := by omega
        have i1 : (k : Int) < (n : Int) := by omega
        obtain ⟨b, o, rfl, q0, q1⟩ := HC.out wr k BB.out hlt
        have CK : Hid (∀ w : World, Calls Try.prog 13 #[.agg #[.string (c0 L k), .int .i64 (c1 L k)], .int .i64 z] w fun e w' => (∃ r : Int, e = .returned (.int .i64 r) ∧ (0 ≤ r → (c0 L k).size ≤ 1048576) ∧ r ≤ 1048576) ∧ Below w.heap.size w w') := fun w => szone_any _ _ z w z0 z1 (HF.out k (by rw [← HM.out]; exact hlt))
        have AN : Hid ((c0 L k).size ≤ 1048576 → ∀ i, i < k + 1 → (c0 L i).size ≤ 1048576) := fun h i hi => by
          by_cases e : i = k
          · subst e; exact h
          · exact AK.out i (by omega)
        generalize c0 L k = x0 at *
        generalize c1 L k = x1 at *
        go_wp2_with fail
        refine (CK.out _).mono ?_
        rintro e w3 ⟨⟨r, rfl, hr, hr1⟩, hb⟩
        have B3 : Hid (Below w.heap.size w w3) := BB.out.trans (hb.mono BB.out.size)
        clear hb
        by_cases hr0 : r < 0
        · go_wp2_with fail
          go_ret
          exact ⟨⟨-1, rfl, fun h => by omega, by omega⟩, B3.out⟩
        · have AN2 : Hid (∀ i, i < k + 1 → (c0 L i).size ≤ 1048576) := AN.out (hr (by omega))
          have hr2 : 0 ≤ r := by omega
          clear AN hr
          go_wp2_with fail
          go_roundw
          case rel => exact ⟨k + 1, r, by omega, by go_num, rfl, hr2, hr1, AN2, B3⟩
          case measure => simp [intOf]; omega
      · have e : k = n := by omega
        have j1 : ¬ (k : Int) < (n : Int) := by omega
        have FE : Hid (Fine L) := HN.out n HM.out ⟨HLN.out, by rw [← e]; exact AK.out⟩
        go_wp2_with fail
        go_ret
        exact ⟨⟨z, rfl, fun _ => FE.out, z1⟩, BB.out⟩
end Go.Proofs.Ytmmhmbbfeecloaa.Rt
