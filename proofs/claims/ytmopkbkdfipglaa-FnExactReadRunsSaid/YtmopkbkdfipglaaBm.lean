/- Bytes marked and held. -/
import Derived.Test.YtmopkbkdfipglaaKb
namespace Go.Proofs.Ytmopkbkdfipglaa.Lists
open Go.ChangeShapes Go.WideShapes Go.ChangeAt Go.RowKit

def wb (x : Int) : Int := IntKind.u8.wrap x
/-- Bytes that bear their marks. -/
def MB (M : List Int) (k0 : Int) (n : Nat) : Prop := M.length = n ∧ ∀ i, i < n → M.getD i 0 = wb (k0 + (i : Int))

set_option maxHeartbeats 1000000 in
theorem bmark_any (w : World) (base : Nat) (v : Value) (L : List Int) (k0 : Int) (hk0 : 0 ≤ k0) (hk1 : k0 ≤ 1000000) (hn : L.length ≤ 2000000) (h : w.ownsRow base 5 1 v L.length (Bytes.bys L)) :
    Calls Try.prog 12 #[v, .int .i64 k0] w fun e w' => e = .returned (.int .i64 (k0 + L.length)) ∧ (∃ M, MB M k0 L.length ∧ w'.ownsRow base 5 1 v L.length (Bytes.bys M)) ∧ w.grownBy w' v.ownBlock := by
  rcases Bytes.row_cases h with ⟨rfl, rfl⟩ | ⟨g, c, rfl, _, _, x1, x2⟩
  · go_enter Try.func12, Try.ntmps12
    go_wp2
    go_loop [1, 5] (fun k i => k = .int .i64 k0 ∧ i = .int .i64 0) (fun _ _ => 0)
    case atStart => exact ⟨rfl, rfl⟩
    case round =>
      obtain ⟨rfl, rfl⟩ := hrel
      go_wp2
      go_ret
      exact ⟨by simp, ⟨[], ⟨rfl, fun i hi => absurd hi (by simp)⟩, h⟩, World.grownBy.refl _ _⟩
  · have R0 : Hid (∃ M : List Int, M.length = L.length ∧ (∀ i, i < 0 → M.getD i 0 = wb (k0 + (i : Int))) ∧ w.ownsRow base 5 1 (.slice (some ⟨g, 0, none⟩) L.length c) L.length (Bytes.bys M)) := ⟨L, rfl, fun i hi => absurd hi (by omega), h⟩
    obtain ⟨n, hn'⟩ : ∃ n, n = L.length := ⟨_, rfl⟩
    rw [← hn'] at x1 hn R0 ⊢
    unfold maxLen at x2
    clear h hn'
    go_enter Try.func12, Try.ntmps12
    go_wp2
    go_loopw [1, 5] (fun k i wr => ∃ j : Nat, j ≤ n ∧ k = .int .i64 (k0 + j) ∧ i = .int .i64 j ∧ Hid (∃ M : List Int, M.length = n ∧ (∀ i, i < j → M.getD i 0 = wb (k0 + (i : Int))) ∧ wr.ownsRow base 5 1 (.slice (some ⟨g, 0, none⟩) n c) n (Bytes.bys M)) ∧ Hid (w.grownBy wr (some g))) (fun _ i _ => n - (intOf i).toNat)
    case atStart => exact ⟨0, Nat.zero_le _, by simp, rfl, R0, World.grownBy.refl _ _⟩
    case round =>
      obtain ⟨j, hj, rfl, rfl, R, G⟩ := hrel
      by_cases hlt : j < n
      · have i0 : (0 : Int) ≤ (j : Int) := by omega
        have i1 : (j : Int) < (n : Int) := by omega
        obtain ⟨M, hM, hMC, RM⟩ := R.out
        have q1 : wr.cell? ⟨g, j, none⟩ = some (.int .u8 (M.getD j 0)) := by subst hM; exact Bytes.row_cell RM j hlt
        have q2 : wr.frozen? ⟨g, j, none⟩ = false := RM.frozenAt j
        obtain ⟨u, hu⟩ : ∃ u, u = wb (k0 + (j : Int)) := ⟨_, rfl⟩
        have hu2 : IntKind.u8.wrap (k0 + (j : Int)) = u := hu.symm
        have RN : Hid (∃ M : List Int, M.length = n ∧ (∀ i, i < j + 1 → M.getD i 0 = wb (k0 + (i : Int))) ∧ (wr.setCell ⟨g, j, none⟩ (.int .u8 u)).ownsRow base 5 1 (.slice (some ⟨g, 0, none⟩) n c) n (Bytes.bys M)) := ⟨M.set j u, by rw [List.length_set, hM], fun i hi => by
          by_cases e : i = j
          · subst e; rw [← hu]; simp [List.getD_eq_getElem?_getD, show i < M.length by omega]
          · have := hMC i (by omega)
            rw [← this]
            simp [List.getD_eq_getElem?_getD, Ne.symm e], by
          have := (RM.stored j (.int .u8 u)).1
          rw [Bytes.bys_set] at this
          exact this⟩
        have GN : Hid (w.grownBy (wr.setCell ⟨g, j, none⟩ (.int .u8 u)) (some g)) := Lists.grown_setCell G.out j _
        generalize M.getD j 0 = z at *
        clear R RM hM hMC hu
        go_wp2_with fail
        go_roundw
        case rel => exact ⟨j + 1, by omega, by go_num, by go_num, RN, GN⟩
        case measure => simp [intOf]; omega
      · have hjn : j = n := by omega
        subst hjn
        have RE : Hid (∃ M, MB M k0 j ∧ wr.ownsRow base 5 1 (.slice (some ⟨g, 0, none⟩) j c) j (Bytes.bys M)) := (by obtain ⟨M, h1, h2, h3⟩ := R.out; exact ⟨M, ⟨h1, h2⟩, h3⟩)
        clear R
        go_wp2
        go_ret
        exact ⟨rfl, RE.out, G.out⟩

set_option maxHeartbeats 1000000 in
theorem bheld_any (w : World) (v : Value) (M : List Int) (n : Nat) (k0 : Int) (hk0 : 0 ≤ k0) (hk1 : k0 ≤ 1000000) (hn : n ≤ 2000000) (hM : MB M k0 n) (h : Bytes.Reads w v M) :
    Calls Try.prog 13 #[v, .int .i64 k0] w fun e w' => e = .returned (.int .i64 (k0 + n)) ∧ ∃ m, w' = w.drewN m := by
  by_cases h0 : n = 0
  · subst h0
    obtain ⟨a, cap, rfl⟩ := h.form
    rw [hM.1]
    clear h
    go_enter Try.func13, Try.ntmps13
    go_wp2
    go_loop [1, 5] (fun k i => k = .int .i64 k0 ∧ i = .int .i64 0) (fun _ _ => 0)
    case atStart => exact ⟨rfl, rfl⟩
    case round =>
      obtain ⟨rfl, rfl⟩ := hrel
      go_wp2
      go_ret
      exact ⟨by simp, 0, rfl⟩
  · rcases h with ⟨e, _⟩ | ⟨b, o, c, rfl, x1, x2, x3, x4⟩
    · exact absurd (by have := hM.1; rw [e] at this; exact this.symm) h0
    rw [hM.1] at x1 x4 ⊢
    have HC : Hid (∀ i, i < n → w.cell? ⟨b, o + i, none⟩ = some (.int .u8 (wb (k0 + (i : Int))))) := fun i hi => by rw [x4 i hi, hM.2 i hi]
    unfold maxLen at x2
    clear x4 hM
    go_enter Try.func13, Try.ntmps13
    go_wp2
    go_loopw [1, 5] (fun k i wr => ∃ j m : Nat, j ≤ n ∧ k = .int .i64 (k0 + j) ∧ i = .int .i64 j ∧ Hid (wr = w.drewN m)) (fun _ i _ => n - (intOf i).toNat)
    case atStart => exact ⟨0, 0, Nat.zero_le _, by simp, rfl, rfl⟩
    case round =>
      obtain ⟨j, m, hj, rfl, rfl, HR⟩ := hrel
      by_cases hlt : j < n
      · have q1 : wr.cell? ⟨b, o + j, none⟩ = some (.int .u8 (wb (k0 + (j : Int)))) := by
          rw [HR.out]; exact HC.out j hlt
        have i0 : (0 : Int) ≤ (j : Int) := by omega
        have i1 : (j : Int) < (n : Int) := by omega
        obtain ⟨u, hu⟩ : ∃ u, u = wb (k0 + (j : Int)) := ⟨_, rfl⟩
        have hu2 : IntKind.u8.wrap (k0 + (j : Int)) = u := hu.symm
        rw [← hu] at q1
        have hne : (u != u) = false := by simp
        clear hu
        go_wp2_with fail
        go_roundw
        case rel => exact ⟨j + 1, m, by omega, by go_num, by go_num, HR⟩
        case measure => simp [intOf]; omega
      · have hjn : j = n := by omega
        subst hjn
        go_wp2
        go_ret
        exact ⟨rfl, m, HR.out⟩

end Go.Proofs.Ytmopkbkdfipglaa.Lists
