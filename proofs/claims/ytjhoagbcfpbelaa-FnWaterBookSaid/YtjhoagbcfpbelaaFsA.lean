/- Sums of a list, of both sides. -/
import Derived.Test.YtjhoagbcfpbelaaXoA
import Derived.Test.YtjhoagbcfpbelaaCtP
import Derived.Test.YtjhoagbcfpbelaaCtS
namespace Go.Proofs.Ytjhoagbcfpbelaa.Fs
open Go.ChangeShapes Go.WideShapes Go.ChangeAt Go.RowKit
/-- the sum of the first k -/
def sm (L : List Int) (k : Nat) : Int := (L.take k).sum
theorem sm_succ (L : List Int) (k : Nat) (h : k < L.length) : sm L (k + 1) = sm L k + L.getD k 0 := by
  unfold sm
  have e : L[k]? = some (L.getD k 0) := by simp [List.getD_eq_getElem?_getD, h]
  rw [List.take_add_one, e, List.sum_append]
  simp
/-- each within nought and the most -/
def wat (L : List Int) : Bool := (List.range L.length).all fun i => decide (0 ≤ L.getD i 0) && decide (L.getD i 0 ≤ 1000000000000)
theorem wat_iff (L : List Int) : wat L = true ↔ ∀ i, i < L.length → 0 ≤ L.getD i 0 ∧ L.getD i 0 ≤ 1000000000000 := by
  unfold wat
  rw [List.all_eq_true]
  constructor
  · intro h i hi
    have := h i (by simpa using hi)
    simpa using this
  · intro h i hi
    have := h i (by simpa using hi)
    simpa using this
theorem sm_bd (L : List Int) (h : ∀ i, i < L.length → 0 ≤ L.getD i 0 ∧ L.getD i 0 ≤ 1000000000000) : ∀ k, k ≤ L.length → 0 ≤ sm L k ∧ sm L k ≤ 1000000000000 * k
  | 0, _ => by simp [sm]
  | k + 1, hk => by
    have ih := sm_bd L h k (by omega)
    have := h k (by omega)
    rw [sm_succ L k (by omega)]
    omega
theorem reads_at {w : World} {a : Option Addr} {cap n : Nat} {L : List Int} (h : Lists.Reads w (.slice a n cap) L) (hn : n = L.length) : ∀ i, i < n → ∃ b o, a = some ⟨b, o, none⟩ ∧ w.cell? ⟨b, o + i, none⟩ = some (.int .i64 (L.getD i 0)) := by
  intro i hi
  subst hn
  rcases h with ⟨rfl, _⟩ | ⟨b, o, c, e, _, _, x, y⟩
  · simp at hi
  · simp at e; exact ⟨b, o, e.1, y i hi⟩

set_option maxHeartbeats 1000000 in
theorem itotal_any (L : List Int) (v : Value) (w : World) (h : Lists.Reads w v L) (hl : L.length ≤ 1048576) (hw : wat L = true) :
    Calls Try.prog 18 #[v] w fun e w' => e = .returned (.int .i64 (sm L L.length)) ∧ w' = w := by
  obtain ⟨a, cap, rfl⟩ := h.form
  obtain ⟨n, hn⟩ : ∃ n, n = L.length := ⟨_, rfl⟩
  rw [← hn] at h hl ⊢
  have HC : Hid (∀ i, i < n → ∃ b o, a = some ⟨b, o, none⟩ ∧ w.cell? ⟨b, o + i, none⟩ = some (.int .i64 (L.getD i 0))) := reads_at h hn
  have HB : Hid (∀ k, k ≤ n → 0 ≤ sm L k ∧ sm L k ≤ 1000000000000 * k) := fun k hk => sm_bd L ((wat_iff L).1 hw) k (by omega)
  have HS : Hid (∀ k, k < n → sm L (k + 1) = sm L k + L.getD k 0) := fun k hk => sm_succ L k (by omega)
  have H0 : Hid (sm L 0 = 0) := (by show _ = _; simp [sm])
  clear h hn hw
  go_enter Try.func18, Try.ntmps18
  go_wp2_with fail
  go_loopw [3, 8] (fun s i wr => ∃ k : Nat, k ≤ n ∧ i = .int .i64 k ∧ s = .int .i64 (sm L k) ∧ wr = w) (fun _ i _ => n - (intOf i).toNat)
  case atStart => exact ⟨0, Nat.zero_le _, rfl, by rw [H0.out], rfl⟩
  case round =>
    obtain ⟨k, hk, rfl, rfl, hw'⟩ := hrel
    subst hw'
    by_cases hlt : k < n
    · obtain ⟨b, o, rfl, q0⟩ := HC.out k hlt
      have z0 : (0 : Int) ≤ (k : Int) := by omega
      have z1 : (k : Int) < (n : Int) := by omega
      have e1 := HS.out k hlt
      have b1 := HB.out (k + 1) (by omega)
      have NE : Hid (sm L (k + 1) = sm L k + L.getD k 0) := e1
      rw [e1] at b1
      generalize L.getD k 0 = x at *
      generalize sm L k = y at *
      have w1 : IntKind.i64.wrap (y + x) = y + x := IntWalk.i64_in _ (by omega)
      clear e1 b1
      go_wp2_with fail
      go_roundw
      case rel => exact ⟨k + 1, by omega, by go_num, by rw [NE.out], trivial⟩
      case measure => simp [intOf]; omega
    · have hkn : k = n := by omega
      subst hkn
      have jj : ¬ (k : Int) < (k : Int) := by omega
      go_wp2_with fail
      go_ret
      exact ⟨rfl, rfl⟩

set_option maxHeartbeats 1000000 in
theorem ssum_any (L : List Int) (v : Value) (w : World) (h : Lists.Reads w v L) (hl : L.length ≤ 1048576) :
    Calls Try.prog 16 #[v] w fun e w' => e = .returned (.tuple #[.int .i64 (if wat L then sm L L.length else 0), .bool (wat L)]) ∧ w' = w := by
  obtain ⟨a, cap, rfl⟩ := h.form
  obtain ⟨n, hn⟩ : ∃ n, n = L.length := ⟨_, rfl⟩
  have HN : Hid (n = L.length) := hn
  rw [← hn] at h hl ⊢
  have HC : Hid (∀ i, i < n → ∃ b o, a = some ⟨b, o, none⟩ ∧ w.cell? ⟨b, o + i, none⟩ = some (.int .i64 (L.getD i 0))) := reads_at h hn
  have HB : Hid (∀ k, k ≤ n → (∀ i, i < k → 0 ≤ L.getD i 0 ∧ L.getD i 0 ≤ 1000000000000) → 0 ≤ sm L k ∧ sm L k ≤ 1000000000000 * k) := (by
    show ∀ k, _
    intro k hk hi
    have e : sm L k = sm (L.take k) (L.take k).length := by unfold sm; rw [List.take_length]
    have e2 : (L.take k).length = k := by rw [List.length_take]; omega
    have := sm_bd (L.take k) (fun i hi' => by
      rw [e2] at hi'
      have e3 : (L.take k).getD i 0 = L.getD i 0 := by simp [List.getD_eq_getElem?_getD, hi']
      rw [e3]
      exact hi i hi') (L.take k).length (Nat.le_refl _)
    rw [← e, e2] at this
    exact this)
  have HS : Hid (∀ k, k < n → sm L (k + 1) = sm L k + L.getD k 0) := fun k hk => sm_succ L k (by omega)
  have H0 : Hid (sm L 0 = 0) := (by show _ = _; simp [sm])
  obtain ⟨z, hz⟩ : ∃ z : Int, (if wat L then sm L n else 0) = z := ⟨_, rfl⟩
  obtain ⟨q, hq⟩ : ∃ q : Bool, wat L = q := ⟨_, rfl⟩
  have HZ0 : Hid (wat L = false → z = 0 ∧ q = false) := fun e => ⟨by rw [← hz, e]; rfl, by rw [← hq, e]⟩
  have HZ1 : Hid (wat L = true → z = sm L n ∧ q = true) := fun e => ⟨by rw [← hz, e]; rfl, by rw [← hq, e]⟩
  rw [hz, hq]
  clear h hn hz hq
  go_enter Try.func16, Try.ntmps16
  go_wp2_with fail
  go_loopw [4, 5] (fun s i wr => ∃ k : Nat, k ≤ n ∧ i = .int .i64 k ∧ s = .int .i64 (sm L k) ∧ Hid (∀ i, i < k → 0 ≤ L.getD i 0 ∧ L.getD i 0 ≤ 1000000000000) ∧ wr = w) (fun _ i _ => n - (intOf i).toNat)
  case atStart => exact ⟨0, Nat.zero_le _, rfl, by rw [H0.out], fun i hi => by omega, rfl⟩
  case round =>
    obtain ⟨k, hk, rfl, rfl, HK, hw'⟩ := hrel
    subst hw'
    by_cases hlt : k < n
    · obtain ⟨b, o, rfl, q0⟩ := HC.out k hlt
      have z0 : (0 : Int) ≤ (k : Int) := by omega
      have z1 : (k : Int) < (n : Int) := by omega
      by_cases hin : 0 ≤ L.getD k 0 ∧ L.getD k 0 ≤ 1000000000000
      · have HK1 : Hid (∀ i, i < k + 1 → 0 ≤ L.getD i 0 ∧ L.getD i 0 ≤ 1000000000000) := fun i hi => (by
          by_cases e : i = k
          · subst e; exact hin
          · exact HK.out i (by omega))
        have e1 := HS.out k hlt
        have b1 := HB.out (k + 1) (by omega) HK1.out
        have NE : Hid (sm L (k + 1) = sm L k + L.getD k 0) := e1
        rw [e1] at b1
        have CI : Hid (Calls Try.prog 15 #[.int .i64 (L.getD k 0), .int .i64 0, .int .i64 1000000000000] wr fun e w' => e = .returned (.bool true) ∧ w' = wr) := (by
          have := Lists.sin_any (L.getD k 0) 0 1000000000000 wr
          rw [decide_eq_true hin.1, decide_eq_true hin.2] at this
          exact this)
        clear HK
        generalize L.getD k 0 = x at *
        generalize sm L k = y at *
        have w1 : IntKind.i64.wrap (y + x) = y + x := IntWalk.i64_in _ (by omega)
        clear e1 b1 hin
        go_wp2_with fail
        refine CI.out.mono ?_
        rintro e w1 ⟨rfl, hw2⟩
        subst hw2
        go_wp2_with fail
        go_roundw
        case rel => exact ⟨k + 1, by omega, by go_num, by rw [NE.out], HK1, trivial⟩
        case measure => simp [intOf]; omega
      · have EW : Hid (wat L = false) := (by
          show _ = _
          rw [Bool.eq_false_iff]
          intro e
          exact hin ((wat_iff L).1 e k (by rw [← HN.out]; exact hlt)))
        obtain ⟨e1, e2⟩ := HZ0.out EW.out
        have HE : Hid (z = 0 ∧ q = false) := ⟨e1, e2⟩
        clear e1 e2
        have CI : Hid (Calls Try.prog 15 #[.int .i64 (L.getD k 0), .int .i64 0, .int .i64 1000000000000] wr fun e w' => e = .returned (.bool false) ∧ w' = wr) := (by
          have := Lists.sin_any (L.getD k 0) 0 1000000000000 wr
          have e : (decide (0 ≤ L.getD k 0) && decide (L.getD k 0 ≤ 1000000000000)) = false := by
            rw [← Bool.decide_and]
            exact decide_eq_false hin
          rw [e] at this
          exact this)
        clear HK hin
        generalize L.getD k 0 = x at *
        go_wp2_with fail
        refine CI.out.mono ?_
        rintro e w1 ⟨rfl, hw2⟩
        subst hw2
        go_wp2_with fail
        go_ret2
        exact ⟨by rw [HE.out.1, HE.out.2]; rfl, rfl⟩
    · have hkn : k = n := by omega
      subst hkn
      have jj : ¬ (k : Int) < (k : Int) := by omega
      have HE : Hid (z = sm L k ∧ q = true) := HZ1.out ((wat_iff L).2 (by rw [← HN.out]; exact HK.out))
      clear HK
      go_wp2_with fail
      go_ret2
      exact ⟨by rw [HE.out.1, HE.out.2]; rfl, rfl⟩
end Go.Proofs.Ytjhoagbcfpbelaa.Fs
