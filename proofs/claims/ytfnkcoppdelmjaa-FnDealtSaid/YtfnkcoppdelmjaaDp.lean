/- Deal, plainly; the first slot that has room. -/
import Derived.Test.YtfnkcoppdelmjaaEo
import Derived.Test.YtfnkcoppdelmjaaXoA
namespace Go.Proofs.Ytfnkcoppdelmjaa.Dl
open Go.ChangeShapes Go.WideShapes Go.ChangeAt Go.RowKit
open Al Eo

def fnd (U : List Int) (z B : Int) : Nat := U.findIdx (fun u => decide (u + z ≤ B))
def nxt (U : List Int) (z B : Int) : List Int := U.set (fnd U z B) (U.getD (fnd U z B) 0 + z)
def aw (U : List Int) (z B : Int) : Int := if fnd U z B < U.length then (fnd U z B : Int) else -1
def us (L : En.Ls) (B : Int) (n : Nat) : Nat → List Int
  | 0 => List.replicate n 0
  | k + 1 => nxt (us L B n k) (En.c4 L k) B
def dls (L : En.Ls) (B : Int) (n : Nat) (k : Nat) : List Int := (List.range k).map fun i => aw (us L B n i) (En.c4 L i) B
theorem dls_len (L : En.Ls) (B : Int) (n k : Nat) : (dls L B n k).length = k := by simp [dls]
theorem dls_succ (L : En.Ls) (B : Int) (n k : Nat) : dls L B n (k + 1) = dls L B n k ++ [aw (us L B n k) (En.c4 L k) B] := by
  unfold dls; rw [List.range_succ, List.map_append]; rfl
theorem dls_at (L : En.Ls) (B : Int) (n m k : Nat) (h : k < m) : (dls L B n m).getD k 0 = aw (us L B n k) (En.c4 L k) B := by
  simp [dls, List.getD_eq_getElem?_getD, h]
theorem nxt_len (U : List Int) (z B : Int) : (nxt U z B).length = U.length := by simp [nxt]
theorem us_len (L : En.Ls) (B : Int) (n k : Nat) : (us L B n k).length = n := by
  induction k with
  | zero => simp [us]
  | succ k ih => unfold us; rw [nxt_len, ih]
theorem fnd_le (U : List Int) (z B : Int) : fnd U z B ≤ U.length := List.findIdx_le_length
theorem fnd_at {U : List Int} {z B : Int} {k : Nat} (hk : k < U.length) (hb : ∀ j, j < k → B < U.getD j 0 + z) (hy : U.getD k 0 + z ≤ B) : fnd U z B = k := by
  unfold fnd
  rw [List.findIdx_eq hk]
  refine ⟨?_, fun j hj => ?_⟩
  · have : U.getD k 0 = U[k] := by simp [List.getD_eq_getElem?_getD, hk]
    rw [this] at hy
    simpa using hy
  · have h1 : j < U.length := by omega
    have := hb j hj
    have e : U.getD j 0 = U[j] := by simp [List.getD_eq_getElem?_getD, h1]
    rw [e] at this
    simpa using this
theorem fnd_none {U : List Int} {z B : Int} (hb : ∀ j, j < U.length → B < U.getD j 0 + z) : fnd U z B = U.length := by
  unfold fnd
  rw [List.findIdx_eq_length]
  intro x hx
  obtain ⟨j, hj, rfl⟩ := List.mem_iff_getElem.1 hx
  have := hb j hj
  have e : U.getD j 0 = U[j] := by simp [List.getD_eq_getElem?_getD, hj]
  rw [e] at this
  simpa using this
theorem fnd_yes {U : List Int} {z B : Int} (h : fnd U z B < U.length) : U.getD (fnd U z B) 0 + z ≤ B := by
  have := List.findIdx_getElem (xs := U) (p := fun u => decide (u + z ≤ B)) (w := h)
  have e : U.getD (fnd U z B) 0 = U[fnd U z B] := by simp [List.getD_eq_getElem?_getD, h]
  rw [e]
  exact of_decide_eq_true this
def Bd (U : List Int) (B : Int) : Prop := ∀ j, j < U.length → 0 ≤ U.getD j 0 ∧ U.getD j 0 ≤ B
theorem us_bd (L : En.Ls) (B : Int) (n : Nat) (hB : 0 ≤ B) (k : Nat) (hz : ∀ i, i < k → 0 ≤ En.c4 L i) : Bd (us L B n k) B := by
  induction k with
  | zero => intro j hj; simp [us] at hj; simp [us, hj, hB]
  | succ k ih =>
    have ih := ih fun i hi => hz i (by omega)
    intro j hj
    rw [us_len] at hj
    unfold us nxt
    have z0 := hz k (by omega)
    by_cases hf : fnd (us L B n k) (En.c4 L k) B < (us L B n k).length
    · have y := fnd_yes hf
      have q := ih _ hf
      generalize fnd (us L B n k) (En.c4 L k) B = f at *
      by_cases e : f = j
      · subst e
        rw [List.getD_eq_getElem?_getD, List.getElem?_set_self hf]
        simp only [Option.getD_some]
        omega
      · rw [List.getD_eq_getElem?_getD, List.getElem?_set_ne e, ← List.getD_eq_getElem?_getD]
        exact ih j (by rw [us_len]; exact hj)
    · rw [List.set_eq_of_length_le (by omega)]
      exact ih j (by rw [us_len]; exact hj)
def okD (L : En.Ls) (B S : Int) : Bool := okE L && (inn B 0 1000000000000 && inn S 1 100)
theorem okE_at {L : En.Ls} (h : okE L = true) (i : Nat) (hi : i < L.length) : ek L i = true := by
  unfold okE at h
  simp only [Bool.and_eq_true] at h
  have := h.2
  unfold alls at this
  rw [List.all_eq_true] at this
  exact this i (by simpa using hi)
theorem okE_len {L : En.Ls} (h : okE L = true) : L.length ≤ 300 := by
  unfold okE at h
  simp only [Bool.and_eq_true, decide_eq_true_eq] at h
  exact h.1
theorem ek_size {L : En.Ls} {i : Nat} (h : ek L i = true) : 0 ≤ En.c4 L i ∧ En.c4 L i ≤ 1000000000 := by
  unfold ek eok at h
  simp only [Bool.and_eq_true] at h
  exact (inn_iff _ _ _).1 h.2.2.2.2

set_option maxHeartbeats 1000000 in
theorem room_any (e b : Nat) (u z B : Int) (w : World) (h1 : w.cell? ⟨e, 4, none⟩ = some (.int .i64 z)) (h2 : w.cell? ⟨b, 0, none⟩ = some (.int .i64 B)) (hu : -9223372036854775808 ≤ u + z ∧ u + z < 9223372036854775808) :
    Calls Try.prog 34 #[.int .i64 u, .pointer (some ⟨e, 0, none⟩), .pointer (some ⟨b, 0, none⟩)] w fun e w' => e = .returned (.bool (decide (u + z ≤ B))) ∧ w' = w := by
  have e1 : IntKind.i64.wrap (u + z) = u + z := IntWalk.i64_in _ (by omega)
  go_enter Try.func34, Try.ntmps34
  go_wp2_with fail
  go_ret
  exact ⟨rfl, rfl⟩

set_option maxHeartbeats 1000000 in
theorem index_any (e b g o c : Nat) (U : List Int) (z B : Int) (w : World) (hr : Lists.Reads w (.slice (some ⟨g, o, none⟩) U.length c) U) (h1 : w.cell? ⟨e, 4, none⟩ = some (.int .i64 z)) (h2 : w.cell? ⟨b, 0, none⟩ = some (.int .i64 B)) (hu : Bd U 1000000000000) (hz : 0 ≤ z ∧ z ≤ 1000000000) (hn : U.length ≤ 1000) :
    Calls Try.prog 33 #[.slice (some ⟨g, o, none⟩) U.length c, .func (.func 34) #[] #[.pointer (some ⟨e, 0, none⟩), .pointer (some ⟨b, 0, none⟩)]] w fun e w' => e = .returned (.int .i64 (aw U z B)) ∧ w' = w := by
  have HC : Hid (∀ i, i < U.length → w.cell? ⟨g, o + i, none⟩ = some (.int .i64 (U.getD i 0))) := fun i hi => (by
    rcases hr with ⟨rfl, _⟩ | ⟨b', o', c', e', _, _, _, y⟩
    · simp at hi
    · simp at e'; obtain ⟨⟨rfl, rfl⟩, rfl⟩ := e'; exact y i hi)
  have HU : Hid (Bd U 1000000000000) := hu
  obtain ⟨q, hq⟩ : ∃ q, q = aw U z B := ⟨_, rfl⟩
  have HA : Hid (q = aw U z B) := hq
  rw [← hq]
  obtain ⟨n, hn'⟩ : ∃ n, n = U.length := ⟨_, rfl⟩
  have HN : Hid (n = U.length) := hn'
  rw [← hn'] at hn ⊢
  clear hr hu hq hn'
  go_enter Try.func33, Try.ntmps33
  go_wp2_with fail
  go_loopw [8] (fun i wr => ∃ k : Nat, k ≤ n ∧ i = .int .i64 k ∧ wr = w ∧ Hid (∀ j, j < k → B < U.getD j 0 + z)) (fun i _ => n - (intOf i).toNat)
  case atStart => exact ⟨0, Nat.zero_le _, rfl, rfl, fun j hj => by omega⟩
  case round =>
    obtain ⟨k, hk, rfl, hw, NB⟩ := hrel
    subst hw
    by_cases hlt : k < n
    · have hlt' : k < U.length := by rw [← HN.out]; exact hlt
      have i0 : (0 : Int) ≤ (k : Int) := by omega
      have i1 : (k : Int) < (n : Int) := by omega
      have q0 := HC.out k hlt'
      have bd := HU.out k hlt'
      have CL : Hid (Calls Try.prog 34 #[.int .i64 (U.getD k 0), .pointer (some ⟨e, 0, none⟩), .pointer (some ⟨b, 0, none⟩)] wr fun e w' => e = .returned (.bool (decide (U.getD k 0 + z ≤ B))) ∧ w' = wr) := room_any e b _ z B wr h1 h2 (by omega)
      by_cases hy : U.getD k 0 + z ≤ B
      · have E : Hid (q = (k : Int)) := (by show _ = _; rw [HA.out]; unfold aw; rw [fnd_at hlt' NB.out hy, if_pos hlt'])
        rw [decide_eq_true hy] at CL
        generalize U.getD k 0 = x at *
        go_wp2_with fail
        refine CL.out.mono ?_
        rintro e w1 ⟨rfl, hw⟩
        subst hw
        go_wp2_with fail
        go_ret
        exact ⟨by rw [E.out]; rfl, rfl⟩
      · have NB' : Hid (∀ j, j < k + 1 → B < U.getD j 0 + z) := fun j hj => by
          by_cases e : j = k
          · subst e; omega
          · exact NB.out j (by omega)
        rw [decide_eq_false hy] at CL
        generalize U.getD k 0 = x at *
        go_wp2_with fail
        refine CL.out.mono ?_
        rintro e w1 ⟨rfl, hw⟩
        subst hw
        go_wp2_with fail
        go_roundw
        case rel => exact ⟨k + 1, by omega, by go_num, trivial, NB'⟩
        case measure => simp [intOf]; omega
    · have e : k = n := by omega
      have j1 : ¬ (k : Int) < (n : Int) := by omega
      have E : Hid (q = -1) := (by show _ = _; rw [HA.out]; unfold aw; rw [fnd_none (by intro j hj; exact NB.out j (by rw [e, HN.out]; exact hj)), if_neg (by omega)])
      go_wp2_with fail
      go_ret
      exact ⟨by rw [E.out]; rfl, rfl⟩
end Go.Proofs.Ytfnkcoppdelmjaa.Dl
