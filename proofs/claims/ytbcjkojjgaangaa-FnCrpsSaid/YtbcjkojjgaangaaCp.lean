/- Crps: what it is, plainly; the model. -/
import Derived.Test.YtbcjkojjgaangaaSd
import Derived.Test.YtbcjkojjgaangaaSuA
import Derived.BigRegion
import Derived.Deep.DeepCutAuto
namespace Go.Proofs.Ytbcjkojjgaangaa.Sc
open Go.ChangeShapes Go.WideShapes Go.ChangeAt Go.RowKit
open Go.Proofs.Ytbcjkojjgaangaa.Lists Go.Proofs.Ytbcjkojjgaangaa.Al Go.Proofs.Ytbcjkojjgaangaa.Su

def ab (a b : Int) : Int := if a ≤ b then b - a else a - b
theorem ab_symm (a b : Int) : ab a b = ab b a := by unfold ab; split <;> split <;> omega
def aw (L : List Int) (x : Int) (k : Nat) : Int := sm k fun i => ab (L.getD i 0) x
def prs (L : List Int) (k : Nat) : Int := sm k fun i => aw L (L.getD i 0) L.length
def crs (L : List Int) (x : Int) (k : Nat) : Int := 2 * (L.length : Int) * aw L x k - prs L k
def inM (L : List Int) : Prop := 1 ≤ L.length ∧ L.length ≤ 60 ∧ ∀ j, j < L.length → -1000000 ≤ L.getD j 0 ∧ L.getD j 0 ≤ 1000000
theorem okM_in {L : List Int} (h : okM L = true) : inM L := by
  unfold okM at h
  rw [Bool.and_eq_true, inn_iff, List.all_eq_true] at h
  refine ⟨by omega, by omega, fun j hj => ?_⟩
  have := h.2 (L.getD j 0) (by simp [List.getD_eq_getElem?_getD, hj])
  rw [inn_iff] at this
  exact this
theorem ab_bd {a b : Int} (h1 : -1000000 ≤ a ∧ a ≤ 1000000) (h2 : -1000000 ≤ b ∧ b ≤ 1000000) : 0 ≤ ab a b ∧ ab a b ≤ 2000000 := by unfold ab; split <;> omega
theorem sm_nn {n : Nat} {f : Nat → Int} {M : Int} (h : ∀ i, i < n → 0 ≤ f i ∧ f i ≤ M) : ∀ k, k ≤ n → 0 ≤ sm k f ∧ sm k f ≤ M * k := by
  intro k hk
  induction k with
  | zero => simp [sm]
  | succ k ih =>
    have a := ih (by omega)
    have b := h k (by omega)
    unfold sm
    have e : M * ((k + 1 : Nat) : Int) = M * (k : Int) + M := by rw [Int.natCast_add, Int.mul_add]; simp
    rw [e]
    omega
theorem aw_bd {L : List Int} {x : Int} (h : inM L) (hx : -1000000 ≤ x ∧ x ≤ 1000000) (k : Nat) (hk : k ≤ L.length) : 0 ≤ aw L x k ∧ aw L x k ≤ 120000000 := by
  have := sm_nn (n := L.length) (f := fun i => ab (L.getD i 0) x) (M := 2000000) (fun i hi => ab_bd (h.2.2 i hi) hx) k hk
  have l := h.2.1
  unfold aw
  omega
theorem prs_bd {L : List Int} (h : inM L) (k : Nat) (hk : k ≤ L.length) : 0 ≤ prs L k ∧ prs L k ≤ 7200000000 := by
  have := sm_nn (n := L.length) (f := fun i => aw L (L.getD i 0) L.length) (M := 120000000) (fun i hi => aw_bd h (h.2.2 i hi) _ (Nat.le_refl _)) k hk
  have l := h.2.1
  unfold prs
  omega
theorem mul60 {n a : Int} (h1 : 0 ≤ n) (h2 : n ≤ 60) (h3 : 0 ≤ a) (h4 : a ≤ 120000000) : 0 ≤ 2 * n * a ∧ 2 * n * a ≤ 14400000000 := by
  constructor
  · exact Int.mul_nonneg (by omega) h3
  · have : 2 * n * a ≤ 120 * 120000000 := Int.mul_le_mul (by omega) h4 h3 (by omega)
    omega
theorem crs_bd {L : List Int} {x : Int} (h : inM L) (hx : -1000000 ≤ x ∧ x ≤ 1000000) (k : Nat) (hk : k ≤ L.length) : -7200000000 ≤ crs L x k ∧ crs L x k ≤ 14400000000 := by
  have a := aw_bd h hx k hk
  have b := prs_bd h k hk
  have l := h.2.1
  have c := mul60 (n := L.length) (by omega) (by omega) a.1 a.2
  unfold crs
  omega
theorem crs_succ (L : List Int) (x : Int) (k : Nat) : crs L x (k + 1) = crs L x k + 2 * (L.length : Int) * ab (L.getD k 0) x - aw L (L.getD k 0) L.length := by
  unfold crs prs
  have e1 : aw L x (k + 1) = aw L x k + ab (L.getD k 0) x := rfl
  rw [e1, Int.mul_add]
  show _ - (sm k (fun i => aw L (L.getD i 0) L.length) + aw L (L.getD k 0) L.length) = _
  omega
def crp (L : List Int) (x : Int) : Int := if okM L && inn x (-1000000) 1000000 then crs L x L.length else -1

set_option maxHeartbeats 1000000 in
theorem scrps_no (L : List Int) (x : Int) (v : Value) (w : World) (hL : Lists.Reads w v L) (hf : L.length < 9223372036854775808) (h : (okM L && inn x (-1000000) 1000000) = false) :
    Calls Try.prog 6 #[v, .int .i64 x] w fun e w' => e = .returned (.int .i64 (-1)) ∧ ∃ m, w' = w.drewN m := by
  have C : Hid (Calls Try.prog 11 #[v] w fun e w' => e = .returned (.bool (okM L)) ∧ ∃ m, w' = w.drewN m) := sok_any L v w hL hf
  have C2 : Hid (∀ w, Calls Try.prog 12 #[.int .i64 x, .int .i64 (-1000000), .int .i64 1000000] w fun e w' => e = .returned (.bool (inn x (-1000000) 1000000)) ∧ w' = w) := fun w => s_in _ _ _ w
  clear hL
  generalize inn x (-1000000) 1000000 = bx at *
  generalize okM L = bo at *
  cases bo
  · go_enter Try.func6, Try.ntmps6
    go_wp2_with fail
    refine C.out.mono ?_
    rintro e w1 ⟨rfl, m, rfl⟩
    go_wp2_with fail
    go_ret
    exact ⟨rfl, _, rfl⟩
  · cases bx
    · go_enter Try.func6, Try.ntmps6
      go_wp2_with fail
      refine C.out.mono ?_
      rintro e w1 ⟨rfl, m, rfl⟩
      go_wp2_with fail
      refine (C2.out _).mono ?_
      rintro e w2 ⟨rfl, hw⟩
      subst hw
      go_wp2_with fail
      go_ret
      exact ⟨rfl, _, rfl⟩
    · simp at h

set_option maxHeartbeats 1000000 in
theorem scrps_yes (L : List Int) (x : Int) (v : Value) (w : World) (hL : Lists.Reads w v L) (h : (okM L && inn x (-1000000) 1000000) = true) :
    Calls Try.prog 6 #[v, .int .i64 x] w fun e w' => e = .returned (.int .i64 (crs L x L.length)) ∧ ∃ m, w' = w.drewN m := by
  rw [Bool.and_eq_true] at h
  have I := okM_in h.1
  have X := (inn_iff _ _ _).mp h.2
  have l1 := I.1
  have l2 := I.2.1
  have C : Hid (Calls Try.prog 11 #[v] w fun e w' => e = .returned (.bool true) ∧ ∃ m, w' = w.drewN m) := by rw [← h.1]; exact sok_any L v w hL (by omega)
  have C2 : Hid (∀ w, Calls Try.prog 12 #[.int .i64 x, .int .i64 (-1000000), .int .i64 1000000] w fun e w' => e = .returned (.bool true) ∧ w' = w) := by rw [← h.2]; exact fun w => s_in _ _ _ w
  obtain ⟨b, o, hcell, hvv⟩ := reads_at hL
  obtain ⟨hb, cap, rfl⟩ := hvv (by omega)
  obtain ⟨n, hn⟩ : ∃ n, n = L.length := ⟨_, rfl⟩
  have HC : Hid (∀ i, i < n → w.cell? ⟨b, o + i, none⟩ = some (.int .i64 (L.getD i 0))) := fun i hi => hcell i (by omega)
  have HI : Hid (inM L) := I
  have HX : Hid (-1000000 ≤ x ∧ x ≤ 1000000) := X
  rw [← hn] at l1 l2 C ⊢
  have HN : Hid (n = L.length) := hn
  clear hL hcell hvv hn h I X
  go_enter Try.func6, Try.ntmps6
  go_wp2_with fail
  refine C.out.mono ?_
  rintro e w1 ⟨rfl, m0, rfl⟩
  go_wp2_with fail
  refine (C2.out _).mono ?_
  rintro e w2 ⟨rfl, hw⟩
  subst hw
  go_wp2_with fail
  go_loopw [6, 7] (fun s i wr => ∃ k : Nat, k ≤ n ∧ i = .int .i64 k ∧ s = .int .i64 (crs L x k) ∧ (∃ m, wr = w.drewN m)) (fun _ i _ => n - (intOf i).toNat)
  case atStart => exact ⟨0, by omega, rfl, by simp [crs, aw, prs, sm], ⟨_, rfl⟩⟩
  case round =>
    obtain ⟨k, hk, rfl, rfl, ⟨m, rfl⟩⟩ := hrel
    by_cases hlt : k < n
    · have hkl : k < L.length := by rw [← HN.out]; exact hlt
      have q : (w.drewN m).cell? ⟨b, o + k, none⟩ = some (.int .i64 (L.getD k 0)) := HC.out k hlt
      have i1 : (0 : Int) ≤ (k : Int) := by omega
      have i2 : (k : Int) < (n : Int) := by omega
      have c1 := crs_bd HI.out HX.out k (by omega)
      have z1 := HI.out.2.2 k hkl
      have x1 := HX.out
      have d1 := ab_bd z1 x1
      have E : Hid (crs L x (k + 1) = crs L x k + 2 * (n : Int) * ab (L.getD k 0) x - aw L (L.getD k 0) n) := (by show _ = _; rw [crs_succ, ← HN.out])
      have p1 : 0 ≤ 2 * (n : Int) * ab (L.getD k 0) x ∧ 2 * (n : Int) * ab (L.getD k 0) x ≤ 14400000000 := mul60 (by omega) (by omega) d1.1 (by omega)
      have AB : Hid ((if L.getD k 0 - x < x - L.getD k 0 then x - L.getD k 0 else L.getD k 0 - x) = ab (L.getD k 0) x) := (by show _ = _; unfold ab; split <;> split <;> omega)
      have J1 : Hid (wrap64 (2 * (n : Int) * ab (L.getD k 0) x) = 2 * (n : Int) * ab (L.getD k 0) x) := IntWalk.wrap64_in _ (by omega)
      have J2 : Hid (wrap64 (crs L x k + 2 * (n : Int) * ab (L.getD k 0) x) = crs L x k + 2 * (n : Int) * ab (L.getD k 0) x) := IntWalk.wrap64_in _ (by omega)
      obtain ⟨z, hz⟩ : ∃ z, L.getD k 0 = z := ⟨_, rfl⟩
      have HZ : Hid (L.getD k 0 = z) := hz
      obtain ⟨p, hp⟩ : ∃ p, 2 * (n : Int) * ab z x = p := ⟨_, rfl⟩
      rw [hz] at q z1 E AB J1 J2 p1 d1
      rw [hp] at E p1 J1 J2
      have HP : Hid (2 * (n : Int) * ab z x = p) := hp
      clear hz hp
      generalize crs L x k = s at *
      obtain ⟨W, hW⟩ : ∃ W, W = w.drewN m := ⟨_, rfl⟩
      have HW : Hid (W = w.drewN m) := hW
      rw [← hW] at q ⊢
      clear hW
      go_upto_region 8 with fail
      go_region
      simp only [AB.out, HP.out, J1.out, J2.out]
      clear AB J1 J2 q
      go_wp2_with fail
      go_loopw [6, 8] (fun t i wr => ∃ j : Nat, j ≤ n ∧ i = .int .i64 j ∧ t = .int .i64 (s + p - aw L z j) ∧ (∃ m, wr = w.drewN m)) (fun _ i _ => n - (intOf i).toNat)
      case atStart => exact ⟨0, by omega, rfl, by simp [aw, sm], ⟨m + 1, by rw [HW.out]; rfl⟩⟩
      case round =>
        obtain ⟨j, hj, rfl, rfl, ⟨m, rfl⟩⟩ := hrel
        by_cases hlj : j < n
        · have hjl : j < L.length := by rw [← HN.out]; exact hlj
          have q : (w.drewN m).cell? ⟨b, o + k, none⟩ = some (.int .i64 z) := by rw [← HZ.out]; exact HC.out k hlt
          have q2 : (w.drewN m).cell? ⟨b, o + j, none⟩ = some (.int .i64 (L.getD j 0)) := HC.out j hlj
          have i3 : (0 : Int) ≤ (j : Int) := by omega
          have i4 : (j : Int) < (n : Int) := by omega
          have y1 := HI.out.2.2 j hjl
          have a1 := aw_bd HI.out z1 j (by omega)
          have d2 := ab_bd y1 z1
          have E2 : Hid (aw L z (j + 1) = aw L z j + ab (L.getD j 0) z) := rfl
          have AB : Hid ((if z - L.getD j 0 < L.getD j 0 - z then L.getD j 0 - z else z - L.getD j 0) = ab (L.getD j 0) z) := (by show _ = _; unfold ab; split <;> split <;> omega)
          generalize aw L z j = a at *
          obtain ⟨y, hy⟩ : ∃ y, L.getD j 0 = y := ⟨_, rfl⟩
          rw [hy] at q2 y1 E2 AB d2
          clear hy
          generalize ab y z = d at *
          obtain ⟨W, hW⟩ : ∃ W, W = w.drewN m := ⟨_, rfl⟩
          have HW : Hid (W = w.drewN m) := hW
          rw [← hW] at q q2 ⊢
          clear hW
          go_upto_region 12 with fail
          go_region
          simp only [AB.out]
          go_wp2_with fail
          go_roundw
          case rel => exact ⟨j + 1, by omega, by go_num, by rw [E2.out, ← Int.sub_sub], ⟨m + 1, by rw [HW.out]; rfl⟩⟩
          case measure => simp [intOf]; omega
        · have hjn : j = n := by omega
          subst hjn
          go_wp2_with fail
          go_roundw
          case rel => exact ⟨k + 1, by omega, by go_num, by rw [E.out], ⟨_, rfl⟩⟩
          case measure => simp [intOf]; omega
    · have hkn : k = n := by omega
      subst hkn
      go_wp2_with fail
      go_ret
      exact ⟨rfl, _, rfl⟩
end Go.Proofs.Ytbcjkojjgaangaa.Sc
