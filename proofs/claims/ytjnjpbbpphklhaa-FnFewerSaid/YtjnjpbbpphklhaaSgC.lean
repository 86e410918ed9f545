/- Which level departs most: the program. -/
import Derived.Test.YtjnjpbbpphklhaaSgB
namespace Go.Proofs.Ytjnjpbbpphklhaa.Flt
open Go.ChangeShapes Go.WideShapes Go.ChangeAt Go.RowKit
attribute [local go_sem] run_store_float

abbrev inf (n : Int) (x : Nat) : Ending := .returned (.tuple #[.int .i64 n, .float .f64 x])
theorem sc_step (L : Lv) (i j k : Nat) (h : i + 1 ≤ k) : scI L i j (k + 1 - i - 1) = if gt (dp L i j k) (scI L i j (k - i - 1)).2 then (k, dp L i j k) else scI L i j (k - i - 1) := by
  obtain ⟨c, rfl⟩ : ∃ c, k = i + 1 + c := ⟨k - i - 1, by omega⟩
  rw [show i + 1 + c + 1 - i - 1 = c + 1 by omega, show i + 1 + c - i - 1 = c by omega]
  rfl

set_option maxHeartbeats 1000000 in
theorem dm_any (w : World) (v : Value) (L : Lv) (i j : Nat) (h : Reads w v L) (ok : ∀ q, q < L.length → okAt L q = true) (hij : i < j) (hj : j < L.length) (hn : L.length ≤ 400) :
    Calls Try.prog 19 #[v, .int .i64 i, .int .i64 j] w fun e w' => e = inf ((scI L i j (j - i - 1)).1 : Int) (scI L i j (j - i - 1)).2 ∧ Below w.heap.size w w' := by
  rcases h with ⟨rfl, _⟩ | ⟨b, o, c, rfl, x1, x2, x3, x4⟩
  · simp at hj
  have K : Hid (b < w.heap.size ∧ ∀ i, i < L.length → w.cell? ⟨b, o + i * 2, none⟩ = some (.int .i64 (pOf L i)) ∧ w.cell? ⟨b, o + i * 2 + 1, none⟩ = some (.float .f64 (tOf L i))) := ⟨x3, x4⟩
  have OK : Hid (∀ q, q < L.length → okAt L q = true) := ok
  obtain ⟨n, hnn⟩ : ∃ n, n = L.length := ⟨_, rfl⟩
  rw [← hnn] at x1 hj hn ⊢
  have HN : Hid (n = L.length) := hnn
  clear x4 hnn ok
  unfold maxLen at x2
  have j1 : IntKind.i64.wrap ((i : Int) + 1) = (i : Int) + 1 := IntWalk.i64_in _ (by omega)
  have e0 : Hid (scI L i j (i + 1 - i - 1) = (i, 0)) := (by show _ = _; rw [show i + 1 - i - 1 = 0 by omega]; rfl)
  go_enter Try.func19, Try.ntmps19
  go_wp2_with fail
  go_loopw [8, 9, 10] (fun q m y wr => ∃ k : Nat, i + 1 ≤ k ∧ k ≤ j ∧ y = .int .i64 k ∧ q = .int .i64 ((scI L i j (k - i - 1)).1 : Int) ∧ m = .float .f64 (scI L i j (k - i - 1)).2 ∧ Hid (Below w.heap.size w wr)) (fun _ _ y _ => j - (intOf y).toNat)
  case atStart => exact ⟨i + 1, by omega, by omega, by go_num, by rw [e0.out], by rw [e0.out], Below.refl _ _⟩
  case round =>
    obtain ⟨k, hk1, hk2, rfl, rfl, rfl, BR⟩ := hrel
    by_cases hlt : k < j
    · obtain ⟨nE, hsub, nD⟩ := df_ex (i := i) (j := j) (k := k) OK.out (by omega) (by omega) (by have := HN.out; omega)
      have hS : ∀ w, (binOp .sub 25 (.float .f64 (tOf L k)) (.float .f64 (bet (pOf L i) (tOf L i) (pOf L j) (tOf L j) (pOf L k)))).run Try.prog w = .ok (.float .f64 (df L i j k)) w := fun w => run_float_arith w .sub 25 .f64 _ _ _ hsub
      have HP : Hid (rng (df L i j k) = dp L i j k) := (by show _ = _; unfold dp; rw [nD]; rfl)
      have HD : Hid (df L i j k < 18446744073709551616) := (bits_num _ hsub).2
      have NE : Hid (nan (bet (pOf L i) (tOf L i) (pOf L j) (tOf L j) (pOf L k)) = false) := nE
      have HE : Hid (scI L i j (k + 1 - i - 1) = if gt (dp L i j k) (scI L i j (k - i - 1)).2 then (k, dp L i j k) else scI L i j (k - i - 1)) := sc_step L i j k hk1
      have HG : Hid (gt (dp L i j k) (scI L i j (k - i - 1)).2 = (ord (dp L i j k) (scI L i j (k - i - 1)).2 == some .gt)) := rfl
      have q1 : wr.cell? ⟨b, o + i * 2, none⟩ = some (.int .i64 (pOf L i)) := (BR.out.cell (p := ⟨b, o + i * 2, none⟩) K.out.1).trans (K.out.2 i (by have := HN.out; omega)).1
      have q2 : wr.cell? ⟨b, o + i * 2 + 1, none⟩ = some (.float .f64 (tOf L i)) := (BR.out.cell (p := ⟨b, o + i * 2 + 1, none⟩) K.out.1).trans (K.out.2 i (by have := HN.out; omega)).2
      have q3 : wr.cell? ⟨b, o + j * 2, none⟩ = some (.int .i64 (pOf L j)) := (BR.out.cell (p := ⟨b, o + j * 2, none⟩) K.out.1).trans (K.out.2 j (by have := HN.out; omega)).1
      have q4 : wr.cell? ⟨b, o + j * 2 + 1, none⟩ = some (.float .f64 (tOf L j)) := (BR.out.cell (p := ⟨b, o + j * 2 + 1, none⟩) K.out.1).trans (K.out.2 j (by have := HN.out; omega)).2
      have q5 : wr.cell? ⟨b, o + k * 2, none⟩ = some (.int .i64 (pOf L k)) := (BR.out.cell (p := ⟨b, o + k * 2, none⟩) K.out.1).trans (K.out.2 k (by have := HN.out; omega)).1
      have q6 : wr.cell? ⟨b, o + k * 2 + 1, none⟩ = some (.float .f64 (tOf L k)) := (BR.out.cell (p := ⟨b, o + k * 2 + 1, none⟩) K.out.1).trans (K.out.2 k (by have := HN.out; omega)).2
      clear nD hsub nE
      generalize df L i j k = D at *
      generalize dp L i j k = P at *
      generalize tOf L i = t0 at *
      generalize pOf L i = p0 at *
      generalize tOf L j = t1 at *
      generalize pOf L j = p1 at *
      generalize tOf L k = t2 at *
      generalize pOf L k = p2 at *
      have SB : Hid (∀ w, Calls Try.prog 25 #[lv p0 t0, lv p1 t1, .int .i64 p2] w fun e w' => e = .returned (.float .f64 (bet p0 t0 p1 t1 p2)) ∧ Below w.heap.size w w') := fun w => ibetN p0 t0 p1 t1 p2 w NE.out
      generalize bet p0 t0 p1 t1 p2 = g at *
      obtain ⟨sc, hsc⟩ : ∃ sc, scI L i j (k - i - 1) = sc := ⟨_, rfl⟩
      obtain ⟨sa, sm⟩ := sc
      rw [hsc] at HE HG ⊢
      dsimp only at HE HG ⊢
      clear hsc
      have a0 : (0 : Int) ≤ (i : Int) := by omega
      have a1 : (i : Int) < (n : Int) := by omega
      have a2 : (0 : Int) ≤ (j : Int) := by omega
      have a3 : (j : Int) < (n : Int) := by omega
      have a4 : (0 : Int) ≤ (k : Int) := by omega
      have a5 : (k : Int) < (n : Int) := by omega
      have a6 : (k : Int) < (j : Int) := by omega
      have a7 : IntKind.i64.wrap ((k : Int) + 1) = (k : Int) + 1 := IntWalk.i64_in _ (by omega)
      have n1 : b < wr.heap.size := Nat.lt_of_lt_of_le K.out.1 BR.out.size
      cases c1 : (ord P sm == some .gt)
      · have HE2 : Hid (scI L i j (k + 1 - i - 1) = (sa, sm)) := (by show _ = _; rw [HE.out, HG.out, c1]; rfl)
        go_wp2_with fail
        go_region_held3 (fun w' => w'.cell? ⟨b, o + i * 2, none⟩ = some (.int .i64 p0) ∧ w'.cell? ⟨b, o + i * 2 + 1, none⟩ = some (.float .f64 t0) ∧ w'.cell? ⟨b, o + j * 2, none⟩ = some (.int .i64 p1) ∧ w'.cell? ⟨b, o + j * 2 + 1, none⟩ = some (.float .f64 t1) ∧ w'.cell? ⟨b, o + k * 2, none⟩ = some (.int .i64 p2) ∧ w'.cell? ⟨b, o + k * 2 + 1, none⟩ = some (.float .f64 t2)) (go_keep)
          (first
          | (go_at_call 25; refine (SB.out _).mono ?_; rintro e w3 ⟨rfl, hb3⟩; have r1 := (hb3.cell (p := ⟨b, o + i * 2, none⟩) n1).trans q1; have r2 := (hb3.cell (p := ⟨b, o + i * 2 + 1, none⟩) n1).trans q2; have r3 := (hb3.cell (p := ⟨b, o + j * 2, none⟩) n1).trans q3; have r4 := (hb3.cell (p := ⟨b, o + j * 2 + 1, none⟩) n1).trans q4; have r5 := (hb3.cell (p := ⟨b, o + k * 2, none⟩) n1).trans q5; have r6 := (hb3.cell (p := ⟨b, o + k * 2 + 1, none⟩) n1).trans q6))
        have B3 : Hid (Below w.heap.size w w3) := BR.out.drew.trans (hb3.mono BR.out.size)
        clear hb3
        go_wp2_with fail
        refine (abs_any _ _ HD.out).mono ?_
        rintro e w4 ⟨rfl, hw4⟩
        subst hw4
        rw [HP.out]
        go_wp2_with fail
        go_roundw
        case rel => exact ⟨k + 1, by omega, by omega, by go_num, by rw [HE2.out], by rw [HE2.out], B3⟩
        case measure => simp [intOf]; omega
      · have HE2 : Hid (scI L i j (k + 1 - i - 1) = (k, P)) := (by show _ = _; rw [HE.out, HG.out, c1]; rfl)
        go_wp2_with fail
        go_region_held3 (fun w' => w'.cell? ⟨b, o + i * 2, none⟩ = some (.int .i64 p0) ∧ w'.cell? ⟨b, o + i * 2 + 1, none⟩ = some (.float .f64 t0) ∧ w'.cell? ⟨b, o + j * 2, none⟩ = some (.int .i64 p1) ∧ w'.cell? ⟨b, o + j * 2 + 1, none⟩ = some (.float .f64 t1) ∧ w'.cell? ⟨b, o + k * 2, none⟩ = some (.int .i64 p2) ∧ w'.cell? ⟨b, o + k * 2 + 1, none⟩ = some (.float .f64 t2)) (go_keep)
          (first
          | (go_at_call 25; refine (SB.out _).mono ?_; rintro e w3 ⟨rfl, hb3⟩; have r1 := (hb3.cell (p := ⟨b, o + i * 2, none⟩) n1).trans q1; have r2 := (hb3.cell (p := ⟨b, o + i * 2 + 1, none⟩) n1).trans q2; have r3 := (hb3.cell (p := ⟨b, o + j * 2, none⟩) n1).trans q3; have r4 := (hb3.cell (p := ⟨b, o + j * 2 + 1, none⟩) n1).trans q4; have r5 := (hb3.cell (p := ⟨b, o + k * 2, none⟩) n1).trans q5; have r6 := (hb3.cell (p := ⟨b, o + k * 2 + 1, none⟩) n1).trans q6))
        have B3 : Hid (Below w.heap.size w w3) := BR.out.drew.trans (hb3.mono BR.out.size)
        clear hb3
        go_wp2_with fail
        refine (abs_any _ _ HD.out).mono ?_
        rintro e w4 ⟨rfl, hw4⟩
        subst hw4
        rw [HP.out]
        go_wp2_with fail
        go_roundw
        case rel => exact ⟨k + 1, by omega, by omega, by go_num, by rw [HE2.out], by rw [HE2.out], B3⟩
        case measure => simp [intOf]; omega
    · have e : k = j := by omega
      subst e
      have a6 : ¬ (k : Int) < (k : Int) := by omega
      go_wp2_with fail
      go_ret2
      exact ⟨rfl, BR.out⟩
end Go.Proofs.Ytjnjpbbpphklhaa.Flt
