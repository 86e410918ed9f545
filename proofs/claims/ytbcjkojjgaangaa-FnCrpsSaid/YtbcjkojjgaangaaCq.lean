/- Crps: the program. -/
import Derived.Test.YtbcjkojjgaangaaCp
namespace Go.Proofs.Ytbcjkojjgaangaa.Sc
open Go.ChangeShapes Go.WideShapes Go.ChangeAt Go.RowKit
open Go.Proofs.Ytbcjkojjgaangaa.Lists Go.Proofs.Ytbcjkojjgaangaa.Al Go.Proofs.Ytbcjkojjgaangaa.Su

set_option maxHeartbeats 1000000 in
theorem apart_any (a b : Int) (h1 : -1000000 ≤ a ∧ a ≤ 1000000) (h2 : -1000000 ≤ b ∧ b ≤ 1000000) (w : World) : Calls Try.prog 33 #[.int .i64 a, .int .i64 b] w fun e w' => e = .returned (.int .i64 (ab a b)) ∧ w' = w := by
  by_cases h : a ≤ b
  · have e : ab a b = b - a := if_pos h
    rw [e]
    by_cases h3 : a = b
    · subst h3
      go_enter Try.func33, Try.ntmps33
      go_wp2_with fail
      go_ret
      exact ⟨by simp, rfl⟩
    · have h4 : a < b := by omega
      have h5 : ¬ b < a := by omega
      go_enter Try.func33, Try.ntmps33
      go_wp2_with fail
      go_ret
      exact ⟨by simp, rfl⟩
  · have e : ab a b = a - b := if_neg h
    rw [e]
    have h4 : ¬ a < b := by omega
    have h5 : b < a := by omega
    go_enter Try.func33, Try.ntmps33
    go_wp2_with fail
    go_ret
    exact ⟨by simp, rfl⟩

set_option maxHeartbeats 1000000 in
theorem cl26 (b0 b1 bl o n cap i : Nat) (y x : Int) (w : World) (hi : i < n)
    (q0 : w.cell? ⟨b0, 0, none⟩ = some (.slice (some ⟨bl, o, none⟩) n cap)) (q1 : w.cell? ⟨b1, 0, none⟩ = some (.int .i64 x)) (q2 : w.cell? ⟨bl, o + i, none⟩ = some (.int .i64 y))
    (h1 : -1000000 ≤ y ∧ y ≤ 1000000) (h2 : -1000000 ≤ x ∧ x ≤ 1000000) :
    Calls Try.prog 32 #[.int .i64 (i : Int), .pointer (some ⟨b0, 0, none⟩), .pointer (some ⟨b1, 0, none⟩)] w fun e w' => e = .returned (.int .i64 (ab y x)) ∧ ∃ m, w' = w.drewN m := by
  have C : Hid (∀ w, Calls Try.prog 33 #[.int .i64 y, .int .i64 x] w fun e w' => e = .returned (.int .i64 (ab y x)) ∧ w' = w) := apart_any y x h1 h2
  have i1 : (0 : Int) ≤ (i : Int) := by omega
  have i2 : (i : Int) < (n : Int) := by omega
  generalize ab y x = r at *
  go_enter Try.func32, Try.ntmps32
  go_wp2_with fail
  go_quiet ((go_at_call 33; exact Calls.quiet_of_same (C.out _)))
  go_wp2_with fail
  go_ret
  exact ⟨rfl, _, rfl⟩

set_option maxHeartbeats 1000000 in
theorem away_any (L : List Int) (x : Int) (v : Value) (w : World) (hL : Lists.Reads w v L) (I : inM L) (hx : -1000000 ≤ x ∧ x ≤ 1000000) :
    Calls Try.prog 29 #[v, .int .i64 x] w fun e w' => e = .returned (.int .i64 (aw L x L.length)) ∧ Below w.heap.size w w' := by
  have l1 := I.1
  have l2 := I.2.1
  obtain ⟨b, o, hcell, hvv⟩ := reads_at hL
  obtain ⟨hb, cap, rfl⟩ := hvv (by omega)
  obtain ⟨W, hW⟩ : ∃ W, W = (w.alloc (Obj.cells #[.slice (some ⟨b, o, none⟩) L.length cap] 41)).alloc (Obj.cells #[.int .i64 x] 2) := ⟨_, rfl⟩
  have HW : Hid (W = (w.alloc (Obj.cells #[.slice (some ⟨b, o, none⟩) L.length cap] 41)).alloc (Obj.cells #[.int .i64 x] 2)) := hW
  have B0 : Below w.heap.size w W := (by rw [hW]; exact ((Below.refl _ _).alloc (Nat.le_refl _) _).alloc (by simp) _)
  have d0 : W.cell? ⟨w.heap.size, 0, none⟩ = some (.slice (some ⟨b, o, none⟩) L.length cap) := by rw [hW]; simp [go_sem]
  have d1 : W.cell? ⟨w.heap.size + 1, 0, none⟩ = some (.int .i64 x) := by rw [hW]; simp [go_sem]
  have dc : ∀ i, i < L.length → W.cell? ⟨b, o + i, none⟩ = some (.int .i64 (L.getD i 0)) := fun i hi => by
    rw [B0.cell (p := ⟨b, o + i, none⟩) (by show b < w.heap.size; omega)]
    exact hcell i hi
  have S : Hid (Calls Try.prog 31 #[.int .i64 (L.length : Int), .func (.func 32) #[] #[.pointer (some ⟨w.heap.size, 0, none⟩), .pointer (some ⟨w.heap.size + 1, 0, none⟩)]] W fun e w' => e = .returned (.int .i64 (aw L x L.length)) ∧ Below w.heap.size w w') := by
    refine (summed26 (fun y => ∃ m, y = W.drewN m) L.length _ _ (fun i => ab (L.getD i 0) x) W ⟨0, rfl⟩ (by omega) (fun i hi w' hw' => ?_) (fun j hj => ?_)).mono ?_
    · obtain ⟨m, rfl⟩ := hw'
      refine (cl26 w.heap.size (w.heap.size + 1) b o L.length cap i (L.getD i 0) x (W.drewN m) hi d0 d1 (dc i hi) (I.2.2 i hi) hx).mono ?_
      rintro e w' ⟨rfl, m2, rfl⟩
      exact ⟨rfl, m + m2, by simp⟩
    · have := aw_bd I hx j hj
      unfold aw at this
      omega
    · rintro e w' ⟨rfl, m, rfl⟩
      exact ⟨rfl, B0.trans ⟨rfl, rfl, rfl, Nat.le_refl _, fun _ _ => rfl⟩⟩
  clear hL hcell hvv hW B0 dc d1
  generalize aw L x L.length = r at *
  generalize L.length = n at *
  go_enter Try.func29, Try.ntmps29
  go_wp2_with fail
  rw [← HW.out]
  go_wp2_with fail
  refine S.out.mono ?_
  rintro e w1 ⟨rfl, hb⟩
  have HB : Hid (Below w.heap.size w w1) := hb
  clear hb
  go_wp2_with fail
  go_ret
  exact ⟨rfl, HB.out⟩

set_option maxHeartbeats 1000000 in
theorem icrs_any (L : List Int) (x : Int) (v : Value) (w : World) (hL : Lists.Reads w v L) (I : inM L) (hx : -1000000 ≤ x ∧ x ≤ 1000000) :
    Calls Try.prog 24 #[v, .int .i64 x] w fun e w' => e = .returned (.int .i64 (crs L x L.length)) ∧ Below w.heap.size w w' := by
  have l1 := I.1
  have l2 := I.2.1
  have C : Hid (∀ y, -1000000 ≤ y ∧ y ≤ 1000000 → ∀ w', Below w.heap.size w w' → Calls Try.prog 29 #[v, .int .i64 y] w' fun e w'' => e = .returned (.int .i64 (aw L y L.length)) ∧ Below w.heap.size w w'') := fun y hy w' hb => by
    refine (away_any L y v w' (hL.on hb) I hy).mono ?_
    rintro e w'' ⟨rfl, h⟩
    exact ⟨rfl, hb.trans (h.mono hb.size)⟩
  obtain ⟨b, o, hcell, hvv⟩ := reads_at hL
  obtain ⟨hb, cap, rfl⟩ := hvv (by omega)
  obtain ⟨n, hn⟩ : ∃ n, n = L.length := ⟨_, rfl⟩
  have HC : Hid (∀ i, i < n → ∀ w', Below w.heap.size w w' → w'.cell? ⟨b, o + i, none⟩ = some (.int .i64 (L.getD i 0))) := fun i hi w' h => by
    rw [h.cell (p := ⟨b, o + i, none⟩) (by show b < w.heap.size; omega)]
    exact hcell i (by omega)
  have HI : Hid (inM L) := I
  have HX : Hid (-1000000 ≤ x ∧ x ≤ 1000000) := hx
  rw [← hn] at l1 l2 C ⊢
  have HN : Hid (n = L.length) := hn
  clear hL hcell hvv hn I hx
  go_enter Try.func24, Try.ntmps24
  go_wp2_with fail
  go_loopw [5, 10] (fun s i wr => ∃ k : Nat, k ≤ n ∧ i = .int .i64 k ∧ s = .int .i64 (prs L k) ∧ Hid (Below w.heap.size w wr)) (fun _ i _ => n - (intOf i).toNat)
  case atStart => exact ⟨0, by omega, rfl, rfl, Below.refl _ _⟩
  case round =>
    obtain ⟨k, hk, rfl, rfl, HB⟩ := hrel
    by_cases hlt : k < n
    · have hkl : k < L.length := by rw [← HN.out]; exact hlt
      have q : wr.cell? ⟨b, o + k, none⟩ = some (.int .i64 (L.getD k 0)) := HC.out k hlt wr HB.out
      have i1 : (0 : Int) ≤ (k : Int) := by omega
      have i2 : (k : Int) < (n : Int) := by omega
      have z1 := HI.out.2.2 k hkl
      have c1 := prs_bd HI.out k (by omega)
      have c2 := aw_bd HI.out z1 n (by have := HN.out; omega)
      have E : Hid (prs L (k + 1) = prs L k + aw L (L.getD k 0) n) := (by show _ = _; unfold prs; rw [HN.out]; rfl)
      have C3 : Hid (Calls Try.prog 29 #[.slice (some ⟨b, o, none⟩) n cap, .int .i64 (L.getD k 0)] wr fun e w'' => e = .returned (.int .i64 (aw L (L.getD k 0) n)) ∧ Below w.heap.size w w'') := C.out _ z1 wr HB.out
      generalize prs L k = s at *
      generalize L.getD k 0 = z at *
      generalize aw L z n = t at *
      go_wp2_with fail
      refine C3.out.mono ?_
      rintro e w1 ⟨rfl, hb⟩
      have HB1 : Hid (Below w.heap.size w w1) := hb
      clear hb
      go_wp2_with fail
      go_roundw
      case rel => exact ⟨k + 1, by omega, by go_num, by rw [E.out], HB1⟩
      case measure => simp [intOf]; omega
    · have hkn : k = n := by omega
      subst hkn
      have c1 := prs_bd HI.out k (by have := HN.out; omega)
      have c2 := aw_bd HI.out HX.out k (by have := HN.out; omega)
      have p1 : 0 ≤ 2 * (k : Int) * aw L x k ∧ 2 * (k : Int) * aw L x k ≤ 14400000000 := mul60 (by omega) (by omega) c2.1 c2.2
      have E : Hid (crs L x k = 2 * (k : Int) * aw L x k - prs L k) := (by show _ = _; unfold crs; rw [← HN.out])
      have C3 : Hid (Calls Try.prog 29 #[.slice (some ⟨b, o, none⟩) k cap, .int .i64 x] wr fun e w'' => e = .returned (.int .i64 (aw L x k)) ∧ Below w.heap.size w w'') := C.out _ HX.out wr HB.out
      generalize prs L k = s at *
      have J1 : IntKind.i64.wrap (2 * (k : Int) * aw L x k) = 2 * (k : Int) * aw L x k := IntWalk.i64_in _ (by omega)
      have J2 : IntKind.i64.wrap (2 * (k : Int) * aw L x k - s) = 2 * (k : Int) * aw L x k - s := IntWalk.i64_in _ (by omega)
      generalize aw L x k = t at *
      go_wp2_with fail
      refine C3.out.mono ?_
      rintro e w1 ⟨rfl, hb⟩
      have HB1 : Hid (Below w.heap.size w w1) := hb
      clear hb
      go_wp2_with fail
      go_ret
      exact ⟨by rw [E.out]; rfl, HB1.out⟩

set_option maxHeartbeats 1000000 in
theorem iCrps_any (L : List Int) (x : Int) (v : Value) (w : World) (hL : Lists.Reads w v L) (hf : L.length < 9223372036854775808) :
    Calls Try.prog 7 #[v, .int .i64 x] w fun e w' => e = .returned (.int .i64 (crp L x)) ∧ Below w.heap.size w w' := by
  have C2 : Hid (Calls Try.prog 13 #[.int .i64 x, .int .i64 (-1000000), .int .i64 1000000] w fun e w' => e = .returned (.bool (inn x (-1000000) 1000000)) ∧ w' = w) := i_in _ _ _ w
  have C : Hid (inn x (-1000000) 1000000 = true → Calls Try.prog 14 #[v, .int .i64 2, .int .i64 x] w fun e w' => e = .returned (.int .i64 (if okM L then crs L x L.length else -1)) ∧ Below w.heap.size w w') := fun hx => score2 L x _ v w hL hf fun h w' hr => icrs_any L x v w' hr (okM_in h) ((inn_iff _ _ _).mp hx)
  unfold crp
  clear hL
  generalize crs L x L.length = r at *
  generalize inn x (-1000000) 1000000 = bx at *
  generalize okM L = bo at *
  cases bx
  · have e1 : (bo && false) = false := by simp
    rw [e1]
    go_enter Try.func7, Try.ntmps7
    go_wp2_with fail
    refine C2.out.mono ?_
    rintro e w1 ⟨rfl, hw⟩
    subst hw
    go_wp2_with fail
    go_ret
    exact ⟨by simp, Below.refl _ _⟩
  · have e1 : (bo && true) = bo := by simp
    rw [e1]
    have C3 : Hid (Calls Try.prog 14 #[v, .int .i64 2, .int .i64 x] w fun e w' => e = .returned (.int .i64 (if bo then r else -1)) ∧ Below w.heap.size w w') := C.out rfl
    clear C
    generalize (if bo = true then r else -1) = q at *
    go_enter Try.func7, Try.ntmps7
    go_wp2_with fail
    refine C2.out.mono ?_
    rintro e w1 ⟨rfl, hw⟩
    subst hw
    go_wp2_with fail
    refine C3.out.mono ?_
    rintro e w2 ⟨rfl, hb⟩
    have HB1 : Hid (Below w1.heap.size w1 w2) := hb
    clear hb
    go_wp2_with fail
    go_ret
    exact ⟨rfl, HB1.out⟩
end Go.Proofs.Ytbcjkojjgaangaa.Sc
