/- Spots, areas, which side a spot lies on: plainly, and the tests of both sides. -/
import Derived.Test.YtcifmncimpeanaaSp
namespace Go.Proofs.Ytcifmncimpeanaa.In
open Go.ChangeShapes Go.WideShapes Go.ChangeAt Go.RowKit
open Go.Proofs.Ytcifmncimpeanaa.Al

def okp (x y : Int) : Bool := inn x (-1000000) 1000000 && inn y (-1000000) 1000000
theorem okp_parts {x y : Int} (h : okp x y = true) : -1000000 ≤ x ∧ x ≤ 1000000 ∧ -1000000 ≤ y ∧ y ≤ 1000000 := by
  unfold okp at h
  simp only [Bool.and_eq_true, inn_iff] at h
  omega
def okl (L : Sp.Ls) : Bool := L.all fun p => okp p.1 p.2
def oka (L : Sp.Ls) : Bool := inn L.length 3 40 && okl L
theorem okl_at {L : Sp.Ls} (h : okl L = true) (i : Nat) (hi : i < L.length) : okp (Sp.c0 L i) (Sp.c1 L i) = true := by
  unfold okl at h
  rw [List.all_eq_true] at h
  have := h (L.getD i (0, 0)) (by simp [List.getD_eq_getElem?_getD, hi])
  exact this
theorem okl_no {L : Sp.Ls} (i : Nat) (hi : i < L.length) (h : okp (Sp.c0 L i) (Sp.c1 L i) = false) : okl L = false := by
  cases e : okl L
  · rfl
  · rw [okl_at e i hi] at h; cases h
theorem okl_yes {L : Sp.Ls} (h : ∀ i, i < L.length → okp (Sp.c0 L i) (Sp.c1 L i) = true) : okl L = true := by
  unfold okl
  rw [List.all_eq_true]
  intro p hp
  obtain ⟨j, hj, rfl⟩ := List.getElem_of_mem hp
  have := h j hj
  simpa [Sp.c0, Sp.c1, List.getD_eq_getElem?_getD, hj] using this
def ev (x1 y1 x2 y2 px py : Int) : Int := (x2 - x1) * (py - y1) - (px - x1) * (y2 - y1)
def lf (x1 y1 x2 y2 px py : Int) : Bool :=
  if py < y1 then (if py < y2 then false else decide (ev x1 y1 x2 y2 px py < 0)) else (if py < y2 then decide (0 < ev x1 y1 x2 y2 px py) else false)
theorem mb {a b : Int} (h1 : -2000000 ≤ a ∧ a ≤ 2000000) (h2 : -2000000 ≤ b ∧ b ≤ 2000000) : -4000000000000 ≤ a * b ∧ a * b ≤ 4000000000000 := by
  have h3 : (a * b).natAbs ≤ 2000000 * 2000000 := by
    rw [Int.natAbs_mul]
    exact Nat.mul_le_mul (by omega) (by omega)
  omega
def sd (L : Sp.Ls) (px py : Int) (i : Nat) : Bool := lf (Sp.c0 L i) (Sp.c1 L i) (Sp.c0 L ((i + 1) % L.length)) (Sp.c1 L ((i + 1) % L.length)) px py
def par (f : Nat → Bool) : Nat → Bool
  | 0 => false
  | k + 1 => xor (par f k) (f k)
def ins (L : Sp.Ls) (px py : Int) : Bool := if oka L && okp px py then par (sd L px py) L.length else false
def prv (L : Sp.Ls) (px py : Int) : Nat → Bool
  | 0 => false
  | k + 1 => xor (par (sd L px py) k) (sd L px py (L.length - 1))
def bk (n k : Nat) : Nat := if k = 0 then n - 1 else k - 1
theorem prv_step (L : Sp.Ls) (px py : Int) (k : Nat) (hk : k < L.length) : prv L px py (k + 1) = xor (prv L px py k) (lf (Sp.c0 L (bk L.length k)) (Sp.c1 L (bk L.length k)) (Sp.c0 L k) (Sp.c1 L k) px py) := by
  cases k with
  | zero =>
    have e : (L.length - 1 + 1) % L.length = 0 := by rw [show L.length - 1 + 1 = L.length by omega]; exact Nat.mod_self _
    simp only [prv, par, bk, if_pos, sd, e]
  | succ k =>
    have e : (k + 1) % L.length = k + 1 := Nat.mod_eq_of_lt hk
    have e2 : bk L.length (k + 1) = k := by unfold bk; rw [if_neg (by omega)]; rfl
    rw [e2]
    show xor (xor (par (sd L px py) k) (sd L px py k)) (sd L px py (L.length - 1)) = xor (xor (par (sd L px py) k) (sd L px py (L.length - 1))) _
    have e3 : sd L px py k = lf (Sp.c0 L k) (Sp.c1 L k) (Sp.c0 L (k + 1)) (Sp.c1 L (k + 1)) px py := by unfold sd; rw [e]
    rw [e3]
    generalize lf _ _ _ _ _ _ = a
    generalize par _ _ = b
    generalize sd _ _ _ _ = c
    cases a <;> cases b <;> cases c <;> rfl
theorem prv_all (L : Sp.Ls) (px py : Int) (h : 0 < L.length) : prv L px py L.length = par (sd L px py) L.length := by
  obtain ⟨m, hm⟩ : ∃ m, L.length = m + 1 := ⟨L.length - 1, by omega⟩
  have e : L.length - 1 = m := by omega
  have : ∀ n, n = m + 1 → prv L px py n = par (sd L px py) n := by
    intro n hn
    subst hn
    show xor (par (sd L px py) m) (sd L px py (L.length - 1)) = xor (par (sd L px py) m) (sd L px py m)
    rw [e]
  exact this _ hm

set_option maxHeartbeats 1000000 in
theorem sspot_any (x y : Int) (w : World) : Calls Try.prog 11 #[.agg #[.int .i64 x, .int .i64 y]] w fun e w' => e = .returned (.bool (okp x y)) ∧ Below w.heap.size w w' := by
  unfold okp
  have C1 : Hid (∀ w, Calls Try.prog 16 #[.int .i64 x, .int .i64 (-1000000), .int .i64 1000000] w fun e w' => e = .returned (.bool (inn x (-1000000) 1000000)) ∧ w' = w) := fun w => s_in _ _ _ w
  have C2 : Hid (∀ w, Calls Try.prog 16 #[.int .i64 y, .int .i64 (-1000000), .int .i64 1000000] w fun e w' => e = .returned (.bool (inn y (-1000000) 1000000)) ∧ w' = w) := fun w => s_in _ _ _ w
  have BB : Hid (Below w.heap.size w (w.alloc (.cells #[.int .i64 x, .int .i64 y] 29))) := (Below.refl _ _).alloc (Nat.le_refl _) _
  cases h1 : inn x (-1000000) 1000000
  · rw [h1] at C1
    go_enter Try.func11, Try.ntmps11
    go_wp2_with fail
    refine (C1.out _).mono ?_
    rintro e w1 ⟨rfl, hw⟩
    subst hw
    go_wp2_with fail
    go_ret
    exact ⟨rfl, BB.out⟩
  · rw [h1] at C1
    go_enter Try.func11, Try.ntmps11
    go_wp2_with fail
    refine (C1.out _).mono ?_
    rintro e w1 ⟨rfl, hw⟩
    subst hw
    go_wp2_with fail
    refine (C2.out _).mono ?_
    rintro e w1 ⟨rfl, hw⟩
    subst hw
    go_wp2_with fail
    go_ret
    exact ⟨rfl, BB.out⟩

set_option maxHeartbeats 1000000 in
theorem ispot_any (x y : Int) (w : World) : Calls Try.prog 13 #[.agg #[.int .i64 x, .int .i64 y]] w fun e w' => e = .returned (.bool (okp x y)) ∧ Below w.heap.size w w' := by
  unfold okp
  have C1 : Hid (∀ w, Calls Try.prog 17 #[.int .i64 x, .int .i64 (-1000000), .int .i64 1000000] w fun e w' => e = .returned (.bool (inn x (-1000000) 1000000)) ∧ w' = w) := fun w => i_in _ _ _ w
  have C2 : Hid (∀ w, Calls Try.prog 17 #[.int .i64 y, .int .i64 (-1000000), .int .i64 1000000] w fun e w' => e = .returned (.bool (inn y (-1000000) 1000000)) ∧ w' = w) := fun w => i_in _ _ _ w
  have BB : Hid (Below w.heap.size w (w.alloc (.cells #[.int .i64 x, .int .i64 y] 29))) := (Below.refl _ _).alloc (Nat.le_refl _) _
  cases h1 : inn x (-1000000) 1000000
  · rw [h1] at C1
    go_enter Try.func13, Try.ntmps13
    go_wp2_with fail
    refine (C1.out _).mono ?_
    rintro e w1 ⟨rfl, hw⟩
    subst hw
    go_wp2_with fail
    go_ret
    exact ⟨rfl, BB.out⟩
  · rw [h1] at C1
    go_enter Try.func13, Try.ntmps13
    go_wp2_with fail
    refine (C1.out _).mono ?_
    rintro e w1 ⟨rfl, hw⟩
    subst hw
    go_wp2_with fail
    refine (C2.out _).mono ?_
    rintro e w1 ⟨rfl, hw⟩
    subst hw
    go_wp2_with fail
    go_ret
    exact ⟨rfl, BB.out⟩

theorem reads_at {w : World} {v : Value} {L : Sp.Ls} (hL : Sp.Reads w v L) : ∃ b o, (∀ w', Below w.heap.size w w' → ∀ i, i < L.length → Sp.Cs w' b o L i) ∧ (0 < L.length → b < w.heap.size ∧ ∃ cap, v = .slice (some ⟨b, o, none⟩) L.length cap) := by
  rcases hL with ⟨rfl, _⟩ | ⟨b, o, cap, h1, h2, h3, h4, h5⟩
  · exact ⟨0, 0, fun _ _ i hi => by simp at hi, fun hi => by simp at hi⟩
  · exact ⟨b, o, fun w' hb i hi => (h5 i hi).below hb h4, fun _ => ⟨h4, cap, h1⟩⟩

set_option maxHeartbeats 1000000 in
theorem ispots_any (L : Sp.Ls) (v : Value) (w : World) (hL : Sp.Reads w v L) : Calls Try.prog 18 #[v] w fun e w' => e = .returned (.bool (okl L)) ∧ Below w.heap.size w w' := by
  have hf := hL.fits
  obtain ⟨b, o, hcell, hvv⟩ := reads_at hL
  obtain ⟨a, cap, rfl⟩ := hL.form
  have HC : Hid (∀ w', Below w.heap.size w w' → ∀ i, i < L.length → Sp.Cs w' b o L i) := hcell
  have HB : Hid (0 < L.length → b < w.heap.size ∧ a = some ⟨b, o, none⟩) := fun hi => by
    obtain ⟨h1, c, h2⟩ := hvv hi
    simp at h2
    exact ⟨h1, h2.1⟩
  obtain ⟨bo, hbo⟩ : ∃ bo, okl L = bo := ⟨_, rfl⟩
  rw [hbo]
  have HO : Hid (okl L = bo) := hbo
  obtain ⟨n, hn⟩ : ∃ n, n = L.length := ⟨_, rfl⟩
  rw [← hn] at hf ⊢
  have HN : Hid (n = L.length) := hn
  clear hL hcell hvv hbo hn
  go_enter Try.func18, Try.ntmps18
  go_wp2_with fail
  go_loopw [7] (fun i wr => ∃ k : Nat, k ≤ n ∧ i = .int .i64 k ∧ Hid (Below w.heap.size w wr) ∧ Hid (∀ j, j < k → okp (Sp.c0 L j) (Sp.c1 L j) = true)) (fun i _ => n - (intOf i).toNat)
  case atStart => exact ⟨0, by omega, rfl, Below.refl _ _, fun j hj => by omega⟩
  case round =>
    obtain ⟨k, hk, rfl, BB, OK⟩ := hrel
    by_cases hlt : k < n
    · have hkl : k < L.length := by rw [← HN.out]; exact hlt
      obtain ⟨hb, hx⟩ := HB.out (by omega)
      subst hx
      obtain ⟨q0, q1⟩ := HC.out wr BB.out k hkl
      have i1 : (0 : Int) ≤ (k : Int) := by omega
      have i2 : (k : Int) < (n : Int) := by omega
      have zr := BB.out.size
      have hb2 : b < wr.heap.size := by omega
      have C3 : Hid (∀ w, Calls Try.prog 13 #[.agg #[.int .i64 (Sp.c0 L k), .int .i64 (Sp.c1 L k)]] w fun e w' => e = .returned (.bool (okp (Sp.c0 L k) (Sp.c1 L k))) ∧ Below w.heap.size w w') := fun w => ispot_any _ _ w
      cases hz : okp (Sp.c0 L k) (Sp.c1 L k)
      · have HF : Hid (bo = false) := (by show _ = _; rw [← HO.out]; exact okl_no k hkl hz)
        rw [hz] at C3
        clear hz
        generalize Sp.c0 L k = x at *
        generalize Sp.c1 L k = y at *
        go_wp2_with fail
        refine (C3.out _).mono ?_
        rintro e w3 ⟨rfl, hb3⟩
        have B3 : Hid (Below w.heap.size w w3) := (BB.out.alloc zr _).trans (hb3.mono (by simp; omega))
        clear hb3
        go_wp2_with fail
        go_ret
        exact ⟨by rw [HF.out]; rfl, B3.out⟩
      · have OK2 : Hid (∀ j, j < k + 1 → okp (Sp.c0 L j) (Sp.c1 L j) = true) := fun j hj => by
          by_cases e : j = k
          · rw [e]; exact hz
          · exact OK.out j (by omega)
        rw [hz] at C3
        clear hz
        generalize Sp.c0 L k = x at *
        generalize Sp.c1 L k = y at *
        go_wp2_with fail
        refine (C3.out _).mono ?_
        rintro e w3 ⟨rfl, hb3⟩
        have B3 : Hid (Below w.heap.size w w3) := (BB.out.alloc zr _).trans (hb3.mono (by simp; omega))
        clear hb3
        go_wp2_with fail
        go_roundw
        case rel => exact ⟨k + 1, by omega, by go_num, B3, OK2⟩
        case measure => simp [intOf]; omega
    · have HT : Hid (bo = true) := (by
        show _ = _
        rw [← HO.out]
        exact okl_yes fun i hi => OK.out i (by have := HN.out; omega))
      go_wp2_with fail
      go_ret
      exact ⟨by rw [HT.out]; rfl, BB.out⟩

set_option maxHeartbeats 1000000 in
theorem iarea_any (L : Sp.Ls) (v : Value) (w : World) (hL : Sp.Reads w v L) : Calls Try.prog 12 #[v] w fun e w' => e = .returned (.bool (oka L)) ∧ Below w.heap.size w w' := by
  have C1 : Hid (Calls Try.prog 17 #[.int .i64 (L.length : Int), .int .i64 3, .int .i64 40] w fun e w' => e = .returned (.bool (inn L.length 3 40)) ∧ w' = w) := i_in _ _ _ w
  have C2 : Hid (Calls Try.prog 18 #[v] w fun e w' => e = .returned (.bool (okl L)) ∧ Below w.heap.size w w') := ispots_any L v w hL
  unfold oka
  obtain ⟨a, cap, rfl⟩ := hL.form
  clear hL
  generalize okl L = bo at *
  generalize L.length = n at *
  generalize inn n 3 40 = bn at *
  cases bn
  · go_enter Try.func12, Try.ntmps12
    go_wp2_with fail
    refine C1.out.mono ?_
    rintro e w1 ⟨rfl, hw⟩
    subst hw
    go_wp2_with fail
    go_ret
    exact ⟨rfl, Below.refl _ _⟩
  · go_enter Try.func12, Try.ntmps12
    go_wp2_with fail
    refine C1.out.mono ?_
    rintro e w1 ⟨rfl, hw⟩
    subst hw
    go_wp2_with fail
    refine C2.out.mono ?_
    rintro e w2 ⟨rfl, hb⟩
    have B2 : Hid (Below w1.heap.size w1 w2) := hb
    clear hb
    go_wp2_with fail
    go_ret
    exact ⟨rfl, B2.out⟩

set_option maxHeartbeats 1000000 in
theorem sarea_any (L : Sp.Ls) (v : Value) (w : World) (hL : Sp.Reads w v L) : Calls Try.prog 10 #[v] w fun e w' => e = .returned (.bool (oka L)) ∧ Below w.heap.size w w' := by
  have hf := hL.fits
  unfold oka
  obtain ⟨b, o, hcell, hvv⟩ := reads_at hL
  obtain ⟨a, cap, rfl⟩ := hL.form
  have HC : Hid (∀ w', Below w.heap.size w w' → ∀ i, i < L.length → Sp.Cs w' b o L i) := hcell
  have HB : Hid (0 < L.length → b < w.heap.size ∧ a = some ⟨b, o, none⟩) := fun hi => by
    obtain ⟨h1, c, h2⟩ := hvv hi
    simp at h2
    exact ⟨h1, h2.1⟩
  obtain ⟨bo, hbo⟩ : ∃ bo, okl L = bo := ⟨_, rfl⟩
  rw [hbo]
  have HO : Hid (okl L = bo) := hbo
  obtain ⟨n, hn⟩ : ∃ n, n = L.length := ⟨_, rfl⟩
  rw [← hn] at hf ⊢
  have HN : Hid (n = L.length) := hn
  clear hL hcell hvv hbo hn
  by_cases l1 : (3 : Int) ≤ n
  · by_cases l2 : (n : Int) ≤ 40
    · have e : inn n 3 40 = true := by simp [inn]; omega
      rw [e, Bool.true_and]
      clear e
      go_enter Try.func10, Try.ntmps10
      go_wp2_with fail
      go_loopw [3] (fun i wr => ∃ k : Nat, k ≤ n ∧ i = .int .i64 k ∧ Hid (Below w.heap.size w wr) ∧ Hid (∀ j, j < k → okp (Sp.c0 L j) (Sp.c1 L j) = true)) (fun i _ => n - (intOf i).toNat)
      case atStart => exact ⟨0, by omega, rfl, Below.refl _ _, fun j hj => by omega⟩
      case round =>
        obtain ⟨k, hk, rfl, BB, OK⟩ := hrel
        by_cases hlt : k < n
        · have hkl : k < L.length := by rw [← HN.out]; exact hlt
          obtain ⟨hb, hx⟩ := HB.out (by omega)
          subst hx
          obtain ⟨q0, q1⟩ := HC.out wr BB.out k hkl
          have i1 : (0 : Int) ≤ (k : Int) := by omega
          have i2 : (k : Int) < (n : Int) := by omega
          have zr := BB.out.size
          have hb2 : b < wr.heap.size := by omega
          have C3 : Hid (∀ w, Calls Try.prog 11 #[.agg #[.int .i64 (Sp.c0 L k), .int .i64 (Sp.c1 L k)]] w fun e w' => e = .returned (.bool (okp (Sp.c0 L k) (Sp.c1 L k))) ∧ Below w.heap.size w w') := fun w => sspot_any _ _ w
          cases hz : okp (Sp.c0 L k) (Sp.c1 L k)
          · have HF : Hid (bo = false) := (by show _ = _; rw [← HO.out]; exact okl_no k hkl hz)
            rw [hz] at C3
            clear hz
            generalize Sp.c0 L k = x at *
            generalize Sp.c1 L k = y at *
            go_wp2_with fail
            refine (C3.out _).mono ?_
            rintro e w3 ⟨rfl, hb3⟩
            have B3 : Hid (Below w.heap.size w w3) := BB.out.trans (hb3.mono zr)
            clear hb3
            go_wp2_with fail
            go_ret
            exact ⟨by rw [HF.out]; rfl, B3.out⟩
          · have OK2 : Hid (∀ j, j < k + 1 → okp (Sp.c0 L j) (Sp.c1 L j) = true) := fun j hj => by
              by_cases e : j = k
              · rw [e]; exact hz
              · exact OK.out j (by omega)
            rw [hz] at C3
            clear hz
            generalize Sp.c0 L k = x at *
            generalize Sp.c1 L k = y at *
            go_wp2_with fail
            refine (C3.out _).mono ?_
            rintro e w3 ⟨rfl, hb3⟩
            have B3 : Hid (Below w.heap.size w w3) := BB.out.trans (hb3.mono zr)
            clear hb3
            go_wp2_with fail
            go_roundw
            case rel => exact ⟨k + 1, by omega, by go_num, B3, OK2⟩
            case measure => simp [intOf]; omega
        · have HT : Hid (bo = true) := (by
            show _ = _
            rw [← HO.out]
            exact okl_yes fun i hi => OK.out i (by have := HN.out; omega))
          go_wp2_with fail
          go_ret
          exact ⟨by rw [HT.out]; rfl, BB.out⟩
    
    · have e : inn n 3 40 = false := by simp [inn]; omega
      rw [e]
      go_enter Try.func10, Try.ntmps10
      go_wp2_with fail
      go_ret
      exact ⟨rfl, Below.refl _ _⟩
  · have e : inn n 3 40 = false := by simp [inn]; omega
    rw [e]
    go_enter Try.func10, Try.ntmps10
    go_wp2_with fail
    go_ret
    exact ⟨rfl, Below.refl _ _⟩

end Go.Proofs.Ytcifmncimpeanaa.In
