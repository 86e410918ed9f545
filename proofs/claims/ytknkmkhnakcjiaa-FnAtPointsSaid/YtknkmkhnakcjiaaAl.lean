/- The law of values at points. -/
import Derived.Test.YtknkmkhnakcjiaaDt
import Derived.Test.YtknkmkhnakcjiaaAp
import Derived.Test.YtknkmkhnakcjiaaAtQ
import Derived.BigRegion
namespace Go.Proofs.Ytknkmkhnakcjiaa.Gd
open Go.ChangeShapes Go.WideShapes Go.ChangeAt Go.RowKit
open Go.Proofs.Ytknkmkhnakcjiaa.Rd Go.Proofs.Ytknkmkhnakcjiaa.Flt Go.Proofs.Ytknkmkhnakcjiaa.Fls
theorem end_eq (x yb : Nat) (hk : key (cn yb) = key (cn x)) (hr : rng (cn yb) = rng (cn x)) : (ord x yb == some .eq) = true ∨ ((ord x yb == some .eq) = false ∧ (ord x x == some .eq) = false ∧ (ord yb yb == some .eq) = false) := by
  cases hx : nan x
  · rw [cn_num hx] at hk hr
    have rx : rng x ≤ 9218868437227405312 := by unfold nan at hx; simpa using hx
    have hy : nan yb = false := by
      cases h : nan yb
      · rfl
      · rw [cn_nan h] at hr
        have : ¬ rng qn ≤ 9218868437227405312 := by decide +kernel
        omega
    rw [cn_num hy] at hk hr
    left
    rw [show ord x yb = some (compare (key x) (key yb)) from order_key x yb rx (by omega), c_eq hk.symm]
    rfl
  · rw [cn_nan hx] at hr
    have hy : nan yb = true := by
      cases h : nan yb
      · rw [cn_num h] at hr
        have ry : rng yb ≤ 9218868437227405312 := by unfold nan at h; simpa using h
        have : ¬ rng qn ≤ 9218868437227405312 := by decide +kernel
        omega
      · rfl
    have nx : 9218868437227405312 < rng x := by unfold nan at hx; simpa using hx
    have ny : 9218868437227405312 < rng yb := by unfold nan at hy; simpa using hy
    right
    refine ⟨?_, ?_, ?_⟩
    · rw [show ord x yb = none from order_nan x yb (.inl nx)]; rfl
    · rw [show ord x x = none from order_nan x x (.inl nx)]; rfl
    · rw [show ord yb yb = none from order_nan yb yb (.inl ny)]; rfl
/-- the place of a corner -/
def ixn (c i j : Int) (m : Nat) : Nat := ((i + ((m / 2 : Nat) : Int)) * c + j + ((m % 2 : Nat) : Int)).toNat
theorem ix_at {r c i j : Int} (hc : 2 ≤ c ∧ c ≤ 64) (hi0 : 0 ≤ i) (hi1 : i ≤ r - 2) (hj0 : 0 ≤ j) (hj1 : j ≤ c - 2) (m : Nat) (hm : m < 4) :
    (i + ((m / 2 : Nat) : Int)) * c + j + ((m % 2 : Nat) : Int) = (ixn c i j m : Int) ∧ (ixn c i j m : Int) < r * c ∧ 0 ≤ (i + ((m / 2 : Nat) : Int)) * c := by
  have h0 : 0 ≤ (i + ((m / 2 : Nat) : Int)) * c := Int.mul_nonneg (by omega) (by omega)
  have h1 : (i + ((m / 2 : Nat) : Int)) * c ≤ (r - 1) * c := Int.mul_le_mul_of_nonneg_right (by omega) (by omega)
  rw [Int.sub_mul, Int.one_mul] at h1
  unfold ixn
  refine ⟨?_, ?_, h0⟩ <;> omega
/-- not too great a corner -/
def Cor (z : Nat) : Prop := kn z = true → rng z ≤ 9094988921128908188
theorem cor_of {z : Nat} (h1 : (ord z 9094988921128908188 == some .gt) = false) (h2 : (ord z 18318360957983683996 == some .lt) = false) : Cor z := by
  intro hk
  unfold kn at hk
  have rz := of_decide_eq_true hk
  have a1 : key 9094988921128908188 = 9094988921128908188 := by decide +kernel
  have a2 : key 18318360957983683996 = -9094988921128908188 := by decide +kernel
  have b1 : rng 9094988921128908188 ≤ 9218868437227405312 := by decide +kernel
  have b2 : rng 18318360957983683996 ≤ 9218868437227405312 := by decide +kernel
  rw [show ord z 9094988921128908188 = some (compare (key z) (key 9094988921128908188)) from order_key _ _ (by omega) b1, a1] at h1
  rw [show ord z 18318360957983683996 = some (compare (key z) (key 18318360957983683996)) from order_key _ _ (by omega) b2, a2] at h2
  have c1 : ¬ key z > 9094988921128908188 := fun h => by rw [c_gt h] at h1; cases h1
  have c2 : ¬ key z < -9094988921128908188 := fun h => by rw [c_lt h] at h2; cases h2
  have := rng_key z
  omega

set_option maxRecDepth 20000 in
set_option maxHeartbeats 2000000 in
theorem atLaw (a : Option Addr) (len cap : Nat) (a2 : Option Addr) (len2 cap2 : Nat) (w : World) (hc : Go.Proofs.Ytknkmkhnakcjiaa.Rd.Code w a len cap) (hn : len < 9223372036854775808) (hn2 : len2 < 9223372036854775808) : Calls Try.prog 3 #[.slice a len cap, .slice a2 len2 cap2] w fun e w' => e = .returned (.bool true) ∧ Below w.heap.size w w' := by
  by_cases hl : 1048576 < len
  · have C : Hid (Calls Try.prog 4 #[.slice a len cap] w fun e w' => e = .returned (.bool true) ∧ w' = w) := Rd.big_yes a len cap w hl hn
    clear hc
    go_enter Try.func3, Try.ntmps3
    go_wp2_with fail
    refine C.out.mono ?_
    rintro e w1 ⟨rfl, hw⟩
    subst hw
    go_wp2_with fail
    go_ret
    exact ⟨rfl, Below.refl _ _⟩
  have C : Hid (Calls Try.prog 4 #[.slice a len cap] w fun e w' => e = .returned (.bool false) ∧ w' = w) := Rd.big_no a len cap w (by omega)
  have D : Hid (Calls Try.prog 5 #[.slice a len cap] w fun e w' => ∃ x0 x1 x2 x3 x4 : Int, ∃ v M, ∃ lat lon : Int, e = .returned (.tuple #[gv x0 x1 x2 x3 x4, v, .int .i64 lat, .int .i64 lon]) ∧ Gq x0 x1 x2 x3 x4 ∧ Fls.Reads w' v M ∧ (∀ z ∈ M, z < 18446744073709551616) ∧ M.length ≤ 25 ∧ Below w.heap.size w w') := drawat_any a len cap w hc (by omega)
  clear hc
  by_cases hl2 : 1048576 < len2
  · have C2 : Hid (Calls Try.prog 4 #[.slice a2 len2 cap2] w fun e w' => e = .returned (.bool true) ∧ w' = w) := Rd.big_yes a2 len2 cap2 w hl2 hn2
    clear D
    go_enter Try.func3, Try.ntmps3
    go_wp2_with fail
    refine C.out.mono ?_
    rintro e w1 ⟨rfl, hw⟩
    subst hw
    go_wp2_with fail
    refine C2.out.mono ?_
    rintro e w2 ⟨rfl, hw⟩
    subst hw
    go_wp2_with fail
    go_ret
    exact ⟨rfl, Below.refl _ _⟩
  have C2 : Hid (Calls Try.prog 4 #[.slice a2 len2 cap2] w fun e w' => e = .returned (.bool false) ∧ w' = w) := Rd.big_no a2 len2 cap2 w (by omega)
  go_enter Try.func3, Try.ntmps3
  go_wp2_with fail
  refine C.out.mono ?_
  rintro e w1 ⟨rfl, hw⟩
  have hw' := hw.symm
  subst hw'
  clear hw
  go_wp2_with fail
  refine C2.out.mono ?_
  rintro e w1 ⟨rfl, hw⟩
  have hw' := hw.symm
  subst hw'
  clear hw
  go_wp2_with fail
  refine D.out.mono ?_
  rintro e w1 ⟨r, c, s, ws, st, v, M, lat, lon, rfl, _, rM, hM, _, b1⟩
  clear C C2 D
  obtain ⟨bx, hbx⟩ : ∃ b, b = w1.heap.size := ⟨_, rfl⟩
  have HBX : Hid (bx = w1.heap.size) := hbx
  obtain ⟨w2, hw2⟩ : ∃ w2, w2 = w1.alloc (.cells #[.int .i64 r, .int .i64 c, .int .i64 s, .int .i64 ws, .int .i64 st] 25) := ⟨_, rfl⟩
  have HW2 : Hid (w2 = w1.alloc (.cells #[.int .i64 r, .int .i64 c, .int .i64 s, .int .i64 ws, .int .i64 st] 25)) := hw2
  have G2 : Hid (GB w2 bx r c s ws st) := (by show GB _ _ _ _ _ _ _; rw [hw2, hbx]; exact GB.new w1 r c s ws st)
  have B2 : Hid (Below w.heap.size w w2) := (by show Below _ _ _; rw [hw2]; exact b1.alloc b1.size _)
  have RM2 : Fls.Reads w2 v M := rM.on (by rw [hw2]; exact (Below.refl _ _).alloc (Nat.le_refl _) _)
  have HM : Hid (∀ z ∈ M, z < 18446744073709551616) := hM
  have GR : Hid (Calls Try.prog 6 #[gv r c s ws st] w2 fun e w' => e = .returned (.bool (gok r c s ws st)) ∧ Below w2.heap.size w2 w') := sgrid_any r c s ws st w2
  obtain ⟨va, vc, hv⟩ := rM.form
  subst hv
  clear rM b1 hw2 hbx hM
  obtain ⟨n, hnm⟩ : ∃ n, n = M.length := ⟨_, rfl⟩
  have HN : Hid (n = M.length) := hnm
  rw [← hnm] at RM2 ⊢
  clear hnm
  go_upto_region 4 with fail
  rw [← HW2.out, ← HBX.out]
  clear HW2
  obtain ⟨c0, c1, c2, c3, c4, cf⟩ := G2.out.cells
  clear cf
  go_wp2_with fail
  clear c0 c1 c2 c3 c4
  refine GR.out.mono ?_
  rintro e w3 ⟨rfl, b3⟩
  have G3 : Hid (GB w3 bx r c s ws st) := G2.out.on b3 G2.out.lt
  have B3 : Hid (Below w.heap.size w w3) := B2.out.trans (b3.mono B2.out.size)
  have RM : Hid (Fls.Reads w3 (.slice va n vc) M) := RM2.on b3
  clear b3 RM2 G2 B2 GR
  cases hg : gok r c s ws st
  · go_wp2_with fail
    go_ret
    exact ⟨rfl, B3.out⟩
  obtain ⟨q0, q1, q2, q3, q4⟩ := gok_parts hg
  obtain ⟨pr0, pr1⟩ := prod_le2 q0 q1
  have ep : IntKind.i64.wrap (r * c) = r * c := IntWalk.i64_in _ (by omega)
  obtain ⟨c0, c1, c2, c3, c4, cf⟩ := G3.out.cells
  clear cf
  by_cases hne' : ¬ ((n : Int) = r * c)
  · have hnb : ((n : Int) != r * c) = true := by simpa using hne'
    go_wp2_with fail
    go_ret
    exact ⟨rfl, B3.out⟩
  have hne : (n : Int) = r * c := by simpa using hne'
  have hnb : ((n : Int) != r * c) = false := by simpa using hne
  clear hne'
  have HG : Hid (gok r c s ws st = true) := hg
  clear hg
  -- i and j
  have er : IntKind.i64.wrap (r - 1) = r - 1 := IntWalk.i64_in _ (by omega)
  have ec : IntKind.i64.wrap (c - 1) = c - 1 := IntWalk.i64_in _ (by omega)
  have r1 : r - 1 ≠ 0 := by omega
  have c11 : c - 1 ≠ 0 := by omega
  have r2 : ((r - 1) == 0) = false := by simpa using r1
  have c22 : ((c - 1) == 0) = false := by simpa using c11
  obtain ⟨i, hi, hi0, hi1⟩ : ∃ i : Int, (len2 : Int).tmod (r - 1) = i ∧ 0 ≤ i ∧ i ≤ r - 2 := by
    refine ⟨_, rfl, ?_, ?_⟩
    · exact Int.tmod_nonneg _ (by omega)
    · have := Int.tmod_lt_of_pos (len2 : Int) (show 0 < r - 1 by omega); omega
  obtain ⟨l7, hl7, hl70⟩ : ∃ l : Int, (len2 : Int).tdiv 7 = l ∧ 0 ≤ l := ⟨_, rfl, Int.tdiv_nonneg (by omega) (by omega)⟩
  obtain ⟨j, hj, hj0, hj1⟩ : ∃ j : Int, l7.tmod (c - 1) = j ∧ 0 ≤ j ∧ j ≤ c - 2 := by
    refine ⟨_, rfl, ?_, ?_⟩
    · exact Int.tmod_nonneg _ hl70
    · have := Int.tmod_lt_of_pos l7 (show 0 < c - 1 by omega); omega
  have el7 : IntKind.i64.wrap l7 = l7 := by
    have : l7 ≤ len2 := by rw [← hl7, Int.tdiv_eq_ediv_of_nonneg (by omega)]; omega
    exact IntWalk.i64_in _ (by omega)
  have ei : IntKind.i64.wrap i = i := IntWalk.i64_in _ (by omega)
  have ej : IntKind.i64.wrap j = j := IntWalk.i64_in _ (by omega)
  go_wp2_with fail
  have HM0 : Hid (∀ t : Nat, t < n → ∃ b o, va = some ⟨b, o, none⟩ ∧ w3.cell? ⟨b, o + t, none⟩ = some (.float .f64 (M.getD t 0))) := fun t ht => (by
    rw [HN.out] at ht
    rcases RM.out with ⟨e, _⟩ | ⟨b, o, cp, e, _, _, _, y⟩
    · rw [e] at ht; simp at ht
    · simp at e; exact ⟨b, o, e.1, y t ht⟩)
  clear hi hj hl7 hl70 el7 er ec r1 c11 r2 c22 ei ej hnb ep
  go_loopw [11] (fun q wr => ∃ k : Nat, k ≤ 4 ∧ q = .int .i64 k ∧ wr = w3 ∧ Hid (∀ m, m < k → Cor (M.getD (ixn c i j m) 0))) (fun q _ => 4 - (intOf q).toNat)
  case atStart => exact ⟨0, by omega, rfl, rfl, fun m hm => by omega⟩
  case round =>
    obtain ⟨k, hk, rfl, hw, CK⟩ := hrel
    subst hw
    by_cases hlt : k < 4
    · obtain ⟨t1, t2, t3⟩ := ix_at q1 hi0 hi1 hj0 hj1 k hlt
      obtain ⟨h, l, hh, hl', h0, l0⟩ : ∃ h l : Int, h = ((k / 2 : Nat) : Int) ∧ l = ((k % 2 : Nat) : Int) ∧ (0 ≤ h ∧ h ≤ 1) ∧ (0 ≤ l ∧ l ≤ 1) := ⟨_, _, rfl, rfl, by omega, by omega⟩
      have eh : (k : Int).tdiv 2 = h := by rw [Int.tdiv_eq_ediv_of_nonneg (by omega), hh]; omega
      have el : (k : Int).tmod 2 = l := by rw [Int.tmod_eq_emod_of_nonneg (by omega), hl']; omega
      rw [← hh, ← hl'] at t1
      rw [← hh] at t3
      have CN : Hid (Cor (M.getD (ixn c i j k) 0) → ∀ m, m < k + 1 → Cor (M.getD (ixn c i j m) 0)) := fun cz m hm => (by
        by_cases e : m = k
        · subst e; exact cz
        · exact CK.out m (by omega))
      generalize ixn c i j k = t at *
      have tn : t < n := by omega
      obtain ⟨b, o, rfl, qz⟩ := HM0.out t tn
      generalize M.getD t 0 = z at *
      have w1' : IntKind.i64.wrap h = h := IntWalk.i64_in _ (by omega)
      have w2' : IntKind.i64.wrap l = l := IntWalk.i64_in _ (by omega)
      have w3' : IntKind.i64.wrap (i + h) = i + h := IntWalk.i64_in _ (by omega)
      have w4' : IntKind.i64.wrap ((i + h) * c) = (i + h) * c := IntWalk.i64_in _ (by omega)
      have w5' : IntKind.i64.wrap ((i + h) * c + j) = (i + h) * c + j := IntWalk.i64_in _ (by omega)
      have w6' : IntKind.i64.wrap ((i + h) * c + j + l) = (t : Int) := by rw [t1]; exact IntWalk.i64_in _ (by omega)
      have i0 : (0 : Int) ≤ (t : Int) := by omega
      have i1 : (t : Int) < (n : Int) := by omega
      have k4 : (k : Int) < 4 := by omega
      clear t1 t2 t3 hh hl' CK
      cases g1 : (ord z 9094988921128908188 == some .gt)
      · cases g2 : (ord z 18318360957983683996 == some .lt)
        · have CZ : Hid (∀ m, m < k + 1 → Cor (M.getD (ixn c i j m) 0)) := CN.out (cor_of g1 g2)
          clear CN
          go_wp2_with fail
          go_roundw
          case rel => exact ⟨k + 1, by omega, by go_num, trivial, CZ⟩
          case measure => simp [intOf]; omega
        · clear CN
          go_wp2_with fail
          go_ret
          exact ⟨rfl, B3.out⟩
      · clear CN
        go_wp2_with fail
        go_ret
        exact ⟨rfl, B3.out⟩
    · have hk4 : k = 4 := by omega
      subst hk4
      obtain ⟨t1, t2, t3⟩ := ix_at q1 hi0 hi1 hj0 hj1 0 (by omega)
      have m1 : (i + 1) * c = i * c + c := by rw [Int.add_mul, Int.one_mul]
      have x0e : ixn c i j 0 = (i * c + j).toNat := by simp [ixn]
      have x1e : ixn c i j 1 = (i * c + j + 1).toNat := by simp [ixn]
      have x2e : ixn c i j 2 = (i * c + j + c).toNat := by simp [ixn, m1]; omega
      have x3e : ixn c i j 3 = (i * c + j + c + 1).toNat := by simp [ixn, m1]; omega
      have hv : ∀ m, m < 4 → kn (M.getD (ixn c i j m) 0) = true → val (rng (M.getD (ixn c i j m) 0)) ≤ val 9094988921128908188 := fun m hm hk => val_mono (CK.out m hm hk)
      have v0 := hv 0 (by omega)
      have v1 := hv 1 (by omega)
      have v2 := hv 2 (by omega)
      have v3 := hv 3 (by omega)
      rw [x0e] at v0
      rw [x1e] at v1
      rw [x2e] at v2
      rw [x3e] at v3
      have AP := at_point c st i j M q2 v0 v1 v2 v3
      rw [← x0e] at AP
      have t1' : i * c + j = (ixn c i j 0 : Int) := by simpa using t1
      have t3' : 0 ≤ i * c := by simpa using t3
      have is0 : 0 ≤ i * st := Int.mul_nonneg hi0 (by omega)
      have is1 : i * st ≤ (r - 1) * st := Int.mul_le_mul_of_nonneg_right (by omega) (by omega)
      have is2 : (r - 1) * st ≤ 63 * 3000 := Int.mul_le_mul (by omega) (by omega) (by omega) (by omega)
      have js0 : 0 ≤ j * st := Int.mul_nonneg hj0 (by omega)
      have js1 : j * st ≤ (c - 1) * st := Int.mul_le_mul_of_nonneg_right (by omega) (by omega)
      have js2 : (c - 1) * st ≤ 63 * 3000 := Int.mul_le_mul (by omega) (by omega) (by omega) (by omega)
      have hok : okAt r c s ws st M.length (s + i * st) (ws + j * st) = true := by
        unfold okAt right
        rw [HG.out, ← HN.out]
        simp only [Bool.true_and, Bool.and_eq_true, decide_eq_true_eq, inn_iff]
        omega
      have IA := iat_in r c s ws st M (.slice va n vc) (s + i * st) (ws + j * st) wr RM.out HM.out hok
      have el1 : s + i * st - s = i * st := by omega
      have el2 : ws + j * st - ws = j * st := by omega
      rw [el1, el2, cell_at (by omega) hi1, cell_at (by omega) hj1, Int.sub_self, Int.sub_self] at IA
      have HIA : Hid (Calls Try.prog 7 #[gv r c s ws st, .slice va n vc, .int .i64 (s + i * st), .int .i64 (ws + j * st)] wr fun e w' => ∃ x, e = .returned (.float .f64 x) ∧ cn x = atIn c st i j 0 0 M ∧ Below wr.heap.size wr w') := IA
      have EE : Hid (∀ yb : Nat, cn yb = atIn c st i j 0 0 M → (ord (M.getD (ixn c i j 0) 0) yb == some .eq) = true ∨ ((ord (M.getD (ixn c i j 0) 0) yb == some .eq) = false ∧ (ord (M.getD (ixn c i j 0) 0) (M.getD (ixn c i j 0) 0) == some .eq) = false ∧ (ord yb yb == some .eq) = false)) := fun yb hy => end_eq _ yb (by rw [hy]; exact AP.1) (by rw [hy]; exact AP.2)
      clear AP IA v0 v1 v2 v3 x0e x1e x2e x3e CK hv hok el1 el2 t1 t3 m1
      generalize ixn c i j 0 = t at *
      have tn : t < n := by omega
      obtain ⟨b, o, rfl, qz⟩ := HM0.out t tn
      generalize M.getD t 0 = z at *
      have e1 : IntKind.i64.wrap (i * c) = i * c := IntWalk.i64_in _ (by omega)
      have e2 : IntKind.i64.wrap (i * c + j) = (t : Int) := by rw [t1']; exact IntWalk.i64_in _ (by omega)
      have e3 : IntKind.i64.wrap (i * st) = i * st := IntWalk.i64_in _ (by omega)
      have e4 : IntKind.i64.wrap (s + i * st) = s + i * st := IntWalk.i64_in _ (by omega)
      have e5 : IntKind.i64.wrap (j * st) = j * st := IntWalk.i64_in _ (by omega)
      have e6 : IntKind.i64.wrap (ws + j * st) = ws + j * st := IntWalk.i64_in _ (by omega)
      have i0 : (0 : Int) ≤ (t : Int) := by omega
      have i1 : (t : Int) < (n : Int) := by omega
      go_wp2_with fail
      refine HIA.out.mono ?_
      rintro e w4 ⟨yb, rfl, hy, b4⟩
      have B4 : Hid (Below w.heap.size w w4) := B3.out.trans (b4.mono B3.out.size)
      have en := EE.out yb hy
      clear EE HIA hy b4
      rcases en with g | ⟨g1, g2, g3⟩
      · go_wp2_with fail
        go_ret
        exact ⟨rfl, B4.out⟩
      · have g2' : (ord z z != some .eq) = true := by simp only [bne, g2]; rfl
        have g3' : (ord yb yb != some .eq) = true := by simp only [bne, g3]; rfl
        go_wp2_with fail
        go_ret
        exact ⟨rfl, B4.out⟩
end Go.Proofs.Ytknkmkhnakcjiaa.Gd
