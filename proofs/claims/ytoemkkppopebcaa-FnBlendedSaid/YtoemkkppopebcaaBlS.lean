/- Blend: the model. -/
import Derived.Test.YtoemkkppopebcaaBlJ
namespace Go.Proofs.Ytoemkkppopebcaa.Bl
open Go.ChangeShapes Go.WideShapes Go.ChangeAt Go.RowKit
open Go.Proofs.Ytoemkkppopebcaa.Lists Go.Proofs.Ytoemkkppopebcaa.Al Go.Proofs.Ytoemkkppopebcaa.Su

theorem nums_own (V : List Int) (lo hi : Int) : nums V V.length lo hi = V.all (fun d => inn d lo hi) := by unfold nums; simp

set_option maxHeartbeats 1000000 in
theorem sblend_no (V S : List Int) (v s : Value) (w : World) (hV : Lists.Reads w v V) (hS : Lists.Reads w s S) (lV : V.length < 9223372036854775808) (lS : S.length < 9223372036854775808) (h : okB V S = false) :
    Calls Try.prog 6 #[v, s] w fun e w' => e = .returned (.tuple #[.int .i64 0, .int .i64 0]) ∧ ∃ m, w' = w.drewN m := by
  have FV := hV.form
  have FS := hS.form
  obtain ⟨av, cv, rfl⟩ := FV
  obtain ⟨sa, cs, rfl⟩ := FS
  have C2 : Hid (Calls Try.prog 11 #[.slice av V.length cv, .int .i64 (V.length : Int), .int .i64 (-100000), .int .i64 100000] w fun e w' => e = .returned (.bool (V.all (fun d => inn d (-100000) 100000))) ∧ ∃ m, w' = w.drewN m) := by rw [← nums_own]; exact sall_any V _ _ _ _ w hV lV
  have C3 : Hid (∀ m, Calls Try.prog 11 #[.slice sa S.length cs, .int .i64 (V.length : Int), .int .i64 1, .int .i64 100] (w.drewN m) fun e w' => e = .returned (.bool (nums S V.length 1 100)) ∧ ∃ m', w' = (w.drewN m).drewN m') := fun m => sall_any S _ _ _ _ _ (hS.on (below_drewN (Below.refl _ _) m)) lS
  unfold okB at h
  clear hV hS
  generalize V.all (fun d => inn d (-100000) 100000) = b2 at *
  generalize hb3 : nums S V.length 1 100 = b3 at *
  clear hb3
  generalize V.length = n at *
  generalize S.length = n' at *
  unfold inn at h
  by_cases h1 : (n : Int) < 1
  · go_enter Try.func6, Try.ntmps6
    go_wp2_with fail
    exact bodyPost_ret (v := .tuple #[.int .i64 0, .int .i64 0]) (by simp [results, Try.results6, go_sem]) rfl ⟨rfl, 0, rfl⟩
  · by_cases h5 : (5 : Int) < (n : Int)
    · go_enter Try.func6, Try.ntmps6
      go_wp2_with fail
      exact bodyPost_ret (v := .tuple #[.int .i64 0, .int .i64 0]) (by simp [results, Try.results6, go_sem]) rfl ⟨rfl, 0, rfl⟩
    · have h' : (b2 && b3) = false := by
        rw [decide_eq_true (by omega : (1 : Int) ≤ n), decide_eq_true (by omega : (n : Int) ≤ 5)] at h
        exact h
      clear h
      cases b2
      · go_enter Try.func6, Try.ntmps6
        go_wp2_with fail
        refine C2.out.mono ?_
        rintro e w1 ⟨rfl, m1, rfl⟩
        go_wp2_with fail
        exact bodyPost_ret (v := .tuple #[.int .i64 0, .int .i64 0]) (by simp [results, Try.results6, go_sem]) rfl ⟨rfl, _, rfl⟩
      · cases b3
        · go_enter Try.func6, Try.ntmps6
          go_wp2_with fail
          refine C2.out.mono ?_
          rintro e w1 ⟨rfl, m1, rfl⟩
          go_wp2_with fail
          refine (C3.out m1).mono ?_
          rintro e w2 ⟨rfl, m2, rfl⟩
          go_wp2_with fail
          exact bodyPost_ret (v := .tuple #[.int .i64 0, .int .i64 0]) (by simp [results, Try.results6, go_sem]) rfl ⟨rfl, m1 + m2, by simp⟩
        · cases h'

set_option maxHeartbeats 1000000 in
theorem sblend_yes (V S : List Int) (v s : Value) (w : World) (hV : Lists.Reads w v V) (hS : Lists.Reads w s S) (h : okB V S = true) :
    Calls Try.prog 6 #[v, s] w fun e w' => e = .returned (.tuple #[.int .i64 ((top V S).tdiv (gc V S)), .int .i64 ((low V S).tdiv (gc V S))]) ∧ ∃ m, w' = w.drewN m := by
  have O := ok_of h
  obtain ⟨bv, ov, hcv, hvv⟩ := reads_at hV
  obtain ⟨bs, os, hcs, hvs⟩ := reads_at hS
  have o1 := O.n1
  have o5 := O.n5
  have oS := O.nS
  obtain ⟨bvl, cv, rfl⟩ := hvv (by omega)
  obtain ⟨bsl, cs, rfl⟩ := hvs (by omega)
  obtain ⟨n, hn⟩ : ∃ n, n = V.length := ⟨_, rfl⟩
  rw [← hn] at o1 o5 oS
  unfold okB at h
  rw [Bool.and_eq_true, Bool.and_eq_true] at h
  obtain ⟨e1, e2, e3⟩ := h
  have C2 : Hid (Calls Try.prog 11 #[.slice (some ⟨bv, ov, none⟩) n cv, .int .i64 (n : Int), .int .i64 (-100000), .int .i64 100000] w fun e w' => e = .returned (.bool true) ∧ ∃ m, w' = w.drewN m) := by rw [← e2, ← nums_own]; have := sall_any V V.length (-100000) 100000 _ w hV (by omega); rw [← hn] at this ⊢; exact this
  have C3 : Hid (∀ m, Calls Try.prog 11 #[.slice (some ⟨bs, os, none⟩) n cs, .int .i64 (n : Int), .int .i64 1, .int .i64 100] (w.drewN m) fun e w' => e = .returned (.bool true) ∧ ∃ m', w' = (w.drewN m).drewN m') := fun m => by rw [← e3, ← hn]; have := sall_any S n 1 100 _ _ (hS.on (below_drewN (Below.refl _ _) m)) (by omega); rw [oS] at this; exact this
  have HO : Hid (Ok V S) := O
  have HCV : Hid (∀ i, i < n → ∀ m, (w.drewN m).cell? ⟨bv, ov + i, none⟩ = some (.int .i64 (V.getD i 0))) := fun i hi m => hcv i (by omega)
  have HCS : Hid (∀ i, i < n → ∀ m, (w.drewN m).cell? ⟨bs, os + i, none⟩ = some (.int .i64 (S.getD i 0))) := fun i hi m => hcs i (by omega)
  have HN : Hid (n = V.length ∧ S.length = n) := ⟨hn, oS⟩
  have t1 : top V S = sm n fun i => V.getD i 0 * mm S i := by unfold top; rw [← hn]
  have t2 : low V S = sm n fun i => mm S i := by unfold low; rw [← hn]
  have T12 : Hid (top V S = (sm n fun i => V.getD i 0 * mm S i) ∧ low V S = sm n fun i => mm S i) := ⟨t1, t2⟩
  rw [oS, ← hn]
  have j1 : ¬ (n : Int) < 1 := by omega
  have j5 : ¬ (5 : Int) < (n : Int) := by omega
  clear hV hS hcv hcs e1 e2 e3 bvl bsl O oS hn t1 t2
  go_enter Try.func6, Try.ntmps6
  go_wp2_with fail
  refine C2.out.mono ?_
  rintro e w1 ⟨rfl, m1, rfl⟩
  go_wp2_with fail
  refine (C3.out m1).mono ?_
  rintro e w2 ⟨rfl, m2, rfl⟩
  go_wp2_with fail
  go_loopw [7, 8, 9] (fun a b i wr => ∃ k : Nat, k ≤ n ∧ i = .int .i64 k ∧ a = .int .i64 (sm k fun i => V.getD i 0 * mm S i) ∧ b = .int .i64 (sm k fun i => mm S i) ∧ ∃ m, wr = w.drewN m) (fun _ _ i _ => n - (intOf i).toNat)
  case atStart => exact ⟨0, Nat.zero_le _, rfl, rfl, rfl, m1 + m2, by simp⟩
  case round =>
    obtain ⟨k, hk, rfl, rfl, rfl, m, rfl⟩ := hrel
    by_cases hlt : k < n
    · have qv := HCV.out k hlt
      have oo := HN.out
      have mb := HO.out.mms k
      have tb := HO.out.terms k (by omega)
      have s1 := HO.out.tops k (by omega)
      have s2 := HO.out.lows k (by omega)
      have E1 : Hid ((sm (k + 1) fun i => V.getD i 0 * mm S i) = (sm k fun i => V.getD i 0 * mm S i) + V.getD k 0 * mm S k) := rfl
      have E2 : Hid ((sm (k + 1) fun i => mm S i) = (sm k fun i => mm S i) + mm S k) := rfl
      have EM : Hid (mm S k = pd n (but k fun j => S.getD j 0)) := by show _ = _; unfold mm; rw [oo.2]
      have i2 : (k : Int) < (n : Int) := by omega
      have i1 : (0 : Int) ≤ (k : Int) := by omega
      generalize (sm k fun i => V.getD i 0 * mm S i) = s at *
      generalize (sm k fun i => mm S i) = u at *
      generalize hM : mm S k = M at *
      have HM : Hid (mm S k = M) := hM
      generalize V.getD k 0 = x at *
      clear oo hM
      go_wp2_with fail
      go_loopw [10, 11] (fun p j wr => ∃ i : Nat, i ≤ n ∧ j = .int .i64 i ∧ p = .int .i64 (pd i (but k fun j => S.getD j 0)) ∧ ∃ m, wr = w.drewN m) (fun _ j _ => n - (intOf j).toNat)
      case atStart => exact ⟨0, Nat.zero_le _, rfl, rfl, _, rfl⟩
      case round =>
        obtain ⟨i, hi, rfl, rfl, m', rfl⟩ := hrel
        by_cases hit : i < n
        · have qs := HCS.out i hit
          have oo := HN.out
          have pb := HO.out.mb k (i + 1) (by omega)
          have E3 : Hid (pd (i + 1) (but k fun j => S.getD j 0) = pd i (but k fun j => S.getD j 0) * but k (fun j => S.getD j 0) i) := rfl
          have e3 : pd (i + 1) (but k fun j => S.getD j 0) = pd i (but k fun j => S.getD j 0) * but k (fun j => S.getD j 0) i := rfl
          rw [e3] at pb
          have p1 : (0 : Int) ≤ (i : Int) := by omega
          have p2 : (i : Int) < (n : Int) := by omega
          clear e3 oo
          by_cases hik : i = k
          · have hb : Hid (but k (fun j => S.getD j 0) i = 1) := (by show _ = _; unfold but; rw [if_pos hik])
            have c1 : ((i : Int) != (k : Int)) = false := by simp; omega
            clear pb
            generalize pd i (but k fun j => S.getD j 0) = P at *
            go_wp2_with fail
            go_roundw
            case rel => exact ⟨i + 1, by omega, by go_num, by rw [E3.out, hb.out, Int.mul_one], _, rfl⟩
            case measure => simp [intOf]; omega
          · have hb : but k (fun j => S.getD j 0) i = S.getD i 0 := by unfold but; rw [if_neg hik]
            rw [hb] at pb E3
            have c1 : ((i : Int) != (k : Int)) = true := by simp; omega
            clear hb
            generalize pd i (but k fun j => S.getD j 0) = P at *
            generalize S.getD i 0 = y at *
            go_wp2_with fail
            go_roundw
            case rel => exact ⟨i + 1, by omega, by go_num, by rw [E3.out], _, rfl⟩
            case measure => simp [intOf]; omega
        · have hin : i = n := by omega
          subst hin
          rw [← EM.out]
          go_wp2_with fail
          go_roundw
          case rel => exact ⟨k + 1, by omega, by go_num, by rw [E1.out], by rw [E2.out], _, rfl⟩
          case measure => simp [intOf]; omega
    · have hkn : k = n := by omega
      subst hkn
      have oo := HN.out
      have g1 := HO.out.tops k (by omega)
      have g2 := HO.out.lows k (by omega)
      have g3 := HO.out.gpos
      rw [← T12.out.1] at g1 ⊢
      rw [← T12.out.2] at g2 ⊢
      have A : Hid (aab (top V S) = if top V S ≤ - top V S then - top V S else top V S) := rfl
      have a3 : (gc V S == 0) = false := by simp; omega
      have a4 : ¬ gc V S = 0 := by omega
      have a5 : IntKind.i64.wrap ((top V S).tdiv (gc V S)) = (top V S).tdiv (gc V S) := IntWalk.i64_in _ (by
        have := Int.natAbs_tdiv_le_natAbs (top V S) (gc V S)
        omega)
      have a6 : IntKind.i64.wrap ((low V S).tdiv (gc V S)) = (low V S).tdiv (gc V S) := IntWalk.i64_in _ (by
        have := Int.natAbs_tdiv_le_natAbs (low V S) (gc V S)
        omega)
      have GG : Hid (((aab (top V S)).gcd (low V S) : Int) = gc V S) := rfl
      clear T12 oo
      generalize hT : top V S = t at *
      generalize hU : low V S = u at *
      generalize hG : gc V S = g at *
      have HT : Hid (top V S = t ∧ low V S = u ∧ gc V S = g) := ⟨hT, hU, hG⟩
      clear hT hU hG
      by_cases hm : - t ≤ t
      · have A2 : aab t = t := by rw [A.out]; split <;> omega
        rw [A2] at GG
        clear A A2
        go_wp2_with fail
        go_loopw [12, 13] (fun x y wr => ∃ p q : Int, x = .int .i64 p ∧ y = .int .i64 q ∧ 0 ≤ p ∧ p < 9223372036854775808 ∧ 0 ≤ q ∧ q < 9223372036854775808 ∧ Hid ((p.gcd q : Int) = g) ∧ ∃ m, wr = w.drewN m) (fun _ y _ => (intOf y).toNat)
        case atStart => exact ⟨t, u, rfl, rfl, by omega, by omega, by omega, by omega, GG, _, rfl⟩
        case round =>
          obtain ⟨p, q, rfl, rfl, hp, hp', hq, hq', HP, m, rfl⟩ := hrel
          by_cases hz : q = 0
          · subst hz
            have e1 : p = g := by
              rw [← HP.out, Int.gcd_zero_right]
              omega
            subst e1
            clear HP
            go_wp2_with fail
            go_region
            go_wp2_with fail
            exact bodyPost_ret (v := .tuple #[.int .i64 (t.tdiv p), .int .i64 (u.tdiv p)]) (by simp [results, Try.results6, go_sem]) rfl ⟨by rw [HT.out.1, HT.out.2.1, HT.out.2.2], m + 1, rfl⟩
          · obtain ⟨s1, s2, s3⟩ := gcd_step hp (by omega : 0 < q)
            rw [Int.tmod_eq_emod_of_nonneg hp] at s1 s2 s3
            have S3 : Hid ((q.gcd (p % q) : Int) = g) := (by show _ = _; rw [s3]; exact HP.out)
            have i3 : (q == 0) = false := by simp; omega
            have i4 : (0 : Int) < q := by omega
            have i5 : IntKind.i64.wrap (p % q) = p % q := IntWalk.i64_in _ (by omega)
            have S4 : Hid (0 ≤ p % q ∧ p % q < q) := ⟨s1, s2⟩
            clear s3 s1 s2
            go_wp2_with fail
            go_region
            go_wp2_with fail
            go_roundw
            case rel => exact ⟨q, p % q, rfl, rfl, hq, hq', S4.out.1, Int.lt_trans S4.out.2 hq', S3, m + 1, rfl⟩
            case measure => exact (by have := S4.out; show (p % q).toNat < q.toNat; omega)
      · have A2 : aab t = - t := by rw [A.out]; split <;> omega
        rw [A2] at GG
        clear A A2
        go_wp2_with fail
        go_loopw [12, 13] (fun x y wr => ∃ p q : Int, x = .int .i64 p ∧ y = .int .i64 q ∧ 0 ≤ p ∧ p < 9223372036854775808 ∧ 0 ≤ q ∧ q < 9223372036854775808 ∧ Hid ((p.gcd q : Int) = g) ∧ ∃ m, wr = w.drewN m) (fun _ y _ => (intOf y).toNat)
        case atStart => exact ⟨- t, u, rfl, rfl, by omega, by omega, by omega, by omega, GG, _, rfl⟩
        case round =>
          obtain ⟨p, q, rfl, rfl, hp, hp', hq, hq', HP, m, rfl⟩ := hrel
          by_cases hz : q = 0
          · subst hz
            have e1 : p = g := by
              rw [← HP.out, Int.gcd_zero_right]
              omega
            subst e1
            clear HP
            go_wp2_with fail
            go_region
            go_wp2_with fail
            exact bodyPost_ret (v := .tuple #[.int .i64 (t.tdiv p), .int .i64 (u.tdiv p)]) (by simp [results, Try.results6, go_sem]) rfl ⟨by rw [HT.out.1, HT.out.2.1, HT.out.2.2], m + 1, rfl⟩
          · obtain ⟨s1, s2, s3⟩ := gcd_step hp (by omega : 0 < q)
            rw [Int.tmod_eq_emod_of_nonneg hp] at s1 s2 s3
            have S3 : Hid ((q.gcd (p % q) : Int) = g) := (by show _ = _; rw [s3]; exact HP.out)
            have i3 : (q == 0) = false := by simp; omega
            have i4 : (0 : Int) < q := by omega
            have i5 : IntKind.i64.wrap (p % q) = p % q := IntWalk.i64_in _ (by omega)
            have S4 : Hid (0 ≤ p % q ∧ p % q < q) := ⟨s1, s2⟩
            clear s3 s1 s2
            go_wp2_with fail
            go_region
            go_wp2_with fail
            go_roundw
            case rel => exact ⟨q, p % q, rfl, rfl, hq, hq', S4.out.1, Int.lt_trans S4.out.2 hq', S3, m + 1, rfl⟩
            case measure => exact (by have := S4.out; show (p % q).toNat < q.toNat; omega)
end Go.Proofs.Ytoemkkppopebcaa.Bl
