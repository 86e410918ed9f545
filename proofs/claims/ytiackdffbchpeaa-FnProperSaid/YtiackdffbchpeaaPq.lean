/- No number told for all events scores better than their share: the law walked. -/
import Derived.Test.YtiackdffbchpeaaPp
import Derived.Deep.DeepCutAuto
namespace Go.Proofs.Ytiackdffbchpeaa.Pp
open Go.ChangeShapes Go.WideShapes Go.ChangeAt Go.RowKit
open Go.Proofs.Ytiackdffbchpeaa.Al Go.Proofs.Ytiackdffbchpeaa.Su Go.Proofs.Ytiackdffbchpeaa.Br

def tb (r : Nat) : Nat := [1, 2, 4, 5, 10, 20, 25, 50, 100].getD r 1
theorem tb_bd (r : Nat) (h : r < 9) : 1 ≤ tb r ∧ tb r ≤ 100 ∧ 100 % tb r = 0 := by
  match r, h with
  | 0, _ | 1, _ | 2, _ | 3, _ | 4, _ | 5, _ | 6, _ | 7, _ | 8, _ => decide
theorem share {n h : Nat} (hn : 1 ≤ n) (hd : 100 % n = 0) (hh : h ≤ n) : ∃ b : Nat, 100 * h / n = b ∧ (n : Int) * (b : Int) = 100 * (h : Int) ∧ b ≤ 100 := by
  obtain ⟨c, hc⟩ := Nat.dvd_of_mod_eq_zero hd
  refine ⟨c * h, ?_, ?_, ?_⟩
  · rw [hc, Nat.mul_assoc]
    exact Nat.mul_div_cancel_left _ (by omega)
  · have e : (100 : Int) = (n : Int) * (c : Int) := by exact_mod_cast hc
    rw [e, Int.natCast_mul, Int.mul_assoc]
  · have : n * (c * h) ≤ n * (c * n) := Nat.mul_le_mul_left n (Nat.mul_le_mul_left c hh)
    have e2 : n * (c * n) = 100 * n := by rw [← Nat.mul_assoc, ← hc]
    rw [e2, Nat.mul_comm 100 n] at this
    exact Nat.le_of_mul_le_mul_left this (by omega)
theorem Try.infoE : (Try.prog.info? 27).map (fun i => (i.zero, i.size, i.bytes)) = some (some (.agg #[.int .i64 0, .bool false]), 2, 16) := by kernel_rfl
theorem one_two (x : Int) (y : Bool) : ∀ u ∈ [Value.int .i64 x, Value.bool y], u.oneCell' = true := by intro u hu; simp at hu; rcases hu with rfl | rfl <;> rfl

set_option maxHeartbeats 1000000 in
theorem big_any (a : Option Addr) (len cap : Nat) (w : World) : Calls Try.prog 4 #[.slice a len cap] w fun e w' => e = .returned (.bool (decide ((1048576 : Int) < (len : Int)))) ∧ w' = w := by
  go_enter Try.func4, Try.ntmps4
  go_wp2_with fail
  go_ret
  exact ⟨rfl, rfl⟩

set_option maxHeartbeats 2000000 in
theorem properLaw (a a' : Option Addr) (len len' cap cap' : Nat) (w : World) : Calls Try.prog 3 #[.slice a len cap, .slice a' len' cap'] w fun e w' => e = .returned (.bool true) ∧ Below w.heap.size w w' := by
  have C1 : Hid (Calls Try.prog 4 #[.slice a len cap] w fun e w' => e = .returned (.bool (decide ((1048576 : Int) < (len : Int)))) ∧ w' = w) := big_any a len cap w
  have C2 : Hid (Calls Try.prog 4 #[.slice a' len' cap'] w fun e w' => e = .returned (.bool (decide ((1048576 : Int) < (len' : Int)))) ∧ w' = w) := big_any a' len' cap' w
  by_cases g1 : (1048576 : Int) < (len : Int)
  · rw [decide_eq_true g1] at C1
    go_enter Try.func3, Try.ntmps3
    go_wp2_with fail
    refine C1.out.mono ?_
    rintro e w1 ⟨rfl, hw⟩
    subst hw
    go_wp2_with fail
    go_ret
    exact ⟨rfl, Below.refl _ _⟩
  by_cases g2 : (1048576 : Int) < (len' : Int)
  · rw [decide_eq_false g1] at C1
    rw [decide_eq_true g2] at C2
    go_enter Try.func3, Try.ntmps3
    go_wp2_with fail
    refine C1.out.mono ?_
    rintro e w1 ⟨rfl, hw⟩
    subst hw
    go_wp2_with fail
    refine C2.out.mono ?_
    rintro e w1 ⟨rfl, hw⟩
    subst hw
    go_wp2_with fail
    go_ret
    exact ⟨rfl, Below.refl _ _⟩
  rw [decide_eq_false g1] at C1
  rw [decide_eq_false g2] at C2
  obtain ⟨r, hr⟩ : ∃ r : Nat, r = len % 9 := ⟨_, rfl⟩
  have r9 : r < 9 := by omega
  have T1 := tb_bd r r9
  obtain ⟨n, hn⟩ : ∃ n : Nat, n = tb r := ⟨_, rfl⟩
  rw [← hn] at T1
  obtain ⟨h, hh⟩ : ∃ h : Nat, h = len' % (n + 1) := ⟨_, rfl⟩
  have hle : h ≤ n := by have := Nat.mod_lt len' (show n + 1 > 0 by omega); omega
  obtain ⟨b, hb, hnb, hb100⟩ := share T1.1 T1.2.2 hle
  have PR : Hid (∀ q : Int, bsum (mx h 0 b 0 n) n ≤ bsum (mx h 0 q 0 n) n ∧ (bsum (mx h 0 q 0 n) n = bsum (mx h 0 b 0 n) n → q = b)) := fun q => proper hle T1.1 hnb
  have LN : Hid (0 ≤ bsum (mx h 0 b 0 n) n) := (by
    show _ ≤ _
    have k := bsum_bd (L := mx h 0 b 0 n) ((okT_iff _).mp (mx_ok h b n (by omega) (by omega))).2 (by rw [mx_len]; omega) n (by rw [mx_len]; exact Nat.le_refl _)
    exact k.1)
  have IB : Hid (∀ q : Int, 0 ≤ q ∧ q ≤ 100 → ∀ w v, Pb.Reads w v (mx h 0 q 0 n) → Calls Try.prog 5 #[v] w fun e w' => e = .returned (.int .i64 (bsum (mx h 0 q 0 n) n)) ∧ Below w.heap.size w w') := fun q hq w v hr => by
    have := ibrier_any (mx h 0 q 0 n) v w hr
    unfold bri at this
    rw [mx_ok h q n hq (by omega), if_pos rfl, mx_len] at this
    exact this
  have SB : Hid (∀ w v, Pb.Reads w v (mx h 0 b 0 n) → Calls Try.prog 6 #[v] w fun e w' => e = .returned (.int .i64 (bsum (mx h 0 b 0 n) n)) ∧ Below w.heap.size w w') := fun w v hr => by
    have := sbrier_any (mx h 0 b 0 n) v w hr
    unfold bri at this
    rw [mx_ok h b n (by omega) (by omega), if_pos rfl, mx_len] at this
    exact this
  have t1 : (len : Int).tmod 9 = (r : Int) := by rw [Int.tmod_eq_emod_of_nonneg (by omega)]; omega
  have t2 : (len' : Int).tmod ((n : Int) + 1) = (h : Int) := by rw [Int.tmod_eq_emod_of_nonneg (by omega), hh]; exact_mod_cast rfl
  have t3 : (100 * (h : Int)).tdiv (n : Int) = (b : Int) := by rw [Int.tdiv_eq_ediv_of_nonneg (by omega), ← hb]; exact_mod_cast rfl
  have u1 : (0 : Int) ≤ (r : Int) := by omega
  have u2 : (r : Int) < 9 := by omega
  have u3 : ((n : Int) + 1 == 0) = false := by simp; omega
  have u4 : ((n : Int) == 0) = false := by simp; omega
  have u5 : ¬ (n : Int) + 1 = 0 := by omega
  have u6 : ¬ (n : Int) = 0 := by omega
  have n1 := T1.1
  have n2 := T1.2.1
  obtain ⟨W, hW⟩ : ∃ W, W = w.alloc (Obj.cells #[.int .i64 1, .int .i64 2, .int .i64 4, .int .i64 5, .int .i64 10, .int .i64 20, .int .i64 25, .int .i64 50, .int .i64 100] 3) := ⟨_, rfl⟩
  have HW : Hid (W = w.alloc (Obj.cells #[.int .i64 1, .int .i64 2, .int .i64 4, .int .i64 5, .int .i64 10, .int .i64 20, .int .i64 25, .int .i64 50, .int .i64 100] 3)) := hW
  have q0 : (w.alloc (Obj.cells #[.int .i64 1, .int .i64 2, .int .i64 4, .int .i64 5, .int .i64 10, .int .i64 20, .int .i64 25, .int .i64 50, .int .i64 100] 3)).cell? ⟨w.heap.size, r, none⟩ = some (.int .i64 (n : Int)) := by
    rw [hn]
    match r, r9 with
    | 0, _ | 1, _ | 2, _ | 3, _ | 4, _ | 5, _ | 6, _ | 7, _ | 8, _ => simp [go_sem, tb]
  clear hr hn hh hb hnb T1
  have z1 : w.heap.size ≤ W.heap.size := by rw [hW]; simp
  have R0 : Hid (Pb.Row (W.alloc (Obj.cells #[] 27)) w.heap.size (.slice (some ⟨W.heap.size, 0, none⟩) 0 0) (mx h 0 b 0 0)) := ⟨[], World.ownsRow_lit W #[] 0 z1 (Nat.zero_le _) rfl, fun i hi => absurd hi (by rw [mx_len]; omega)⟩
  have B0 : Hid (Below w.heap.size w (W.alloc (Obj.cells #[] 27))) := (by
    show Below _ _ _
    refine Below.alloc ?_ z1 _
    rw [hW]
    exact (Below.refl _ _).alloc (Nat.le_refl _) _)
  have zW : W.heap.size = w.heap.size + 1 := by rw [hW]; simp
  rw [zW] at R0
  clear hW zW z1
  obtain ⟨i0, hi, hz0, hz1, hz2⟩ := info_parts Try.infoE
  go_enter Try.func3, Try.ntmps3
  go_wp2_with fail
  refine C1.out.mono ?_
  rintro e w1 ⟨rfl, hw⟩
  have hw' := hw.symm
  subst hw'
  go_wp2_with fail
  refine C2.out.mono ?_
  rintro e w1 ⟨rfl, hw⟩
  have hw' := hw.symm
  subst hw'
  clear hw
  go_upto_region 8 with fail
  rw [← HW.out]
  clear q0 t1 t2 t3 u1 u2 u3 u4 u5 u6 r9 g1 g2 C1 C2
  go_loopw [8, 9] (fun v i wr => ∃ k : Nat, k ≤ n ∧ i = .int .i64 k ∧ Hid (Pb.Row wr w.heap.size v (mx h 0 b 0 k)) ∧ Hid (Below w.heap.size w wr)) (fun _ i _ => n - (intOf i).toNat)
  case atStart => exact ⟨0, Nat.zero_le _, rfl, R0, B0⟩
  case round =>
    obtain ⟨k, hk, rfl, R, BB⟩ := hrel
    obtain ⟨sa, sc, hv⟩ := R.out.form
    rw [mx_len] at hv
    subst hv
    by_cases hlt : k < n
    · have i2 : (k : Int) < (n : Int) := by omega
      obtain ⟨xs, O, G⟩ := R.out
      rw [mx_len] at O G
      have O' : Hid (wr.ownsRow w.heap.size 27 2 (.slice sa k sc) k xs) := O
      have G' : Hid (Pb.Good xs (mx h 0 b 0 k) (mx h 0 b 0 k).length) := (by rw [mx_len]; exact G)
      have HK : Hid ((mx h 0 b 0 k).length = k) := mx_len _ _ _ _ _
      have KN : Hid (mx h 0 b 0 (k + 1) = mx h 0 b 0 k ++ [((b : Int), decide (k < h))]) := mx_snoc h b k
      have zr := BB.out.size
      clear O G R
      by_cases hkh : k < h
      · have j1 : (k : Int) < (h : Int) := by omega
        rw [decide_eq_true hkh] at KN
        go_wp2_with (at_builtin; refine wpList_append_own _ rfl _ _ 25 rfl w.heap.size 27 i0 (.agg #[.int .i64 0, .bool false]) 2 16 Try.underlying25 hi hz0 hz1 hz2 rfl (by decide) _ _ _ rfl (O'.out.alloc _) ⟨wr.heap.size, 0, none⟩ 1 1 [.int .i64 (b : Int), .bool true] rfl rfl (Pb.cell_news wr _ _ 27) (one_two _ _) (by unfold maxLen; omega) (by omega) (by simp; omega) ?_)
        · intro v' w2 hown hgrow _
          have R2 : Hid (Pb.Row w2 w.heap.size v' (mx h 0 b 0 (k + 1))) := (by
            show Pb.Row _ _ _ _
            rw [KN.out]
            exact ⟨_, by simpa [HK.out] using hown, Pb.good_snoc G'.out (by rw [HK.out]; exact O'.out.1)⟩)
          have B2 : Hid (Below w.heap.size w w2) := (BB.out.alloc BB.out.size _).grown hgrow (by simp; omega) (fun b hb => (O'.out.lt b hb).1)
          clear hown hgrow O' G' BB
          go_wp2_with fail
          go_roundw
          case rel => exact ⟨k + 1, by omega, by go_num, R2, B2⟩
          case measure => simp [intOf]; omega
      · have j1 : ¬ (k : Int) < (h : Int) := by omega
        rw [decide_eq_false hkh] at KN
        go_wp2_with (at_builtin; refine wpList_append_own _ rfl _ _ 25 rfl w.heap.size 27 i0 (.agg #[.int .i64 0, .bool false]) 2 16 Try.underlying25 hi hz0 hz1 hz2 rfl (by decide) _ _ _ rfl (O'.out.alloc _) ⟨wr.heap.size, 0, none⟩ 1 1 [.int .i64 (b : Int), .bool false] rfl rfl (Pb.cell_news wr _ _ 27) (one_two _ _) (by unfold maxLen; omega) (by omega) (by simp; omega) ?_)
        · intro v' w2 hown hgrow _
          have R2 : Hid (Pb.Row w2 w.heap.size v' (mx h 0 b 0 (k + 1))) := (by
            show Pb.Row _ _ _ _
            rw [KN.out]
            exact ⟨_, by simpa [HK.out] using hown, Pb.good_snoc G'.out (by rw [HK.out]; exact O'.out.1)⟩)
          have B2 : Hid (Below w.heap.size w w2) := (BB.out.alloc BB.out.size _).grown hgrow (by simp; omega) (fun b hb => (O'.out.lt b hb).1)
          clear hown hgrow O' G' BB
          go_wp2_with fail
          go_roundw
          case rel => exact ⟨k + 1, by omega, by go_num, R2, B2⟩
          case measure => simp [intOf]; omega
    · have hkn : k = n := by omega
      subst hkn
      obtain ⟨xs0, O0, _⟩ := R.out
      rw [mx_len] at O0
      rcases Pb.row_cases O0 with ⟨e0, _⟩ | ⟨gg, cc, ev, gb, _, _, _⟩
      · omega
      simp at ev
      obtain ⟨e1, e2⟩ := ev
      subst e1 e2
      have GB : Hid (w.heap.size ≤ gg) := gb
      clear O0 gb
      have b2 : (0 : Int) ≤ (b : Int) ∧ (b : Int) ≤ 100 := by omega
      have K1 : Hid (Calls Try.prog 5 #[.slice (some ⟨gg, 0, none⟩) k sc] wr fun e w' => e = .returned (.int .i64 (bsum (mx h 0 b 0 k) k)) ∧ Below wr.heap.size wr w') := IB.out b b2 wr _ R.out.reads
      go_wp2_with fail
      refine K1.out.mono ?_
      rintro e w2 ⟨rfl, hb2⟩
      have B2 : Hid (Below w.heap.size w w2) := BB.out.trans (hb2.mono BB.out.size)
      have R2 : Hid (Pb.Row w2 w.heap.size (.slice (some ⟨gg, 0, none⟩) k sc) (mx h 0 b 0 k)) := R.out.on hb2
      clear hb2 K1 R BB
      have K2 : Hid (Calls Try.prog 6 #[.slice (some ⟨gg, 0, none⟩) k sc] w2 fun e w' => e = .returned (.int .i64 (bsum (mx h 0 b 0 k) k)) ∧ Below w2.heap.size w2 w') := SB.out w2 _ R2.out.reads
      have hii : ∀ b : Int, (b != b) = false := fun b => by simp
      have ln := LN.out
      have ln2 : ¬ bsum (mx h 0 b 0 k) k < 0 := by omega
      go_wp2_with fail
      refine K2.out.mono ?_
      rintro e w3 ⟨rfl, hb3⟩
      have B3 : Hid (Below w.heap.size w w3) := B2.out.trans (hb3.mono B2.out.size)
      have R3 : Hid (∃ q : Int, Pb.Row w3 w.heap.size (.slice (some ⟨gg, 0, none⟩) k sc) (mx h 0 q 0 k)) := ⟨b, R2.out.on hb3⟩
      clear hb3 K2 R2 B2
      generalize hls : bsum (mx h 0 b 0 k) k = ls at *
      have HLS : Hid (bsum (mx h 0 b 0 k) k = ls) := hls
      clear hls
      go_wp2_with fail
      go_loopw [11] (fun i wr => ∃ p : Nat, p ≤ 101 ∧ i = .int .i64 p ∧ Hid (∃ q : Int, Pb.Row wr w.heap.size (.slice (some ⟨gg, 0, none⟩) k sc) (mx h 0 q 0 k)) ∧ Hid (Below w.heap.size w wr)) (fun i _ => 101 - (intOf i).toNat)
      case atStart => exact ⟨0, Nat.zero_le _, rfl, R3, B3⟩
      case round =>
        obtain ⟨p, hp, rfl, R, BB⟩ := hrel
        by_cases hlp : p < 101
        · have j1 : (p : Int) ≤ 100 := by omega
          obtain ⟨q, RQ⟩ := R.out
          obtain ⟨xs, O, G⟩ := RQ
          rw [mx_len] at O G
          have R4 : Hid (∃ xs, wr.ownsRow w.heap.size 27 2 (.slice (some ⟨gg, 0, none⟩) k sc) k xs ∧ Pb.Good xs (mx h (p : Int) q 0 k) k) := ⟨xs, O, by rw [mx_none h (p : Int) 0 q k]; exact G⟩
          clear O G R
          go_wp2_with fail
          go_loopw [12] (fun i wr => ∃ j : Nat, j ≤ k ∧ i = .int .i64 j ∧ Hid (∃ xs, wr.ownsRow w.heap.size 27 2 (.slice (some ⟨gg, 0, none⟩) k sc) k xs ∧ Pb.Good xs (mx h (p : Int) q j k) k) ∧ Hid (Below w.heap.size w wr)) (fun i _ => k - (intOf i).toNat)
          case atStart => exact ⟨0, Nat.zero_le _, rfl, R4, BB⟩
          case round =>
            obtain ⟨j, hj, rfl, R, BI⟩ := hrel
            by_cases hlj : j < k
            · have i1 : (0 : Int) ≤ (j : Int) := by omega
              have i2 : (j : Int) < (k : Int) := by omega
              obtain ⟨xs, O, G⟩ := R.out
              have lx : xs.length = k * 2 := O.1
              obtain ⟨z, pz⟩ : ∃ z, wr.cell? ⟨gg, j * 2, none⟩ = some z := ⟨xs[j * 2]'(by omega), by rw [O.cellAt (j * 2) (by omega)]; exact List.getElem?_eq_getElem _⟩
              have f0 : wr.frozen? ⟨gg, j * 2, none⟩ = false := O.frozenAt _
              have RN : Hid (∃ xs, (wr.setCell ⟨gg, j * 2, none⟩ (.int .i64 (p : Int))).ownsRow w.heap.size 27 2 (.slice (some ⟨gg, 0, none⟩) k sc) k xs ∧ Pb.Good xs (mx h (p : Int) q (j + 1) k) k) := ⟨_, (O.stored (j * 2) _).1, mx_good G lx hlj⟩
              have BN : Hid (Below w.heap.size w (wr.setCell ⟨gg, j * 2, none⟩ (.int .i64 (p : Int)))) := BI.out.setCell (p := ⟨gg, j * 2, none⟩) GB.out _
              clear R O G lx
              go_wp2_with fail
              go_roundw
              case rel => exact ⟨j + 1, by omega, by go_num, RN, BN⟩
              case measure => simp [intOf]; omega
            · have hjk : j = k := by omega
              subst hjk
              have RE : Hid (Pb.Row wr w.heap.size (.slice (some ⟨gg, 0, none⟩) j sc) (mx h 0 (p : Int) 0 j)) := (by
                show Pb.Row _ _ _ _
                unfold Pb.Row
                rw [mx_len, ← mx_full h (p : Int) q j]
                exact R.out)
              have K3 : Hid (Calls Try.prog 5 #[.slice (some ⟨gg, 0, none⟩) j sc] wr fun e w' => e = .returned (.int .i64 (bsum (mx h 0 (p : Int) 0 j) j)) ∧ Below wr.heap.size wr w') := IB.out (p : Int) (by omega) wr _ RE.out.reads
              have PP := PR.out (p : Int)
              generalize bsum (mx h 0 (p : Int) 0 j) j = bp at *
              have l1 : ¬ bp < ls := by omega
              clear R
              go_wp2_with fail
              refine K3.out.mono ?_
              rintro e w5 ⟨rfl, hb5⟩
              have B5 : Hid (Below w.heap.size w w5) := BI.out.trans (hb5.mono BI.out.size)
              have R5 : Hid (∃ q : Int, Pb.Row w5 w.heap.size (.slice (some ⟨gg, 0, none⟩) j sc) (mx h 0 q 0 j)) := ⟨(p : Int), RE.out.on hb5⟩
              clear hb5 K3 RE
              by_cases he : bp = ls
              · have e1 : (bp == ls) = true := by simpa using he
                have e2 : ((p : Int) != (b : Int)) = false := by have := PP.2 he; simp; omega
                clear he PP
                go_wp2_with fail
                go_roundw
                case rel => exact ⟨p + 1, by omega, by go_num, R5, B5⟩
                case measure => simp [intOf]; omega
              · have e1 : (bp == ls) = false := by simpa using he
                clear he PP
                go_wp2_with fail
                go_roundw
                case rel => exact ⟨p + 1, by omega, by go_num, R5, B5⟩
                case measure => simp [intOf]; omega
        · have hpn : p = 101 := by omega
          subst hpn
          go_wp2_with fail
          go_ret
          exact ⟨rfl, BB.out⟩
end Go.Proofs.Ytiackdffbchpeaa.Pp
