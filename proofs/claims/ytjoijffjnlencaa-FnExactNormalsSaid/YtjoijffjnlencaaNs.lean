/- Normals: the model. -/
import Derived.Test.YtjoijffjnlencaaNi
namespace Go.Proofs.Ytjoijffjnlencaa.No
open Go.ChangeShapes Go.WideShapes Go.ChangeAt Go.RowKit
open Go.Proofs.Ytjoijffjnlencaa.Lists Go.Proofs.Ytjoijffjnlencaa.Al Go.Proofs.Ytjoijffjnlencaa.Su Go.Proofs.Ytjoijffjnlencaa.Se Go.Proofs.Ytjoijffjnlencaa.Ll

theorem ints_snoc (L : List Int) (x : Int) : ints (L ++ [x]) = ints L ++ [.int .i64 x] := by simp [ints]
theorem cell_one (w : World) (v0 : Value) (t : TypeId) : ∀ j u, [v0][j]? = some u → (w.alloc (Obj.cells #[v0] t)).cell? ((⟨w.heap.size, 0, none⟩ : Addr).add j) = some u := by
  intro j u hj
  match j, hj with
  | 0, hj => simp at hj; subst hj; simp [Addr.add]
theorem one_one (x : Int) : ∀ u ∈ [Value.int .i64 x], u.oneCell' = true := by intro u hu; simp at hu; subst hu; rfl
def np (L : Ls) (k : Nat) : List Int := (List.range k).map (nl L)
theorem np_succ (L : Ls) (k : Nat) : np L (k + 1) = np L k ++ [nl L k] := by simp [np, List.range_succ]
theorem np_len (L : Ls) (k : Nat) : (np L k).length = k := by simp [np]
theorem fn_full (L : Ls) (m : Nat) : fn (nl L) m m = np L m := by
  unfold fn np
  apply List.map_congr_left
  intro i hi
  rw [if_pos (List.mem_range.1 hi)]
theorem tdiv_near (s n : Int) (hn : 0 < n) : s.tdiv n = s / n ∨ s.tdiv n = s / n + 1 := by
  by_cases h : 0 ≤ s
  · exact Or.inl (Int.tdiv_eq_ediv_of_nonneg h)
  · have e : s.tdiv n = -((-s) / n) := by
      rw [← Int.tdiv_eq_ediv_of_nonneg (show 0 ≤ -s by omega), Int.neg_tdiv]; omega
    have a1 := Int.mul_ediv_add_emod (-s) n
    have a2 := Int.emod_nonneg (-s) (show n ≠ 0 by omega)
    have a3 := Int.emod_lt_of_pos (-s) hn
    generalize (-s) / n = p at *
    generalize (-s) % n = q at *
    have b1 : s / n < -p + 1 := Int.ediv_lt_of_lt_mul hn (by rw [Int.add_mul, Int.neg_mul, Int.mul_comm p]; omega)
    have b2 : -p - 1 ≤ s / n := Int.le_ediv_of_mul_le hn (by rw [Int.sub_mul, Int.neg_mul, Int.mul_comm p]; omega)
    omega
set_option maxRecDepth 20000 in
set_option maxHeartbeats 4000000 in
theorem snorm_yes (L : Ls) (v : Value) (w : World) (hL : Ll.Reads w v L) (hok : okY L = true) :
    Calls Try.prog 5 #[v] w fun e w' => ∃ u0, e = .returned (.tuple #[u0, .bool true]) ∧ w'.ownsRow w.heap.size 2 1 u0 (cl L 0).length (ints (np L (cl L 0).length)) ∧ Below w.heap.size w w' := by
  obtain ⟨i0, hi, hz0, hz1, hz2⟩ := info_parts Lists.Try.info2
  obtain ⟨l1, l2, hz⟩ := okY_parts hok
  obtain ⟨m1, m2, _⟩ := okS_parts (hz 0 (by omega)).1
  obtain ⟨W, hW⟩ : ∃ W, W = w.alloc (Obj.cells #[] 2) := ⟨_, rfl⟩
  have HW : Hid (W = w.alloc (Obj.cells #[] 2)) := hW
  have B0 : Below w.heap.size w W := (by rw [hW]; exact (Below.refl _ _).alloc (Nat.le_refl _) _)
  have HB : Hid (Below w.heap.size w W) := B0
  have RW : Hid (W.ownsRow w.heap.size 2 1 (.slice (some ⟨w.heap.size, 0, none⟩) 0 0) 0 []) := (by rw [hW]; exact World.ownsRow_lit w #[] 0 (Nat.le_refl _) (Nat.zero_le _) rfl)
  have HZ : Hid (∀ i, i < L.length → okS (cl L i) = true ∧ (cl L i).length = (cl L 0).length) := hz
  have HBD : Hid (∀ k c, c ≤ L.length → k < (cl L 0).length → -10000000 ≤ cs L k c ∧ cs L k c ≤ 10000000) := fun k c hc hk => cs_bd hok k c hc hk
  have NPS : Hid (∀ k, np L (k + 1) = np L k ++ [nl L k]) := fun k => np_succ L k
  have NLD : Hid (∀ k, nl L k = nv (cs L k L.length) L.length) := fun k => rfl
  obtain ⟨b, o, hc, hv⟩ := Ll.reads_at hL
  obtain ⟨bl, cap, ev⟩ := hv (by omega)
  subst ev
  have HC : Hid (∀ i wr, i < L.length → Below w.heap.size w wr → ∃ ua uc, wr.cell? ⟨b, o + i, none⟩ = some (.slice ua (cl L 0).length uc) ∧ Lists.Reads wr (.slice ua (cl L 0).length uc) (cl L i)) := fun i wr hi hb => by
    obtain ⟨u, hu, hr⟩ := hc i hi
    have hr' := hr.on hb
    obtain ⟨ua, uc, rfl⟩ := hr.form
    have e := (hz i hi).2
    rw [e] at hu hr'
    exact ⟨ua, uc, (hb.cell (p := ⟨b, o + i, none⟩) bl).trans hu, hr'⟩
  have HI : Hid (∀ i k wr, i < L.length → k < (cl L 0).length → Below w.heap.size w wr → ∃ b2 o2 c2, wr.cell? ⟨b, o + i, none⟩ = some (.slice (some ⟨b2, o2, none⟩) (cl L 0).length c2) ∧ wr.cell? ⟨b2, o2 + k, none⟩ = some (.int .i64 ((cl L i).getD k 0))) := fun i k wr hi hk hb => by
    obtain ⟨ua, uc, x1, x2⟩ := HC.out i wr hi hb
    obtain ⟨b2, o2, y1, y2⟩ := Al.reads_at x2
    obtain ⟨_, c2, e⟩ := y2 (by rw [(hz i hi).2]; omega)
    simp at e
    obtain ⟨rfl, _⟩ := e
    exact ⟨b2, o2, uc, x1, y1 k (by rw [(hz i hi).2]; exact hk)⟩
  obtain ⟨n, hn⟩ : ∃ n, n = L.length := ⟨_, rfl⟩
  rw [← hn] at l1 l2 HZ HBD NLD HC HI ⊢
  obtain ⟨m, hm⟩ : ∃ m, m = (cl L 0).length := ⟨_, rfl⟩
  rw [← hm] at m1 m2 HZ HBD HC HI ⊢
  have HLN : Hid (∀ i, i < n → (cl L i).length = m) := fun i hi => (HZ.out i hi).2
  clear hL hW B0 hc hv hz hok hn hm
  have j0 : (0 : Int) < (n : Int) := by omega
  have j1 : ¬ (n : Int) < 1 := by omega
  have j2 : ¬ (100 : Int) < (n : Int) := by omega
  have j3 : ¬ (n : Int) = 0 := by omega
  have j4 : ((n : Int) == 0) = false := by rw [beq_eq_false_iff_ne]; omega
  go_enter Try.func5, Try.ntmps5
  go_wp2_with fail
  rw [← HW.out]
  go_loopw [5] (fun i wr => ∃ k : Nat, k ≤ n ∧ i = .int .i64 k ∧ Hid (∃ q, wr = W.drewN q)) (fun i _ => n - (intOf i).toNat)
  case atStart => exact ⟨0, by omega, rfl, ⟨0, rfl⟩⟩
  case round =>
    obtain ⟨k, hk, rfl, HQ⟩ := hrel
    by_cases hlt : k < n
    · have i0 : (0 : Int) ≤ (k : Int) := by omega
      have i1 : (k : Int) < (n : Int) := by omega
      obtain ⟨q, hq⟩ := HQ.out
      have BQ : Below w.heap.size w wr := by rw [hq]; exact below_drewN HB.out q
      obtain ⟨ua, uc, x1, x2⟩ := HC.out k wr hlt BQ
      obtain ⟨va, vc, y1, _⟩ := HC.out 0 wr (by omega) BQ
      rw [Nat.add_zero] at y1
      have C : Hid (∀ q, Calls Try.prog 14 #[.slice ua m uc] (wr.drewN q) fun e w' => e = .returned (.bool true) ∧ ∃ p, w' = (wr.drewN q).drewN p) := fun q => by
        have := sok_any (cl L k) (.slice ua m uc) (wr.drewN q) x2 (by rw [HLN.out k hlt]; omega)
        rw [(HZ.out k hlt).1] at this
        exact this
      have HE : Hid (∀ p, ∃ q, wr.drewN p = W.drewN q) := fun p => ⟨q + p, by rw [hq, World.drewN_drewN]⟩
      clear x2 hq BQ HQ
      go_wp2_with fail
      go_quiet ((go_at_call 14; exact Calls.quiet_of (C.out _)))
      go_wp2_with fail
      go_roundw
      case rel => exact ⟨k + 1, by omega, by go_num, HE.out nq⟩
      case measure => simp [intOf]; omega
    · have hkn : k = n := by omega
      subst hkn
      obtain ⟨q, hq⟩ := HQ.out
      have B1 : Hid (Below w.heap.size w wr) := (by rw [hq]; exact below_drewN HB.out q)
      have R1 : Hid (wr.ownsRow w.heap.size 2 1 (.slice (some ⟨w.heap.size, 0, none⟩) 0 0) 0 (ints (np L 0))) := (by rw [hq]; exact RW.out)
      clear hq HQ RW HB HW
      go_wp2_with fail
      go_loopw [4, 7] (fun u i wr => ∃ (j : Nat) (v' : Value), j ≤ m ∧ i = .int .i64 j ∧ u = v' ∧ Hid (wr.ownsRow w.heap.size 2 1 v' j (ints (np L j))) ∧ Hid (Below w.heap.size w wr)) (fun _ i _ => m - (intOf i).toNat)
      case atStart => exact ⟨0, _, by omega, rfl, rfl, R1, B1⟩
      case round =>
        obtain ⟨n, hn⟩ : ∃ n, n = k := ⟨_, rfl⟩
        subst hn
        obtain ⟨k, v', hk', rfl, hu4, RR, BR⟩ := hrel
        have hu5 := hu4.symm
        subst hu5
        clear hu4
        obtain ⟨y0, y1, y2, z1, z2⟩ : ∃ ua uc, ∃ z : wr.cell? ⟨b, o, none⟩ = some (.slice ua m uc), True ∧ True := by
          obtain ⟨ua, uc, h, _⟩ := HC.out 0 wr (by omega) BR.out
          rw [Nat.add_zero] at h
          exact ⟨ua, uc, h, trivial, trivial⟩
        have zr := BR.out.size
        by_cases hlt2 : k < m
        · have e1 : (0 : Int) ≤ (k : Int) := by omega
          have e2 : (k : Int) < (m : Int) := by omega
          obtain ⟨sa, sc, hsv⟩ : ∃ a c, v' = .slice a k c := by
            have := Lists.reads_row (L := np L k) (by rw [np_len]; exact RR.out)
            obtain ⟨a, c, e⟩ := this.form
            rw [np_len] at e
            exact ⟨a, c, e⟩
          subst hsv
          go_wp2_with fail
          go_loop [8, 9] (fun s i => ∃ c : Nat, c ≤ n ∧ i = .int .i64 c ∧ s = .int .i64 (cs L k c)) (fun _ i => n - (intOf i).toNat)
          case atStart => exact ⟨0, by omega, rfl, rfl⟩
          case round =>
            obtain ⟨c, hc, rfl, rfl⟩ := hrel
            by_cases hlt3 : c < n
            · obtain ⟨b2, o2, c2, x1, x2⟩ := HI.out c k wr hlt3 hlt2 BR.out
              have f1 : (0 : Int) ≤ (c : Int) := by omega
              have f2 : (c : Int) < (n : Int) := by omega
              have ES : Hid (cs L k (c + 1) = cs L k c + (cl L c).getD k 0) := rfl
              have bd := HBD.out k (c + 1) (by omega) hlt2
              rw [ES.out] at bd
              generalize cs L k c = t at *
              generalize (cl L c).getD k 0 = z at *
              go_wp2_with fail
              go_round
              case rel => exact ⟨c + 1, by omega, by go_num, by rw [ES.out]⟩
              case measure => simp [intOf]; omega
            · have hcn : c = n := by omega
              subst hcn
              have bd := HBD.out k c (Nat.le_refl _) hlt2
              have NE := NLD.out k
              unfold nv at NE
              have g1 := Int.mul_ediv_add_emod (cs L k c) (c : Int)
              have g2 := Int.emod_nonneg (cs L k c) j3
              have g3 := Int.emod_lt_of_pos (cs L k c) j0
              have g4 := tdiv_near (cs L k c) (c : Int) j0
              have d0 : -10000000 ≤ cs L k c / (c : Int) := Int.le_ediv_of_mul_le j0 (by have := Int.mul_le_mul_of_nonneg_left (show (1 : Int) ≤ (c : Int) by omega) (show (0 : Int) ≤ 10000000 by omega); rw [Int.neg_mul]; omega)
              have d1 : cs L k c / (c : Int) ≤ 10000000 := Int.le_trans (Int.ediv_le_ediv (by omega) bd.2) (Int.ediv_le_self _ (by omega))
              generalize cs L k c = t at *
              generalize t / (c : Int) = d at *
              generalize t % (c : Int) = r at *
              have p0 : d * (c : Int) = t - r := by rw [Int.mul_comm]; omega
              have p1 : (d + 1) * (c : Int) = t - r + c := by rw [Int.add_mul, p0]; omega
              generalize hq0 : t.tdiv (c : Int) = q0 at *
              have w0 : IntKind.i64.wrap q0 = q0 := IntWalk.i64_in _ (by omega)
              have w1 : IntKind.i64.wrap (d * (c : Int)) = t - r := by rw [p0]; exact IntWalk.i64_in _ (by omega)
              have w2 : IntKind.i64.wrap ((d + 1) * (c : Int)) = t - r + c := by rw [p1]; exact IntWalk.i64_in _ (by omega)
              have w1' : wrap64 (d * (c : Int)) = t - r := (IntWalk.i64_left _).symm.trans w1
              have w2' : wrap64 ((d + 1) * (c : Int)) = t - r + c := (IntWalk.i64_left _).symm.trans w2
              have NE' : Hid (nl L k = if (c : Int) < 2 * r ∨ (2 * r = (c : Int) ∧ ¬ d.tmod 2 = 0) then d + 1 else d) := NE
              clear g1 NE p0 p1
              go_wp2_with fail
              go_loop [10] (fun q => ∃ y : Int, q = .int .i64 y ∧ (y = d ∨ y = d + 1)) (fun q => (intOf q - d).toNat)
              case atStart => exact ⟨q0, rfl, g4⟩
              case round =>
                clear w0 hq0 g4
                obtain ⟨y, rfl, hy⟩ := hrel
                by_cases hy2 : y = d + 1
                · subst hy2
                  have v1 : t < t - r + (c : Int) := by omega
                  go_wp2_with fail
                  go_round
                  case rel => exact ⟨d, by first | rfl | (congr 1; omega), Or.inl rfl⟩
                  case measure => simp [intOf]; omega
                · have hyd : y = d := by omega
                  subst hyd
                  have v1 : ¬ t < t - r := by omega
                  have v2 : t - (t - r) = r := by omega
                  by_cases h1 : (c : Int) < 2 * r
                  · have EZ : nl L k = y + 1 := by rw [NE'.out, if_pos (Or.inl h1)]
                    go_wp2_with (at_builtin; refine wpList_append_own _ rfl _ _ 24 rfl w.heap.size 2 i0 (.int .i64 0) 1 8 Try.underlying24 hi hz0 hz1 hz2 rfl (by decide) _ _ _ rfl (RR.out.alloc _) ⟨wr.heap.size, 0, none⟩ 1 1 [.int .i64 (y + 1)] rfl rfl (cell_one wr _ 2) (one_one _) (by unfold maxLen; omega) (by omega) (by simp; omega) ?_)
                    intro v' w5 hown hgrow _
                    have R5 : Hid (w5.ownsRow w.heap.size 2 1 v' (k + 1) (ints (np L (k + 1)))) := (by show World.ownsRow _ _ _ _ _ _ _; rw [NPS.out k, EZ, ints_snoc]; exact hown)
                    have B5 : Hid (Below w.heap.size w w5) := (BR.out.alloc zr _).grown hgrow (by simp; omega) (fun b hb => (RR.out.lt b hb).1)
                    clear hown hgrow
                    go_wp2_with fail
                    go_roundw
                    case rel => exact ⟨k + 1, v', by omega, by go_num, rfl, R5, B5⟩
                    case measure => simp [intOf]; omega
                  · by_cases h2 : 2 * r = (c : Int)
                    · have h2' : (2 * r == (c : Int)) = true := by simpa using h2
                      by_cases h3 : y.tmod 2 = 0
                      · have h3' : (y.tmod 2 != 0) = false := by simp [h3]
                        have h3'' : (y.tmod 2 == 0) = true := by simp [h3]
                        have EZ : nl L k = y := by rw [NE'.out, if_neg (by rintro (x | ⟨_, x⟩); exact h1 x; exact x h3)]
                        go_wp2_with (at_builtin; refine wpList_append_own _ rfl _ _ 24 rfl w.heap.size 2 i0 (.int .i64 0) 1 8 Try.underlying24 hi hz0 hz1 hz2 rfl (by decide) _ _ _ rfl (RR.out.alloc _) ⟨wr.heap.size, 0, none⟩ 1 1 [.int .i64 y] rfl rfl (cell_one wr _ 2) (one_one _) (by unfold maxLen; omega) (by omega) (by simp; omega) ?_)
                        intro v' w5 hown hgrow _
                        have R5 : Hid (w5.ownsRow w.heap.size 2 1 v' (k + 1) (ints (np L (k + 1)))) := (by show World.ownsRow _ _ _ _ _ _ _; rw [NPS.out k, EZ, ints_snoc]; exact hown)
                        have B5 : Hid (Below w.heap.size w w5) := (BR.out.alloc zr _).grown hgrow (by simp; omega) (fun b hb => (RR.out.lt b hb).1)
                        clear hown hgrow
                        go_wp2_with fail
                        go_roundw
                        case rel => exact ⟨k + 1, v', by omega, by go_num, rfl, R5, B5⟩
                        case measure => simp [intOf]; omega
                      · have h3' : (y.tmod 2 != 0) = true := by simpa using h3
                        have h3'' : (y.tmod 2 == 0) = false := by simpa using h3
                        have EZ : nl L k = y + 1 := by rw [NE'.out, if_pos (Or.inr ⟨h2, h3⟩)]
                        go_wp2_with (at_builtin; refine wpList_append_own _ rfl _ _ 24 rfl w.heap.size 2 i0 (.int .i64 0) 1 8 Try.underlying24 hi hz0 hz1 hz2 rfl (by decide) _ _ _ rfl (RR.out.alloc _) ⟨wr.heap.size, 0, none⟩ 1 1 [.int .i64 (y + 1)] rfl rfl (cell_one wr _ 2) (one_one _) (by unfold maxLen; omega) (by omega) (by simp; omega) ?_)
                        intro v' w5 hown hgrow _
                        have R5 : Hid (w5.ownsRow w.heap.size 2 1 v' (k + 1) (ints (np L (k + 1)))) := (by show World.ownsRow _ _ _ _ _ _ _; rw [NPS.out k, EZ, ints_snoc]; exact hown)
                        have B5 : Hid (Below w.heap.size w w5) := (BR.out.alloc zr _).grown hgrow (by simp; omega) (fun b hb => (RR.out.lt b hb).1)
                        clear hown hgrow
                        go_wp2_with fail
                        go_roundw
                        case rel => exact ⟨k + 1, v', by omega, by go_num, rfl, R5, B5⟩
                        case measure => simp [intOf]; omega
                    · have h2' : (2 * r == (c : Int)) = false := by simpa using h2
                      have EZ : nl L k = y := by rw [NE'.out, if_neg (by rintro (x | ⟨x, _⟩); exact h1 x; exact h2 x)]
                      go_wp2_with (at_builtin; refine wpList_append_own _ rfl _ _ 24 rfl w.heap.size 2 i0 (.int .i64 0) 1 8 Try.underlying24 hi hz0 hz1 hz2 rfl (by decide) _ _ _ rfl (RR.out.alloc _) ⟨wr.heap.size, 0, none⟩ 1 1 [.int .i64 y] rfl rfl (cell_one wr _ 2) (one_one _) (by unfold maxLen; omega) (by omega) (by simp; omega) ?_)
                      intro v' w5 hown hgrow _
                      have R5 : Hid (w5.ownsRow w.heap.size 2 1 v' (k + 1) (ints (np L (k + 1)))) := (by show World.ownsRow _ _ _ _ _ _ _; rw [NPS.out k, EZ, ints_snoc]; exact hown)
                      have B5 : Hid (Below w.heap.size w w5) := (BR.out.alloc zr _).grown hgrow (by simp; omega) (fun b hb => (RR.out.lt b hb).1)
                      clear hown hgrow
                      go_wp2_with fail
                      go_roundw
                      case rel => exact ⟨k + 1, v', by omega, by go_num, rfl, R5, B5⟩
                      case measure => simp [intOf]; omega
        · have hkm : k = m := by omega
          subst hkm
          go_wp2_with fail
          go_ret2
          exact ⟨_, rfl, RR.out, BR.out⟩
end Go.Proofs.Ytjoijffjnlencaa.No
