/- Sums with the powers of a turn: the model, whole. -/
import Derived.Test.YtchlpkgmflbaeaaSpM
namespace Go.Proofs.Ytchlpkgmflbaeaa.Sp
open Go.ChangeShapes Go.WideShapes Go.ChangeAt Go.RowKit
open Go.Proofs.Ytchlpkgmflbaeaa.Lists Go.Proofs.Ytchlpkgmflbaeaa.Al Go.Proofs.Ytchlpkgmflbaeaa.Su Go.Proofs.Ytchlpkgmflbaeaa.Mx

set_option maxHeartbeats 2000000 in
theorem ssums_any (L : List Int) (t : Int) (v : Value) (w : World) (hL : Lists.Reads w v L) (ht : 0 ≤ t ∧ t ≤ 65536) (h1 : 1 ≤ L.length ∧ L.length ≤ 64) (hb : ∀ j, j < L.length → 0 ≤ L.getD j 0 ∧ L.getD j 0 ≤ 65536) :
    Calls Try.prog 11 #[v, .int .i64 t] w fun e w' => ∃ u, e = .returned u ∧ w'.ownsRow w.heap.size 2 1 u L.length (ints (specL L t L.length)) ∧ Below w.heap.size w w' := by
  obtain ⟨ba, oa, hca, hva⟩ := reads_at hL
  obtain ⟨bal, ca, rfl⟩ := hva (by omega)
  obtain ⟨n, hn⟩ : ∃ n, n = L.length := ⟨_, rfl⟩
  rw [← hn] at h1 hb ⊢
  have HN : Hid (n = L.length) := hn
  have HTB : Hid (∀ j, j < n → 0 ≤ L.getD j 0 ∧ L.getD j 0 ≤ 65536) := hb
  have HCA : Hid (∀ i, i < n → w.cell? ⟨ba, oa + i, none⟩ = some (.int .i64 (L.getD i 0))) := fun i hi => hca i (by omega)
  have HBV : Hid (ba < w.heap.size) := bal
  have n0 : ((n : Int) == 0) = false := by simp; omega
  have n0' : ¬ (n : Int) = 0 := by omega
  have nm1 : ¬ (n : Int) = -1 := by omega
  obtain ⟨i0, hi, hz0, hz1, hz2⟩ := info_parts Lists.Try.info2
  have R0 : Hid ((w.alloc (Obj.cells #[] 2)).ownsRow w.heap.size 2 1 (.slice (some ⟨w.heap.size, 0, none⟩) 0 0) 0 (ints (pl t 0))) := lit_row w
  have B0 : Hid (Below w.heap.size w (w.alloc (Obj.cells #[] 2))) := (Below.refl _ _).alloc (Nat.le_refl _) _
  clear hL hca hva bal hn hb
  go_enter Try.func11, Try.ntmps11
  go_wp2_with fail
  go_loopw [6, 7, 8] (fun v y i wr => ∃ k : Nat, k ≤ n ∧ i = .int .i64 k ∧ y = .int .i64 (pr t k) ∧ Hid (wr.ownsRow w.heap.size 2 1 v k (ints (pl t k))) ∧ Hid (Below w.heap.size w wr)) (fun _ _ i _ => n - (intOf i).toNat)
  case atStart => exact ⟨0, Nat.zero_le _, rfl, rfl, R0, B0⟩
  case round =>
    obtain ⟨k, hk, rfl, rfl, R, BB⟩ := hrel
    obtain ⟨v, hv⟩ : ∃ v, v = u6 := ⟨_, rfl⟩
    subst hv
    obtain ⟨sa, sc, hv⟩ := row_form R.out
    subst hv
    by_cases hlt : k < n
    · have i2 : (k : Int) < (n : Int) := by omega
      have E : Hid (pr t (k + 1) = pr t k * t % 65537) := rfl
      have EP : Hid (pl t (k + 1) = pl t k ++ [pr t k]) := rfl
      have b := pr_bd t k
      have pb : 0 ≤ pr t k * t ∧ pr t k * t ≤ 4294967296 := Mx.prod_bound b ht
      obtain ⟨m1, m2⟩ := pb
      have zr := BB.out.size
      clear R0 B0
      generalize pr t k = y at *
      go_wp2_with (at_builtin; refine wpList_append_own _ rfl _ _ 22 rfl w.heap.size 2 i0 (.int .i64 0) 1 8 Try.underlying22 hi hz0 hz1 hz2 rfl (by decide) _ _ _ rfl (R.out.alloc _) ⟨wr.heap.size, 0, none⟩ 1 1 [.int .i64 y] rfl rfl (cell_one wr _ 2) (one_one _) (by unfold maxLen; omega) (by omega) (by simp; omega) ?_)
      · intro v' w5 hown hgrow _
        have R5 : Hid (w5.ownsRow w.heap.size 2 1 v' (k + 1) (ints (pl t (k + 1)))) := (by show World.ownsRow _ _ _ _ _ _ _; rw [EP.out, ints_snoc]; exact hown)
        have B5 : Hid (Below w.heap.size w w5) := (BB.out.alloc zr _).grown hgrow (by simp; omega) (fun b hb => (R.out.lt b hb).1)
        clear hown hgrow R BB
        go_wp2_with fail
        go_roundw
        case rel => exact ⟨k + 1, by omega, by go_num, by rw [E.out], R5, B5⟩
        case measure => simp [intOf]; omega
    · have hkn : k = n := by omega
      subst hkn
      rcases row_cases (L := pl t k) (by rw [pl_len]; exact R.out) with ⟨e0, _⟩ | ⟨g, cg, eg, gb, gs, gc, gm⟩
      · have := pl_len t k
        rw [e0] at this
        simp at this
        omega
      rw [pl_len] at eg
      simp at eg
      obtain ⟨eg1, eg2⟩ := eg
      subst eg1 eg2
      obtain ⟨w1, hw1⟩ : ∃ x : World, x = wr := ⟨_, rfl⟩
      subst hw1
      have HP : Hid (∀ r, r < k → w1.cell? ⟨g, r, none⟩ = some (.int .i64 (pr t r))) := fun r hr => (by
        have := row_cell (L := pl t k) (by rw [pl_len]; exact R.out) r (by rw [pl_len]; exact hr)
        rw [pl_get t k r hr] at this
        exact this)
      have B1 : Hid (Below w.heap.size w w1) := BB
      have z1 := BB.out.size
      have O0 : Hid ((w1.alloc (Obj.cells #[] 2)).ownsRow w1.heap.size 2 1 (.slice (some ⟨w1.heap.size, 0, none⟩) 0 0) 0 (ints (specL L t 0))) := lit_row w1
      have C0 : Hid (Below w1.heap.size w1 (w1.alloc (Obj.cells #[] 2))) := (Below.refl _ _).alloc (Nat.le_refl _) _
      clear R BB R0 B0 hlt gc gm
      go_wp2_with fail
      go_loopw [9, 10] (fun u i wx => ∃ q : Nat, q ≤ k ∧ i = .int .i64 q ∧ Hid (wx.ownsRow w1.heap.size 2 1 u q (ints (specL L t q))) ∧ Hid (Below w1.heap.size w1 wx)) (fun _ i _ => k - (intOf i).toNat)
      case atStart => exact ⟨0, Nat.zero_le _, rfl, O0, C0⟩
      case round =>
        obtain ⟨q, hq, rfl, R, BB⟩ := hrel
        obtain ⟨v, hv⟩ : ∃ v, v = u9 := ⟨_, rfl⟩
        subst hv
        obtain ⟨sa, sd, hv⟩ := row_form R.out
        subst hv
        by_cases hqt : q < k
        · have EX : Hid (spec L t q = (sm k fun i => L.getD i 0 * pr t (i * q % k)) % 65537) := by show _ = _; unfold spec; rw [← HN.out]
          have i2 : (q : Int) < (k : Int) := by omega
          obtain ⟨wB, hwB⟩ : ∃ x : World, x = wr := ⟨_, rfl⟩
          subst hwB
          clear O0 C0
          go_wp2_with fail
          go_loopw [11, 12] (fun s i wx => ∃ j : Nat, j ≤ k ∧ i = .int .i64 j ∧ s = .int .i64 ((sm j fun i => L.getD i 0 * pr t (i * q % k)) % 65537) ∧ ∃ m, wx = wB.drewN m) (fun _ i _ => k - (intOf i).toNat)
          case atStart => exact ⟨0, Nat.zero_le _, rfl, rfl, 0, rfl⟩
          case round =>
            obtain ⟨j, hj, rfl, rfl, m, rfl⟩ := hrel
            by_cases hjt : j < k
            · have l := HBV.out
              have r1 : j * q % k < k := Nat.mod_lt _ (by omega)
              have qa : ∀ m, (wB.drewN m).cell? ⟨ba, oa + j, none⟩ = some (.int .i64 (L.getD j 0)) := fun m => ((below_drewN BB.out m).cell (p := ⟨ba, oa + j, none⟩) (by show ba < w1.heap.size; omega)).trans ((B1.out.cell (p := ⟨ba, oa + j, none⟩) l).trans (HCA.out j hjt))
              have qb : ∀ m, (wB.drewN m).cell? ⟨g, j * q % k, none⟩ = some (.int .i64 (pr t (j * q % k))) := fun m => ((below_drewN BB.out m).cell (p := ⟨g, j * q % k, none⟩) gs).trans (HP.out _ r1)
              have tb : 0 ≤ L.getD j 0 * pr t (j * q % k) ∧ L.getD j 0 * pr t (j * q % k) ≤ 4294967296 := Mx.prod_bound (HTB.out j hjt) (pr_bd t _)
              have jq : j * q ≤ 64 * 64 := Nat.mul_le_mul (by omega) (by omega)
              have em : (j : Int) * (q : Int) = ((j * q : Nat) : Int) := by simp
              have em' : ((j * q : Nat) : Int).tmod (k : Int) = ((j * q % k : Nat) : Int) := by rw [Int.tmod_eq_emod_of_nonneg (by omega)]; simp
              have wq : IntKind.i64.wrap ((j * q : Nat) : Int) = ((j * q : Nat) : Int) := IntWalk.i64_in _ (by omega)
              have ES : Hid ((sm (j + 1) fun i => L.getD i 0 * pr t (i * q % k)) % 65537 = ((sm j fun i => L.getD i 0 * pr t (i * q % k)) % 65537 + L.getD j 0 * pr t (j * q % k)) % 65537) := Mx.sm_mod j _
              have s0 : 0 ≤ (sm j fun i => L.getD i 0 * pr t (i * q % k)) % 65537 := by omega
              have s1 : (sm j fun i => L.getD i 0 * pr t (i * q % k)) % 65537 < 65537 := by omega
              have p1 : (0 : Int) ≤ (j : Int) := by omega
              have p2 : (j : Int) < (k : Int) := by omega
              have p3 : (0 : Int) ≤ ((j * q % k : Nat) : Int) := by omega
              have p4 : ((j * q % k : Nat) : Int) < (k : Int) := by omega
              obtain ⟨t1, t2⟩ := tb
              clear l
              generalize (sm j fun i => L.getD i 0 * pr t (i * q % k)) % 65537 = S at *
              generalize L.getD j 0 = x at *
              generalize pr t (j * q % k) = y at *
              generalize j * q % k = r at *
              generalize hz : j * q = z at *
              clear hz
              go_wp2_with fail
              go_region
              go_wp2_with fail
              go_roundw
              case rel => exact ⟨j + 1, by omega, by go_num, by rw [ES.out], m + 1, rfl⟩
              case measure => simp [intOf]; omega
            · have hjn : j = k := by omega
              subst hjn
              rw [← EX.out]
              have FN : Hid (specL L t (q + 1) = specL L t q ++ [spec L t q]) := rfl
              have RD : Hid ((wB.drewN m).ownsRow w1.heap.size 2 1 (.slice sa q sd) q (ints (specL L t q))) := R.out
              have BD : Hid (Below w1.heap.size w1 (wB.drewN m)) := below_drewN BB.out m
              have OL : Hid (∀ g, (Value.slice sa q sd).ownBlock = some g → w1.heap.size ≤ g ∧ g < (wB.drewN m).heap.size) := fun g hg => RD.out.lt g hg
              have HS : Hid (w1.heap.size ≤ (wB.drewN m).heap.size) := BD.out.size
              generalize spec L t q = z at *
              generalize specL L t q = F at *
              generalize wB.drewN m = wD at *
              go_wp2_with (at_builtin; refine wpList_append_own _ rfl _ _ 22 rfl w1.heap.size 2 i0 (.int .i64 0) 1 8 Try.underlying22 hi hz0 hz1 hz2 rfl (by decide) _ _ _ rfl (RD.out.alloc _) ⟨wD.heap.size, 0, none⟩ 1 1 [.int .i64 z] rfl rfl (cell_one wD _ 2) (one_one _) (by unfold maxLen; omega) (by omega) (by have := HS.out; simp; omega) ?_)
              · intro v' w2 hown hgrow _
                have R2 : Hid (w2.ownsRow w1.heap.size 2 1 v' (q + 1) (ints (specL L t (q + 1)))) := (by
                  show World.ownsRow _ _ _ _ _ _ _
                  rw [FN.out]
                  simpa [ints] using hown)
                have B2 : Hid (Below w1.heap.size w1 w2) := (BD.out.alloc HS.out _).grown hgrow (by simp; have := HS.out; omega) (fun b hb => (OL.out b hb).1)
                clear hown hgrow OL R RD BB
                go_wp2_with fail
                go_roundw
                case rel => exact ⟨q + 1, by omega, by go_num, R2, B2⟩
                case measure => simp [intOf]; omega
        · have hqn : q = k := by omega
          subst hqn
          have RE : Hid (wr.ownsRow w.heap.size 2 1 (.slice sa q sd) q (ints (specL L t q))) := row_low R.out z1
          have BE : Hid (Below w.heap.size w wr) := B1.out.trans (BB.out.mono z1)
          go_wp2_with fail
          go_ret
          exact ⟨_, rfl, RE.out, BE.out⟩
end Go.Proofs.Ytchlpkgmflbaeaa.Sp
