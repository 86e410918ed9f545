/- Sums with the powers of a turn: the program, whole. -/
import Derived.Test.YtchlpkgmflbaeaaSpB
namespace Go.Proofs.Ytchlpkgmflbaeaa.Sp
open Go.ChangeShapes Go.WideShapes Go.ChangeAt Go.RowKit
open Go.Proofs.Ytchlpkgmflbaeaa.Lists Go.Proofs.Ytchlpkgmflbaeaa.Al Go.Proofs.Ytchlpkgmflbaeaa.Su Go.Proofs.Ytchlpkgmflbaeaa.Mx

def pc : Array Value := (ints (pf turn 64)).toArray
theorem pc_get (r : Nat) (h : r < 64) : pc[r]? = some (.int .i64 (pr turn r)) := by
  have := pf_get turn r h
  simp [pc, ints, List.getElem?_map, List.getElem?_eq_getElem (show r < (pf turn 64).length by rw [pf_len]; exact h)]
  simpa [List.getD_eq_getElem?_getD, List.getElem?_eq_getElem (show r < (pf turn 64).length by rw [pf_len]; exact h)] using this
theorem term_same {c i k : Nat} (hc : c ≤ 6) : pr turn (64 / 2 ^ c * i * k % 64) = pr (sq (16 - c)) (i * k % 2 ^ c) := by
  rw [place hc]
  exact same hc (Nat.mod_lt _ (Nat.pow_pos (by omega)))

set_option maxHeartbeats 2000000 in
theorem turned_any (L : List Int) (c : Nat) (v : Value) (w : World) (hL : Lists.Reads w v L) (hc : c ≤ 6) (hl : L.length = 2 ^ c) (h1 : 1 ≤ L.length ∧ L.length ≤ 64) (hb : ∀ j, j < L.length → 0 ≤ L.getD j 0 ∧ L.getD j 0 ≤ 65536) :
    Calls Try.prog 14 #[v, .agg pc, .int .i64 1] w fun e w' => ∃ u, e = .returned u ∧ w'.ownsRow w.heap.size 2 1 u L.length (ints (specL L (sq (16 - c)) L.length)) ∧ Below w.heap.size w w' := by
  obtain ⟨ba, oa, hca, hva⟩ := reads_at hL
  obtain ⟨bal, ca, rfl⟩ := hva (by omega)
  obtain ⟨n, hn⟩ : ∃ n, n = L.length := ⟨_, rfl⟩
  obtain ⟨st, hst⟩ : ∃ st, st = 64 / 2 ^ c := ⟨_, rfl⟩
  have st64 : st ≤ 64 := by rw [hst]; exact Nat.div_le_self _ _
  have est : ((1 : Int) * 64).tdiv (n : Int) = (st : Int) := by
    rw [hst, hn, hl]
    have : c = 0 ∨ c = 1 ∨ c = 2 ∨ c = 3 ∨ c = 4 ∨ c = 5 ∨ c = 6 := by omega
    rcases this with rfl | rfl | rfl | rfl | rfl | rfl | rfl <;> rfl
  have est' : (64 : Int).tdiv (n : Int) = (st : Int) := est
  obtain ⟨W, hW⟩ : ∃ W, W = (w.alloc (.cells #[.slice (some ⟨ba, oa, none⟩) n ca] 22)).alloc (.cells pc 32) := ⟨_, rfl⟩
  have HW : Hid (W = (w.alloc (.cells #[.slice (some ⟨ba, oa, none⟩) n ca] 22)).alloc (.cells pc 32)) := hW
  have B0 : Below w.heap.size w W := (by rw [hW]; exact ((Below.refl _ _).alloc (Nat.le_refl _) _).alloc (by simp) _)
  have zW : W.heap.size = w.heap.size + 2 := by rw [hW]; simp
  have d0 : W.cell? ⟨w.heap.size, 0, none⟩ = some (.slice (some ⟨ba, oa, none⟩) n ca) := by rw [hW]; simp [go_sem]
  have d1 : ∀ r, r < 64 → W.cell? ⟨w.heap.size + 1, r, none⟩ = some (.int .i64 (pr turn r)) := fun r hr => by
    rw [← pc_get r hr, hW]
    have := cell_of_row ((w.alloc (.cells #[.slice (some ⟨ba, oa, none⟩) n ca] 22)).alloc (.cells pc 32)) (w.heap.size + 1) r pc 32 (0, 0) (by have := heap_alloc_new (w.alloc (.cells #[.slice (some ⟨ba, oa, none⟩) n ca] 22)) (.cells pc 32); rw [World.size_alloc] at this; exact this)
    exact this
  rw [← hn] at h1 hb ⊢
  have HS : Hid (st = 64 / 2 ^ c) := hst
  have HL2 : Hid (n = 2 ^ c) := hn.trans hl
  have HC6 : Hid (c ≤ 6) := hc
  have HB : Hid (Below w.heap.size w W) := B0
  have HTB : Hid (∀ j, j < n → 0 ≤ L.getD j 0 ∧ L.getD j 0 ≤ 65536) := hb
  have HCA : Hid (∀ i, i < n → w.cell? ⟨ba, oa + i, none⟩ = some (.int .i64 (L.getD i 0))) := fun i hi => hca i (by omega)
  have HBV : Hid (ba < w.heap.size) := bal
  have HZ : Hid (W.heap.size = w.heap.size + 2) := zW
  have HN : Hid (n = L.length) := hn
  obtain ⟨tt, htt⟩ : ∃ tt, tt = sq (16 - c) := ⟨_, rfl⟩
  have HT : Hid (tt = sq (16 - c)) := htt
  rw [← htt]
  have n0 : ((n : Int) == 0) = false := by simp; omega
  have n0' : ¬ (n : Int) = 0 := by omega
  have nm1 : ¬ (n : Int) = -1 := by omega
  obtain ⟨i0, hi, hz0, hz1, hz2⟩ := info_parts Lists.Try.info2
  have FZ : Hid ((madeCells (Value.int .i64 0).cells (n * 1)).toList = ints (List.replicate n 0)) := zeros_made n
  have LB : Hid (w.heap.size ≤ (W.alloc (Obj.cells #[.int .i64 (st : Int)] 2)).heap.size) := (by show _ ≤ _; simp; omega)
  have HD1 : Hid (∀ r, r < 64 → W.cell? ⟨w.heap.size + 1, r, none⟩ = some (.int .i64 (pr turn r))) := d1
  clear hL hca hva hW B0 bal zW hl hn hst hc hb htt d1 est
  have LBx : Hid (w.heap.size ≤ (((w.alloc (.cells #[.slice (some ⟨ba, oa, none⟩) n ca] 22)).alloc (.cells pc 32)).alloc (Obj.cells #[.int .i64 (st : Int)] 2)).heap.size) := (by rw [← HW.out]; exact LB.out)
  go_enter Try.func14, Try.ntmps14
  go_wp2_with (at_make; refine wpList_make_full _ rfl _ _ 22 rfl w.heap.size 2 i0 (.int .i64 0) 1 Try.underlying22 hi hz0 hz1 .i64 .i64 (n : Int) (n : Int) n rfl rfl rfl rfl (by rw [hz2]; omega) (by unfold maxLen; omega) LBx.out ?_; intro w4 hown hgrow)
  rw [← HW.out] at hown hgrow
  rw [FZ.out] at hown
  have zW := HZ.out
  have zA : (W.alloc (Obj.cells #[.int .i64 (st : Int)] 2)).heap.size = w.heap.size + 1 + 1 + 1 := by rw [World.size_alloc, zW]
  rw [zA] at hown
  have e0 : List.replicate n (0 : Int) = fillS L tt n 0 := by unfold fillS specL; simp
  rw [e0] at hown
  have R0 : Hid (w4.ownsRow w.heap.size 2 1 (.slice (some ⟨w.heap.size + 1 + 1 + 1, 0, none⟩) n n) n (ints (fillS L tt n 0))) := hown
  have GB : Below (w.heap.size + 1 + 1 + 1) (W.alloc (Obj.cells #[.int .i64 (st : Int)] 2)) w4 := (Below.refl _ _).grown hgrow (by omega) (fun k hk => by cases hk)
  have GA : Below W.heap.size W (W.alloc (Obj.cells #[.int .i64 (st : Int)] 2)) := (Below.refl _ _).alloc (Nat.le_refl _) _
  have P6 : Hid (w4.cell? ⟨w.heap.size + 1 + 1, 0, none⟩ = some (.int .i64 (st : Int))) := (by
    show _ = _
    rw [GB.cell (p := ⟨w.heap.size + 1 + 1, 0, none⟩) (by show w.heap.size + 1 + 1 < _; omega), show w.heap.size + 1 + 1 = W.heap.size by omega]
    simp [go_sem])
  have D0 : Hid (w4.cell? ⟨w.heap.size, 0, none⟩ = some (.slice (some ⟨ba, oa, none⟩) n ca)) := (by
    show _ = _
    rw [GB.cell (p := ⟨w.heap.size, 0, none⟩) (by show w.heap.size < _; omega), GA.cell (p := ⟨w.heap.size, 0, none⟩) (by show w.heap.size < _; omega)]
    exact d0)
  have D1 : Hid (∀ r, r < 64 → w4.cell? ⟨w.heap.size + 1, r, none⟩ = some (.int .i64 (pr turn r))) := fun r hr => (by
    rw [GB.cell (p := ⟨w.heap.size + 1, r, none⟩) (by show w.heap.size + 1 < _; omega), GA.cell (p := ⟨w.heap.size + 1, r, none⟩) (by show w.heap.size + 1 < _; omega)]
    exact HD1.out r hr)
  have WB : Hid (Below w.heap.size w w4) := HB.out.trans ((GA.mono (by omega)).trans (GB.mono (by omega)))
  have BW : Hid (Below (w.heap.size + 1 + 1 + 1) w4 w4) := Below.refl _ _
  have L4 : Hid (w.heap.size + 1 + 1 + 1 < w4.heap.size) := (R0.out.lt _ rfl).2
  clear hown hgrow FZ e0 GB GA d0 hi hz0 hz1 hz2 HD1 LB LBx HB zA zW HW HZ
  go_loopw [20] (fun i wr => ∃ k : Nat, k ≤ n ∧ i = .int .i64 k ∧ Hid (wr.ownsRow w.heap.size 2 1 (.slice (some ⟨w.heap.size + 1 + 1 + 1, 0, none⟩) n n) n (ints (fillS L tt n k))) ∧ Hid (Below (w.heap.size + 1 + 1 + 1) w4 wr)) (fun i _ => n - (intOf i).toNat)
  case atStart => exact ⟨0, Nat.zero_le _, rfl, R0, BW⟩
  case round =>
    obtain ⟨k, hk, rfl, R, BB⟩ := hrel
    by_cases hlt : k < n
    · have l := HBV.out
      have l4 := L4.out
      have sr := BB.out.size
      obtain ⟨W2, hW2⟩ : ∃ W2, W2 = wr.alloc (Obj.cells #[.int .i64 (k : Int)] 2) := ⟨_, rfl⟩
      have HW2 : Hid (W2 = wr.alloc (Obj.cells #[.int .i64 (k : Int)] 2)) := hW2
      have B2 : Below wr.heap.size wr W2 := by rw [hW2]; exact (Below.refl _ _).alloc (Nat.le_refl _) _
      have B4 : Below (w.heap.size + 1 + 1 + 1) w4 W2 := BB.out.trans (B2.mono (by omega))
      have c0 : W2.cell? ⟨w.heap.size, 0, none⟩ = some (.slice (some ⟨ba, oa, none⟩) n ca) := (B4.cell (p := ⟨w.heap.size, 0, none⟩) (by show w.heap.size < _; omega)).trans D0.out
      have c1 : ∀ r, r < 64 → W2.cell? ⟨w.heap.size + 1, r, none⟩ = some (.int .i64 (pr turn r)) := fun r hr => (B4.cell (p := ⟨w.heap.size + 1, r, none⟩) (by show w.heap.size + 1 < _; omega)).trans (D1.out r hr)
      have c3 : W2.cell? ⟨w.heap.size + 1 + 1, 0, none⟩ = some (.int .i64 (st : Int)) := (B4.cell (p := ⟨w.heap.size + 1 + 1, 0, none⟩) (by show w.heap.size + 1 + 1 < _; omega)).trans P6.out
      have c2 : W2.cell? ⟨wr.heap.size, 0, none⟩ = some (.int .i64 (k : Int)) := by rw [hW2]; simp [go_sem]
      have cA : ∀ i, i < n → W2.cell? ⟨ba, oa + i, none⟩ = some (.int .i64 (L.getD i 0)) := fun i hi => by
        rw [B4.cell (p := ⟨ba, oa + i, none⟩) (by show ba < _; omega), WB.out.cell (p := ⟨ba, oa + i, none⟩) (by show ba < w.heap.size; omega)]
        exact HCA.out i hi
      have ET : ∀ i, pr turn (st * i * k % 64) = pr tt (i * k % n) := fun i => by
        rw [HS.out, HT.out, HL2.out]
        exact term_same HC6.out
      have tb : ∀ i, i < n → 0 ≤ L.getD i 0 * pr tt (i * k % n) ∧ L.getD i 0 * pr tt (i * k % n) ≤ 4294967296 := fun i hi => Mx.prod_bound (HTB.out i hi) (pr_bd tt _)
      have sb := Mx.sm_nn (n := n) (f := fun i => L.getD i 0 * pr tt (i * k % n)) tb
      have S1 : Hid (∀ m, Calls Try.prog 19 #[.int .i64 (n : Int), .func (.func 20) #[] #[.pointer (some ⟨w.heap.size, 0, none⟩), .pointer (some ⟨w.heap.size + 1, 0, none⟩), .pointer (some ⟨w.heap.size + 1 + 1, 0, none⟩), .pointer (some ⟨wr.heap.size, 0, none⟩)]] (W2.drewN m) fun e w' => e = .returned (.int .i64 (sm n fun i => L.getD i 0 * pr tt (i * k % n))) ∧ ∃ m', w' = W2.drewN m') := fun m => by
        refine summed20 (fun x => ∃ m', x = W2.drewN m') n _ _ _ _ _ _ ⟨m, rfl⟩ (by omega) (fun i hi w' hw' => ?_) (fun j hj => ?_)
        · obtain ⟨m', rfl⟩ := hw'
          have cc := tb i hi
          have qy : (W2.drewN m').cell? ⟨w.heap.size + 1, st * i * k % 64, none⟩ = some (.int .i64 (pr tt (i * k % n))) := by
            rw [← ET i]
            exact c1 _ (Nat.mod_lt _ (by omega))
          refine (cl20 w.heap.size (w.heap.size + 1) (w.heap.size + 1 + 1) wr.heap.size ba oa n ca st k i (L.getD i 0) (pr tt (i * k % n)) (W2.drewN m') hi hlt (by omega) st64 c0 c3 c2 (cA i hi) qy (IntWalk.i64_in _ (by omega))).mono ?_
          rintro e w' ⟨rfl, m2, rfl⟩
          exact ⟨rfl, m' + m2, by simp⟩
        · have := sb j hj
          omega
      have ss := sb n (Nat.le_refl _)
      have EX : Hid (spec L tt k = (sm n fun i => L.getD i 0 * pr tt (i * k % n)) % 65537) := by show _ = _; unfold spec; rw [← HN.out]
      have rg : (fillS L tt n k).length = n := fillS_len L tt hk
      have R2 : W2.ownsRow w.heap.size 2 1 (.slice (some ⟨w.heap.size + 1 + 1 + 1, 0, none⟩) n n) n (ints (fillS L tt n k)) := by rw [hW2]; exact R.out.alloc _
      have q1 : W2.cell? ⟨w.heap.size + 1 + 1 + 1, k, none⟩ = some (.int .i64 ((fillS L tt n k).getD k 0)) := by
        have h1 : W2.ownsRow w.heap.size 2 1 (.slice (some ⟨w.heap.size + 1 + 1 + 1, 0, none⟩) (fillS L tt n k).length n) (fillS L tt n k).length (ints (fillS L tt n k)) := by rw [rg]; exact R2
        exact row_cell h1 k (by rw [rg]; exact hlt)
      have q2 : W2.frozen? ⟨w.heap.size + 1 + 1 + 1, k, none⟩ = false := R2.frozenAt k
      have RN : Hid (∀ m, ((W2.setCell ⟨w.heap.size + 1 + 1 + 1, k, none⟩ (.int .i64 (spec L tt k))).drewN m).ownsRow w.heap.size 2 1 (.slice (some ⟨w.heap.size + 1 + 1 + 1, 0, none⟩) n n) n (ints (fillS L tt n (k + 1)))) := fun m => by
        have := row_put R2 k (spec L tt k)
        rw [fillS_set L tt hlt] at this
        exact this
      have BN : Hid (∀ m, Below (w.heap.size + 1 + 1 + 1) w4 ((W2.setCell ⟨w.heap.size + 1 + 1 + 1, k, none⟩ (.int .i64 (spec L tt k))).drewN m)) := fun m => below_drewN (B4.setCell (p := ⟨w.heap.size + 1 + 1 + 1, k, none⟩) (Nat.le_refl _) _) m
      have i1 : (0 : Int) ≤ (k : Int) := by omega
      have i2 : (k : Int) < (n : Int) := by omega
      obtain ⟨f0, hf0⟩ : ∃ f0, f0 = (fillS L tt n k).getD k 0 := ⟨_, rfl⟩
      rw [← hf0] at q1
      rw [EX.out] at RN BN
      have s1 : 0 ≤ (sm n fun i => L.getD i 0 * pr tt (i * k % n)) := ss.1
      have s2 : (sm n fun i => L.getD i 0 * pr tt (i * k % n)) ≤ 274877906944 := by omega
      clear hf0 tb sb ss cA c0 c1 c3 rg R2 B2 B4 hW2 l l4 sr EX ET
      generalize (sm n fun i => L.getD i 0 * pr tt (i * k % n)) = S at *
      go_upto_region 7 with fail
      rw [← HW2.out]
      go_region_with (go_at_call 19; refine (S1.out 1).mono ?_; rintro e w5 ⟨rfl, m5, rfl⟩)
      all_goals
        go_wp2_with fail
        go_roundw
        case rel => exact ⟨k + 1, by omega, by go_num, RN.out _, BN.out _⟩
        case measure => simp [intOf]; omega
    · have hkn : k = n := by omega
      subst hkn
      have RE : Hid (wr.ownsRow w.heap.size 2 1 (.slice (some ⟨w.heap.size + 1 + 1 + 1, 0, none⟩) k k) k (ints (specL L tt k))) := (by rw [← fillS_all]; exact R.out)
      have BE : Hid (Below w.heap.size w wr) := WB.out.trans (BB.out.mono (by omega))
      go_wp2_with fail
      go_ret
      exact ⟨_, rfl, RE.out, BE.out⟩
end Go.Proofs.Ytchlpkgmflbaeaa.Sp
