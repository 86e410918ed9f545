/- The greatest quotient: the program. -/
import Derived.Test.YtpcgnahjibfphaaLpC
namespace Go.Proofs.Ytpcgnahjibfphaa.Flt
open Go.ChangeShapes Go.WideShapes Go.ChangeAt Go.RowKit
attribute [local go_sem] run_store_float

set_option maxHeartbeats 1000000 in
theorem ilap_no (w : World) (v : Value) (L : Lv) (h : Reads w v L) (hk : lok L = false) (hm : L.length ≤ 1048576) :
    Calls Try.prog 26 #[v] w fun e w' => e = inf (-1) 0 ∧ Below w.heap.size w w' := by
  have H0 : Hid (Reads w v L) := h
  have HM : Hid (L.length ≤ 1048576) := hm
  obtain ⟨a, cap, rfl⟩ := h.form
  clear h hm
  go_enter Try.func26, Try.ntmps26
  go_wp2_with fail
  refine (iok_any _ _ L H0.out HM.out).mono ?_
  rintro e w1 ⟨rfl, b1⟩
  rw [hk]
  have B1 : Hid (Below w.heap.size w w1) := b1
  clear b1
  go_wp2_with fail
  go_ret2
  exact ⟨rfl, B1.out⟩

theorem best_next (L : Lv) (k : Nat) : best L (k + 1 - 1) = if ord (lapse L k) (best L (k - 1)).2 == some .gt then (k, lapse L k) else best L (k - 1) := by
  cases k with
  | zero =>
    show best L 0 = if ord (lapse L 0) (lapse L 0) == some .gt then (0, lapse L 0) else best L 0
    rw [ord_self]
    rfl
  | succ m => rfl

set_option maxHeartbeats 1000000 in
theorem ilap_yes (w : World) (v : Value) (L : Lv) (h : Reads w v L) (hk : lok L = true) :
    Calls Try.prog 26 #[v] w fun e w' => e = inf (best L (L.length - 2)).1 (best L (L.length - 2)).2 ∧ Below w.heap.size w w' := by
  obtain ⟨h2, h4, hok⟩ := lok_size hk
  have OK : Hid (∀ j, j < L.length → okAt L j = true) := hok
  have H0 : Hid (Reads w v L) := h
  have HM : Hid (L.length ≤ 1048576) := (by show _ ≤ _; omega)
  have H4 : Hid (2 ≤ L.length ∧ L.length ≤ 400) := ⟨h2, h4⟩
  obtain ⟨a, cap, rfl⟩ := h.form
  obtain ⟨n, hn⟩ : ∃ n, n = L.length := ⟨_, rfl⟩
  rw [← hn] at h2 h4 H0 ⊢
  have HN : Hid (n = L.length) := hn
  clear hn hok h
  go_enter Try.func26, Try.ntmps26
  go_wp2_with fail
  refine (iok_any _ _ L H0.out HM.out).mono ?_
  rintro e w1 ⟨rfl, b1⟩
  rw [hk]
  have B1 : Hid (Below w.heap.size w w1) := b1
  have R1 : Hid (Reads w1 (.slice a n cap) L) := H0.out.on b1
  clear b1
  go_wp2_with fail
  refine (lapseAt_any _ _ L R1.out OK.out 0 (by have := H4.out; omega) H4.out.2).mono ?_
  rintro e w2 ⟨rfl, b2⟩
  have B2 : Hid (Below w.heap.size w w2) := B1.out.trans (b2.mono B1.out.size)
  clear b2 R1 B1
  have j0 : IntKind.i64.wrap ((n : Int) - 1) = (n : Int) - 1 := IntWalk.i64_in _ (by omega)
  go_wp2_with fail
  go_loopw [4, 5, 16] (fun p m i wr => ∃ k : Nat, k + 1 ≤ n ∧ i = .int .i64 k ∧ p = .int .i64 (best L (k - 1)).1 ∧ m = .float .f64 (best L (k - 1)).2 ∧ Hid (Below w.heap.size w wr)) (fun _ _ i _ => n - (intOf i).toNat)
  case atStart => exact ⟨0, by omega, rfl, rfl, rfl, B2⟩
  case round =>
    obtain ⟨k, hkn, rfl, rfl, rfl, BR⟩ := hrel
    by_cases hlt : k + 1 < n
    · have HLT : Hid (k + 1 < L.length) := (by show _ < _; rw [← HN.out]; exact hlt)
      have RR : Hid (Reads wr (.slice a n cap) L) := H0.out.on BR.out
      have HB : Hid (best L (k + 1 - 1) = if ord (lapse L k) (best L (k - 1)).2 == some .gt then (k, lapse L k) else best L (k - 1)) := best_next L k
      have HL : Hid ((best L (k - 1)).1 ≤ k) := Nat.le_trans (best_le L (k - 1)) (by omega)
      obtain ⟨la, hla⟩ : ∃ la, lapse L k = la := ⟨_, rfl⟩
      have HLA : Hid (lapse L k = la) := hla
      rw [hla] at HB
      clear hla
      obtain ⟨bs, hbs⟩ : ∃ bs, best L (k - 1) = bs := ⟨_, rfl⟩
      obtain ⟨ba, bm⟩ := bs
      rw [hbs] at HB HL ⊢
      have HL' : ba ≤ k := HL.out
      dsimp only at HB ⊢
      have j1 : (k : Int) < (n : Int) - 1 := by omega
      have j3 : (0 : Int) ≤ (k : Int) := by omega
      have j5 : IntKind.i64.wrap ((k : Int) + 1) = (k : Int) + 1 := IntWalk.i64_in _ (by omega)
      have j6 : IntKind.i64.wrap (k : Int) = (k : Int) := IntWalk.i64_in _ (by omega)
      clear hbs
      cases c1 : (ord la bm == some .gt)
      · have HB2 : Hid (best L (k + 1 - 1) = (ba, bm)) := (by show _ = _; rw [HB.out, c1]; rfl)
        go_wp2_with fail
        refine (lapseAt_any _ _ L RR.out OK.out k HLT.out H4.out.2).mono ?_
        rintro e w3 ⟨rfl, b3⟩
        have B3 : Hid (Below w.heap.size w w3) := BR.out.trans (b3.mono BR.out.size)
        rw [HLA.out]
        clear b3
        go_wp2_with fail
        go_roundw
        case rel => exact ⟨k + 1, by omega, by go_num, by rw [HB2.out], by rw [HB2.out], B3⟩
        case measure => simp [intOf]; omega
      · have HB2 : Hid (best L (k + 1 - 1) = (k, la)) := (by show _ = _; rw [HB.out, c1]; rfl)
        go_wp2_with fail
        refine (lapseAt_any _ _ L RR.out OK.out k HLT.out H4.out.2).mono ?_
        rintro e w3 ⟨rfl, b3⟩
        have B3 : Hid (Below w.heap.size w w3) := BR.out.trans (b3.mono BR.out.size)
        rw [HLA.out]
        clear b3
        go_wp2_with fail
        go_roundw
        case rel => exact ⟨k + 1, by omega, by go_num, by rw [HB2.out], by rw [HB2.out], B3⟩
        case measure => simp [intOf]; omega
    · have j1 : ¬ (k : Int) < (n : Int) - 1 := by omega
      have HB : Hid (k - 1 = n - 2) := (by show _ = _; omega)
      have HL : Hid ((best L (n - 2)).1 ≤ 400) := Nat.le_trans (best_le L (n - 2)) (by omega)
      rw [HB.out]
      generalize hbs : best L (n - 2) = bs at *
      have j6 : IntKind.i64.wrap (bs.1 : Int) = (bs.1 : Int) := IntWalk.i64_in _ (by have := HL.out; omega)
      go_wp2_with fail
      go_ret2
      exact ⟨rfl, BR.out⟩
end Go.Proofs.Ytpcgnahjibfphaa.Flt
