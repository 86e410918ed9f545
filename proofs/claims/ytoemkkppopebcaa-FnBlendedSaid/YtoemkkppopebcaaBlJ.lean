/- Blend: the program, whole. -/
import Derived.Test.YtoemkkppopebcaaBlI
namespace Go.Proofs.Ytoemkkppopebcaa.Bl
open Go.ChangeShapes Go.WideShapes Go.ChangeAt Go.RowKit
open Go.Proofs.Ytoemkkppopebcaa.Lists Go.Proofs.Ytoemkkppopebcaa.Al Go.Proofs.Ytoemkkppopebcaa.Su

set_option maxHeartbeats 1000000 in
theorem iblend_no (V S : List Int) (v s : Value) (w : World) (hV : Lists.Reads w v V) (hS : Lists.Reads w s S) (lV : V.length < 9223372036854775808) (lS : S.length < 9223372036854775808) (h : okB V S = false) :
    Calls Try.prog 7 #[v, s] w fun e w' => e = .returned (.tuple #[.int .i64 0, .int .i64 0]) ∧ Below w.heap.size w w' := by
  have FV := hV.form
  have FS := hS.form
  obtain ⟨av, cv, rfl⟩ := FV
  obtain ⟨sa, cs, rfl⟩ := FS
  obtain ⟨W, hW⟩ : ∃ W, W = (w.alloc (.cells #[.slice av V.length cv] 24)).alloc (.cells #[.slice sa S.length cs] 24) := ⟨_, rfl⟩
  have HW : Hid (W = (w.alloc (.cells #[.slice av V.length cv] 24)).alloc (.cells #[.slice sa S.length cs] 24)) := hW
  have B0 : Below w.heap.size w W := (by rw [hW]; exact ((Below.refl _ _).alloc (Nat.le_refl _) _).alloc (by simp) _)
  have C1 : Hid (∀ w, Calls Try.prog 12 #[.int .i64 (V.length : Int), .int .i64 1, .int .i64 5] w fun e w' => e = .returned (.bool (inn V.length 1 5)) ∧ w' = w) := fun w => i_in _ _ _ w
  have C2 : Hid (Calls Try.prog 13 #[.slice av V.length cv, .int .i64 (-100000), .int .i64 100000] W fun e w' => e = .returned (.bool (V.all (fun d => inn d (-100000) 100000))) ∧ w' = W) := iall_any V _ _ _ W (hV.on B0) lV
  have C3 : Hid (Calls Try.prog 14 #[.slice sa S.length cs, .int .i64 (V.length : Int), .int .i64 1, .int .i64 100] W fun e w' => e = .returned (.bool (nums S V.length 1 100)) ∧ w' = W) := inums_any S _ _ _ _ W (hS.on B0) lS
  have HB : Hid (Below w.heap.size w W) := B0
  have d0 : W.cell? ⟨w.heap.size, 0, none⟩ = some (.slice av V.length cv) := by rw [hW]; simp [go_sem]
  have d1 : W.cell? ⟨w.heap.size + 1, 0, none⟩ = some (.slice sa S.length cs) := by rw [hW]; simp [go_sem]
  unfold okB at h
  clear hV hS B0 hW
  generalize inn V.length 1 5 = b1 at *
  generalize V.all (fun d => inn d (-100000) 100000) = b2 at *
  generalize nums S V.length 1 100 = b3 at *
  generalize V.length = n at *
  generalize S.length = n' at *
  cases b1
  · go_enter Try.func7, Try.ntmps7
    go_wp2_with fail
    rw [← HW.out]
    refine (C1.out _).mono ?_
    rintro e w1 ⟨rfl, hw⟩
    subst hw
    go_wp2_with fail
    exact bodyPost_ret (v := .tuple #[.int .i64 0, .int .i64 0]) (by simp [results, Try.results7, go_sem]) rfl ⟨rfl, HB.out⟩
  · cases b2
    · go_enter Try.func7, Try.ntmps7
      go_wp2_with fail
      rw [← HW.out]
      refine (C1.out _).mono ?_
      rintro e w1 ⟨rfl, hw⟩
      subst hw
      go_wp2_with fail
      refine C2.out.mono ?_
      rintro e w2 ⟨rfl, hw⟩
      subst hw
      go_wp2_with fail
      exact bodyPost_ret (v := .tuple #[.int .i64 0, .int .i64 0]) (by simp [results, Try.results7, go_sem]) rfl ⟨rfl, HB.out⟩
    · cases b3
      · go_enter Try.func7, Try.ntmps7
        go_wp2_with fail
        rw [← HW.out]
        refine (C1.out _).mono ?_
        rintro e w1 ⟨rfl, hw⟩
        subst hw
        go_wp2_with fail
        refine C2.out.mono ?_
        rintro e w2 ⟨rfl, hw⟩
        subst hw
        go_wp2_with fail
        refine C3.out.mono ?_
        rintro e w3 ⟨rfl, hw⟩
        subst hw
        go_wp2_with fail
        exact bodyPost_ret (v := .tuple #[.int .i64 0, .int .i64 0]) (by simp [results, Try.results7, go_sem]) rfl ⟨rfl, HB.out⟩
      · cases h

theorem below_drewN {B : Nat} {a w : World} (h : Below B a w) (n : Nat) : Below B a (w.drewN n) := h.trans ⟨rfl, rfl, rfl, Nat.le_refl _, fun _ _ => rfl⟩

set_option maxHeartbeats 1000000 in
theorem iblend_yes (V S : List Int) (v s : Value) (w : World) (hV : Lists.Reads w v V) (hS : Lists.Reads w s S) (h : okB V S = true) :
    Calls Try.prog 7 #[v, s] w fun e w' => e = .returned (.tuple #[.int .i64 ((top V S).tdiv (gc V S)), .int .i64 ((low V S).tdiv (gc V S))]) ∧ Below w.heap.size w w' := by
  have O := ok_of h
  obtain ⟨bv, ov, hcv, hvv⟩ := reads_at hV
  obtain ⟨bs, os, hcs, hvs⟩ := reads_at hS
  have o1 := O.n1
  have o5 := O.n5
  have oS := O.nS
  obtain ⟨bvl, cv, rfl⟩ := hvv (by omega)
  obtain ⟨bsl, cs, rfl⟩ := hvs (by omega)
  obtain ⟨n, hn⟩ : ∃ n, n = V.length := ⟨_, rfl⟩
  rw [← hn] at o1 o5 oS
  obtain ⟨W, hW⟩ : ∃ W, W = (w.alloc (.cells #[.slice (some ⟨bv, ov, none⟩) n cv] 24)).alloc (.cells #[.slice (some ⟨bs, os, none⟩) n cs] 24) := ⟨_, rfl⟩
  have HW : Hid (W = (w.alloc (.cells #[.slice (some ⟨bv, ov, none⟩) n cv] 24)).alloc (.cells #[.slice (some ⟨bs, os, none⟩) n cs] 24)) := hW
  have B0 : Below w.heap.size w W := (by rw [hW]; exact ((Below.refl _ _).alloc (Nat.le_refl _) _).alloc (by simp) _)
  have zW : W.heap.size = w.heap.size + 2 := by rw [hW]; simp
  unfold okB at h
  rw [Bool.and_eq_true, Bool.and_eq_true] at h
  obtain ⟨e1, e2, e3⟩ := h
  have C1 : Hid (∀ w, Calls Try.prog 12 #[.int .i64 (n : Int), .int .i64 1, .int .i64 5] w fun e w' => e = .returned (.bool true) ∧ w' = w) := fun w => by rw [← e1, ← hn]; exact i_in _ _ _ w
  have C2 : Hid (Calls Try.prog 13 #[.slice (some ⟨bv, ov, none⟩) n cv, .int .i64 (-100000), .int .i64 100000] W fun e w' => e = .returned (.bool true) ∧ w' = W) := by rw [← e2]; have := iall_any V (-100000) 100000 _ W (hV.on B0) (by omega); rw [← hn] at this; exact this
  have C3 : Hid (Calls Try.prog 14 #[.slice (some ⟨bs, os, none⟩) n cs, .int .i64 (n : Int), .int .i64 1, .int .i64 100] W fun e w' => e = .returned (.bool true) ∧ w' = W) := by rw [← e3, ← hn]; have := inums_any S n 1 100 _ W (hS.on B0) (by omega); rw [oS] at this; exact this
  have HB : Hid (Below w.heap.size w W) := B0
  have d0 : W.cell? ⟨w.heap.size, 0, none⟩ = some (.slice (some ⟨bv, ov, none⟩) n cv) := by rw [hW]; simp [go_sem]
  have d1 : W.cell? ⟨w.heap.size + 1, 0, none⟩ = some (.slice (some ⟨bs, os, none⟩) n cs) := by rw [hW]; simp [go_sem]
  have HO : Hid (Ok V S) := O
  have HCV : Hid (∀ i, i < n → w.cell? ⟨bv, ov + i, none⟩ = some (.int .i64 (V.getD i 0))) := fun i hi => hcv i (by omega)
  have HCS : Hid (∀ i, i < n → w.cell? ⟨bs, os + i, none⟩ = some (.int .i64 (S.getD i 0))) := fun i hi => hcs i (by omega)
  have HBV : Hid (bv < w.heap.size ∧ bs < w.heap.size) := ⟨bvl, bsl⟩
  have HZ : Hid (W.heap.size = w.heap.size + 2) := zW
  have HN : Hid (n = V.length ∧ S.length = n) := ⟨hn, oS⟩
  rw [oS, ← hn]
  have HA : Hid (Below W.heap.size W (W.alloc (Obj.cells #[.int .i64 1] 2))) := (Below.refl _ _).alloc (Nat.le_refl _) _
  have d0' : (W.alloc (Obj.cells #[.int .i64 1] 2)).cell? ⟨w.heap.size, 0, none⟩ = some (.slice (some ⟨bv, ov, none⟩) n cv) := (HA.out.cell (p := ⟨w.heap.size, 0, none⟩) (by show w.heap.size < W.heap.size; omega)).trans d0
  have d1' : (W.alloc (Obj.cells #[.int .i64 1] 2)).cell? ⟨w.heap.size + 1, 0, none⟩ = some (.slice (some ⟨bs, os, none⟩) n cs) := (HA.out.cell (p := ⟨w.heap.size + 1, 0, none⟩) (by show w.heap.size + 1 < W.heap.size; omega)).trans d1
  have D0 : Hid (W.cell? ⟨w.heap.size, 0, none⟩ = some (.slice (some ⟨bv, ov, none⟩) n cv)) := d0
  have D1 : Hid (W.cell? ⟨w.heap.size + 1, 0, none⟩ = some (.slice (some ⟨bs, os, none⟩) n cs)) := d1
  have N0 : Hid ((W.alloc (Obj.cells #[.int .i64 1] 2)).cell? ⟨W.heap.size, 0, none⟩ = some (.int .i64 1) ∧ (W.alloc (Obj.cells #[.int .i64 1] 2)).frozen? ⟨W.heap.size, 0, none⟩ = false) := by show _ ∧ _; constructor <;> simp [go_sem]
  clear hV hS hcv hcs e1 e2 e3 hW B0 bvl bsl zW O oS hn
  go_enter Try.func7, Try.ntmps7
  go_wp2_with fail
  rw [← HW.out]
  refine (C1.out _).mono ?_
  rintro e w1 ⟨rfl, hw⟩
  subst hw
  go_wp2_with fail
  refine C2.out.mono ?_
  rintro e w2 ⟨rfl, hw⟩
  subst hw
  go_wp2_with fail
  refine C3.out.mono ?_
  rintro e w3 ⟨rfl, hw⟩
  subst hw
  go_wp2_with fail
  clear d0' d1'
  go_loopw [31] (fun i wr => ∃ k : Nat, k ≤ n ∧ i = .int .i64 k ∧ Hid (Below w3.heap.size w3 wr) ∧ Hid (w3.heap.size < wr.heap.size) ∧ Hid (wr.cell? ⟨w3.heap.size, 0, none⟩ = some (.int .i64 (pd k fun j => S.getD j 0)) ∧ wr.frozen? ⟨w3.heap.size, 0, none⟩ = false)) (fun i _ => n - (intOf i).toNat)
  case atStart => exact ⟨0, Nat.zero_le _, rfl, HA, (by show _ < _; simp), N0⟩
  case round =>
    obtain ⟨k, hk, rfl, BB, LL, PP⟩ := hrel
    by_cases hlt : k < n
    · have qs : wr.cell? ⟨bs, os + k, none⟩ = some (.int .i64 (S.getD k 0)) := by
        have z := HZ.out
        have l := HBV.out
        rw [BB.out.cell (p := ⟨bs, os + k, none⟩) (by show bs < w3.heap.size; omega), HB.out.cell (p := ⟨bs, os + k, none⟩) (by show bs < w.heap.size; omega)]
        exact HCS.out k hlt
      have qp := PP.out.1
      have qf := PP.out.2
      have E2 : Hid (pd (k + 1) (fun j => S.getD j 0) = (pd k fun j => S.getD j 0) * S.getD k 0) := rfl
      have b2 : 1 ≤ (pd k fun j => S.getD j 0) * S.getD k 0 ∧ (pd k fun j => S.getD j 0) * S.getD k 0 ≤ 10000000000 := by
        have := HN.out
        have a := HO.out.mb n (k + 1) (by omega)
        rw [but_free _ (by omega)] at a
        exact a
      have i1 : (0 : Int) ≤ (k : Int) := by omega
      have i2 : (k : Int) < (n : Int) := by omega
      have hx : w3.heap.size < wr.heap.size := LL.out
      generalize (pd k fun j => S.getD j 0) = P at *
      generalize S.getD k 0 = x at *
      go_wp2_with fail
      go_roundw
      case rel => exact ⟨k + 1, by omega, by go_num, BB.out.setCell (p := ⟨w3.heap.size, 0, none⟩) (Nat.le_refl _) _, (by show _ < _; simp; exact LL.out), (by show _ ∧ _; rw [E2.out]; constructor <;> simp [go_sem, qp, qf])⟩
      case measure => simp [intOf]; omega
    · have hkn : k = n := by omega
      subst hkn
      have z := HZ.out
      have l := HBV.out
      have oo := HN.out
      have c0 : wr.cell? ⟨w.heap.size, 0, none⟩ = some (.slice (some ⟨bv, ov, none⟩) k cv) := (BB.out.cell (p := ⟨w.heap.size, 0, none⟩) (by show w.heap.size < w3.heap.size; omega)).trans D0.out
      have c1 : wr.cell? ⟨w.heap.size + 1, 0, none⟩ = some (.slice (some ⟨bs, os, none⟩) k cs) := (BB.out.cell (p := ⟨w.heap.size + 1, 0, none⟩) (by show w.heap.size + 1 < w3.heap.size; omega)).trans D1.out
      have cS : ∀ i, i < k → wr.cell? ⟨bs, os + i, none⟩ = some (.int .i64 (S.getD i 0)) := fun i hi => by
        rw [BB.out.cell (p := ⟨bs, os + i, none⟩) (by show bs < w3.heap.size; omega), HB.out.cell (p := ⟨bs, os + i, none⟩) (by show bs < w.heap.size; omega)]
        exact HCS.out i hi
      have cV : ∀ i, i < k → wr.cell? ⟨bv, ov + i, none⟩ = some (.int .i64 (V.getD i 0)) := fun i hi => by
        rw [BB.out.cell (p := ⟨bv, ov + i, none⟩) (by show bv < w3.heap.size; omega), HB.out.cell (p := ⟨bv, ov + i, none⟩) (by show bv < w.heap.size; omega)]
        exact HCV.out i hi
      have BW : Hid (Below w.heap.size w wr) := HB.out.trans (BB.out.mono (by omega))
      have O := HO.out
      have sh : ∀ i, i < k → (pd k fun j => S.getD j 0).tdiv (S.getD i 0) = mm S i := fun i hi => by
        have := O.share i (by omega)
        rw [oo.2] at this
        exact this
      have t1 : top V S = sm k fun i => V.getD i 0 * mm S i := by unfold top; rw [← oo.1]
      have t2 : low V S = sm k fun i => mm S i := by unfold low; rw [← oo.1]
      have S1 : Hid (∀ m, Calls Try.prog 15 #[.int .i64 (k : Int), .func (.func 16) #[] #[.pointer (some ⟨w.heap.size, 0, none⟩), .pointer (some ⟨w3.heap.size, 0, none⟩), .pointer (some ⟨w.heap.size + 1, 0, none⟩)]] (wr.drewN m) fun e w' => e = .returned (.int .i64 (top V S)) ∧ ∃ m', w' = wr.drewN m') := fun m => by
        rw [t1]
        refine summed18 (fun x => ∃ m', x = wr.drewN m') k _ _ _ _ _ ⟨m, rfl⟩ (by omega) (fun i hi w' hw' => ?_) (fun j hj => ?_)
        · obtain ⟨m', rfl⟩ := hw'
          have a := O.sb i (by omega)
          have b := O.mms i
          have c := O.terms i (by omega)
          have := cl18 w.heap.size w3.heap.size (w.heap.size + 1) bv ov bs os k cv cs i (pd k fun j => S.getD j 0) (V.getD i 0) (S.getD i 0) (wr.drewN m') hi c0 PP.out.1 c1 (cV i hi) (cS i hi) a.1 (by rw [sh i hi]; exact IntWalk.i64_in _ (by omega)) (by rw [sh i hi]; exact IntWalk.i64_in _ (by omega))
          rw [sh i hi] at this
          refine this.mono ?_
          rintro e w' ⟨rfl, m2, rfl⟩
          exact ⟨rfl, m' + m2, by simp⟩
        · have := O.tops j (by omega)
          omega
      have S2 : Hid (∀ m, Calls Try.prog 15 #[.int .i64 (k : Int), .func (.func 17) #[] #[.pointer (some ⟨w3.heap.size, 0, none⟩), .pointer (some ⟨w.heap.size + 1, 0, none⟩)]] (wr.drewN m) fun e w' => e = .returned (.int .i64 (low V S)) ∧ ∃ m', w' = wr.drewN m') := fun m => by
        rw [t2]
        refine summed19 (fun x => ∃ m', x = wr.drewN m') k _ _ _ _ ⟨m, rfl⟩ (by omega) (fun i hi w' hw' => ?_) (fun j hj => ?_)
        · obtain ⟨m', rfl⟩ := hw'
          have a := O.sb i (by omega)
          have b := O.mms i
          have := cl19 w3.heap.size (w.heap.size + 1) bs os k cs i (pd k fun j => S.getD j 0) (S.getD i 0) (wr.drewN m') hi PP.out.1 c1 (cS i hi) a.1 (by rw [sh i hi]; exact IntWalk.i64_in _ (by omega))
          rw [sh i hi] at this
          refine this.mono ?_
          rintro e w' ⟨rfl, m2, rfl⟩
          exact ⟨rfl, m' + m2, by simp⟩
        · have := O.lows j (by omega)
          omega
      have g1 := O.tops k (by omega)
      have g2 := O.lows k (by omega)
      have g3 := O.gpos
      rw [← t1] at g1
      rw [← t2] at g2
      have g0 := aab_nn (top V S)
      have G : Hid (∀ m, Calls Try.prog 18 #[.int .i64 (aab (top V S)), .int .i64 (low V S)] (wr.drewN m) fun e w' => e = .returned (.int .i64 (gc V S)) ∧ ∃ m', w' = wr.drewN m') := fun m => by
        have h1 : aab (top V S) < 9223372036854775808 := by unfold aab; split <;> omega
        refine (gcd_any (aab (top V S)) (low V S) (wr.drewN m) g0 h1 (by omega) (by omega)).mono ?_
        rintro e w' ⟨rfl, m2, rfl⟩
        exact ⟨rfl, m + m2, by simp⟩
      have A : Hid (aab (top V S) = if top V S ≤ - top V S then - top V S else top V S) := rfl
      have a3 : (gc V S == 0) = false := by simp; omega
      have a4 : ¬ gc V S = 0 := by omega
      have a5 : IntKind.i64.wrap ((top V S).tdiv (gc V S)) = (top V S).tdiv (gc V S) := IntWalk.i64_in _ (by
        have := Int.natAbs_tdiv_le_natAbs (top V S) (gc V S)
        omega)
      have a6 : IntKind.i64.wrap ((low V S).tdiv (gc V S)) = (low V S).tdiv (gc V S) := IntWalk.i64_in _ (by
        have := Int.natAbs_tdiv_le_natAbs (low V S) (gc V S)
        omega)
      clear cS cV sh t1 t2 g0 O z l oo
      have DW : Hid (∀ m, Below w.heap.size w (wr.drewN m)) := fun m => below_drewN BW.out m
      generalize hT : top V S = t at *
      generalize hU : low V S = u at *
      generalize hG : gc V S = g at *
      have HT : Hid (top V S = t ∧ low V S = u ∧ gc V S = g) := ⟨hT, hU, hG⟩
      clear hT hU hG
      go_wp2_with fail
      refine (S1.out 0).mono ?_
      rintro e w4 ⟨rfl, m4, rfl⟩
      go_wp2_with fail
      refine (S2.out _).mono ?_
      rintro e w5 ⟨rfl, m5, rfl⟩
      by_cases hm : - t ≤ t
      · have A2 : aab t = t := by rw [A.out]; split <;> omega
        rw [A2] at G
        go_wp2_with fail
        refine (G.out _).mono ?_
        rintro e w6 ⟨rfl, m6, rfl⟩
        go_wp2_with fail
        go_region
        go_wp2_with fail
        exact bodyPost_ret (v := .tuple #[.int .i64 (t.tdiv g), .int .i64 (u.tdiv g)]) (by simp [results, Try.results7, go_sem]) rfl ⟨by rw [HT.out.1, HT.out.2.1, HT.out.2.2], (DW.out _).drew⟩
      · have A2 : aab t = - t := by rw [A.out]; split <;> omega
        rw [A2] at G
        go_wp2_with fail
        refine (G.out _).mono ?_
        rintro e w6 ⟨rfl, m6, rfl⟩
        go_wp2_with fail
        go_region
        go_wp2_with fail
        exact bodyPost_ret (v := .tuple #[.int .i64 (t.tdiv g), .int .i64 (u.tdiv g)]) (by simp [results, Try.results7, go_sem]) rfl ⟨by rw [HT.out.1, HT.out.2.1, HT.out.2.2], (DW.out _).drew⟩
end Go.Proofs.Ytoemkkppopebcaa.Bl
