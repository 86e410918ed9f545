/- Mixed: the program, whole. -/
import Derived.Test.YtnnmklkpgdpkgaaMxI
import Derived.Deep.DeepCutAuto
namespace Go.Proofs.Ytnnmklkpgdpkgaa.Mx
open Go.ChangeShapes Go.WideShapes Go.ChangeAt Go.RowKit
open Go.Proofs.Ytnnmklkpgdpkgaa.Lists Go.Proofs.Ytnnmklkpgdpkgaa.Al Go.Proofs.Ytnnmklkpgdpkgaa.Su

theorem nil_row (w : World) (B : Nat) : w.ownsRow B 2 1 (.slice none 0 0) 0 [] := ⟨rfl, .inl ⟨rfl, rfl⟩⟩
theorem row_put {w : World} {B g n : Nat} {cap : Nat} {O : List Int} (R : w.ownsRow B 2 1 (.slice (some ⟨g, 0, none⟩) n cap) n (ints O)) (x : Nat) (z : Int) : (w.setCell ⟨g, x, none⟩ (.int .i64 z)).ownsRow B 2 1 (.slice (some ⟨g, 0, none⟩) n cap) n (ints (O.set x z)) := by
  rw [← Lists.ints_set]
  exact (R.stored x _).1

set_option maxHeartbeats 1000000 in
theorem imixed_no (A B : List Int) (v s : Value) (w : World) (hA : Lists.Reads w v A) (hB : Lists.Reads w s B) (lA : A.length < 9223372036854775808) (lB : B.length < 9223372036854775808) (h : okM A B = false) :
    Calls Try.prog 10 #[v, s] w fun e w' => e = .returned (.tuple #[.slice none 0 0, .bool false]) ∧ Below w.heap.size w w' := by
  have FV := hA.form
  have FS := hB.form
  obtain ⟨av, cv, rfl⟩ := FV
  obtain ⟨sa, cs, rfl⟩ := FS
  obtain ⟨W, hW⟩ : ∃ W, W = (w.alloc (.cells #[.slice av A.length cv] 22)).alloc (.cells #[.slice sa B.length cs] 22) := ⟨_, rfl⟩
  have HW : Hid (W = (w.alloc (.cells #[.slice av A.length cv] 22)).alloc (.cells #[.slice sa B.length cs] 22)) := hW
  have B0 : Below w.heap.size w W := (by rw [hW]; exact ((Below.refl _ _).alloc (Nat.le_refl _) _).alloc (by simp) _)
  have C1 : Hid (Calls Try.prog 22 #[.slice av A.length cv] W fun e w' => e = .returned (.bool (okR A)) ∧ w' = W) := ires_any A _ W (hA.on B0) lA
  have C2 : Hid (Calls Try.prog 22 #[.slice sa B.length cs] W fun e w' => e = .returned (.bool (okR B)) ∧ w' = W) := ires_any B _ W (hB.on B0) lB
  have HB : Hid (Below w.heap.size w W) := B0
  have d0 : W.cell? ⟨w.heap.size, 0, none⟩ = some (.slice av A.length cv) := by rw [hW]; simp [go_sem]
  have d1 : W.cell? ⟨w.heap.size + 1, 0, none⟩ = some (.slice sa B.length cs) := by rw [hW]; simp [go_sem]
  unfold okM at h
  clear hA hB B0 hW
  generalize okR A = b1 at *
  generalize okR B = b2 at *
  generalize A.length = n at *
  generalize B.length = n' at *
  cases b1
  · go_enter Try.func10, Try.ntmps10
    go_wp2_with fail
    rw [← HW.out]
    refine C1.out.mono ?_
    rintro e w1 ⟨rfl, hw⟩
    subst hw
    go_wp2_with fail
    exact bodyPost_ret (v := .tuple #[.slice none 0 0, .bool false]) (by simp [results, Try.results10, go_sem]) rfl ⟨rfl, HB.out⟩
  · cases b2
    · go_enter Try.func10, Try.ntmps10
      go_wp2_with fail
      rw [← HW.out]
      refine C1.out.mono ?_
      rintro e w1 ⟨rfl, hw⟩
      subst hw
      go_wp2_with fail
      refine C2.out.mono ?_
      rintro e w2 ⟨rfl, hw⟩
      subst hw
      go_wp2_with fail
      exact bodyPost_ret (v := .tuple #[.slice none 0 0, .bool false]) (by simp [results, Try.results10, go_sem]) rfl ⟨rfl, HB.out⟩
    · have e1 : ((n : Int) != (n' : Int)) = true := by
        have : ¬ n = n' := by simpa using h
        simp
        omega
      go_enter Try.func10, Try.ntmps10
      go_wp2_with fail
      rw [← HW.out]
      refine C1.out.mono ?_
      rintro e w1 ⟨rfl, hw⟩
      subst hw
      go_wp2_with fail
      refine C2.out.mono ?_
      rintro e w2 ⟨rfl, hw⟩
      subst hw
      go_wp2_with fail
      exact bodyPost_ret (v := .tuple #[.slice none 0 0, .bool false]) (by simp [results, Try.results10, go_sem]) rfl ⟨rfl, HB.out⟩

theorem zeros_made (n : Nat) : (madeCells (Value.int .i64 0).cells (n * 1)).toList = ints (List.replicate n 0) := by
  apply List.ext_getElem
  · simp [madeCells, ints]
  · intro i h1 h2
    simp [madeCells, ints, Value.cells, Nat.mod_one]

set_option maxHeartbeats 1000000 in
theorem imixed_yes (A B : List Int) (v s : Value) (w : World) (hA : Lists.Reads w v A) (hB : Lists.Reads w s B) (h : okM A B = true) :
    Calls Try.prog 10 #[v, s] w fun e w' => ∃ u, e = .returned (.tuple #[u, .bool true]) ∧ w'.ownsRow w.heap.size 2 1 u A.length (ints (mixL A B A.length)) ∧ Below w.heap.size w w' := by
  have O := ok_of h
  obtain ⟨ba, oa, hca, hva⟩ := reads_at hA
  obtain ⟨bb, ob, hcb, hvb⟩ := reads_at hB
  have o1 := O.n1
  have o64 := O.n64
  have oB := O.nB
  obtain ⟨bal, ca, rfl⟩ := hva (by omega)
  obtain ⟨bbl, cb, rfl⟩ := hvb (by omega)
  obtain ⟨n, hn⟩ : ∃ n, n = A.length := ⟨_, rfl⟩
  rw [← hn] at o1 o64 oB
  obtain ⟨W, hW⟩ : ∃ W, W = (w.alloc (.cells #[.slice (some ⟨ba, oa, none⟩) n ca] 22)).alloc (.cells #[.slice (some ⟨bb, ob, none⟩) n cb] 22) := ⟨_, rfl⟩
  have HW : Hid (W = (w.alloc (.cells #[.slice (some ⟨ba, oa, none⟩) n ca] 22)).alloc (.cells #[.slice (some ⟨bb, ob, none⟩) n cb] 22)) := hW
  have B0 : Below w.heap.size w W := (by rw [hW]; exact ((Below.refl _ _).alloc (Nat.le_refl _) _).alloc (by simp) _)
  have zW : W.heap.size = w.heap.size + 2 := by rw [hW]; simp
  unfold okM at h
  rw [Bool.and_eq_true, Bool.and_eq_true] at h
  obtain ⟨e1, e2, _⟩ := h
  have C1 : Hid (Calls Try.prog 22 #[.slice (some ⟨ba, oa, none⟩) n ca] W fun e w' => e = .returned (.bool true) ∧ w' = W) := by rw [← e1]; have := ires_any A _ W (hA.on B0) (by omega); rw [← hn] at this; exact this
  have C2 : Hid (Calls Try.prog 22 #[.slice (some ⟨bb, ob, none⟩) n cb] W fun e w' => e = .returned (.bool true) ∧ w' = W) := by rw [← e2]; have := ires_any B _ W (hB.on B0) (by omega); rw [oB] at this; exact this
  have HB : Hid (Below w.heap.size w W) := B0
  have d0 : W.cell? ⟨w.heap.size, 0, none⟩ = some (.slice (some ⟨ba, oa, none⟩) n ca) := by rw [hW]; simp [go_sem]
  have d1 : W.cell? ⟨w.heap.size + 1, 0, none⟩ = some (.slice (some ⟨bb, ob, none⟩) n cb) := by rw [hW]; simp [go_sem]
  have HO : Hid (Ok A B) := O
  have HCA : Hid (∀ i, i < n → w.cell? ⟨ba, oa + i, none⟩ = some (.int .i64 (A.getD i 0))) := fun i hi => hca i (by omega)
  have HCB : Hid (∀ i, i < n → w.cell? ⟨bb, ob + i, none⟩ = some (.int .i64 (B.getD i 0))) := fun i hi => hcb i (by omega)
  have HBV : Hid (ba < w.heap.size ∧ bb < w.heap.size) := ⟨bal, bbl⟩
  have HZ : Hid (W.heap.size = w.heap.size + 2) := zW
  have HN : Hid (n = A.length) := hn
  have e3 : ((n : Int) != (n : Int)) = false := by simp
  obtain ⟨i0, hi, hz0, hz1, hz2⟩ := info_parts Lists.Try.info2
  have FZ : Hid ((madeCells (Value.int .i64 0).cells (n * 1)).toList = ints (List.replicate n 0)) := zeros_made n
  have LB : Hid (w.heap.size ≤ (W.alloc (Obj.cells #[.int .i64 (n : Int)] 2)).heap.size) := (by show _ ≤ _; simp; omega)
  rw [oB, ← hn]
  clear hA hB hca hcb e1 e2 hW B0 bal bbl zW O oB hn
  go_enter Try.func10, Try.ntmps10
  go_wp2_with fail
  rw [← HW.out]
  refine C1.out.mono ?_
  rintro e w1 ⟨rfl, hw⟩
  subst hw
  go_wp2_with fail
  refine C2.out.mono ?_
  rintro e w2 ⟨rfl, hw⟩
  subst hw
  go_wp2_with (at_make; refine wpList_make_full _ rfl _ _ 22 rfl w.heap.size 2 i0 (.int .i64 0) 1 Try.underlying22 hi hz0 hz1 .i64 .i64 (n : Int) (n : Int) n rfl rfl rfl rfl (by rw [hz2]; omega) (by unfold maxLen; omega) LB.out ?_; intro w4 hown hgrow; have GB : Hid (Below (w2.heap.size + 1) (w2.alloc (Obj.cells #[.int .i64 (n : Int)] 2)) w4) := (Below.refl _ _).grown hgrow (by simp) (fun k hk => by cases hk); have p6 : w4.cell? ⟨w2.heap.size, 0, none⟩ = some (.int .i64 (n : Int)) := (GB.out.cell (p := ⟨w2.heap.size, 0, none⟩) (Nat.lt_succ_self _)).trans (by simp [go_sem]))
  rw [FZ.out] at hown
  have e0 : List.replicate n (0 : Int) = fillL A B n 0 := by unfold fillL mixL; simp
  rw [e0] at hown
  have R0 : Hid (w4.ownsRow w.heap.size 2 1 (.slice (some ⟨w2.heap.size + 1, 0, none⟩) n n) n (ints (fillL A B n 0))) := (by show World.ownsRow _ _ _ _ _ _ _; simpa using hown)
  have P6 : Hid (w4.cell? ⟨w2.heap.size, 0, none⟩ = some (.int .i64 (n : Int))) := p6
  have BW : Hid (Below (w2.heap.size + 1) w4 w4) := Below.refl _ _
  have L4 : Hid (w2.heap.size + 2 ≤ w4.heap.size) := (by
    show _ ≤ _
    rcases row_cases (L := fillL A B n 0) (by rw [fillL_len A B (Nat.zero_le _)]; exact R0.out) with ⟨e, _⟩ | ⟨g, c, e, _, hs, _⟩
    · have := fillL_len A B (Nat.zero_le n); rw [e] at this; simp at this; omega
    · simp at e
      omega)
  have D0 : Hid (w4.cell? ⟨w.heap.size, 0, none⟩ = some (.slice (some ⟨ba, oa, none⟩) n ca)) := (by
    have z := HZ.out
    show _ = _
    rw [GB.out.cell (p := ⟨w.heap.size, 0, none⟩) (by show w.heap.size < w2.heap.size + 1; omega), ((Below.refl _ _).alloc (Nat.le_refl _) _ : Below w2.heap.size w2 (w2.alloc _)).cell (p := ⟨w.heap.size, 0, none⟩) (by show w.heap.size < w2.heap.size; omega)]
    exact d0)
  have D1 : Hid (w4.cell? ⟨w.heap.size + 1, 0, none⟩ = some (.slice (some ⟨bb, ob, none⟩) n cb)) := (by
    have z := HZ.out
    show _ = _
    rw [GB.out.cell (p := ⟨w.heap.size + 1, 0, none⟩) (by show w.heap.size + 1 < w2.heap.size + 1; omega), ((Below.refl _ _).alloc (Nat.le_refl _) _ : Below w2.heap.size w2 (w2.alloc _)).cell (p := ⟨w.heap.size + 1, 0, none⟩) (by show w.heap.size + 1 < w2.heap.size; omega)]
    exact d1)
  have WB : Hid (Below w.heap.size w w4) := (by
    have z := HZ.out
    exact (HB.out.alloc (by omega) _).trans (GB.out.mono (by omega)))
  clear hown hgrow FZ e0 p6 GB d0 d1 hi hz0 hz1 hz2
  go_loopw [29] (fun i wr => ∃ k : Nat, k ≤ n ∧ i = .int .i64 k ∧ Hid (wr.ownsRow w.heap.size 2 1 (.slice (some ⟨w2.heap.size + 1, 0, none⟩) n n) n (ints (fillL A B n k))) ∧ Hid (Below (w2.heap.size + 1) w4 wr)) (fun i _ => n - (intOf i).toNat)
  case atStart => exact ⟨0, Nat.zero_le _, rfl, R0, BW⟩
  case round =>
    obtain ⟨k, hk, rfl, R, BB⟩ := hrel
    by_cases hlt : k < n
    · have z := HZ.out
      have l := HBV.out
      have oo := HN.out
      have l4 := L4.out
      have O := HO.out
      have sr := BB.out.size
      obtain ⟨W2, hW2⟩ : ∃ W2, W2 = wr.alloc (Obj.cells #[.int .i64 (k : Int)] 2) := ⟨_, rfl⟩
      have HW2 : Hid (W2 = wr.alloc (Obj.cells #[.int .i64 (k : Int)] 2)) := hW2
      have B2 : Below wr.heap.size wr W2 := by rw [hW2]; exact (Below.refl _ _).alloc (Nat.le_refl _) _
      have B4 : Below (w2.heap.size + 1) w4 W2 := BB.out.trans (B2.mono (by omega))
      have c0 : W2.cell? ⟨w.heap.size, 0, none⟩ = some (.slice (some ⟨ba, oa, none⟩) n ca) := (B4.cell (p := ⟨w.heap.size, 0, none⟩) (by show w.heap.size < w2.heap.size + 1; omega)).trans D0.out
      have c1 : W2.cell? ⟨w.heap.size + 1, 0, none⟩ = some (.slice (some ⟨bb, ob, none⟩) n cb) := (B4.cell (p := ⟨w.heap.size + 1, 0, none⟩) (by show w.heap.size + 1 < w2.heap.size + 1; omega)).trans D1.out
      have c3 : W2.cell? ⟨w2.heap.size, 0, none⟩ = some (.int .i64 (n : Int)) := (B4.cell (p := ⟨w2.heap.size, 0, none⟩) (by show w2.heap.size < w2.heap.size + 1; omega)).trans P6.out
      have c2 : W2.cell? ⟨wr.heap.size, 0, none⟩ = some (.int .i64 (k : Int)) := by rw [hW2]; simp [go_sem]
      have cA : ∀ i, i < n → W2.cell? ⟨ba, oa + i, none⟩ = some (.int .i64 (A.getD i 0)) := fun i hi => by
        rw [B4.cell (p := ⟨ba, oa + i, none⟩) (by show ba < w2.heap.size + 1; omega), WB.out.cell (p := ⟨ba, oa + i, none⟩) (by show ba < w.heap.size; omega)]
        exact HCA.out i hi
      have cB : ∀ i, i < n → W2.cell? ⟨bb, ob + i, none⟩ = some (.int .i64 (B.getD i 0)) := fun i hi => by
        rw [B4.cell (p := ⟨bb, ob + i, none⟩) (by show bb < w2.heap.size + 1; omega), WB.out.cell (p := ⟨bb, ob + i, none⟩) (by show bb < w.heap.size; omega)]
        exact HCB.out i hi
      have tb : ∀ i, i < n → 0 ≤ A.getD i 0 * B.getD (ix n k i) 0 ∧ A.getD i 0 * B.getD (ix n k i) 0 ≤ 4294967296 := fun i hi => by
        have := O.term k i (by omega) (by omega)
        rw [← oo] at this
        exact this
      have sb := sm_nn (n := n) (f := fun i => A.getD i 0 * B.getD (ix n k i) 0) tb
      have S1 : Hid (∀ m, Calls Try.prog 17 #[.int .i64 (n : Int), .func (.func 23) #[] #[.pointer (some ⟨w.heap.size, 0, none⟩), .pointer (some ⟨w.heap.size + 1, 0, none⟩), .pointer (some ⟨wr.heap.size, 0, none⟩), .pointer (some ⟨w2.heap.size, 0, none⟩)]] (W2.drewN m) fun e w' => e = .returned (.int .i64 (sm n fun i => A.getD i 0 * B.getD (ix n k i) 0)) ∧ ∃ m', w' = W2.drewN m') := fun m => by
        refine summed23 (fun x => ∃ m', x = W2.drewN m') n _ _ _ _ _ _ ⟨m, rfl⟩ (by omega) (fun i hi w' hw' => ?_) (fun j hj => ?_)
        · obtain ⟨m', rfl⟩ := hw'
          have c := tb i hi
          refine (cl23 w.heap.size (w.heap.size + 1) wr.heap.size w2.heap.size ba oa bb ob n ca cb k i (A.getD i 0) (B.getD (ix n k i) 0) (W2.drewN m') hlt hi o64 c0 c1 c2 c3 (cA i hi) (cB _ (ix_lt hlt hi)) (IntWalk.i64_in _ (by omega))).mono ?_
          rintro e w' ⟨rfl, m2, rfl⟩
          exact ⟨rfl, m' + m2, by simp⟩
        · have := sb j hj
          omega
      have ss := sb n (Nat.le_refl _)
      have EX : Hid (mix A B k = (sm n fun i => A.getD i 0 * B.getD (ix n k i) 0) % 65537) := by show _ = _; unfold mix; rw [oo]
      have rg : (fillL A B n k).length = n := fillL_len A B hk
      have R2 : W2.ownsRow w.heap.size 2 1 (.slice (some ⟨w2.heap.size + 1, 0, none⟩) n n) n (ints (fillL A B n k)) := by rw [hW2]; exact R.out.alloc _
      have q1 : W2.cell? ⟨w2.heap.size + 1, k, none⟩ = some (.int .i64 ((fillL A B n k).getD k 0)) := by
        have h1 : W2.ownsRow w.heap.size 2 1 (.slice (some ⟨w2.heap.size + 1, 0, none⟩) (fillL A B n k).length n) (fillL A B n k).length (ints (fillL A B n k)) := by rw [rg]; exact R2
        exact row_cell h1 k (by rw [rg]; exact hlt)
      have q2 : W2.frozen? ⟨w2.heap.size + 1, k, none⟩ = false := R2.frozenAt k
      have RN : Hid (∀ m, ((W2.setCell ⟨w2.heap.size + 1, k, none⟩ (.int .i64 (mix A B k))).drewN m).ownsRow w.heap.size 2 1 (.slice (some ⟨w2.heap.size + 1, 0, none⟩) n n) n (ints (fillL A B n (k + 1)))) := fun m => by
        have := row_put R2 k (mix A B k)
        rw [fillL_set A B hlt] at this
        exact this
      have BN : Hid (∀ m, Below (w2.heap.size + 1) w4 ((W2.setCell ⟨w2.heap.size + 1, k, none⟩ (.int .i64 (mix A B k))).drewN m)) := fun m => below_drewN (B4.setCell (p := ⟨w2.heap.size + 1, k, none⟩) (Nat.le_refl _) _) m
      have i1 : (0 : Int) ≤ (k : Int) := by omega
      have i2 : (k : Int) < (n : Int) := by omega
      obtain ⟨f0, hf0⟩ : ∃ f0, f0 = (fillL A B n k).getD k 0 := ⟨_, rfl⟩
      rw [← hf0] at q1
      rw [EX.out] at RN BN
      have s1 : 0 ≤ (sm n fun i => A.getD i 0 * B.getD (ix n k i) 0) := ss.1
      have s2 : (sm n fun i => A.getD i 0 * B.getD (ix n k i) 0) ≤ 274877906944 := by omega
      clear hf0 tb sb ss cA cB c0 c1 rg R2 B2 B4 hW2 z l oo l4 O sr EX
      generalize (sm n fun i => A.getD i 0 * B.getD (ix n k i) 0) = S at *
      go_upto_region 8 with fail
      rw [← HW2.out]
      go_region_with (go_at_call 17; refine (S1.out 1).mono ?_; rintro e w5 ⟨rfl, m5, rfl⟩)
      all_goals
        go_wp2_with fail
        go_roundw
        case rel => exact ⟨k + 1, by omega, by go_num, RN.out _, BN.out _⟩
        case measure => simp [intOf]; omega
    · have hkn : k = n := by omega
      subst hkn
      have RE : Hid (wr.ownsRow w.heap.size 2 1 (.slice (some ⟨w2.heap.size + 1, 0, none⟩) k k) k (ints (mixL A B k))) := (by rw [← fillL_all]; exact R.out)
      have BE : Hid (Below w.heap.size w wr) := (by have z := HZ.out; exact WB.out.trans (BB.out.mono (by omega)))
      go_wp2_with fail
      exact bodyPost_ret (v := .tuple #[.slice (some ⟨w2.heap.size + 1, 0, none⟩) k k, .bool true]) (by simp [results, Try.results10, go_sem]) rfl ⟨_, rfl, RE.out, BE.out⟩
end Go.Proofs.Ytnnmklkpgdpkgaa.Mx
