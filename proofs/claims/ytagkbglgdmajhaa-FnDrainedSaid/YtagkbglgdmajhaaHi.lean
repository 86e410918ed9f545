/- A heap of brinks: down. -/
import Derived.Test.YtagkbglgdmajhaaHh
namespace Go.Proofs.Ytagkbglgdmajhaa.Hm
open Go.ChangeShapes Go.WideShapes Go.ChangeAt Go.RowKit
open Go.Proofs.Ytagkbglgdmajhaa.Lists Go.Proofs.Ytagkbglgdmajhaa.Hp

def DPost (B f : Nat) (v : Value) (N : Nat) (P0 : List Int) (w : World) (n : Nat) (e : Ending) (w' : World) : Prop := ∃ (q : Bool) (P : List Int), e = .returned (.bool q) ∧ HS B f v N P0 w w' P ∧ Heap P n ∧ P.getD n 0 = P0.getD n 0
set_option maxRecDepth 20000 in
set_option maxHeartbeats 4000000 in
theorem down_any (B f : Nat) (w : World) (v : Value) (P0 : List Int) (n N : Nat) (hn : n ≤ 4000) (hN : n < N) (hs : HS B f v N P0 w w P0) (hu : DnI P0 n 0) :
    Calls Try.prog 39 #[iv f, .int .i64 0, .int .i64 n] w fun e w' => DPost B f v N P0 w n e w' := by
  have H0 : Hid (HS B f v N P0 w w P0) := hs
  have U0 : Hid (DnI P0 n 0) := hu
  clear hs hu
  go_enter Try.func39, Try.ntmps39
  go_wp2_with fail
  go_loopw [7] (fun si wr => ∃ (i : Nat) (P : List Int), i ≤ n ∧ si = .int .i64 i ∧ Hid (HS B f v N P0 w wr P) ∧ Hid (DnI P n i) ∧ Hid (P.getD n 0 = P0.getD n 0)) (fun si _ => n - (intOf si).toNat)
  case atStart => exact ⟨0, P0, Nat.zero_le _, rfl, H0, U0, rfl⟩
  case round =>
    clear H0 U0
    obtain ⟨i, P, hi, rfl, H, U, LA⟩ := hrel
    obtain ⟨j, hj⟩ : ∃ j, j = 2 * i + 1 := ⟨_, rfl⟩
    obtain ⟨k, hk⟩ : ∃ k, k = j + 1 := ⟨_, rfl⟩
    have e1 : 2 * (i : Int) + 1 = (j : Int) := by omega
    have e2 : (j : Int) + 1 = (k : Int) := by omega
    have e4 : ¬ (j : Int) < 0 := by omega
    have PAR : Hid ((j - 1) / 2 = i ∧ (k - 1) / 2 = i) := by show _ ∧ _; omega
    have CHI : Hid (∀ x, 0 < x → (x - 1) / 2 = i → x = j ∨ x = k) := fun x a b => by omega
    have ijk : i < j ∧ j < k := by omega
    obtain ⟨ij, jk⟩ := ijk
    clear hj hk
    by_cases h0 : n ≤ j
    · have i0 : (n : Int) ≤ (j : Int) := by omega
      have HH : Hid (Heap P n) := U.out.done (fun x a b c => by rcases CHI.out x a c with rfl | rfl <;> omega)
      clear U
      go_wp2_with fail
      go_ret
      exact ⟨_, P, rfl, H.out, HH.out, LA.out⟩
    · have i0 : ¬ (n : Int) ≤ (j : Int) := by omega
      have li : i < P.length := by rw [H.out.len]; omega
      by_cases h1 : k < n
      · have i1 : (k : Int) < (n : Int) := by omega
        have ML := mLess wr f v H.out.hr.cel
        have lj0 : j < P.length := by rw [H.out.len]; omega
        have lk0 : k < P.length := by rw [H.out.len]; omega
        have LE0 := less_any B f wr v P k j lk0 lj0 H.out.hr
        by_cases lt0 : P.getD k 0 < P.getD j 0
        · rw [decide_eq_true lt0] at LE0
          have LH0 : Hid (Calls Try.prog 60 #[v, .int .i64 k, .int .i64 j] wr fun e w' => e = .returned (.bool true) ∧ Below wr.heap.size wr w') := LE0
          have LST : Hid (∀ x, 0 < x → x < n → (x - 1) / 2 = i → P.getD k 0 ≤ P.getD x 0) := (fun x a b c => by
            rcases CHI.out x a c with rfl | rfl
            · omega
            · exact Int.le_refl _)
          clear LE0 lt0 lj0 lk0
          go_wp2_with fail
          refine LH0.out.mono ?_
          rintro e w5 ⟨rfl, hb⟩
          have H5 : Hid (HS B f v N P0 w w5 P) := H.out.on hb
          clear hb LH0 H ML
          have H := H5
          clear H5
          have lj : k < P.length := by rw [H.out.len]; omega
          have LE := less_any B f w5 v P k i lj li H.out.hr
          have ML2 := mLess w5 f v H.out.hr.cel
          by_cases lt : P.getD k 0 < P.getD i 0
          · rw [decide_eq_true lt] at LE
            have LH : Hid (Calls Try.prog 60 #[v, .int .i64 k, .int .i64 i] w5 fun e w' => e = .returned (.bool true) ∧ Below (w5).heap.size w5 w') := LE
            have U2 : Hid (DnI (swp P i k) n k) := U.out.step (by rw [H.out.len]; omega) (by omega) (by omega) PAR.out.2 LST.out lt
            have LA2 : Hid ((swp P i k).getD n 0 = P0.getD n 0) := (by show _ = _; rw [swp_get li lj, if_neg (by omega), if_neg (by omega)]; exact LA.out)
            have SW : Hid (∀ w1, Below (w5).heap.size w5 w1 → (method 203 45 (.pointer (some ⟨f, 0, none⟩)) "Swap").run Try.prog w1 = .ok (63, v) w1 ∧ Calls Try.prog 63 #[v, .int .i64 i, .int .i64 k] w1 fun e w' => e = .returned (.tuple #[]) ∧ HS B f v N P0 w w' (swp P i k)) := fun w1 hb => ⟨mSwap w1 f v (H.out.on hb).hr.cel, (swap_any B f w1 v P i k li lj (H.out.on hb).hr).mono (by
              rintro e w' ⟨rfl, a, b⟩
              exact ⟨rfl, (H.out.on hb).swap (by omega) (by omega) a b⟩)⟩
            clear LE U H lt lj li LST
            go_wp2_with fail
            refine LH.out.mono ?_
            rintro e w8 ⟨rfl, hb⟩
            obtain ⟨MS, CS⟩ := SW.out w8 hb
            have CH : Hid (Calls Try.prog 63 #[v, .int .i64 i, .int .i64 k] w8 fun e w' => e = .returned (.tuple #[]) ∧ HS B f v N P0 w w' (swp P i k)) := CS
            clear CS hb LH SW ML2
            go_wp2_with fail
            refine CH.out.mono ?_
            rintro e w9 ⟨rfl, h2⟩
            have H2 : Hid (HS B f v N P0 w w9 (swp P i k)) := h2
            clear h2 CH MS
            go_wp2_with fail
            go_roundw
            case rel => exact ⟨k, _, by omega, rfl, H2, U2, LA2⟩
            case measure => simp [intOf]; omega
          · rw [decide_eq_false lt] at LE
            have LH : Hid (Calls Try.prog 60 #[v, .int .i64 k, .int .i64 i] w5 fun e w' => e = .returned (.bool false) ∧ Below (w5).heap.size w5 w') := LE
            have HH : Hid (Heap P n) := U.out.done (fun k a b c => Int.le_trans (Int.not_lt.1 lt) (LST.out k a b c))
            clear LE U lt lj li LST
            go_wp2_with fail
            refine LH.out.mono ?_
            rintro e w8 ⟨rfl, hb⟩
            have H2 : Hid (HS B f v N P0 w w8 P) := H.out.on hb
            clear hb LH H ML2
            go_wp2_with fail
            go_ret
            exact ⟨_, P, rfl, H2.out, HH.out, LA.out⟩
        · rw [decide_eq_false lt0] at LE0
          have LH0 : Hid (Calls Try.prog 60 #[v, .int .i64 k, .int .i64 j] wr fun e w' => e = .returned (.bool false) ∧ Below wr.heap.size wr w') := LE0
          have LST : Hid (∀ x, 0 < x → x < n → (x - 1) / 2 = i → P.getD j 0 ≤ P.getD x 0) := (fun x a b c => by
            rcases CHI.out x a c with rfl | rfl
            · exact Int.le_refl _
            · omega)
          clear LE0 lt0 lj0 lk0
          go_wp2_with fail
          refine LH0.out.mono ?_
          rintro e w5 ⟨rfl, hb⟩
          have H5 : Hid (HS B f v N P0 w w5 P) := H.out.on hb
          clear hb LH0 H ML
          have H := H5
          clear H5
          have lj : j < P.length := by rw [H.out.len]; omega
          have LE := less_any B f w5 v P j i lj li H.out.hr
          have ML2 := mLess w5 f v H.out.hr.cel
          by_cases lt : P.getD j 0 < P.getD i 0
          · rw [decide_eq_true lt] at LE
            have LH : Hid (Calls Try.prog 60 #[v, .int .i64 j, .int .i64 i] w5 fun e w' => e = .returned (.bool true) ∧ Below (w5).heap.size w5 w') := LE
            have U2 : Hid (DnI (swp P i j) n j) := U.out.step (by rw [H.out.len]; omega) (by omega) (by omega) PAR.out.1 LST.out lt
            have LA2 : Hid ((swp P i j).getD n 0 = P0.getD n 0) := (by show _ = _; rw [swp_get li lj, if_neg (by omega), if_neg (by omega)]; exact LA.out)
            have SW : Hid (∀ w1, Below (w5).heap.size w5 w1 → (method 203 45 (.pointer (some ⟨f, 0, none⟩)) "Swap").run Try.prog w1 = .ok (63, v) w1 ∧ Calls Try.prog 63 #[v, .int .i64 i, .int .i64 j] w1 fun e w' => e = .returned (.tuple #[]) ∧ HS B f v N P0 w w' (swp P i j)) := fun w1 hb => ⟨mSwap w1 f v (H.out.on hb).hr.cel, (swap_any B f w1 v P i j li lj (H.out.on hb).hr).mono (by
              rintro e w' ⟨rfl, a, b⟩
              exact ⟨rfl, (H.out.on hb).swap (by omega) (by omega) a b⟩)⟩
            clear LE U H lt lj li LST
            go_wp2_with fail
            refine LH.out.mono ?_
            rintro e w8 ⟨rfl, hb⟩
            obtain ⟨MS, CS⟩ := SW.out w8 hb
            have CH : Hid (Calls Try.prog 63 #[v, .int .i64 i, .int .i64 j] w8 fun e w' => e = .returned (.tuple #[]) ∧ HS B f v N P0 w w' (swp P i j)) := CS
            clear CS hb LH SW ML2
            go_wp2_with fail
            refine CH.out.mono ?_
            rintro e w9 ⟨rfl, h2⟩
            have H2 : Hid (HS B f v N P0 w w9 (swp P i j)) := h2
            clear h2 CH MS
            go_wp2_with fail
            go_roundw
            case rel => exact ⟨j, _, by omega, rfl, H2, U2, LA2⟩
            case measure => simp [intOf]; omega
          · rw [decide_eq_false lt] at LE
            have LH : Hid (Calls Try.prog 60 #[v, .int .i64 j, .int .i64 i] w5 fun e w' => e = .returned (.bool false) ∧ Below (w5).heap.size w5 w') := LE
            have HH : Hid (Heap P n) := U.out.done (fun k a b c => Int.le_trans (Int.not_lt.1 lt) (LST.out k a b c))
            clear LE U lt lj li LST
            go_wp2_with fail
            refine LH.out.mono ?_
            rintro e w8 ⟨rfl, hb⟩
            have H2 : Hid (HS B f v N P0 w w8 P) := H.out.on hb
            clear hb LH H ML2
            go_wp2_with fail
            go_ret
            exact ⟨_, P, rfl, H2.out, HH.out, LA.out⟩
      · have i1 : ¬ (k : Int) < (n : Int) := by omega
        have LST : Hid (∀ x, 0 < x → x < n → (x - 1) / 2 = i → P.getD j 0 ≤ P.getD x 0) := (fun x a b c => by
          rcases CHI.out x a c with rfl | rfl
          · exact Int.le_refl _
          · omega)
        have lj : j < P.length := by rw [H.out.len]; omega
        have LE := less_any B f wr v P j i lj li H.out.hr
        have ML2 := mLess wr f v H.out.hr.cel
        by_cases lt : P.getD j 0 < P.getD i 0
        · rw [decide_eq_true lt] at LE
          have LH : Hid (Calls Try.prog 60 #[v, .int .i64 j, .int .i64 i] wr fun e w' => e = .returned (.bool true) ∧ Below (wr).heap.size wr w') := LE
          have U2 : Hid (DnI (swp P i j) n j) := U.out.step (by rw [H.out.len]; omega) (by omega) (by omega) PAR.out.1 LST.out lt
          have LA2 : Hid ((swp P i j).getD n 0 = P0.getD n 0) := (by show _ = _; rw [swp_get li lj, if_neg (by omega), if_neg (by omega)]; exact LA.out)
          have SW : Hid (∀ w1, Below (wr).heap.size wr w1 → (method 203 45 (.pointer (some ⟨f, 0, none⟩)) "Swap").run Try.prog w1 = .ok (63, v) w1 ∧ Calls Try.prog 63 #[v, .int .i64 i, .int .i64 j] w1 fun e w' => e = .returned (.tuple #[]) ∧ HS B f v N P0 w w' (swp P i j)) := fun w1 hb => ⟨mSwap w1 f v (H.out.on hb).hr.cel, (swap_any B f w1 v P i j li lj (H.out.on hb).hr).mono (by
            rintro e w' ⟨rfl, a, b⟩
            exact ⟨rfl, (H.out.on hb).swap (by omega) (by omega) a b⟩)⟩
          clear LE U H lt lj li LST
          go_wp2_with fail
          refine LH.out.mono ?_
          rintro e w8 ⟨rfl, hb⟩
          obtain ⟨MS, CS⟩ := SW.out w8 hb
          have CH : Hid (Calls Try.prog 63 #[v, .int .i64 i, .int .i64 j] w8 fun e w' => e = .returned (.tuple #[]) ∧ HS B f v N P0 w w' (swp P i j)) := CS
          clear CS hb LH SW ML2
          go_wp2_with fail
          refine CH.out.mono ?_
          rintro e w9 ⟨rfl, h2⟩
          have H2 : Hid (HS B f v N P0 w w9 (swp P i j)) := h2
          clear h2 CH MS
          go_wp2_with fail
          go_roundw
          case rel => exact ⟨j, _, by omega, rfl, H2, U2, LA2⟩
          case measure => simp [intOf]; omega
        · rw [decide_eq_false lt] at LE
          have LH : Hid (Calls Try.prog 60 #[v, .int .i64 j, .int .i64 i] wr fun e w' => e = .returned (.bool false) ∧ Below (wr).heap.size wr w') := LE
          have HH : Hid (Heap P n) := U.out.done (fun k a b c => Int.le_trans (Int.not_lt.1 lt) (LST.out k a b c))
          clear LE U lt lj li LST
          go_wp2_with fail
          refine LH.out.mono ?_
          rintro e w8 ⟨rfl, hb⟩
          have H2 : Hid (HS B f v N P0 w w8 P) := H.out.on hb
          clear hb LH H ML2
          go_wp2_with fail
          go_ret
          exact ⟨_, P, rfl, H2.out, HH.out, LA.out⟩
end Go.Proofs.Ytagkbglgdmajhaa.Hm
