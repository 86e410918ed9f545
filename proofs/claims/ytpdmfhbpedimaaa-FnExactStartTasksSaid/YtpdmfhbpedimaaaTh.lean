/- Tasks that hold their marks; tasks copied, their lists apart. -/
import Derived.Test.YtpdmfhbpedimaaaTm
namespace Go.Proofs.Ytpdmfhbpedimaaa.Tm
open Go.ChangeShapes Go.WideShapes Go.ChangeAt Go.RowKit
open Go.Proofs.Ytpdmfhbpedimaaa.Lists Go.Proofs.Ytpdmfhbpedimaaa.Tk

theorem rows_at {w : World} {v : Value} {L : Ls} (h : Tk.Reads w v L) : ∃ b o, (∀ i, i < L.length → Tk.Cs w b o L i) ∧ (0 < L.length → b < w.heap.size ∧ ∃ cap, v = .slice (some ⟨b, o, none⟩) L.length cap) := by
  rcases h with ⟨rfl, _⟩ | ⟨b, o, cap, h1, h2, h3, h4, h5⟩
  · exact ⟨0, 0, fun i hi => by simp at hi, fun hi => by simp at hi⟩
  · exact ⟨b, o, h5, fun _ => ⟨h4, cap, h1⟩⟩

set_option maxHeartbeats 2000000 in
set_option maxRecDepth 20000 in
theorem heldS_any (w : World) (v : Value) (R : Ls) (k0 : Int) (h : Tk.Reads w v (mix k0 R R.length)) (h0 : 0 ≤ k0) (hs : k0 + (tl R R.length : Int) ≤ 4611686018427387904) (hl : ∀ i, i < R.length → (cl R i).length ≤ 1048576) :
    Calls Try.prog 64 #[v, .int .i64 k0] w fun e w' => e = .returned (.int .i64 (k0 + (tl R R.length : Int))) ∧ ∃ m, w' = w.drewN m := by
  obtain ⟨b, o, hc, hv⟩ := rows_at h
  have fits := h.fits
  obtain ⟨a, cap, e⟩ := h.form
  subst e
  rw [mix_len] at hc hv fits ⊢
  have HC : Hid (∀ i, i < R.length → ∀ m, Tk.Cs (w.drewN m) b o (mix k0 R R.length) i) := fun i hi m => hc i hi
  have HV : Hid (0 < R.length → b < w.heap.size ∧ a = some ⟨b, o, none⟩) := fun hi => by
    obtain ⟨h1, c, h2⟩ := hv hi
    simp at h2
    exact ⟨h1, h2.1⟩
  have HL : Hid (∀ i, i < R.length → (cl R i).length ≤ 1048576) := hl
  have HS : Hid (∀ k, k ≤ R.length → k0 + (tl R k : Int) ≤ 4611686018427387904) := fun k hk => by have := tl_mono R hk; omega
  have HM : Hid (∀ i, i < R.length → (∀ j, cz (mix k0 R R.length) i j = k0 + (tl R i : Int) + ((cl R i).length : Int) + (j : Int) - 1) ∧ cl (mix k0 R R.length) i = sq (k0 + (tl R i : Int)) (cl R i).length) := fun i hi => mix_lo hi hi
  obtain ⟨n, hn⟩ : ∃ n, n = R.length := ⟨_, rfl⟩
  rw [← hn] at fits HC HV HL HS HM ⊢
  clear h hc hv hs hl hn
  go_enter Try.func64, Try.ntmps64
  go_wp2_with fail
  go_loopw [1, 5] (fun q i wr => ∃ k m : Nat, k ≤ n ∧ i = .int .i64 k ∧ q = .int .i64 (k0 + (tl R k : Int)) ∧ Hid (wr = w.drewN m)) (fun _ i _ => n - (intOf i).toNat)
  case atStart => exact ⟨0, 0, Nat.zero_le _, rfl, by simp [tl], rfl⟩
  case round =>
    obtain ⟨k, m, hk, rfl, rfl, HW⟩ := hrel
    by_cases hlt : k < n
    · obtain ⟨hb, hx⟩ := HV.out (by omega)
      subst hx
      have i0 : (0 : Int) ≤ (k : Int) := by omega
      have i1 : (k : Int) < (n : Int) := by omega
      have Q : Hid (∀ m, Tk.Cs (w.drewN m) b o (mix k0 R n) k) := HC.out k hlt
      obtain ⟨e1, e2⟩ := HM.out k hlt
      obtain ⟨q1, q2, q3, u, q0, ru⟩ := Q.out m
      rw [e1] at q1 q2 q3
      rw [e2] at ru
      rw [← HW.out] at q0 q1 q2 q3 ru
      have tk := HS.out k (by omega)
      have tk1 := HS.out (k + 1) (by omega)
      have lk := HL.out k hlt
      have ET : Hid (tl R (k + 1) = tl R k + ((cl R k).length + 3)) := rfl
      have tk2 : k0 + (tl R k : Int) + ((cl R k).length : Int) + 3 ≤ 4611686018427387904 := by have := ET.out; omega
      have C : Hid (Calls Try.prog 17 #[u, .int .i64 (k0 + (tl R k : Int))] wr fun e w' => e = .returned (.int .i64 (k0 + (tl R k : Int) + ((cl R k).length : Int))) ∧ ∃ m, w' = wr.drewN m) := Lists.heldW_any wr u (cl R k).length _ (by omega) (by omega) (by omega) ru
      obtain ⟨ua, uc, hue⟩ := ru.form
      subst hue
      rw [sq_len] at q0 C
      obtain ⟨T, hT⟩ : ∃ T : Int, T = k0 + (tl R k : Int) := ⟨_, rfl⟩
      have HT : Hid (T = k0 + (tl R k : Int)) := hT
      rw [← hT] at C tk tk2 q1 q2 q3 ⊢
      have T0 : 0 ≤ T := by omega
      obtain ⟨l, hl⟩ : ∃ l : Nat, l = (cl R k).length := ⟨_, rfl⟩
      have HLL : Hid (l = (cl R k).length) := hl
      rw [← hl] at C tk2 q0 q1 q2 q3 lk
      have q1' : Hid (∀ m, (wr.drewN m).cell? ⟨b, o + k * 4 + 1, none⟩ = some (.int .i64 (T + (l : Int)))) := fun m => by have := q1; rw [show T + (l : Int) + ((1 : Nat) : Int) - 1 = T + (l : Int) by omega] at this; exact this
      have q2' : Hid (∀ m, (wr.drewN m).cell? ⟨b, o + k * 4 + 2, none⟩ = some (.int .i64 (T + (l : Int) + 1))) := fun m => by have := q2; rw [show T + (l : Int) + ((2 : Nat) : Int) - 1 = T + (l : Int) + 1 by omega] at this; exact this
      have q3' : Hid (∀ m, (wr.drewN m).cell? ⟨b, o + k * 4 + 3, none⟩ = some (.int .i64 (T + (l : Int) + 1 + 1))) := fun m => by have := q3; rw [show T + (l : Int) + ((3 : Nat) : Int) - 1 = T + (l : Int) + 1 + 1 by omega] at this; exact this
      clear hT hl q1 q2 q3 e1 e2 ru tk1
      go_wp2_with fail
      refine C.out.mono ?_
      rintro e w2 ⟨rfl, m2, rfl⟩
      have p1 := q1'.out m2
      have p2 := q2'.out m2
      have p3 := q3'.out m2
      have x1 : (T + (l : Int) != T + (l : Int)) = false := by simp
      have x2 : (T + (l : Int) + 1 != T + (l : Int) + 1) = false := by simp
      have x3 : (T + (l : Int) + 1 + 1 != T + (l : Int) + 1 + 1) = false := by simp
      have x0 : ¬ T + (l : Int) < 0 := by omega
      go_wp2_with fail
      go_roundw
      case rel => exact ⟨k + 1, m + m2, by omega, by go_num, by rw [ET.out, ← HLL.out]; congr 1; have := HT.out; omega, (by show _ = _; rw [HW.out]; exact World.drewN_drewN _ _ _)⟩
      case measure => simp [intOf]; omega
    · have hkn : k = n := by omega
      subst hkn
      go_wp2_with fail
      go_ret
      exact ⟨rfl, m, HW.out⟩

set_option maxHeartbeats 1000000 in
theorem toO_any (w : World) (v : Value) (L : Ls) (h : Reads w v L) (hl : L.length ≤ 1048576) (hi' : ∀ i, i < L.length → (cl L i).length ≤ 1048576) :
    Calls Try.prog 51 #[v] w fun e w' => ∃ v' xs, e = .returned v' ∧ Own w' w.heap.size v' xs L ∧ Below w.heap.size w w' := by
  obtain ⟨i0, hi, hz0, hz1, hz2⟩ := info_parts Try.infoE
  have hcell : ∃ f : Nat → Nat × Nat, (∀ i, i < L.length → Cs w (f 0).1 (f 0).2 L i) ∧ (0 < L.length → (f 0).1 < w.heap.size ∧ ∃ cap, v = .slice (some ⟨(f 0).1, (f 0).2, none⟩) L.length cap) := by
    rcases h with ⟨rfl, _⟩ | ⟨b, o, cap, h1, h2, h3, h4, h5⟩
    · exact ⟨fun _ => (0, 0), fun i hi => by simp at hi, fun hi => by simp at hi⟩
    · exact ⟨fun _ => (b, o), h5, fun _ => ⟨h4, cap, h1⟩⟩
  obtain ⟨f, hc, hv⟩ := hcell
  obtain ⟨a, cap, rfl⟩ := h.form
  have HC : Hid (∀ i, i < L.length → Cs w (f 0).1 (f 0).2 L i) := hc
  have HI : Hid (∀ i, i < L.length → (cl L i).length ≤ 1048576) := hi'
  have HV : Hid (0 < L.length → (f 0).1 < w.heap.size ∧ a = some ⟨(f 0).1, (f 0).2, none⟩) := fun hi => by
    obtain ⟨h1, c, h2⟩ := hv hi
    simp at h2
    exact ⟨h1, h2.1⟩
  obtain ⟨n, hn⟩ : ∃ n, n = L.length := ⟨_, rfl⟩
  unfold Own
  rw [← hn] at hl ⊢
  have HN : Hid (n = L.length) := hn
  clear h hc hv hn hi'
  go_enter Try.func51, Try.ntmps51
  go_wp2_with (at_make; refine wpList_make_full _ rfl _ _ 30 rfl w.heap.size 55 i0 (.agg #[.slice none 0 0, .int .i64 0, .int .i64 0, .int .i64 0]) 4 Try.underlying30 hi hz0 hz1 .i64 .i64 (n : Int) (n : Int) n rfl rfl rfl rfl (by rw [hz2]; omega) (by unfold maxLen; omega) (Nat.le_refl _) ?_; intro w4 hown hgrow)
  have R0 : Hid (∃ xs, w4.ownsRow w.heap.size 55 4 (.slice (some ⟨w.heap.size, 0, none⟩) n n) n xs ∧ Tk.Good w4 (w.heap.size + 1) xs L 0 ∧ Rise xs 0) := ⟨_, hown, fun i hi => absurd hi (by omega), fun i j a _ hj => absurd hj (by omega)⟩
  have B0 : Hid (Below w.heap.size w w4) := (Below.refl _ _).grown hgrow (Nat.le_refl _) (fun k hk => by cases hk)
  have Z0 : Hid (w.heap.size + 1 ≤ w4.heap.size) := (hown.lt w.heap.size (by simp [Value.ownBlock])).2
  clear hown hgrow
  go_loopw [4] (fun c wr => ∃ j : Nat, j ≤ n ∧ c = .int .i64 j ∧ Hid (∃ xs, wr.ownsRow w.heap.size 55 4 (.slice (some ⟨w.heap.size, 0, none⟩) n n) n xs ∧ Tk.Good wr (w.heap.size + 1) xs L j ∧ Rise xs j) ∧ Hid (w.heap.size + 1 ≤ wr.heap.size) ∧ Hid (Below w.heap.size w wr)) (fun c _ => n - (intOf c).toNat)
  case atStart => exact ⟨0, Nat.zero_le _, rfl, R0, Z0, B0⟩
  case round =>
    obtain ⟨j, hj, rfl, R, ZZ, BB⟩ := hrel
    by_cases hlt : j < n
    · have hlt' : j < L.length := by rw [← HN.out]; exact hlt
      obtain ⟨v1, v2⟩ := HV.out (by omega)
      subst v2
      have i0 : (0 : Int) ≤ (j : Int) := by omega
      have i1 : (j : Int) < (n : Int) := by omega
      obtain ⟨q1, q2, q3, u, qu, ru⟩ : Cs wr (f 0).1 (f 0).2 L j := (HC.out j hlt').on BB.out v1
      have T1 : Hid (Calls Try.prog 67 #[Tk1.sv (cz L j 1) (cz L j 2) (cz L j 3) u] wr fun e w' => ∃ g, e = .returned (Tk1.sv (cz L j 1) (cz L j 2) (cz L j 3) (.slice (some ⟨g, 0, none⟩) (cl L j).length (cl L j).length)) ∧ w'.ownsRow wr.heap.size 2 1 (.slice (some ⟨g, 0, none⟩) (cl L j).length (cl L j).length) (cl L j).length (ints (cl L j)) ∧ Below wr.heap.size wr w') := Tk1.to_st _ _ _ (cl L j) u wr ru (HI.out j hlt')
      obtain ⟨ua, uc, rfl⟩ := ru.form
      obtain ⟨xs, RX, GX, RI⟩ := R.out
      have RI' : Hid (Rise xs j) := RI
      have RX' : Hid (wr.ownsRow w.heap.size 55 4 (.slice (some ⟨w.heap.size, 0, none⟩) n n) n xs) := RX
      have GX' : Hid (Tk.Good wr (w.heap.size + 1) xs L j) := GX
      clear RX GX RI R ru
      generalize hx1 : cz L j 1 = x1 at *
      generalize hx2 : cz L j 2 = x2 at *
      generalize hx3 : cz L j 3 = x3 at *
      have HX : Hid (cz L j 1 = x1 ∧ cz L j 2 = x2 ∧ cz L j 3 = x3) := ⟨hx1, hx2, hx3⟩
      clear hx1 hx2 hx3
      go_wp2_with fail
      refine (Calls.mono T1.out) ?_
      rintro e w5 ⟨g5, rfl, r5, hb5⟩
      have R5 : Hid (w5.ownsRow w.heap.size 55 4 (.slice (some ⟨w.heap.size, 0, none⟩) n n) n xs) := row_below RX'.out hb5
      have B5 : Hid (Below w.heap.size w w5) := BB.out.trans (hb5.mono BB.out.size)
      have G5 : Hid (Tk.Good w5 (w.heap.size + 1) xs L j) := GX'.out.on hb5
      have IR : Hid (w5.ownsRow (w.heap.size + 1) 2 1 (.slice (some ⟨g5, 0, none⟩) (cl L j).length (cl L j).length) (cl L j).length (ints (cl L j))) := Tk1.own_down r5 ZZ.out
      have Z5 : Hid (w.heap.size + 1 ≤ w5.heap.size) := Nat.le_trans ZZ.out hb5.size
      have lx : xs.length = n * 4 := R5.out.1
      obtain ⟨z0, p0⟩ : ∃ z, w5.cell? ⟨w.heap.size, j * 4, none⟩ = some z := ⟨xs[j * 4]'(by omega), by rw [R5.out.cellAt (j * 4) (by omega)]; exact List.getElem?_eq_getElem _⟩
      obtain ⟨z1, p1⟩ : ∃ z, w5.cell? ⟨w.heap.size, j * 4 + 1, none⟩ = some z := ⟨xs[j * 4 + 1]'(by omega), by rw [R5.out.cellAt (j * 4 + 1) (by omega)]; exact List.getElem?_eq_getElem _⟩
      obtain ⟨z2, p2⟩ : ∃ z, w5.cell? ⟨w.heap.size, j * 4 + 2, none⟩ = some z := ⟨xs[j * 4 + 2]'(by omega), by rw [R5.out.cellAt (j * 4 + 2) (by omega)]; exact List.getElem?_eq_getElem _⟩
      obtain ⟨z3, p3⟩ : ∃ z, w5.cell? ⟨w.heap.size, j * 4 + 3, none⟩ = some z := ⟨xs[j * 4 + 3]'(by omega), by rw [R5.out.cellAt (j * 4 + 3) (by omega)]; exact List.getElem?_eq_getElem _⟩
      have f0 : w5.frozen? ⟨w.heap.size, j * 4, none⟩ = false := R5.out.frozenAt _
      have f1 : w5.frozen? ⟨w.heap.size, j * 4 + 1, none⟩ = false := R5.out.frozenAt _
      have f2 : w5.frozen? ⟨w.heap.size, j * 4 + 2, none⟩ = false := R5.out.frozenAt _
      have f3 : w5.frozen? ⟨w.heap.size, j * 4 + 3, none⟩ = false := R5.out.frozenAt _
      obtain ⟨w6, hw6⟩ : ∃ w6, w6 = ((((w5.setCell ⟨w.heap.size, j * 4, none⟩ (.slice (some ⟨g5, 0, none⟩) (cl L j).length (cl L j).length)).setCell ⟨w.heap.size, j * 4 + 1, none⟩ (.int .i64 x1)).setCell ⟨w.heap.size, j * 4 + 2, none⟩ (.int .i64 x2)).setCell ⟨w.heap.size, j * 4 + 3, none⟩ (.int .i64 x3)) := ⟨_, rfl⟩
      have HW6 : Hid (w6 = ((((w5.setCell ⟨w.heap.size, j * 4, none⟩ (.slice (some ⟨g5, 0, none⟩) (cl L j).length (cl L j).length)).setCell ⟨w.heap.size, j * 4 + 1, none⟩ (.int .i64 x1)).setCell ⟨w.heap.size, j * 4 + 2, none⟩ (.int .i64 x2)).setCell ⟨w.heap.size, j * 4 + 3, none⟩ (.int .i64 x3))) := hw6
      have R6 : Hid (w6.ownsRow w.heap.size 55 4 (.slice (some ⟨w.heap.size, 0, none⟩) n n) n (((((xs.set (j * 4) (.slice (some ⟨g5, 0, none⟩) (cl L j).length (cl L j).length)).set (j * 4 + 1) (.int .i64 x1)).set (j * 4 + 2) (.int .i64 x2)).set (j * 4 + 3) (.int .i64 x3)))) := (by show World.ownsRow _ _ _ _ _ _ _; rw [hw6]; exact ((((R5.out.stored (j * 4) _).1.stored (j * 4 + 1) _).1.stored (j * 4 + 2) _).1.stored (j * 4 + 3) _).1)
      have KP : ∀ {u : Value} {m : Nat} {ys : List Value}, w5.ownsRow (w.heap.size + 1) 2 1 u m ys → w6.ownsRow (w.heap.size + 1) 2 1 u m ys := fun {u m ys} hh => by
        rw [hw6]
        exact (Tk1.row_set (Tk1.row_set (Tk1.row_set (Tk1.row_set hh _ _ _ (Nat.lt_succ_self _)) _ _ _ (Nat.lt_succ_self _)) _ _ _ (Nat.lt_succ_self _)) _ _ _ (Nat.lt_succ_self _))
      have G6 : Hid (Tk.Good w6 (w.heap.size + 1) (((((xs.set (j * 4) (.slice (some ⟨g5, 0, none⟩) (cl L j).length (cl L j).length)).set (j * 4 + 1) (.int .i64 x1)).set (j * 4 + 2) (.int .i64 x2)).set (j * 4 + 3) (.int .i64 x3))) L (j + 1)) := (by
        intro i hi
        by_cases e : i = j
        · subst e
          refine ⟨(by rw [List.getElem?_set_ne (by omega), List.getElem?_set_ne (by omega), List.getElem?_set_self (by first | omega | (simp; omega))]; rw [HX.out.1]), (by rw [List.getElem?_set_ne (by omega), List.getElem?_set_self (by first | omega | (simp; omega))]; rw [HX.out.2.1]), (by rw [List.getElem?_set_self (by first | omega | (simp; omega))]; rw [HX.out.2.2]), _, ?_, KP IR.out⟩
          rw [List.getElem?_set_ne (by omega), List.getElem?_set_ne (by omega), List.getElem?_set_ne (by omega), List.getElem?_set_self (by first | omega | (simp; omega))]
        · obtain ⟨h1, h2, h3, u, hu, hr⟩ := G5.out i (by omega)
          refine ⟨(by rw [List.getElem?_set_ne (by omega), List.getElem?_set_ne (by omega), List.getElem?_set_ne (by omega), List.getElem?_set_ne (by omega)]; exact h1), (by rw [List.getElem?_set_ne (by omega), List.getElem?_set_ne (by omega), List.getElem?_set_ne (by omega), List.getElem?_set_ne (by omega)]; exact h2), (by rw [List.getElem?_set_ne (by omega), List.getElem?_set_ne (by omega), List.getElem?_set_ne (by omega), List.getElem?_set_ne (by omega)]; exact h3), u, ?_, KP hr⟩
          rw [List.getElem?_set_ne (by omega), List.getElem?_set_ne (by omega), List.getElem?_set_ne (by omega), List.getElem?_set_ne (by omega)]; exact hu)
      have I6 : Hid (Rise ((((xs.set (j * 4) (.slice (some ⟨g5, 0, none⟩) (cl L j).length (cl L j).length)).set (j * 4 + 1) (.int .i64 x1)).set (j * 4 + 2) (.int .i64 x2)).set (j * 4 + 3) (.int .i64 x3)) (j + 1)) := (by
        have hb : ∀ i, i ≠ j → bk ((((xs.set (j * 4) (.slice (some ⟨g5, 0, none⟩) (cl L j).length (cl L j).length)).set (j * 4 + 1) (.int .i64 x1)).set (j * 4 + 2) (.int .i64 x2)).set (j * 4 + 3) (.int .i64 x3)) i = bk xs i := fun i hi => by
          unfold bk
          rw [List.getElem?_set_ne (by omega), List.getElem?_set_ne (by omega), List.getElem?_set_ne (by omega), List.getElem?_set_ne (by omega)]
        have hj : bk ((((xs.set (j * 4) (.slice (some ⟨g5, 0, none⟩) (cl L j).length (cl L j).length)).set (j * 4 + 1) (.int .i64 x1)).set (j * 4 + 2) (.int .i64 x2)).set (j * 4 + 3) (.int .i64 x3)) j = some g5 := by
          unfold bk
          rw [List.getElem?_set_ne (by omega), List.getElem?_set_ne (by omega), List.getElem?_set_ne (by omega), List.getElem?_set_self (by omega)]
          rfl
        intro i i' a h1 h2 h3
        rw [hb i (by omega)] at h3
        by_cases e : i' = j
        · subst e
          rw [hj]
          obtain ⟨_, _, _, u, hu, hr⟩ := GX'.out i (by omega)
          unfold bk at h3
          rw [hu] at h3
          have := (hr.lt a h3).2
          have := (r5.lt g5 rfl).1
          simp
          omega
        · rw [hb i' e]
          exact RI'.out i i' a h1 (by omega) h3)
      have B6 : Hid (Below w.heap.size w w6) := (by show Below _ _ _; rw [hw6]; exact ((((B5.out.setCell (p := ⟨w.heap.size, j * 4, none⟩) (Nat.le_refl _) _).setCell (p := ⟨w.heap.size, j * 4 + 1, none⟩) (Nat.le_refl _) _).setCell (p := ⟨w.heap.size, j * 4 + 2, none⟩) (Nat.le_refl _) _).setCell (p := ⟨w.heap.size, j * 4 + 3, none⟩) (Nat.le_refl _) _))
      have Z6 : Hid (w.heap.size + 1 ≤ w6.heap.size) := (by show _ ≤ _; rw [hw6]; have := Z5.out; simp; omega)
      clear hb5 lx r5 hw6 T1 KP
      go_wp2_with fail
      rw [← HW6.out]
      go_roundw
      case rel => exact ⟨j + 1, by omega, by go_num, ⟨_, R6.out, G6.out, I6.out⟩, Z6, B6⟩
      case measure => simp [intOf]; omega
    · have hjn : j = n := by omega
      subst hjn
      have RE : Hid (∃ xs, wr.ownsRow w.heap.size 55 4 (.slice (some ⟨w.heap.size, 0, none⟩) j j) j xs ∧ Tk.Good wr w.heap.size xs L j ∧ Rise xs j) := (by
        obtain ⟨xs, h, g, ri⟩ := R.out
        refine ⟨xs, h, fun i hi => ?_, ri⟩
        obtain ⟨h1, h2, h3, u, hu, hr⟩ := g i hi
        exact ⟨h1, h2, h3, u, hu, Tk1.own_down hr (Nat.le_succ _)⟩)
      clear R
      go_wp2_with fail
      go_ret
      obtain ⟨xs, h1, h2, h3⟩ := RE.out
      exact ⟨_, xs, rfl, ⟨h1, h2, h3⟩, BB.out⟩

end Go.Proofs.Ytpdmfhbpedimaaa.Tm
