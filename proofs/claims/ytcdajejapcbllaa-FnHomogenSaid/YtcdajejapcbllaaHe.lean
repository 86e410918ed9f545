/- Series drawn; rows compared, summed; what a step behind a break leaves. -/
import Derived.Test.YtcdajejapcbllaaDd
namespace Go.Proofs.Ytcdajejapcbllaa.Dc
open Go.ChangeShapes Go.WideShapes Go.ChangeAt Go.RowKit
open Go.Proofs.Ytcdajejapcbllaa.Lists Go.Proofs.Ytcdajejapcbllaa.Al Go.Proofs.Ytcdajejapcbllaa.Rd Go.Proofs.Ytcdajejapcbllaa.Su Go.Proofs.Ytcdajejapcbllaa.Se Go.Proofs.Ytcdajejapcbllaa.Bk Go.Proofs.Ytcdajejapcbllaa.Hg

set_option maxHeartbeats 1000000 in
theorem lsum_any (L : List Int) (v : Value) (w : World) (hL : Lists.Reads w v L) (hf : L.length < 9223372036854775808)
    (hb : L.length ≤ 500) (hz : ∀ j, j < L.length → -100000 ≤ L.getD j 0 ∧ L.getD j 0 ≤ 100000) :
    Calls Try.prog 11 #[v] w fun e w' => e = .returned (.int .i64 (tot L L.length)) ∧ w' = w := by
  have HT : Hid (∀ k, k ≤ L.length → -(100000 * (k : Int)) ≤ tot L k ∧ tot L k ≤ 100000 * (k : Int)) := fun k hk => tot_bd hz k hk
  obtain ⟨b, o, hcell, hvv⟩ := reads_at hL
  obtain ⟨a, cap, rfl⟩ := hL.form
  have HC : Hid (∀ i, i < L.length → w.cell? ⟨b, o + i, none⟩ = some (.int .i64 (L.getD i 0))) := hcell
  have HB : Hid (0 < L.length → b < w.heap.size ∧ a = some ⟨b, o, none⟩) := fun hi => by
    obtain ⟨h1, c, h2⟩ := hvv hi
    simp at h2
    exact ⟨h1, h2.1⟩
  obtain ⟨n, hn⟩ : ∃ n, n = L.length := ⟨_, rfl⟩
  rw [← hn] at hf hb ⊢
  have HN : Hid (n = L.length) := hn
  clear hL hcell hvv hn
  clear hz
  go_enter Try.func11, Try.ntmps11
  go_wp2_with fail
  go_loop [3, 4] (fun s i => ∃ k : Nat, k ≤ n ∧ i = .int .i64 k ∧ s = .int .i64 (tot L k)) (fun _ i => n - (intOf i).toNat)
  case atStart => exact ⟨0, by omega, rfl, rfl⟩
  case round =>
    obtain ⟨k, hk, rfl, rfl⟩ := hrel
    by_cases hlt : k < n
    · have hkl : k < L.length := by rw [← HN.out]; exact hlt
      obtain ⟨hb, hx⟩ := HB.out (by omega)
      subst hx
      have q : w.cell? ⟨b, o + k, none⟩ = some (.int .i64 (L.getD k 0)) := HC.out k hkl
      have i1 : (0 : Int) ≤ (k : Int) := by omega
      have i2 : (k : Int) < (n : Int) := by omega
      have E : Hid (tot L (k + 1) = tot L k + L.getD k 0) := rfl
      have t1 := HT.out (k + 1) (by omega)
      rw [E.out] at t1
      have t2 : -9223372036854775808 ≤ tot L k + L.getD k 0 ∧ tot L k + L.getD k 0 < 9223372036854775808 := by omega
      clear t1
      generalize tot L k = s at *
      generalize L.getD k 0 = z at *
      go_wp2_with fail
      go_round
      case rel => exact ⟨k + 1, by omega, by go_num, by rw [E.out]⟩
      case measure => simp [intOf]; omega
    · have hkn : k = n := by omega
      subst hkn
      go_wp2_with fail
      go_ret
      exact ⟨rfl, rfl⟩

set_option maxHeartbeats 1000000 in
theorem same_any (L : List Int) (v1 v2 : Value) (w : World) (h1 : Lists.Reads w v1 L) (h2 : Lists.Reads w v2 L) (hf : L.length ≤ 1000) :
    Calls Try.prog 8 #[v1, v2] w fun e w' => e = .returned (.bool true) ∧ ∃ n, w' = w.drewN n := by
  by_cases hL : L = []
  · subst hL
    obtain ⟨a, cap, rfl⟩ := h1.form
    obtain ⟨a2, cap2, rfl⟩ := h2.form
    clear h1 h2
    go_enter Try.func8, Try.ntmps8
    go_wp2
    go_loop [5] (fun i => i = .int .i64 0) (fun _ => 0)
    case atStart => rfl
    case round =>
      subst hrel
      go_wp2
      go_ret
      exact ⟨rfl, 0, rfl⟩
  · have l1 : 0 < L.length := List.length_pos_iff.2 hL
    obtain ⟨b1, o1, k1, e1⟩ := reads_at h1
    obtain ⟨b2, o2, k2, e2⟩ := reads_at h2
    obtain ⟨z1, c1, rfl⟩ := e1 l1
    obtain ⟨z2, c2, rfl⟩ := e2 l1
    have K1 : Hid (∀ i, i < L.length → w.cell? ⟨b1, o1 + i, none⟩ = some (.int .i64 (L.getD i 0))) := k1
    have K2 : Hid (∀ i, i < L.length → w.cell? ⟨b2, o2 + i, none⟩ = some (.int .i64 (L.getD i 0))) := k2
    obtain ⟨n, hn⟩ : ∃ n, n = L.length := ⟨_, rfl⟩
    rw [← hn] at hf l1 ⊢
    have HN : Hid (n = L.length) := hn
    clear k1 k2 h1 h2 hn e1 e2 hL
    go_enter Try.func8, Try.ntmps8
    go_wp2
    go_loopw [5] (fun i wr => ∃ k m : Nat, k ≤ n ∧ i = .int .i64 k ∧ wr = w.drewN m) (fun i _ => n - (intOf i).toNat)
    case atStart => exact ⟨0, 0, Nat.zero_le _, rfl, rfl⟩
    case round =>
      obtain ⟨k, m, hk, rfl, rfl⟩ := hrel
      by_cases hlt : k < n
      · have q1 := K1.out k (by rw [← HN.out]; exact hlt)
        have q2 := K2.out k (by rw [← HN.out]; exact hlt)
        have i0 : (0 : Int) ≤ (k : Int) := by omega
        have i1 : (k : Int) < (n : Int) := by omega
        have hne : (L.getD k 0 != L.getD k 0) = false := by simp
        generalize L.getD k 0 = z at *
        go_wp2_with fail
        go_quiet (fail)
        go_wp2_with fail
        go_roundw
        case rel => exact ⟨k + 1, m + nq, by omega, by go_num, rfl⟩
        case measure => simp [intOf]; omega
      · go_wp2
        go_ret
        exact ⟨rfl, m, rfl⟩
theorem abs_any (x : Int) (w : World) (hx : -9000000000000000000 ≤ x ∧ x ≤ 9000000000000000000) : Calls Try.prog 10 #[.int .i64 x] w fun e w' => e = .returned (.int .i64 (x.natAbs : Int)) ∧ w' = w := by
  by_cases h : x < 0
  · have e : (x.natAbs : Int) = -x := by omega
    rw [e]
    clear e
    go_enter Try.func10, Try.ntmps10
    go_wp2_with fail
    go_ret
    exact ⟨rfl, rfl⟩
  · have e : (x.natAbs : Int) = x := by omega
    rw [e]
    clear e
    go_enter Try.func10, Try.ntmps10
    go_wp2_with fail
    go_ret
    exact ⟨rfl, rfl⟩
theorem bmp_at (L : List Int) (s : Int) (k i : Nat) (hi : i < L.length) : (bmp L s k).getD i 0 = if i < k then L.getD i 0 + s else L.getD i 0 := by
  unfold bmp
  simp [List.getD_eq_getElem?_getD, hi]
theorem sm_plus (f : Nat → Int) (s : Int) : ∀ k, sm k (fun i => f i + s) = sm k f + (k : Int) * s
  | 0 => by simp [sm]
  | k + 1 => by
    show sm k (fun i => f i + s) + (f k + s) = sm k f + f k + ((k + 1 : Nat) : Int) * s
    rw [sm_plus f s k, Int.natCast_add, Int.add_mul]
    simp
    omega
theorem tot_bmp (L : List Int) (s : Int) (k : Nat) (hk : k ≤ L.length) : tot (bmp L s k) k = tot L k + (k : Int) * s := by
  unfold tot
  rw [← sm_plus]
  exact sm_congr fun i hi => by rw [bmp_at L s k i (by omega), if_pos hi]
theorem bmp_drop (L : List Int) (s : Int) (k : Nat) : (bmp L s k).drop k = L.drop k := by
  apply List.ext_getElem?
  intro i
  rw [List.getElem?_drop, List.getElem?_drop]
  by_cases h : k + i < L.length
  · rw [List.getElem?_eq_getElem (by rw [bmp_len]; exact h), List.getElem?_eq_getElem h]
    have := bmp_at L s k (k + i) h
    rw [if_neg (by omega)] at this
    simpa [List.getD_eq_getElem?_getD, h, bmp_len] using this
  · rw [List.getElem?_eq_none (by rw [bmp_len]; omega), List.getElem?_eq_none (by omega)]
theorem tot_bmp_drop (L : List Int) (s : Int) (k : Nat) (hk : k ≤ L.length) : tot (bmp L s k) (bmp L s k).length - tot (bmp L s k) k = tot L L.length - tot L k := by
  rw [← tot_drop L k hk, ← tot_drop (bmp L s k) k (by rw [bmp_len]; exact hk), bmp_drop]
/- behind the step the means are less than 1 apart -/
theorem left_small (L : List Int) (k : Nat) (h1 : 1 ≤ k) (hk : k < L.length) (s : Int) (hs : s = (num L k).tdiv (den L k)) :
    (((tot (bmp L s k) (bmp L s k).length - tot (bmp L s k) k) * (k : Int) - tot (bmp L s k) k * ((L.length : Int) - (k : Int))).natAbs : Int) < den L k := by
  have dp := den_pos k h1 hk
  rw [tot_bmp_drop L s k (by omega), tot_bmp L s k (by omega)]
  have e : (tot L L.length - tot L k) * (k : Int) - (tot L k + (k : Int) * s) * ((L.length : Int) - (k : Int)) = num L k - den L k * s := by
    unfold num den
    rw [Int.add_mul]
    have : (k : Int) * s * ((L.length : Int) - (k : Int)) = (k : Int) * ((L.length : Int) - (k : Int)) * s := by rw [Int.mul_assoc, Int.mul_comm s, ← Int.mul_assoc]
    omega
  rw [e]
  have r : num L k - den L k * s = (num L k).tmod (den L k) := by
    have := Int.mul_tdiv_add_tmod (num L k) (den L k)
    rw [← hs] at this
    omega
  rw [r, Int.natAbs_tmod]
  have := Nat.mod_lt (num L k).natAbs (show 0 < (den L k).natAbs by omega)
  omega
set_option maxHeartbeats 1000000 in
theorem hom_any (a : Option Addr) (n cap : Nat) (w : World) (hc : Go.Proofs.Ytcdajejapcbllaa.Rd.Code w a n cap) (hn : n ≤ 1048576) : Calls Try.prog 5 #[.slice a n cap] w fun e w' => ∃ v L, e = .returned v ∧ Lists.Reads w' v L ∧ L.length ≤ 501 ∧ Below w.heap.size w w' := by
  have O : Hid (Calls Try.prog 12 #[.slice a n cap] w fun e w' => e = .returned (.pointer (some ⟨w.heap.size, 0, none⟩)) ∧ w' = w.alloc (.cells #[.slice a n cap, .int .i64 0] 42)) := open_any _ a n cap rfl w
  have K0 : Hid (Rd w.heap.size (w.alloc (.cells #[.slice a n cap, .int .i64 0] 42))) := Rd.new hc hn (Below.refl _ _)
  have B0 : Hid (Below w.heap.size w (w.alloc (.cells #[.slice a n cap, .int .i64 0] 42))) := (Below.refl _ _).alloc (Nat.le_refl _) _
  obtain ⟨i0, hi, hz0, hz1, hz2⟩ := info_parts Lists.Try.info2
  clear hc
  go_enter Try.func5, Try.ntmps5
  go_wp2_with fail
  refine O.out.mono ?_
  rintro e w1 ⟨rfl, hw⟩
  rw [← hw] at K0 B0
  clear hw O
  go_wp2_with fail
  refine (draw_any _ _ K0.out).mono ?_
  rintro e w2 ⟨v, L, rfl, lr, ll, k2, t2⟩
  have K2 : Hid (Rd w.heap.size w2) := k2
  have L2 : Hid (LR w.heap.size w2 v L) := lr
  have B2 : Hid (Below w.heap.size w w2) := Turn.below B0.out (Nat.le_refl _) t2
  obtain ⟨sa, sc, ev⟩ := lr.reads.form
  subst ev
  have LL : Hid (L.length ≤ 501) := ll
  clear k2 lr t2 K0 B0 ll
  go_wp2_with fail
  refine (once_any _ _ K2.out 9 (by omega) (by omega)).mono ?_
  rintro e w3 ⟨⟨u, rfl⟩, k3, t3⟩
  have L3 : Hid (LR w.heap.size w3 (.slice sa L.length sc) L) := L2.out.turn t3
  have B3 : Hid (Below w.heap.size w w3) := Turn.below B2.out (Nat.le_refl _) t3
  clear k3 t3 K2 L2 B2
  cases u
  · go_wp2_with fail
    go_ret
    exact ⟨_, L, rfl, L3.out.reads, LL.out, B3.out⟩
  · have O1 : Hid ((w3.alloc (Obj.cells #[.int .i64 100000, .int .i64 (-100000)] 2)).ownsRow w.heap.size 2 1 (.slice (some ⟨w3.heap.size, 0, none⟩) 2 2) 2 [.int .i64 100000, .int .i64 (-100000)]) := World.ownsRow_lit w3 #[.int .i64 100000, .int .i64 (-100000)] 2 B3.out.size (by unfold maxLen; omega) rfl
    have z3 := B3.out.size
    have B4 : Hid (Below w.heap.size w (w3.alloc (Obj.cells #[.int .i64 100000, .int .i64 (-100000)] 2))) := B3.out.alloc z3 _
    obtain ⟨W, hW⟩ : ∃ W, W = w3.alloc (Obj.cells #[.int .i64 100000, .int .i64 (-100000)] 2) := ⟨_, rfl⟩
    have HW : Hid (W = w3.alloc (Obj.cells #[.int .i64 100000, .int .i64 (-100000)] 2)) := hW
    rw [← hW] at O1 B4
    have zW : W.heap.size = w3.heap.size + 1 := by rw [hW]; simp
    clear hW
    go_wp2_with (at_builtin; (try rw [← HW.out]); (try rw [← zW]); refine wpList_append_own _ rfl _ _ 24 rfl w.heap.size 2 i0 (.int .i64 0) 1 8 Try.underlying24 hi hz0 hz1 hz2 rfl (by decide) _ _ _ rfl (O1.out.alloc _) ⟨W.heap.size, 0, none⟩ 1 1 [.int .i64 100000] rfl rfl (cell_one W _ 2) (one_one _) (by unfold maxLen; omega) (by omega) (by simp; omega) ?_)
    intro v' w5 hown hgrow _
    have R5 : Hid (w5.ownsRow w.heap.size 2 1 v' 3 (ints [100000, -100000, 100000])) := hown
    have B5 : Hid (Below w.heap.size w w5) := (B4.out.alloc (by omega) _).grown hgrow (by simp; omega) (fun b hb => (O1.out.lt b hb).1)
    clear hown hgrow
    go_wp2_with fail
    go_ret
    exact ⟨_, [100000, -100000, 100000], rfl, Lists.reads_row R5.out, by simp, B5.out⟩
end Go.Proofs.Ytcdajejapcbllaa.Dc
