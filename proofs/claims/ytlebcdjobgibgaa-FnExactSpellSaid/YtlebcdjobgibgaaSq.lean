/- Spells: the model, the program, the law. -/
import Derived.Test.YtlebcdjobgibgaaSp
import Derived.Test.YtlebcdjobgibgaaSpL
namespace Go.Proofs.Ytlebcdjobgibgaa.Sp
open Go.ChangeShapes Go.WideShapes Go.ChangeAt Go.RowKit
open Go.Proofs.Ytlebcdjobgibgaa.Lists Go.Proofs.Ytlebcdjobgibgaa.Al Go.Proofs.Ytlebcdjobgibgaa.Su Go.Proofs.Ytlebcdjobgibgaa.Se

theorem below_drewN {B : Nat} {a w : World} (h : Below B a w) (n : Nat) : Below B a (w.drewN n) := h.trans ⟨rfl, rfl, rfl, Nat.le_refl _, fun _ _ => rfl⟩
theorem s_no (L : List Int) (lv : Int) (v : Value) (w : World) (hL : Lists.Reads w v L) (hf : L.length < 9223372036854775808) (hok : okS L = false) :
    Calls Try.prog 12 #[v, .int .i64 lv] w fun e w' => e = .returned (.tuple #[.int .i64 (-1), .int .i64 0]) ∧ ∃ m, w' = w.drewN m := by
  have C : Hid (Calls Try.prog 22 #[v] w fun e w' => e = .returned (.bool (okS L)) ∧ ∃ m, w' = w.drewN m) := sok_any L v w hL hf
  rw [hok] at C
  obtain ⟨a, cap, rfl⟩ := hL.form
  clear hL hok
  generalize L.length = n at *
  go_enter Try.func12, Try.ntmps12
  go_wp2_with fail
  refine C.out.mono ?_
  rintro e w1 ⟨rfl, m0, rfl⟩
  go_wp2_with fail
  go_ret2
  exact ⟨rfl, _, rfl⟩
theorem i_no (L : List Int) (lv : Int) (v : Value) (w : World) (hL : Lists.Reads w v L) (hf : L.length < 9223372036854775808) (hok : okS L = false) :
    Calls Try.prog 13 #[v, .int .i64 lv] w fun e w' => e = .returned (.tuple #[.int .i64 (-1), .int .i64 0]) ∧ w' = w := by
  have C : Hid (Calls Try.prog 24 #[v] w fun e w' => e = .returned (.bool (okS L)) ∧ w' = w) := iok_any L v w hL hf
  rw [hok] at C
  obtain ⟨a, cap, rfl⟩ := hL.form
  clear hL hok
  generalize L.length = n at *
  go_enter Try.func13, Try.ntmps13
  go_wp2_with fail
  refine C.out.mono ?_
  rintro e w1 ⟨rfl, hw⟩
  subst hw
  go_wp2_with fail
  go_ret2
  exact ⟨rfl, rfl⟩

set_option maxHeartbeats 1000000 in
theorem s_yes (L : List Int) (lv P M : Int) (v : Value) (w : World) (hL : Lists.Reads w v L) (hf : L.length < 9223372036854775808) (hok : okS L = true) (hs : Sp L lv L.length P M) :
    Calls Try.prog 12 #[v, .int .i64 lv] w fun e w' => e = .returned (.tuple #[.int .i64 P, .int .i64 M]) ∧ ∃ m, w' = w.drewN m := by
  have C : Hid (Calls Try.prog 22 #[v] w fun e w' => e = .returned (.bool (okS L)) ∧ ∃ m, w' = w.drewN m) := sok_any L v w hL hf
  obtain ⟨l1, l2, hz⟩ := okS_parts hok
  rw [hok] at C
  obtain ⟨b, o, hcell, hvv⟩ := reads_at hL
  obtain ⟨a, cap, rfl⟩ := hL.form
  have HC : Hid (∀ i, i < L.length → w.cell? ⟨b, o + i, none⟩ = some (.int .i64 (L.getD i 0))) := hcell
  have HB : Hid (0 < L.length → b < w.heap.size ∧ a = some ⟨b, o, none⟩) := fun hi => by
    obtain ⟨h1, c, h2⟩ := hvv hi
    simp at h2
    exact ⟨h1, h2.1⟩
  obtain ⟨n, hn⟩ : ∃ n, n = L.length := ⟨_, rfl⟩
  rw [← hn] at hf l1 l2 C hs ⊢
  have HN : Hid (n = L.length) := hn
  clear hL hcell hvv hn
  have HS : Hid (Sp L lv n P M) := hs
  clear hz hok hs
  go_enter Try.func12, Try.ntmps12
  go_wp2_with fail
  refine C.out.mono ?_
  rintro e w1 ⟨rfl, m0, rfl⟩
  go_wp2_with fail
  go_loopw [6, 7, 8] (fun p m i wr => ∃ (k : Nat) (P1 M1 : Int), k ≤ n ∧ i = .int .i64 k ∧ p = .int .i64 P1 ∧ m = .int .i64 M1 ∧ Hid (FI L lv n k P1 M1) ∧ (∃ m, wr = w.drewN m)) (fun _ _ i _ => n - (intOf i).toNat)
  case atStart => exact ⟨0, -1, 0, by omega, rfl, rfl, rfl, FI.zero L lv n, ⟨_, rfl⟩⟩
  case round =>
    obtain ⟨k, P1, M1, hk, rfl, rfl, rfl, HF, ⟨m, rfl⟩⟩ := hrel
    by_cases hlt : k < n
    · have i2 : (k : Int) < (n : Int) := by omega
      go_wp2_with fail
      go_loopw [9] (fun c wr => ∃ r : Nat, k + r ≤ n ∧ c = .int .i64 r ∧ Hid (∀ j, k ≤ j → j < k + r → lv ≤ L.getD j 0) ∧ (∃ m, wr = w.drewN m)) (fun c _ => n - (intOf c).toNat)
      case atStart => exact ⟨0, by omega, rfl, fun j h1 h2 => by omega, ⟨_, rfl⟩⟩
      case round =>
        obtain ⟨r, hr, rfl, HR, ⟨m1, rfl⟩⟩ := hrel
        by_cases hin : k + r < n
        · have hkl : k + r < L.length := by rw [← HN.out]; exact hin
          obtain ⟨hb, hx⟩ := HB.out (by omega)
          subst hx
          have q : (w.drewN m1).cell? ⟨b, o + (k + r), none⟩ = some (.int .i64 (L.getD (k + r) 0)) := HC.out (k + r) hkl
          have j1 : (0 : Int) ≤ (k : Int) + (r : Int) := by omega
          have j2 : (k : Int) + (r : Int) < (n : Int) := by omega
          have j3 : ((k : Int) + (r : Int)).toNat = k + r := by omega
          have j4 : IntKind.i64.wrap ((k : Int) + (r : Int)) = (k : Int) + (r : Int) := IntWalk.i64_in _ (by omega)
          obtain ⟨z, hz⟩ : ∃ z, z = L.getD (k + r) 0 := ⟨_, rfl⟩
          have HZ : Hid (z = L.getD (k + r) 0) := hz
          rw [← hz] at q
          clear hz
          by_cases hlz : lv ≤ z
          · have HR2 : Hid (∀ j, k ≤ j → j < k + (r + 1) → lv ≤ L.getD j 0) := fun j h1 h2 => by
              by_cases e : j = k + r
              · rw [e, ← HZ.out]; exact hlz
              · exact HR.out j h1 (by omega)
            go_wp2_with fail
            go_roundw
            case rel => exact ⟨r + 1, by omega, by go_num, HR2, ⟨_, rfl⟩⟩
            case measure => simp [intOf]; omega
          · have R0 : Hid (Run L lv n k r) := ⟨by omega, HR.out⟩
            have R1 : Hid (∀ l, Run L lv n k l → l ≤ r) := fun l hl => by
              by_cases x : l ≤ r
              · exact x
              · have := hl.2 (k + r) (by omega) (by omega)
                rw [← HZ.out] at this
                omega
            by_cases hm : M1 < (r : Int)
            · have F2 : Hid (FI L lv n (k + 1) (k : Int) (r : Int)) := HF.out.take R0.out R1.out hm
              go_wp2_with fail
              go_roundw
              case rel => exact ⟨k + 1, k, r, by omega, by go_num, rfl, rfl, F2, ⟨_, rfl⟩⟩
              case measure => simp [intOf]; omega
            · have F2 : Hid (FI L lv n (k + 1) P1 M1) := HF.out.stay R1.out (by omega)
              go_wp2_with fail
              go_roundw
              case rel => exact ⟨k + 1, P1, M1, by omega, by go_num, rfl, rfl, F2, ⟨_, rfl⟩⟩
              case measure => simp [intOf]; omega
        · have R0 : Hid (Run L lv n k r) := ⟨by omega, HR.out⟩
          have R1 : Hid (∀ l, Run L lv n k l → l ≤ r) := fun l hl => by have := hl.1; omega
          have j2 : ¬ (k : Int) + (r : Int) < (n : Int) := by omega
          have j4 : IntKind.i64.wrap ((k : Int) + (r : Int)) = (k : Int) + (r : Int) := IntWalk.i64_in _ (by omega)
          by_cases hm : M1 < (r : Int)
          · have F2 : Hid (FI L lv n (k + 1) (k : Int) (r : Int)) := HF.out.take R0.out R1.out hm
            go_wp2_with fail
            go_roundw
            case rel => exact ⟨k + 1, k, r, by omega, by go_num, rfl, rfl, F2, ⟨_, rfl⟩⟩
            case measure => simp [intOf]; omega
          · have F2 : Hid (FI L lv n (k + 1) P1 M1) := HF.out.stay R1.out (by omega)
            go_wp2_with fail
            go_roundw
            case rel => exact ⟨k + 1, P1, M1, by omega, by go_num, rfl, rfl, F2, ⟨_, rfl⟩⟩
            case measure => simp [intOf]; omega
    · have hkn : k = n := by omega
      subst hkn
      have E := HF.out.all.one HS.out
      obtain ⟨rfl, rfl⟩ := E
      clear HF HS
      go_wp2_with fail
      go_ret2
      exact ⟨rfl, _, rfl⟩

set_option maxHeartbeats 1000000 in
theorem i_yes (L : List Int) (lv P M : Int) (v : Value) (w : World) (hL : Lists.Reads w v L) (hf : L.length < 9223372036854775808) (hok : okS L = true) (hs : Sp L lv L.length P M) :
    Calls Try.prog 13 #[v, .int .i64 lv] w fun e w' => e = .returned (.tuple #[.int .i64 P, .int .i64 M]) ∧ w' = w := by
  have C : Hid (Calls Try.prog 24 #[v] w fun e w' => e = .returned (.bool (okS L)) ∧ w' = w) := iok_any L v w hL hf
  obtain ⟨l1, l2, hz⟩ := okS_parts hok
  rw [hok] at C
  obtain ⟨b, o, hcell, hvv⟩ := reads_at hL
  obtain ⟨a, cap, rfl⟩ := hL.form
  have HC : Hid (∀ i, i < L.length → w.cell? ⟨b, o + i, none⟩ = some (.int .i64 (L.getD i 0))) := hcell
  have HB : Hid (0 < L.length → b < w.heap.size ∧ a = some ⟨b, o, none⟩) := fun hi => by
    obtain ⟨h1, c, h2⟩ := hvv hi
    simp at h2
    exact ⟨h1, h2.1⟩
  obtain ⟨n, hn⟩ : ∃ n, n = L.length := ⟨_, rfl⟩
  rw [← hn] at hf l1 l2 C hs ⊢
  have HN : Hid (n = L.length) := hn
  clear hL hcell hvv hn
  have HS : Hid (Sp L lv n P M) := hs
  clear hz hok hs
  go_enter Try.func13, Try.ntmps13
  go_wp2_with fail
  refine C.out.mono ?_
  rintro e w1 ⟨rfl, hw⟩
  subst hw
  go_wp2_with fail
  go_loop [6, 7, 8, 18] (fun p m c i => ∃ (k r : Nat) (P1 M1 : Int), k ≤ n ∧ r ≤ k ∧ 0 ≤ M1 ∧ M1 ≤ k ∧ i = .int .i64 k ∧ c = .int .i64 r ∧ p = .int .i64 P1 ∧ m = .int .i64 M1 ∧ Hid (Sp L lv k P1 M1) ∧ Hid (Tr L lv k r)) (fun _ _ _ i => n - (intOf i).toNat)
  case atStart => exact ⟨0, 0, -1, 0, by omega, by omega, by omega, by omega, rfl, rfl, rfl, rfl, Sp.zero L lv, Tr.zero L lv⟩
  case round =>
    obtain ⟨k, r, P1, M1, hk, hrk, g0, g1, rfl, rfl, rfl, rfl, HF, HT⟩ := hrel
    by_cases hlt : k < n
    · have hkl : k < L.length := by rw [← HN.out]; exact hlt
      obtain ⟨hb, hx⟩ := HB.out (by omega)
      subst hx
      have q : w1.cell? ⟨b, o + k, none⟩ = some (.int .i64 (L.getD k 0)) := HC.out k hkl
      have i1 : (0 : Int) ≤ (k : Int) := by omega
      have i2 : (k : Int) < (n : Int) := by omega
      obtain ⟨z, hz⟩ : ∃ z, z = L.getD k 0 := ⟨_, rfl⟩
      have HZ : Hid (z = L.getD k 0) := hz
      rw [← hz] at q
      clear hz
      by_cases hlz : z < lv
      · have F2 : Hid (Sp L lv (k + 1) P1 M1) := HF.out.low (by rw [← HZ.out]; exact hlz)
        have T2 : Hid (Tr L lv (k + 1) 0) := Tr.none (by rw [← HZ.out]; exact hlz)
        go_wp2_with fail
        go_round
        case rel => exact ⟨k + 1, 0, P1, M1, by omega, by omega, by omega, by omega, by go_num, rfl, rfl, rfl, F2, T2⟩
        case measure => simp [intOf]; omega
      · have T2 : Hid (Tr L lv (k + 1) (r + 1)) := HT.out.up (by rw [← HZ.out]; omega)
        by_cases hm : M1 < (r : Int) + 1
        · have F2 : Hid (Sp L lv (k + 1) ((k : Int) - r) ((r + 1 : Nat) : Int)) := HF.out.take HT.out (by rw [← HZ.out]; omega) (by omega)
          go_wp2_with fail
          go_round
          case rel => exact ⟨k + 1, r + 1, (k : Int) - r, ((r + 1 : Nat) : Int), by omega, by omega, by omega, by omega, by go_num, by go_num, by go_num, by go_num, F2, T2⟩
          case measure => simp [intOf]; omega
        · have F2 : Hid (Sp L lv (k + 1) P1 M1) := HF.out.stay HT.out (by omega)
          go_wp2_with fail
          go_round
          case rel => exact ⟨k + 1, r + 1, P1, M1, by omega, by omega, by omega, by omega, by go_num, by go_num, rfl, rfl, F2, T2⟩
          case measure => simp [intOf]; omega
    · have hkn : k = n := by omega
      subst hkn
      have E := HF.out.one HS.out
      obtain ⟨rfl, rfl⟩ := E
      clear HF HS
      go_wp2_with fail
      go_ret2
      exact ⟨rfl, rfl⟩

theorem spellAll (w : World) (v : Value) (L : List Int) (hL : Lists.Reads w v L) (hf : L.length < 9223372036854775808) (x : Int) :
    Calls Try.prog 4 #[v, .int .i64 x] w fun e w' => e = .returned (.bool true) ∧ Below w.heap.size w w' := by
  cases ho : okS L
  · exact LawSpL.spLaw w v L hL hf x (-1) 0 (fun w t h => by
      refine (s_no L x t w h hf ho).mono ?_
      rintro e w' ⟨rfl, m, rfl⟩
      exact ⟨rfl, below_drewN (Below.refl _ _) m⟩) (fun w t h => by
      refine (i_no L x t w h hf ho).mono ?_
      rintro e w' ⟨rfl, rfl⟩
      exact ⟨rfl, Below.refl _ _⟩)
  · obtain ⟨P, M, hs⟩ := sp_ex L x L.length
    exact LawSpL.spLaw w v L hL hf x P M (fun w t h => by
      refine (s_yes L x P M t w h hf ho hs).mono ?_
      rintro e w' ⟨rfl, m, rfl⟩
      exact ⟨rfl, below_drewN (Below.refl _ _) m⟩) (fun w t h => by
      refine (i_yes L x P M t w h hf ho hs).mono ?_
      rintro e w' ⟨rfl, rfl⟩
      exact ⟨rfl, Below.refl _ _⟩)
end Go.Proofs.Ytlebcdjobgibgaa.Sp
