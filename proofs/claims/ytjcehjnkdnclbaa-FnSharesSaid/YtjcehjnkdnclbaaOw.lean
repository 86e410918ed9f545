/- Order statistics: the model. -/
import Derived.Test.YtjcehjnkdnclbaaOs
namespace Go.Proofs.Ytjcehjnkdnclbaa.Os
open Go.ChangeShapes Go.WideShapes Go.ChangeAt Go.RowKit
open Go.Proofs.Ytjcehjnkdnclbaa.Lists Go.Proofs.Ytjcehjnkdnclbaa.Al Go.Proofs.Ytjcehjnkdnclbaa.Se


set_option maxHeartbeats 1000000 in
theorem sle_any (L : List Int) (x : Int) (v : Value) (w : World) (hL : Lists.Reads w v L) (hf : L.length < 9223372036854775808) :
    Calls Try.prog 14 #[v, .int .i64 x] w fun e w' => e = .returned (.int .i64 (cle L x L.length)) ∧ w' = w := by
  obtain ⟨b, o, hcell, hvv⟩ := reads_at hL
  obtain ⟨a, cap, rfl⟩ := hL.form
  have HC : Hid (∀ i, i < L.length → w.cell? ⟨b, o + i, none⟩ = some (.int .i64 (L.getD i 0))) := hcell
  have HB : Hid (0 < L.length → b < w.heap.size ∧ a = some ⟨b, o, none⟩) := fun hi => by
    obtain ⟨h1, c, h2⟩ := hvv hi
    simp at h2
    exact ⟨h1, h2.1⟩
  obtain ⟨n, hn⟩ : ∃ n, n = L.length := ⟨_, rfl⟩
  rw [← hn] at hf ⊢
  have HN : Hid (n = L.length) := hn
  clear hL hcell hvv hn
  go_enter Try.func14, Try.ntmps14
  go_wp2_with fail
  go_loop [5, 6] (fun s i => ∃ k : Nat, k ≤ n ∧ i = .int .i64 k ∧ s = .int .i64 (cle L x k)) (fun _ i => n - (intOf i).toNat)
  case atStart => exact ⟨0, by omega, rfl, rfl⟩
  case round =>
    obtain ⟨k, hk, rfl, rfl⟩ := hrel
    by_cases hlt : k < n
    · have hkl : k < L.length := by rw [← HN.out]; exact hlt
      obtain ⟨hb, hx⟩ := HB.out (by omega)
      subst hx
      have q : w.cell? ⟨b, o + k, none⟩ = some (.int .i64 (L.getD k 0)) := HC.out k hkl
      have i1 : (0 : Int) ≤ (k : Int) := by omega
      have i2 : (k : Int) < (n : Int) := by omega
      have E : Hid (cle L x (k + 1) = cle L x k + if L.getD k 0 ≤ x then 1 else 0) := rfl
      have bd := cle_bd L x k
      generalize cle L x k = s at *
      generalize L.getD k 0 = z at *
      by_cases hz : z ≤ x
      · rw [if_pos hz] at E
        go_wp2_with fail
        go_round
        case rel => exact ⟨k + 1, by omega, by go_num, by rw [E.out]⟩
        case measure => simp [intOf]; omega
      · rw [if_neg hz, Int.add_zero] at E
        go_wp2_with fail
        go_round
        case rel => exact ⟨k + 1, by omega, by go_num, by rw [E.out]⟩
        case measure => simp [intOf]; omega
    · have hkn : k = n := by omega
      subst hkn
      go_wp2_with fail
      go_ret
      exact ⟨rfl, rfl⟩

set_option maxHeartbeats 1000000 in
theorem sshare_yes (L : List Int) (num den : Int) (r : Int) (v : Value) (w : World) (hL : Lists.Reads w v L) (hf : L.length < 9223372036854775808) (hok : okS L = true)
    (hc0 : inn den 1 1000 = true)
    (hc1 : inn num 1 den = true)
    (K : Int) (hK : ∀ c, 0 ≤ c → c ≤ 500 → ((num * (L.length : Int) ≤ c * den) ↔ K ≤ c)) (hS : Stat L K r) :
    Calls Try.prog 6 #[v, .int .i64 num, .int .i64 den] w fun e w' => e = .returned (.tuple #[.int .i64 r, .bool true]) ∧ ∃ m, w' = w.drewN m := by
  have C : Hid (Calls Try.prog 12 #[v] w fun e w' => e = .returned (.bool (okS L)) ∧ ∃ m, w' = w.drewN m) := sok_any L v w hL hf
  have D0 : Hid (∀ m, Calls Try.prog 13 #[.int .i64 den, .int .i64 1, .int .i64 1000] (w.drewN m) fun e w' => e = .returned (.bool (inn den 1 1000)) ∧ w' = w.drewN m) := fun m => s_in _ _ _ _
  have D1 : Hid (∀ m, Calls Try.prog 13 #[.int .i64 num, .int .i64 1, .int .i64 den] (w.drewN m) fun e w' => e = .returned (.bool (inn num 1 den)) ∧ w' = w.drewN m) := fun m => s_in _ _ _ _
  have C2 : Hid (∀ x m, Calls Try.prog 14 #[v, .int .i64 x] (w.drewN m) fun e w' => e = .returned (.int .i64 (cle L x L.length)) ∧ w' = w.drewN m) := fun x m => sle_any L x v (w.drewN m) hL hf
  obtain ⟨l1, l2, hz⟩ := okS_parts hok
  have HS : Hid (∀ m, Bst L (fun c => K ≤ c) L.length m → m = r) := fun m h => h.all (fun c => Iff.rfl) hS (okS_le hok)
  have HZ : Hid (∀ j, j < L.length → -100000 ≤ L.getD j 0 ∧ L.getD j 0 ≤ 100000) := hz
  have HB2 : Hid (∀ x, 0 ≤ cle L x L.length ∧ cle L x L.length ≤ L.length) := fun x => cle_bd L x L.length
  have HG : Hid (∀ c, 0 ≤ c → c ≤ 500 → ((num * (L.length : Int) ≤ c * den) ↔ K ≤ c)) := hK
  rw [hok] at C
  have e0 := (inn_iff _ _ _).1 hc0
  rw [hc0] at D0
  have e1 := (inn_iff _ _ _).1 hc1
  rw [hc1] at D1
  obtain ⟨b, o, hcell, hvv⟩ := reads_at hL
  obtain ⟨a, cap, rfl⟩ := hL.form
  have HC : Hid (∀ i, i < L.length → w.cell? ⟨b, o + i, none⟩ = some (.int .i64 (L.getD i 0))) := hcell
  have HB : Hid (0 < L.length → b < w.heap.size ∧ a = some ⟨b, o, none⟩) := fun hi => by
    obtain ⟨h1, c, h2⟩ := hvv hi
    simp at h2
    exact ⟨h1, h2.1⟩
  obtain ⟨n, hn⟩ : ∃ n, n = L.length := ⟨_, rfl⟩
  rw [← hn] at hf l1 l2 C C2 HZ HB2 HG ⊢
  have HN : Hid (n = L.length) := hn
  clear hL hcell hvv hn hz hok hS hK hc0 hc1
  obtain ⟨hb, hx⟩ := HB.out (by have := HN.out; omega)
  subst hx
  go_enter Try.func6, Try.ntmps6
  go_wp2_with fail
  refine C.out.mono ?_
  rintro e w1 ⟨rfl, m0, rfl⟩
  go_wp2_with fail
  refine (D0.out m0).mono ?_
  rintro e w2 ⟨rfl, hw⟩
  subst hw
  go_wp2_with fail
  refine (D1.out m0).mono ?_
  rintro e w2 ⟨rfl, hw⟩
  subst hw
  go_wp2_with fail
  go_loopw [8, 9] (fun bs i wr => ∃ (k : Nat) (M : Int), k ≤ n ∧ i = .int .i64 k ∧ bs = .int .i64 M ∧ Hid (Bst L (fun c => K ≤ c) k M) ∧ (∃ m, wr = w.drewN m)) (fun _ i _ => n - (intOf i).toNat)
  case atStart => exact ⟨0, 100001, by omega, rfl, rfl, Bst.zero L _, ⟨_, rfl⟩⟩
  case round =>
    obtain ⟨k, M, hk, rfl, rfl, HF, ⟨m, rfl⟩⟩ := hrel
    by_cases hlt : k < n
    · have hkl : k < L.length := by rw [← HN.out]; exact hlt
      have q : (w.drewN m).cell? ⟨b, o + k, none⟩ = some (.int .i64 (L.getD k 0)) := HC.out k hkl
      have i1 : (0 : Int) ≤ (k : Int) := by omega
      have i2 : (k : Int) < (n : Int) := by omega
      have C3 : Hid (Calls Try.prog 14 #[.slice (some ⟨b, o, none⟩) n cap, .int .i64 (L.getD k 0)] (w.drewN m) fun e w' => e = .returned (.int .i64 (cle L (L.getD k 0) n)) ∧ w' = w.drewN m) := C2.out _ m
      have hb2 := HB2.out (L.getD k 0)
      have HGk := HG.out (cle L (L.getD k 0) n) hb2.1 (by omega)
      have T1 : Hid (K ≤ cle L (L.getD k 0) n → L.getD k 0 < M → Bst L (fun c => K ≤ c) (k + 1) (L.getD k 0)) := fun h1 h2 => HF.out.take hkl (by rw [← HN.out]; exact h1) h2
      have T2 : Hid (¬ L.getD k 0 < M ∨ ¬ K ≤ cle L (L.getD k 0) n → Bst L (fun c => K ≤ c) (k + 1) M) := fun h => HF.out.stay (by rw [← HN.out]; exact h)
      clear HF
      generalize cle L (L.getD k 0) n = c at *
      generalize L.getD k 0 = z at *
      have u1 := Int.mul_le_mul (show num ≤ 1000 by omega) (show (n : Int) ≤ 500 by omega) (by omega) (by omega)
      have u2 := Int.mul_le_mul (show c ≤ 500 by omega) (show den ≤ 1000 by omega) (by omega) (by omega)
      have u3 := Int.mul_nonneg (show 0 ≤ num by omega) (show (0 : Int) ≤ (n : Int) by omega)
      have u4 := Int.mul_nonneg (show 0 ≤ c by omega) (show 0 ≤ den by omega)
      have J1 : IntKind.i64.wrap (num * (n : Int)) = num * (n : Int) := IntWalk.i64_in _ (by omega)
      have J2 : IntKind.i64.wrap (c * den) = c * den := IntWalk.i64_in _ (by omega)
      clear u1 u2 u3 u4
      by_cases hz : z < M
      · by_cases hg : num * (n : Int) ≤ c * den
        · have T3 : Hid (Bst L (fun c => K ≤ c) (k + 1) z) := T1.out (HGk.1 hg) hz
          clear HGk
          go_wp2_with fail
          refine C3.out.mono ?_
          rintro e w3 ⟨rfl, hw⟩
          subst hw
          go_wp2_with fail
          go_roundw
          case rel => exact ⟨k + 1, z, by omega, by go_num, rfl, T3, ⟨_, rfl⟩⟩
          case measure => simp [intOf]; omega
        · have T3 : Hid (Bst L (fun c => K ≤ c) (k + 1) M) := T2.out (Or.inr fun h => hg (HGk.2 h))
          clear HGk
          go_wp2_with fail
          refine C3.out.mono ?_
          rintro e w3 ⟨rfl, hw⟩
          subst hw
          go_wp2_with fail
          go_roundw
          case rel => exact ⟨k + 1, M, by omega, by go_num, rfl, T3, ⟨_, rfl⟩⟩
          case measure => simp [intOf]; omega
      · have T3 : Hid (Bst L (fun c => K ≤ c) (k + 1) M) := T2.out (Or.inl hz)
        clear HGk
        go_wp2_with fail
        go_roundw
        case rel => exact ⟨k + 1, M, by omega, by go_num, rfl, T3, ⟨_, rfl⟩⟩
        case measure => simp [intOf]; omega
    · have hkn : k = n := by omega
      subst hkn
      have E := HS.out M (by rw [← HN.out]; exact HF.out)
      subst E
      clear HF HS
      go_wp2_with fail
      go_ret2
      exact ⟨rfl, _, rfl⟩
end Go.Proofs.Ytjcehjnkdnclbaa.Os
