/- The program's read: a number, or it gives up. -/
import Derived.Test.YtmopkbkdfipglaaRd1
import Derived.WalkSmall
import Derived.BigRegion
namespace Go.Proofs.Ytmopkbkdfipglaa.Lists
open Go.ChangeShapes Go.WideShapes Go.ChangeAt Go.RowKit
open Go.Proofs.Ytmopkbkdfipglaa.Bytes (bys)

theorem pow48 (e : Nat) (he : e ≤ 48) : (1 : Int) ≤ 2 ^ e ∧ (2 : Int) ^ e ≤ 281474976710656 := by
  have key : ∀ e : Fin 49, (1 : Int) ≤ 2 ^ e.val ∧ (2 : Int) ^ e.val ≤ 281474976710656 := by decide +kernel
  exact key ⟨e, by omega⟩
theorem kb_drewN (S : Nat → Prop) (w : World) (m : Nat) : KB S w (w.drewN m) := ⟨rfl, rfl, rfl, Nat.le_refl _, fun _ _ _ => rfl⟩
set_option maxHeartbeats 1000000 in
theorem iread_any (w : World) (b : Nat) (a : Option Addr) (N cap p n : Nat) (D : List Int) (hN : N ≤ 1048576) (hp : p ≤ 8 * N) (hn : n ≤ 48) (h : RB w b a N cap D p) :
    Calls Try.prog 68 #[.pointer (some ⟨b, 0, none⟩), .int .i64 (n : Int)] w fun e w' => KB (fun k => k = b) w w' ∧ ((p + n ≤ 8 * N ∧ e = .returned (.int .u64 (nm D p n)) ∧ RB w' b a N cap D (p + n)) ∨ (¬ p + n ≤ 8 * N ∧ e = .panicked (upc 3))) := by
  have HL : Hid (Calls Try.prog 71 #[.pointer (some ⟨b, 0, none⟩)] w fun e w' => e = .returned (.int .i64 ((8 * N - p : Nat) : Int)) ∧ ∃ m, w' = w.drewN m) := ileft_any w b a N cap p hN hp h.1
  obtain ⟨r, hr⟩ : ∃ r, r = 8 * N - p := ⟨_, rfl⟩
  rw [← hr] at HL
  have H0 : Hid (RB w b a N cap D p) := h
  by_cases hle : p + n ≤ 8 * N
  · have i1 : ¬ (r : Int) < (n : Int) := by omega
    have HP : Hid (p + n ≤ 8 * N) := hle
    clear h hr hle
    go_enter Try.func68, Try.ntmps68
    go_wp2_with fail
    refine HL.out.mono ?_
    rintro e w1 ⟨rfl, m1, hw⟩
    have K1 : Hid (KB (fun k => k = b) w w1) := by rw [hw]; exact kb_drewN _ _ _
    have R1 : Hid (RB w1 b a N cap D (p + 0)) := H0.out.kb (S := fun _ => False) (by rw [hw]; exact kb_drewN _ _ _) (fun h => h) (fun _ _ h => h.elim)
    clear hw HL H0
    go_wp2_with fail
    go_loopw [5, 6, 13] (fun u _ i wr => ∃ k : Nat, k ≤ n ∧ i = .int .i64 (k : Int) ∧ u = .int .u64 (nm D p k) ∧ Hid (RB wr b a N cap D (p + k)) ∧ Hid (KB (fun k => k = b) w wr)) (fun _ _ i _ => n - (intOf i).toNat)
    case atStart => exact ⟨0, Nat.zero_le _, rfl, rfl, R1, K1⟩
    case round =>
      clear R1 K1
      obtain ⟨k, hk, rfl, rfl, RR, KK⟩ := hrel
      by_cases hkn : k < n
      · have j1 : (k : Int) < (n : Int) := by omega
        have c0 := RR.out.1.cell 0
        have c1 := RR.out.1.cell 1
        have f1 := RR.out.1.fz 1
        simp at c0 c1
        obtain ⟨t, ht⟩ : ∃ t, t = p + k := ⟨_, rfl⟩
        have et : (p : Int) + (k : Int) = (t : Int) := by omega
        rw [et] at c1
        have tN : t < 8 * N := by have := HP.out; omega
        obtain ⟨g, o, rfl, x1, x2, _, _, q0⟩ := RR.out.2.2.2 (t / 8) (by omega)
        unfold maxLen at x2
        obtain ⟨l1, hl1⟩ : ∃ l1, l1 = t / 8 := ⟨_, rfl⟩
        have el : Int.tdiv (t : Int) 8 = (l1 : Int) := by rw [Int.tdiv_eq_ediv_of_nonneg (by omega)]; omega
        obtain ⟨s, hs⟩ : ∃ s, s = 7 - t % 8 := ⟨_, rfl⟩
        obtain ⟨r8, hr8⟩ : ∃ r8, r8 = t % 8 := ⟨_, rfl⟩
        have er : Int.tmod (t : Int) 8 = (r8 : Int) := by rw [Int.tmod_eq_emod_of_nonneg (by omega)]; omega
        have es : (7 : Int) - (r8 : Int) = (s : Int) := by omega
        have l0 : (0 : Int) ≤ (l1 : Int) := by omega
        have l2 : (l1 : Int) < (N : Int) := by omega
        have s7 : s ≤ 7 := by omega
        have r7 : r8 < 8 := by omega
        obtain ⟨e8, he8⟩ : ∃ e8, e8 = D.getD (t / 8) 0 := ⟨_, rfl⟩
        have eb := getD_by RR.out.2.2.1 (t / 8)
        rw [← he8, ← hl1] at q0
        rw [← he8] at eb
        obtain ⟨u, hu⟩ : ∃ u, u = nm D p k := ⟨_, rfl⟩
        have ub : 0 ≤ u ∧ u < 281474976710656 := by
          have h1 := nm_b D p k
          have h2 := pow48 k (by omega)
          rw [hu]; omega
        have BZ : Hid (e8 / 2 ^ s % 2 = bA D t) := (by show _ = _; unfold bA; rw [he8, hs])
        obtain ⟨z, hz⟩ : ∃ z, z = e8 / 2 ^ s % 2 := ⟨_, rfl⟩
        have z01 : z = 0 ∨ z = 1 := by omega
        have NX : Hid (u * 2 + z = nm D p (k + 1)) := (by show _ = _; rw [nm, ← hu, ← ht, ← BZ.out, hz])
        have eq0 : 0 ≤ e8 / 2 ^ s ∧ e8 / 2 ^ s < 256 := ⟨Int.ediv_nonneg eb.1 (Int.le_of_lt (Int.pow_pos (by omega))), Int.lt_of_le_of_lt (Int.ediv_le_self _ eb.1) eb.2⟩
        have a8 : bits BinOp.and IntKind.u8 (e8 / 2 ^ s) 1 = z := by rw [and1_u8 _ eq0.1 eq0.2, hz]
        have o64 : bits BinOp.or IntKind.u64 (u * 2) z = u * 2 + z := or_even u z (by omega) z01
        have zb : 0 ≤ z ∧ z < 2 := by omega
        have HT : Hid (t = p + k) := ht
        rw [← hu]
        clear ht hl1 hs hr8 he8 hu hz et eq0 BZ
        go_wp2_with fail
        go_region
        obtain ⟨t1, ht1⟩ : ∃ t1, t1 = t + 1 := ⟨_, rfl⟩
        have et1 : (t : Int) + 1 = (t1 : Int) := by omega
        have RD1 : RB wr.drew b (some ⟨g, o, none⟩) N cap D (p + k) := RR.out.kb (S := fun _ => False) (kb_drewN _ _ 1) (fun h => h) (fun _ _ h => h.elim)
        have R2 : Hid (RB (wr.drew.setCell ⟨b, 1, none⟩ (.int .i64 (t1 : Int))) b (some ⟨g, o, none⟩) N cap D (p + (k + 1))) := (by
          show RB _ _ _ _ _ _ _
          have := RD1.set t1
          rw [show p + (k + 1) = t1 by have := HT.out; omega]
          exact this)
        have K2 : Hid (KB (fun k => k = b) w (wr.drew.setCell ⟨b, 1, none⟩ (.int .i64 (t1 : Int)))) := (KK.out.trans (kb_drewN _ _ 1)).trans (kb_set _ _ _ _)
        have d1 : wr.drew.cell? ⟨b, 1, none⟩ = some (.int .i64 (t : Int)) := c1
        have d2 : wr.drew.frozen? ⟨b, 1, none⟩ = false := f1
        clear RD1 RR KK c0 c1 f1 q0 ht1
        go_wp2_with fail
        go_roundw
        case rel => exact ⟨k + 1, by omega, by go_num, by rw [NX.out], R2, K2⟩
        case measure => simp [intOf] <;> omega
      · have ek : k = n := by omega
        subst ek
        have i2 : ¬ (k : Int) < (k : Int) := by omega
        go_wp2_with fail
        go_ret
        exact ⟨KK.out, .inl ⟨HP.out, rfl, RR.out⟩⟩
  · have i1 : (r : Int) < (n : Int) := by omega
    have HP : Hid (¬ p + n ≤ 8 * N) := hle
    clear h hr hle H0
    go_enter Try.func68, Try.ntmps68
    go_wp2_with fail
    refine HL.out.mono ?_
    rintro e w1 ⟨rfl, m1, hw⟩
    have K1 : Hid (KB (fun k => k = b) w w1) := by rw [hw]; exact kb_drewN _ _ _
    clear hw HL
    go_wp2_with fail
    exact ⟨rfl, K1.out, .inr ⟨HP.out, rfl⟩⟩
end Go.Proofs.Ytmopkbkdfipglaa.Lists
