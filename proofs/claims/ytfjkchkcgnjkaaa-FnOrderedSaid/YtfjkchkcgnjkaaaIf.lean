/- A row of numbers sorted in place: blocks; the whole. -/
import Derived.Test.YtfjkchkcgnjkaaaIe
namespace Go.Proofs.Ytfjkchkcgnjkaaa.Srt
open Go.ChangeShapes Go.WideShapes Go.ChangeAt Go.RowKit
open Go.Proofs.Ytfjkchkcgnjkaaa.Flt Go.Proofs.Ytfjkchkcgnjkaaa.St Go.Proofs.Ytfjkchkcgnjkaaa.Fls
attribute [local go_sem] Fls.run_store_flt

set_option maxHeartbeats 1000000 in
set_option maxRecDepth 20000 in
theorem stable_any (w0 : World) (B g n c : Nat) (hB : B ≤ g) (hn : n ≤ 4000) (L : List Nat) (w : World) (h : RW B g n c w0 w L) :
    Calls Try.prog 21 #[.slice (some ⟨g, 0, none⟩) n c, .int .i64 (n : Int), .func (.func 16) #[] #[]] w fun e w' => e = .returned (.tuple #[]) ∧ ∃ M, RW B g n c w0 w' M ∧ PM 0 n L M ∧ Srt pl M 0 n := by
  have H : Hid (RW B g n c w0 w L) := h
  have IN : Hid (∀ (a b : Nat), a ≤ b → b ≤ n → ∀ (L : List Nat) (w : World), RW B g n c w0 w L → Calls Try.prog 29 #[.slice (some ⟨g, 0, none⟩) n c, .int .i64 (a : Int), .int .i64 (b : Int), .func (.func 16) #[] #[]] w fun e w' => e = .returned (.tuple #[]) ∧ ∃ M, RW B g n c w0 w' M ∧ PM a b L M ∧ Srt pl M a b) := fun a b h1 h2 L w hr => insert_any w0 B g n c hB hn a b h1 h2 L w hr
  have MG : Hid (∀ (a m b : Nat) (L : List Nat) (w : World), a < m → m < b → b ≤ n → RW B g n c w0 w L → Srt pl L a m → Srt pl L m b → Merges w0 B g n c a m b L w) := fun a m b L w h1 h2 h3 h4 h5 h6 => merge_any w0 B g n c hB hn (b - a) a m b L w (Nat.le_refl _) h1 h2 h3 h4 h5 h6
  clear h
  go_enter Try.func21, Try.ntmps21
  go_wp2_with fail
  go_loopw [7, 8] (fun sa sb wr => ∃ (q a b : Nat) (M : List Nat), a ≤ n ∧ b = a + 20 ∧ sa = .int .i64 a ∧ sb = .int .i64 b ∧ Hid (a = 20 * q) ∧ Hid (RW B g n c w0 wr M) ∧ Hid (PM 0 n L M) ∧ Hid (∀ k, k < q → Srt pl M (20 * k) (20 * k + 20))) (fun _ sb _ => n + 20 - (intOf sb).toNat)
  case atStart => exact ⟨0, 0, 20, L, Nat.zero_le _, rfl, rfl, rfl, rfl, H, PM.refl _ _ _, fun k hk => by omega⟩
  case round => as_aux_lemma =>
    clear H
    obtain ⟨q, a, b, M, ha, hab, rfl, rfl, HA, R, P, S⟩ := hrel
    by_cases hlt : b ≤ n
    · have i1 : (b : Int) ≤ (n : Int) := by omega
      have CC : Hid (Calls Try.prog 29 #[.slice (some ⟨g, 0, none⟩) n c, .int .i64 (a : Int), .int .i64 (b : Int), .func (.func 16) #[] #[]] wr fun e w' => e = .returned (.tuple #[]) ∧ ∃ M, Hid (RW B g n c w0 w' M) ∧ Hid (PM 0 n L M) ∧ Hid (∀ k, k < q + 1 → Srt pl M (20 * k) (20 * k + 20))) := (IN.out a b (by omega) hlt M wr R.out).mono (by
        rintro e w' ⟨rfl, M2, h1, h2, h3⟩
        refine ⟨rfl, M2, h1, P.out.trans (h2.mono (by omega) hlt), fun k hk => ?_⟩
        have := HA.out
        by_cases e : k = q
        · subst e; rw [← this, ← hab]; exact h3
        · exact (S.out k (by omega)).off h2 (Or.inl (by omega)))
      have HA2 : Hid (b = 20 * (q + 1)) := (by show _ = _; have := HA.out; omega)
      obtain ⟨b2, hb2⟩ : ∃ b2, b2 = b + 20 := ⟨_, rfl⟩
      have i2 : (b : Int) + 20 = (b2 : Int) := by omega
      have i3 : b < b2 ∧ b2 ≤ n + 20 := by omega
      have HB2 : Hid (b2 = b + 20) := hb2
      clear R P S IN MG hb2 hab
      go_wp2_with fail
      refine CC.out.mono ?_
      rintro e w1 ⟨rfl, M2, R2, P2, S2⟩
      clear CC
      go_wp2_with fail
      go_roundw
      case rel => exact ⟨q + 1, b, b2, M2, hlt, HB2.out, rfl, by go_num, HA2, R2, P2, S2⟩
      case measure => simp [intOf]; omega
    · have i1 : ¬ (b : Int) ≤ (n : Int) := by omega
      have CC : Hid (Calls Try.prog 29 #[.slice (some ⟨g, 0, none⟩) n c, .int .i64 (a : Int), .int .i64 (n : Int), .func (.func 16) #[] #[]] wr fun e w' => e = .returned (.tuple #[]) ∧ ∃ M, Hid (RW B g n c w0 w' M) ∧ Hid (PM 0 n L M) ∧ Hid (Blk pl M 20 n)) := (IN.out a n ha (Nat.le_refl _) M wr R.out).mono (by
        rintro e w' ⟨rfl, M2, h1, h2, h3⟩
        have e := HA.out
        refine ⟨rfl, M2, h1, P.out.trans (h2.mono (by omega) (Nat.le_refl _)), blk20 S.out (by omega) (by rw [← e]; exact h2) (by rw [← e]; exact h3)⟩)
      clear R P S IN HA hab
      go_wp2_with fail
      refine CC.out.mono ?_
      rintro e w1 ⟨rfl, M2, R2, P2, S2⟩
      clear CC
      go_wp2_with fail
      go_loopw [6, 7, 8, 9] (fun ss _ _ _ wr => ∃ (s : Nat) (M : List Nat), 1 ≤ s ∧ s ≤ 20 + 2 * n ∧ ss = .int .i64 s ∧ Hid (RW B g n c w0 wr M) ∧ Hid (PM 0 n L M) ∧ Hid (Blk pl M s n)) (fun ss _ _ _ _ => n - (intOf ss).toNat)
      case atStart => exact ⟨20, M2, by omega, by omega, rfl, R2, P2, S2⟩
      case round => as_aux_lemma =>
        clear R2 P2 S2
        obtain ⟨s, M, hs, hs2, rfl, R, P, S⟩ := hrel
        by_cases hsn : s < n
        · have j1 : (s : Int) < (n : Int) := by omega
          obtain ⟨s2, hss⟩ : ∃ s2, s2 = 2 * s := ⟨_, rfl⟩
          have j2 : 2 * (s : Int) = (s2 : Int) := by omega
          have j3 : (s : Int) * 2 = (s2 : Int) := by omega
          have T : Hid (Two pl M s 0 n) := Two.zero S.out
          have ls : s2 ≤ 2 * n ∧ s < s2 ∧ s + s = s2 := by omega
          have HS2 : Hid (s2 = 2 * s) := hss
          clear S hss
          go_wp2_with fail
          go_loopw [7, 8] (fun sa sb wr => ∃ (q a b : Nat) (M : List Nat), a ≤ n ∧ sa = .int .i64 a ∧ sb = .int .i64 b ∧ b = a + s2 ∧ Hid (a = 2 * s * q) ∧ Hid (RW B g n c w0 wr M) ∧ Hid (PM 0 n L M) ∧ Hid (Two pl M s q n)) (fun _ sb _ => n + s2 - (intOf sb).toNat)
          case atStart => exact ⟨0, 0, s2, M, Nat.zero_le _, rfl, rfl, by omega, (Nat.mul_zero _).symm, R, P, T⟩
          case round => as_aux_lemma =>
            clear R P T
            obtain ⟨q, a, b, M, ha, rfl, rfl, hab, HA, R, P, T⟩ := hrel
            obtain ⟨m, hm⟩ : ∃ m, m = a + s := ⟨_, rfl⟩
            have i4 : (a : Int) + (s : Int) = (m : Int) := by omega
            have pt := T.out.parts HA.out
            by_cases hlt : b ≤ n
            · have i1 : (b : Int) ≤ (n : Int) := by omega
              have CC : Hid (Calls Try.prog 30 #[.slice (some ⟨g, 0, none⟩) n c, .int .i64 (a : Int), .int .i64 (m : Int), .int .i64 (b : Int), .func (.func 16) #[] #[]] wr fun e w' => e = .returned (.tuple #[]) ∧ ∃ M, Hid (RW B g n c w0 w' M) ∧ Hid (PM 0 n L M) ∧ Hid (Two pl M s (q + 1) n)) := (MG.out a m b M wr (by omega) (by omega) hlt R.out (pt.1.part (Nat.le_refl _) (by omega)) (pt.2.part (by omega) (by omega))).mono (by
                rintro e w' ⟨rfl, M2, h1, h2, h3⟩
                have e : b = a + 2 * s := by have := HS2.out; omega
                rw [e] at h2 h3
                refine ⟨rfl, M2, h1, P.out.trans (h2.mono (by omega) (by omega)), T.out.step HA.out h2 h3⟩)
              have HA2 : Hid (b = 2 * s * (q + 1)) := (by show _ = _; rw [(mul2 s q).2.2.2, ← HA.out, ← HS2.out]; exact hab)
              obtain ⟨b2, hb2⟩ : ∃ b2, b2 = b + s2 := ⟨_, rfl⟩
              have i2 : (b : Int) + (s2 : Int) = (b2 : Int) := by omega
              have i3 : b < b2 ∧ b2 ≤ n + s2 := by omega
              have HB2 : Hid (b2 = b + s2) := hb2
              clear R P T MG hb2 hab pt hm HA
              go_wp2_with fail
              refine CC.out.mono ?_
              rintro e w1 ⟨rfl, M2, R2, P2, S2⟩
              clear CC
              go_wp2_with fail
              go_roundw
              case rel => exact ⟨q + 1, b, b2, M2, hlt, rfl, by go_num, HB2.out, HA2, R2, P2, S2⟩
              case measure => simp [intOf]; omega
            · have i1 : ¬ (b : Int) ≤ (n : Int) := by omega
              by_cases hmn : m < n
              · have i5 : (m : Int) < (n : Int) := by omega
                have CC : Hid (Calls Try.prog 30 #[.slice (some ⟨g, 0, none⟩) n c, .int .i64 (a : Int), .int .i64 (m : Int), .int .i64 (n : Int), .func (.func 16) #[] #[]] wr fun e w' => e = .returned (.tuple #[]) ∧ ∃ M, Hid (RW B g n c w0 w' M) ∧ Hid (PM 0 n L M) ∧ Hid (Blk pl M s2 n)) := (MG.out a m n M wr (by omega) hmn (Nat.le_refl _) R.out (pt.1.part (Nat.le_refl _) (by omega)) (pt.2.part (by omega) (by omega))).mono (by
                  rintro e w' ⟨rfl, M2, h1, h2, h3⟩
                  refine ⟨rfl, M2, h1, P.out.trans (h2.mono (by omega) (Nat.le_refl _)), ?_⟩
                  show Blk pl M2 s2 n
                  have e := HS2.out
                  rw [e]
                  exact T.out.last HA.out (by omega) h2 h3)
                clear R P T MG hab pt hm HA
                go_wp2_with fail
                refine CC.out.mono ?_
                rintro e w1 ⟨rfl, M2, R2, P2, S2⟩
                clear CC
                go_wp2_with fail
                go_roundw
                case rel => exact ⟨s2, M2, by omega, by omega, by go_num, R2, P2, S2⟩
                case measure => simp [intOf]; omega
              · have i5 : ¬ (m : Int) < (n : Int) := by omega
                have S2 : Hid (Blk pl M s2 n) := (by
                  show Blk pl M s2 n
                  have e := HS2.out
                  rw [e]
                  exact T.out.last HA.out (by omega) (PM.refl _ _ _) (pt.1.part (Nat.le_refl _) (by omega)))
                clear T MG hab pt hm HA
                go_wp2_with fail
                go_roundw
                case rel => exact ⟨s2, M, by omega, by omega, by go_num, R, P, S2⟩
                case measure => simp [intOf]; omega
        · have j1 : ¬ (s : Int) < (n : Int) := by omega
          have SS : Hid (Srt pl M 0 n) := S.out.done (by omega)
          clear S MG
          go_wp2_with fail
          go_end0
          exact ⟨rfl, M, R.out, P.out, SS.out⟩

set_option maxHeartbeats 400000 in
theorem sorted_any (w0 : World) (B g n c : Nat) (hB : B ≤ g) (hn : n ≤ 4000) (L : List Nat) (w : World) (h : RW B g n c w0 w L) :
    Calls Try.prog 15 #[.slice (some ⟨g, 0, none⟩) n c, .func (.func 16) #[] #[]] w fun e w' => e = .returned (.tuple #[]) ∧ ∃ M, RW B g n c w0 w' M ∧ PM 0 n L M ∧ Srt pl M 0 n := by
  have C := stable_any w0 B g n c hB hn L w h
  clear h
  go_enter Try.func15, Try.ntmps15
  go_wp2_with fail
  refine C.mono ?_
  rintro e w1 ⟨rfl, M, h1, h2, h3⟩
  have R : Hid (RW B g n c w0 w1 M) := h1
  have P : Hid (PM 0 n L M) := h2
  have S : Hid (Srt pl M 0 n) := h3
  clear h1 h2 h3 C
  go_wp2_with fail
  go_end0
  exact ⟨rfl, M, R.out, P.out, S.out⟩
end Go.Proofs.Ytfjkchkcgnjkaaa.Srt
