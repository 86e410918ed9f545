/- Whether a task's way is free, how many run in a group: the model. -/
import Derived.Test.YtfhpomfdkpfooaaRk
import Derived.Test.YtfhpomfdkpfooaaBm
import Derived.Deep.QuietTactic
import Derived.BigQuiet
import Derived.Deep.RegionHeld3
import Derived.Deep.Cut
import Derived.Deep.DeepCutAuto
import Derived.Deep.DeepMust
namespace Go.Proofs.Ytfhpomfdkpfooaa.Rk
open Go.ChangeShapes Go.WideShapes Go.ChangeAt Go.RowKit
open Go.Proofs.Ytfhpomfdkpfooaa.Lists Go.Proofs.Ytfhpomfdkpfooaa.Al Go.Proofs.Ytfhpomfdkpfooaa.Ru

theorem below_drewN {B : Nat} {a w : World} (h : Below B a w) (n : Nat) : Below B a (w.drewN n) := h.trans ⟨rfl, rfl, rfl, Nat.le_refl _, fun _ _ => rfl⟩
theorem jobs_at {w : World} {v : Value} {J : Jb.Ls} (h : Jb.Reads w v J) : ∃ b o, (∀ w', Below w.heap.size w w' → ∀ i, i < J.length → Jb.Cs w' b o J i) ∧ (0 < J.length → b < w.heap.size ∧ ∃ cap, v = .slice (some ⟨b, o, none⟩) J.length cap) := by
  rcases h with ⟨rfl, _⟩ | ⟨b, o, cap, h1, h2, h3, h4, h5⟩
  · exact ⟨0, 0, fun _ _ i hi => by simp at hi, fun hi => by simp at hi⟩
  · exact ⟨b, o, fun w' hb i hi => (h5 i hi).below hb h4, fun _ => ⟨h4, cap, h1⟩⟩
theorem tasks_at {w : World} {v : Value} {R : Tk.Ls} (h : Tk.Reads w v R) : ∃ b o, (∀ w', Below w.heap.size w w' → ∀ i, i < R.length → Tk.Cs w' b o R i) ∧ (0 < R.length → b < w.heap.size ∧ ∃ cap, v = .slice (some ⟨b, o, none⟩) R.length cap) := by
  rcases h with ⟨rfl, _⟩ | ⟨b, o, cap, h1, h2, h3, h4, h5⟩
  · exact ⟨0, 0, fun _ _ i hi => by simp at hi, fun hi => by simp at hi⟩
  · exact ⟨b, o, fun w' hb i hi => (h5 i hi).on hb h4, fun _ => ⟨h4, cap, h1⟩⟩

set_option maxHeartbeats 2000000 in
set_option maxRecDepth 20000 in
theorem sfree_any (R : Tk.Ls) (J : Jb.Ls) (vr vx vj : Value) (now : Int) (i : Nat) (w : World) (hR : Tk.Reads w vr R) (hJ : Jb.Reads w vj J) (hl : J.length = R.length) (h60 : R.length ≤ 60) (hi : i < R.length) (ha : ∀ k, k < (Tk.cl R i).length → 1 ≤ (Tk.cl R i).getD k 0 ∧ (Tk.cl R i).getD k 0 ≤ (i : Int)) :
    Calls Try.prog 42 #[rv vr vx now vj, .int .i64 (i : Int)] w fun e w' => e = .returned (.bool (fr R J i)) ∧ Below w.heap.size w w' := by
  obtain ⟨br, or, hcr, hvr⟩ := tasks_at hR
  obtain ⟨bj, oj, hcj, hvj⟩ := jobs_at hJ
  obtain ⟨hbr, cr, rfl⟩ := hvr (by omega)
  obtain ⟨hbj, cj, rfl⟩ := hvj (by omega)
  obtain ⟨w0, hw0⟩ : ∃ w0, w0 = w.alloc (Obj.cells #[.slice (some ⟨br, or, none⟩) R.length cr, vx, .int .i64 now, .slice (some ⟨bj, oj, none⟩) J.length cj] 30) := ⟨_, rfl⟩
  have HW0 : Hid (w0 = w.alloc (Obj.cells #[.slice (some ⟨br, or, none⟩) R.length cr, vx, .int .i64 now, .slice (some ⟨bj, oj, none⟩) J.length cj] 30)) := hw0
  have B0 : Hid (Below w.heap.size w w0) := (by show Below _ _ _; rw [hw0]; exact (Below.refl _ _).alloc (Nat.le_refl _) _)
  have X0 : Hid (∀ m, Ru.Box (w0.drewN m) w.heap.size (.slice (some ⟨br, or, none⟩) R.length cr) vx (.int .i64 now) (.slice (some ⟨bj, oj, none⟩) J.length cj)) := fun m => (by show Ru.Box w0 _ _ _ _ _; rw [hw0]; unfold Ru.Box; simp [go_sem])
  have HCJ : Hid (∀ m p, p < J.length → Jb.Cs (w0.drewN m) bj oj J p) := fun m p hp => hcj _ (below_drewN B0.out m) p hp
  obtain ⟨q1, q2, q3, u, q0, ru⟩ := hcr w0 B0.out i hi
  obtain ⟨bl, ol, hcl, hvl⟩ := reads_at ru
  obtain ⟨su, cu, hue⟩ := ru.form
  subst hue
  have HC : Hid (∀ m k, k < (Tk.cl R i).length → (w0.drewN m).cell? ⟨bl, ol + k, none⟩ = some (.int .i64 ((Tk.cl R i).getD k 0))) := fun m k hk => hcl k hk
  have HB : Hid (0 < (Tk.cl R i).length → su = some ⟨bl, ol, none⟩) := fun hi => by
    obtain ⟨h1, c, h2⟩ := hvl hi
    simp at h2
    exact h2.1
  have HA : Hid (∀ k, k < (Tk.cl R i).length → 1 ≤ (Tk.cl R i).getD k 0 ∧ (Tk.cl R i).getD k 0 ≤ (i : Int)) := ha
  have lf := Tk.lfits ru
  obtain ⟨bo, hbo⟩ : ∃ bo, fr R J i = bo := ⟨_, rfl⟩
  have NO : Hid (∀ k, k < (Tk.cl R i).length → dn R J i k = false → bo = false) := fun k hk h => by rw [← hbo]; exact all_no hk h
  have YE : Hid ((∀ k, k < (Tk.cl R i).length → dn R J i k = true) → bo = true) := fun h => by rw [← hbo]; exact all_yes h
  rw [hbo]
  have DN : Hid (∀ k, dn R J i k = (hw J (((Tk.cl R i).getD k 0) - 1).toNat == 2)) := fun _ => rfl
  have X00 := X0.out 0
  change Ru.Box w0 _ _ _ _ _ at X00
  obtain ⟨x0, x1, x2, x3⟩ := X00
  obtain ⟨n, hn⟩ : ∃ n, n = R.length := ⟨_, rfl⟩
  rw [hl, ← hn] at X0 HW0 HCJ x3
  rw [← hn] at h60 hi x0
  rw [hl, ← hn]
  clear hw0 hcr hcj hvr hvj hcl hvl ru ha hbo hR hJ hl hn q1 q2 q3
  have i1 : (0 : Int) ≤ (i : Int) := by omega
  have i2 : (i : Int) < (n : Int) := by omega
  generalize Tk.cl R i = L at *
  obtain ⟨ll, hll⟩ : ∃ ll, ll = L.length := ⟨_, rfl⟩
  rw [← hll] at q0 HC HB HA lf NO YE
  clear hll
  go_enter Try.func42, Try.ntmps42
  go_upto_region 1 with fail
  rw [← HW0.out]
  go_wp2_with fail
  clear x0 x1 x2 x3
  go_loopw [6] (fun c wr => ∃ k m : Nat, k ≤ ll ∧ c = .int .i64 k ∧ Hid (∀ p, p < k → dn R J i p = true) ∧ Hid (wr = w0.drewN m)) (fun c _ => ll - (intOf c).toNat)
  case atStart => exact ⟨0, 0, Nat.zero_le _, rfl, fun p hp => absurd hp (by omega), rfl⟩
  case round =>
    obtain ⟨k, m, hk, rfl, OK, HW⟩ := hrel
    by_cases hlt : k < ll
    · have hsu := HB.out (by omega)
      subst hsu
      obtain ⟨a1, a2⟩ := HA.out k hlt
      obtain ⟨p, hp⟩ : ∃ p : Nat, L.getD k 0 = (p : Int) + 1 := ⟨(L.getD k 0 - 1).toNat, by omega⟩
      have DK : Hid (dn R J i k = (hw J p == 2)) := (by show _ = _; rw [DN.out k, hp, show ((p : Int) + 1 - 1).toNat = p by omega])
      have hpn : p < n := by omega
      have q : wr.cell? ⟨bl, ol + k, none⟩ = some (.int .i64 ((p : Int) + 1)) := by rw [HW.out, ← hp]; exact HC.out m k hlt
      obtain ⟨y0, y1⟩ := HCJ.out m p hpn
      rw [← HW.out] at y0 y1
      obtain ⟨x0, x1, x2, x3⟩ := X0.out m
      rw [← HW.out] at x0 x1 x2 x3
      have k1 : (0 : Int) ≤ (k : Int) := by omega
      have k2 : (k : Int) < (ll : Int) := by omega
      have j3 : (p : Int) + 1 - 1 = (p : Int) := by omega
      have j4 : IntKind.i64.wrap ((p : Int) + 1 - 1) = (p : Int) := by rw [j3]; exact IntWalk.i64_in _ (by omega)
      have j5 : (p : Int) < (n : Int) := by omega
      have j7 : IntKind.i64.wrap (p : Int) = (p : Int) := IntWalk.i64_in _ (by omega)
      have j8 : (0 : Int) ≤ (p : Int) := by omega
      have NK : Hid (dn R J i k = false → bo = false) := NO.out k hlt
      have NX : Hid (dn R J i k = true → ∀ p, p < k + 1 → dn R J i p = true) := fun h p hp => by
        by_cases e : p = k
        · rw [e]; exact h
        · exact OK.out p (by omega)
      clear hp a1 a2 hpn
      change wr.cell? ⟨bj, oj + p * 2, none⟩ = some (.int .i64 (hw J p)) at y0
      generalize hw J p = h at *
      cases hz : (h == 2)
      · rw [hz] at DK
        have HF : Hid (bo = false) := NK.out DK.out
        have hz' : (h != 2) = true := by simpa using hz
        clear hz DK NK NX
        go_wp2_with fail
        go_quiet (fail)
        go_wp2_with fail
        go_ret
        exact ⟨by rw [HF.out]; rfl, by rw [HW.out]; exact below_drewN (below_drewN B0.out _) _⟩
      · rw [hz] at DK
        have OK2 := NX.out DK.out
        have OKH : Hid (∀ p, p < k + 1 → dn R J i p = true) := OK2
        have hz' : (h != 2) = false := by simpa using hz
        clear hz DK NK NX OK2
        go_wp2_with fail
        go_quiet (fail)
        go_wp2_with fail
        go_roundw
        case rel => exact ⟨k + 1, m + nq, by omega, by go_num, OKH, (by show _ = _; rw [HW.out]; exact World.drewN_drewN _ _ _)⟩
        case measure => simp [intOf]; omega
    · have HT : Hid (bo = true) := YE.out (fun p hp => OK.out p (by omega))
      go_wp2_with fail
      go_ret
      exact ⟨by rw [HT.out]; rfl, by rw [HW.out]; exact below_drewN B0.out _⟩

set_option maxHeartbeats 2000000 in
set_option maxRecDepth 20000 in
theorem srun_any (R : Tk.Ls) (J : Jb.Ls) (vr vx vj : Value) (now g : Int) (w : World) (hR : Tk.Reads w vr R) (hJ : Jb.Reads w vj J) (hl : J.length = R.length) (h60 : R.length ≤ 60) (h1 : 1 ≤ R.length) :
    Calls Try.prog 43 #[rv vr vx now vj, .int .i64 g] w fun e w' => e = .returned (.int .i64 (rn R J g J.length)) ∧ Below w.heap.size w w' := by
  obtain ⟨br, or, hcr, hvr⟩ := tasks_at hR
  obtain ⟨bj, oj, hcj, hvj⟩ := jobs_at hJ
  obtain ⟨hbr, cr, rfl⟩ := hvr (by omega)
  obtain ⟨hbj, cj, rfl⟩ := hvj (by omega)
  obtain ⟨w0, hw0⟩ : ∃ w0, w0 = w.alloc (Obj.cells #[.slice (some ⟨br, or, none⟩) R.length cr, vx, .int .i64 now, .slice (some ⟨bj, oj, none⟩) J.length cj] 30) := ⟨_, rfl⟩
  have HW0 : Hid (w0 = w.alloc (Obj.cells #[.slice (some ⟨br, or, none⟩) R.length cr, vx, .int .i64 now, .slice (some ⟨bj, oj, none⟩) J.length cj] 30)) := hw0
  have B0 : Hid (Below w.heap.size w w0) := (by show Below _ _ _; rw [hw0]; exact (Below.refl _ _).alloc (Nat.le_refl _) _)
  have X0 : Hid (Ru.Box w0 w.heap.size (.slice (some ⟨br, or, none⟩) R.length cr) vx (.int .i64 now) (.slice (some ⟨bj, oj, none⟩) J.length cj)) := (by show Ru.Box w0 _ _ _ _ _; rw [hw0]; unfold Ru.Box; simp [go_sem])
  have HCJ : Hid (∀ p, p < J.length → Jb.Cs w0 bj oj J p) := fun p hp => hcj _ B0.out p hp
  have HCR : Hid (∀ p, p < J.length → w0.cell? ⟨br, or + p * 4 + 1, none⟩ = some (.int .i64 (Tk.cz R p 1))) := fun p hp => (hcr _ B0.out p (by omega)).1
  obtain ⟨n, hn⟩ : ∃ n, n = R.length := ⟨_, rfl⟩
  rw [hl, ← hn] at X0 HW0 HCJ HCR
  rw [← hn] at h60 h1
  rw [hl, ← hn]
  clear hw0 hcr hcj hvr hvj hR hJ hl hn
  obtain ⟨x0, x1, x2, x3⟩ := X0.out
  go_enter Try.func43, Try.ntmps43
  go_wp2_with fail
  rw [← HW0.out]
  go_loop [5, 6] (fun c i => ∃ (k : Nat) (q : Int), k ≤ n ∧ i = .int .i64 k ∧ c = .int .i64 q ∧ 0 ≤ q ∧ q ≤ (k : Int) ∧ Hid (q = rn R J g k)) (fun _ i => n - (intOf i).toNat)
  case atStart => exact ⟨0, 0, Nat.zero_le _, rfl, rfl, by omega, by omega, rfl⟩
  case round =>
    obtain ⟨k, q, hk, rfl, rfl, b0, b1, HQ⟩ := hrel
    by_cases hlt : k < n
    · obtain ⟨y0, y1⟩ := HCJ.out k hlt
      have z1 := HCR.out k hlt
      have k1 : (0 : Int) ≤ (k : Int) := by omega
      have k2 : (k : Int) < (n : Int) := by omega
      have RS : Hid (rn R J g (k + 1) = if (hw J k == 1 && Tk.cz R k 1 == g) = true then q + 1 else q) := (by show _ = _; rw [HQ.out]; rfl)
      change w0.cell? ⟨bj, oj + k * 2, none⟩ = some (.int .i64 (hw J k)) at y0
      generalize hw J k = h at *
      generalize Tk.cz R k 1 = c at *
      cases hz : (h == 1)
      · have E : Hid (rn R J g (k + 1) = q) := (by show _ = _; rw [RS.out, hz]; rfl)
        clear RS
        go_wp2_with fail
        go_round
        case rel => exact ⟨k + 1, q, by omega, by go_num, rfl, b0, by omega, E.out.symm⟩
        case measure => simp [intOf]; omega
      · cases hc : (c == g)
        · have E : Hid (rn R J g (k + 1) = q) := (by show _ = _; rw [RS.out, hz, hc]; rfl)
          clear RS
          go_wp2_with fail
          go_round
          case rel => exact ⟨k + 1, q, by omega, by go_num, rfl, b0, by omega, E.out.symm⟩
          case measure => simp [intOf]; omega
        · have E : Hid (rn R J g (k + 1) = q + 1) := (by show _ = _; rw [RS.out, hz, hc]; rfl)
          clear RS
          go_wp2_with fail
          go_round
          case rel => exact ⟨k + 1, q + 1, by omega, by go_num, rfl, by omega, by omega, E.out.symm⟩
          case measure => simp [intOf]; omega
    · have e : k = n := by omega
      subst e
      go_wp2_with fail
      go_ret
      exact ⟨by rw [HQ.out]; rfl, B0.out⟩
end Go.Proofs.Ytfhpomfdkpfooaa.Rk
