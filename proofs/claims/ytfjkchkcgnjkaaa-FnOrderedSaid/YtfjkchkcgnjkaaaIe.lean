/- A row of numbers sorted in place: two sorted parts merged. -/
import Derived.Test.YtfjkchkcgnjkaaaId
import Derived.Deep.Cut
import Derived.Deep.DeepCutAuto
namespace Go.Proofs.Ytfjkchkcgnjkaaa.Srt
open Go.ChangeShapes Go.WideShapes Go.ChangeAt Go.RowKit
open Go.Proofs.Ytfjkchkcgnjkaaa.Flt Go.Proofs.Ytfjkchkcgnjkaaa.St Go.Proofs.Ytfjkchkcgnjkaaa.Fls
attribute [local go_sem] Fls.run_store_flt

abbrev Merges (w0 : World) (B g n c a m b : Nat) (L : List Nat) (w : World) : Prop :=
  Calls Try.prog 30 #[.slice (some ⟨g, 0, none⟩) n c, .int .i64 (a : Int), .int .i64 (m : Int), .int .i64 (b : Int), .func (.func 16) #[] #[]] w fun e w' => e = .returned (.tuple #[]) ∧ ∃ M, RW B g n c w0 w' M ∧ PM a b L M ∧ Srt pl M a b

set_option maxHeartbeats 1000000 in
set_option maxRecDepth 20000 in
theorem mergeC (w0 : World) (B g n c : Nat) (hB : B ≤ g) (hn : n ≤ 4000) (a m b : Nat) (ha : a + 1 < m) (hm : m + 1 < b) (hb : b ≤ n) (L : List Nat) (w : World) (h : RW B g n c w0 w L) (sl : Srt pl L a m) (sr : Srt pl L m b)
    (IH : ∀ (a' m' b' : Nat) (L' : List Nat) (w' : World), b' - a' < b - a → a' < m' → m' < b' → b' ≤ n → RW B g n c w0 w' L' → Srt pl L' a' m' → Srt pl L' m' b' → Merges w0 B g n c a' m' b' L' w') :
    Merges w0 B g n c a m b L w := by
  have H : Hid (RW B g n c w0 w L) := h
  have hl := h.len
  have BY : Hid (∀ (x y : Nat) (w : World), Calls Try.prog 16 #[.float .f64 (L.getD x 0), .float .f64 (L.getD y 0)] w fun e w' => e = .returned (.int .i64 (cv (pl (L.getD x 0)) (pl (L.getD y 0)))) ∧ w' = w) := fun x y w => by_any _ _ w (h.bd _) (h.bd _)
  have RO : Hid (∀ (s e : Nat) (w : World), s < m → m < e → e ≤ n → RW B g n c w0 w L → Calls Try.prog 37 #[.slice (some ⟨g, 0, none⟩) n c, .int .i64 (s : Int), .int .i64 (m : Int), .int .i64 (e : Int), .func (.func 16) #[] #[]] w fun e' w' => e' = .returned (.tuple #[]) ∧ ∃ M, RW B g n c w0 w' M ∧ PM s e L M ∧ ∀ x, M.getD x 0 = rof L s m e x) := fun s e w h1 h2 h3 hr => rotate_any w0 B g n c hB hn s m e h1 h2 h3 L w hr _
  have HI : Hid (∀ (a' m' b' : Nat) (L' : List Nat) (w' : World), b' - a' < b - a → a' < m' → m' < b' → b' ≤ n → RW B g n c w0 w' L' → Srt pl L' a' m' → Srt pl L' m' b' → Merges w0 B g n c a' m' b' L' w') := IH
  obtain ⟨d0, hd0⟩ : ∃ d0, d0 = m - a := ⟨_, rfl⟩
  have e0 : (m : Int) - (a : Int) = (d0 : Int) := by omega
  have e00 : ((d0 : Int) == 1) = false := by simp; omega
  obtain ⟨d1, hd1⟩ : ∃ d1, d1 = b - m := ⟨_, rfl⟩
  have e1 : (b : Int) - (m : Int) = (d1 : Int) := by omega
  have e11 : ((d1 : Int) == 1) = false := by simp; omega
  obtain ⟨mid, hmid⟩ : ∃ mid, mid = (a + b) / 2 := ⟨_, rfl⟩
  have e2 : ((a : Int) + (b : Int)) / 2 = (mid : Int) := by omega
  obtain ⟨nn, hnn⟩ : ∃ nn, nn = mid + m := ⟨_, rfl⟩
  have e3 : (mid : Int) + (m : Int) = (nn : Int) := by omega
  obtain ⟨p, hp⟩ : ∃ p, p = nn - 1 := ⟨_, rfl⟩
  have e4 : (nn : Int) - 1 = (p : Int) := by omega
  obtain ⟨lo, hlo⟩ : ∃ lo, lo = if mid < m then nn - b else a := ⟨_, rfl⟩
  obtain ⟨hi, hhi⟩ : ∃ hi, hi = if mid < m then mid else m := ⟨_, rfl⟩
  have PA : Hid (∀ (M : List Nat) (s e : Nat), (∀ x, M.getD x 0 = rof L s m e x) → e = nn - s → lo ≤ s → s ≤ hi → (s = lo ∨ ¬ pl (L.getD (p - (s - 1)) 0) < pl (L.getD (s - 1) 0)) → (s = hi ∨ pl (L.getD (p - s) 0) < pl (L.getD s 0)) →
      Parted pl M a s mid e b ∧ a ≤ s ∧ s ≤ mid ∧ s ≤ m ∧ m ≤ e ∧ mid ≤ e ∧ e ≤ b) := fun M s e h1 h2 h3 h4 h5 h6 => parted h1 sl sr (by omega) (by omega) hmid hnn h2 hlo hhi h3 h4 (by rw [← hp]; exact h5) (by rw [← hp]; exact h6)
  have lh : lo ≤ hi ∧ a ≤ lo ∧ hi ≤ mid ∧ hi ≤ m ∧ (∀ c, lo ≤ c → c < hi → c ≤ p ∧ p - c < b) ∧ p + 1 = nn ∧ mid < b ∧ a < mid := by
    split at hlo <;> split at hhi <;> refine ⟨?_, ?_, ?_, ?_, ?_, ?_, ?_, ?_⟩ <;> (try intro c h1 h2) <;> omega
  obtain ⟨lh1, lh2, lh3, lh4, lh5, lh6, lh7, lh8⟩ := lh
  have LH5 : Hid (∀ c, lo ≤ c → c < hi → c ≤ p ∧ p - c < b) := lh5
  have BD : Hid (∀ s, lo ≤ s → s ≤ hi → a ≤ s ∧ s ≤ mid ∧ s ≤ m ∧ m ≤ nn - s ∧ mid ≤ nn - s ∧ nn - s ≤ b) := (by
    intro s h1 h2
    split at hlo <;> split at hhi <;> omega)
  have lohi : (mid < m ∧ (nn : Int) - (b : Int) = (lo : Int) ∧ hi = mid) ∨ (¬ mid < m ∧ lo = a ∧ hi = m) := by
    split at hlo <;> split at hhi <;> omega
  clear h sl sr IH hlo hhi hd0 hd1 hmid hnn hp lh5
  go_enter Try.func30, Try.ntmps30
  go_upto_if 140 with fail
  go_cut [20, 21] (fun x y wx => x = .int .i64 lo ∧ y = .int .i64 hi ∧ wx = w)
  case first => as_aux_lemma =>
    rcases lohi with ⟨q1, q2, q3⟩ | ⟨q1, q2, q3⟩
    · have q1' : (mid : Int) < (m : Int) := by omega
      subst q3
      go_wp2_with fail
      go_meet
      exact ⟨by go_num, rfl, rfl⟩
    · have q1' : ¬ (mid : Int) < (m : Int) := by omega
      subst q2 q3
      go_wp2_with fail
      go_meet
      exact ⟨rfl, rfl, rfl⟩
  case rest => as_aux_lemma =>
    obtain ⟨rfl, rfl, hw⟩ := hcut
    subst hw
    clear lohi
    go_wp2_with fail
    go_loopw [20, 21, 23] (fun ss sr _ wr => ∃ (s r : Nat), lo ≤ s ∧ s ≤ r ∧ r ≤ hi ∧ ss = .int .i64 s ∧ sr = .int .i64 r ∧ Hid (RW B g n c w0 wr L) ∧ Hid (s = lo ∨ ¬ pl (L.getD (p - (s - 1)) 0) < pl (L.getD (s - 1) 0)) ∧ Hid (r = hi ∨ pl (L.getD (p - r) 0) < pl (L.getD r 0))) (fun ss sr _ _ => (intOf sr).toNat - (intOf ss).toNat)
    case atStart => exact ⟨lo, hi, Nat.le_refl _, lh1, Nat.le_refl _, rfl, rfl, H, Or.inl rfl, Or.inl rfl⟩
    case round => as_aux_lemma =>
      clear H
      obtain ⟨s, r, hs, hsr, hr, rfl, rfl, R, Q1, Q2⟩ := hrel
      by_cases hlt : s < r
      · obtain ⟨k, hk⟩ : ∃ k, k = (s + r) / 2 := ⟨_, rfl⟩
        have k0 : ((s : Int) + (r : Int)) / 2 = (k : Int) := by omega
        have k1 : s ≤ k ∧ k < r := by omega
        have kp := LH5.out k (by omega) (by omega)
        obtain ⟨y, hy⟩ : ∃ y, y = p - k := ⟨_, rfl⟩
        have k4 : (p : Int) - (k : Int) = (y : Int) := by omega
        have k2 : (k : Int) < (n : Int) := by omega
        have k3 : (y : Int) < (n : Int) := by omega
        obtain ⟨u, hu⟩ : ∃ u, u = L.getD y 0 := ⟨_, rfl⟩
        obtain ⟨v, hv⟩ : ∃ v, v = L.getD k 0 := ⟨_, rfl⟩
        have q1 : ∀ q, (wr.drewN q).cell? ⟨g, y, none⟩ = some (.float .f64 u) := fun q => (by rw [hu]; exact R.out.get y (by omega))
        have q2 : ∀ q, (wr.drewN q).cell? ⟨g, k, none⟩ = some (.float .f64 v) := fun q => (by rw [hv]; exact R.out.get k (by omega))
        have CB : Hid (∀ w, Calls Try.prog 16 #[.float .f64 u, .float .f64 v] w fun e w' => e = .returned (.int .i64 (cv (pl u) (pl v))) ∧ w' = w) := (by rw [hu, hv]; exact fun w => BY.out y k w)
        have cz : cv (pl u) (pl v) < 0 ↔ pl (L.getD (p - k) 0) < pl (L.getD k 0) := (by rw [hu, hv, hy]; exact cv_neg _ _)
        have i1 : (s : Int) < (r : Int) := by omega
        clear hk hu hv kp hy
        have QY : Hid (¬ pl (L.getD (p - k) 0) < pl (L.getD k 0) → k + 1 = lo ∨ ¬ pl (L.getD (p - (k + 1 - 1)) 0) < pl (L.getD (k + 1 - 1) 0)) := fun h => Or.inr h
        have q1' := q1 0
        have q2' := q2 0
        by_cases hz : cv (pl u) (pl v) < 0
        · have Q3 : Hid (k = hi ∨ pl (L.getD (p - k) 0) < pl (L.getD k 0)) := Or.inr (cz.1 hz)
          clear QY cz Q2
          generalize cv (pl u) (pl v) = z at hz CB
          go_wp2_with fail
          go_quiet ((go_at_call 16; exact Calls.quiet_of_same (CB.out _)))
          have R1 : Hid (RW B g n c w0 (wr.drewN nq) L) := R.out.drew nq
          clear q1 q2 q1' q2' R CB
          generalize wr.drewN nq = wq at R1 ⊢
          go_wp2_with fail
          go_roundw
          case rel => exact ⟨s, k, hs, by omega, by omega, rfl, rfl, R1, Q1, Q3⟩
          case measure => simp [intOf]; omega
        · have Q3 : Hid (k + 1 = lo ∨ ¬ pl (L.getD (p - (k + 1 - 1)) 0) < pl (L.getD (k + 1 - 1) 0)) := QY.out fun h => hz (cz.2 h)
          clear QY cz Q1
          generalize cv (pl u) (pl v) = z at hz CB
          have dz : decide (z < 0) = false := by simp; omega
          go_wp2_with fail
          go_quiet ((go_at_call 16; exact Calls.quiet_of_same (CB.out _)))
          have R1 : Hid (RW B g n c w0 (wr.drewN nq) L) := R.out.drew nq
          clear q1 q2 q1' q2' R CB
          generalize wr.drewN nq = wq at R1 ⊢
          go_wp2_with fail
          go_roundw
          case rel => exact ⟨k + 1, r, by omega, by omega, hr, by go_num, rfl, R1, Q3, Q2⟩
          case measure => simp [intOf]; omega
      · have hrs : r = s := by omega
        subst hrs
        obtain ⟨e, he⟩ : ∃ e, e = nn - r := ⟨_, rfl⟩
        have e5 : (nn : Int) - (r : Int) = (e : Int) := by omega
        have PB : Hid (∀ (M : List Nat), (∀ x, M.getD x 0 = rof L r m e x) → Parted pl M a r mid e b ∧ a ≤ r ∧ r ≤ mid ∧ r ≤ m ∧ m ≤ e ∧ mid ≤ e ∧ e ≤ b) := fun M hM => PA.out M r e hM he hs hr Q1.out Q2.out
        have bd : a ≤ r ∧ r ≤ mid ∧ r ≤ m ∧ m ≤ e ∧ mid ≤ e ∧ e ≤ b := (by rw [he]; exact BD.out r hs hr)
        clear BD PA Q1 Q2 LH5 BY he hlt
        go_upto_region 39 with fail
        go_cut [185] (fun x wx => wx = wr ∧ ((x = .bool true ∧ r < m ∧ m < e) ∨ (x = .bool false ∧ (r = m ∨ m = e))))
        case first => as_aux_lemma =>
          clear PB RO HI R
          by_cases c1 : r < m
          · have c1' : (r : Int) < (m : Int) := by omega
            by_cases c2 : m < e
            · have c2' : (m : Int) < (e : Int) := by omega
              go_wp2_with fail
              go_meet
              exact ⟨rfl, Or.inl ⟨rfl, c1, c2⟩⟩
            · have c2' : decide ((m : Int) < (e : Int)) = false := by simp; omega
              go_wp2_with fail
              go_meet
              exact ⟨rfl, Or.inr ⟨rfl, by omega⟩⟩
          · have c1' : decide ((r : Int) < (m : Int)) = false := by simp; omega
            go_wp2_with fail
            go_meet
            exact ⟨rfl, Or.inr ⟨rfl, by omega⟩⟩
        case rest => as_aux_lemma =>
        obtain ⟨hw, hx⟩ := hcut
        subst hw
        go_upto_if 185 with fail
        go_cut [] (fun wx => ∃ M, Hid (RW B g n c w0 wx M) ∧ Hid (PM a b L M) ∧ Hid (Parted pl M a r mid e b))
        case first => as_aux_lemma =>
          clear HI
          rcases hx with ⟨rfl, c1, c2⟩ | ⟨rfl, c1⟩
          · have RR : Hid (Calls Try.prog 37 #[.slice (some ⟨g, 0, none⟩) n c, .int .i64 (r : Int), .int .i64 (m : Int), .int .i64 (e : Int), .func (.func 16) #[] #[]] wc fun e' w' => e' = .returned (.tuple #[]) ∧ ∃ M, Hid (RW B g n c w0 w' M) ∧ Hid (PM a b L M) ∧ Hid (Parted pl M a r mid e b)) := (RO.out r e wc c1 c2 (by omega) R.out).mono (by
              rintro e' w' ⟨rfl, M, h1, h2, h3⟩
              exact ⟨rfl, M, h1, h2.mono (by omega) (by omega), (PB.out M h3).1⟩)
            clear PB RO R
            go_wp2_with fail
            refine RR.out.mono ?_
            rintro e' w' ⟨rfl, M, h1, h2, h3⟩
            go_wp2_with fail
            go_meet
            exact ⟨M, h1, h2, h3⟩
          · have PP : Hid (Parted pl L a r mid e b) := (PB.out L (rof_id c1 (by omega) (by omega))).1
            clear PB RO
            go_wp2_with fail
            go_meet
            exact ⟨L, R, PM.refl _ _ _, PP⟩
        case rest => as_aux_lemma =>
          clear R PB RO hx
          obtain ⟨M, R, P, PT⟩ := hcut
          go_upto_region 41 with fail
          go_cut [199] (fun x wx => wx = wc ∧ ((x = .bool true ∧ a < r ∧ r < mid) ∨ (x = .bool false ∧ ¬ (a < r ∧ r < mid))))
          case first => as_aux_lemma =>
            clear HI R P PT
            by_cases c1 : a < r
            · have c1' : (a : Int) < (r : Int) := by omega
              by_cases c2 : r < mid
              · have c2' : (r : Int) < (mid : Int) := by omega
                go_wp2_with fail
                go_meet
                exact ⟨rfl, Or.inl ⟨rfl, c1, c2⟩⟩
              · have c2' : decide ((r : Int) < (mid : Int)) = false := by simp; omega
                go_wp2_with fail
                go_meet
                exact ⟨rfl, Or.inr ⟨rfl, by omega⟩⟩
            · have c1' : decide ((a : Int) < (r : Int)) = false := by simp; omega
              go_wp2_with fail
              go_meet
              exact ⟨rfl, Or.inr ⟨rfl, by omega⟩⟩
          case rest => as_aux_lemma =>
          obtain ⟨hw, hx⟩ := hcut
          subst hw
          go_upto_if 199 with fail
          go_cut [] (fun wx => ∃ M2, Hid (RW B g n c w0 wx M2) ∧ Hid (PM a mid M M2) ∧ Hid (Srt pl M2 a mid))
          case first => as_aux_lemma =>
            rcases hx with ⟨rfl, c1, c2⟩ | ⟨rfl, c1⟩
            · have RR : Hid (Merges w0 B g n c a r mid M wc) := HI.out a r mid M wc (by omega) c1 c2 (by omega) R.out PT.out.s1 PT.out.s2
              clear HI R P PT
              go_wp2_with fail
              refine RR.out.mono ?_
              rintro e' w' ⟨rfl, M2, h1, h2, h3⟩
              go_wp2_with fail
              go_meet
              exact ⟨M2, h1, h2, h3⟩
            · clear HI
              have SS : Hid (Srt pl M a mid) := PT.out.left c1 bd.1 bd.2.1
              clear PT
              go_wp2_with fail
              go_meet
              exact ⟨M, R, PM.refl _ _ _, SS⟩
          case rest => as_aux_lemma =>
            clear R hx
            obtain ⟨M2, R, P2, S2⟩ := hcut
            by_cases c1 : mid < e
            · have c1' : (mid : Int) < (e : Int) := by omega
              by_cases c2 : e < b
              · have c2' : (e : Int) < (b : Int) := by omega
                have RR : Hid (Merges w0 B g n c mid e b M2 wc) := HI.out mid e b M2 wc (by omega) c1 c2 (by omega) R.out (PT.out.s3.off P2.out (Or.inr (Nat.le_refl _))) (PT.out.s4.off P2.out (Or.inr (by omega)))
                clear HI R
                go_wp2_with fail
                refine RR.out.mono ?_
                rintro e' w' ⟨rfl, M3, h1, h2, h3⟩
                have R3 : Hid (RW B g n c w0 w' M3) := h1
                have P3 : Hid (PM mid b M2 M3) := h2
                have S3 : Hid (Srt pl M3 mid b) := h3
                clear h1 h2 h3 RR
                go_wp2_with fail
                go_end0
                exact ⟨rfl, M3, R3.out, P.out.trans ((P2.out.mono (Nat.le_refl _) (by omega)).trans (P3.out.mono (by omega) (Nat.le_refl _))), PT.out.join P2.out S2.out P3.out S3.out⟩
              · have c2' : decide ((e : Int) < (b : Int)) = false := by simp; omega
                clear HI
                go_wp2_with fail
                go_end0
                exact ⟨rfl, M2, R.out, P.out.trans (P2.out.mono (Nat.le_refl _) (by omega)), PT.out.join P2.out S2.out (PM.refl _ _ _) ((PT.out.right (by omega) bd.2.2.2.2.1 bd.2.2.2.2.2).off P2.out (Or.inr (Nat.le_refl _)))⟩
            · have c1' : decide ((mid : Int) < (e : Int)) = false := by simp; omega
              clear HI
              go_wp2_with fail
              go_end0
              exact ⟨rfl, M2, R.out, P.out.trans (P2.out.mono (Nat.le_refl _) (by omega)), PT.out.join P2.out S2.out (PM.refl _ _ _) ((PT.out.right (by omega) bd.2.2.2.2.1 bd.2.2.2.2.2).off P2.out (Or.inr (Nat.le_refl _)))⟩

theorem merge_any (w0 : World) (B g n c : Nat) (hB : B ≤ g) (hn : n ≤ 4000) : ∀ (q a m b : Nat) (L : List Nat) (w : World), b - a ≤ q → a < m → m < b → b ≤ n → RW B g n c w0 w L → Srt pl L a m → Srt pl L m b → Merges w0 B g n c a m b L w
  | 0, a, m, b, _, _, h, h1, h2, _, _, _, _ => by omega
  | q + 1, a, m, b, L, w, h, h1, h2, h3, h4, h5, h6 => by
    by_cases c1 : m = a + 1
    · exact mergeA w0 B g n c hB hn a m b c1 h2 h3 L w h4 h6
    · by_cases c2 : b = m + 1
      · exact mergeB w0 B g n c hB hn a m b (by omega) c2 h3 L w h4 h5
      · exact mergeC w0 B g n c hB hn a m b (by omega) (by omega) h3 L w h4 h5 h6 fun a' m' b' L' w' k1 k2 k3 k4 k5 k6 k7 => merge_any w0 B g n c hB hn q a' m' b' L' w' (by omega) k2 k3 k4 k5 k6 k7
end Go.Proofs.Ytfjkchkcgnjkaaa.Srt
