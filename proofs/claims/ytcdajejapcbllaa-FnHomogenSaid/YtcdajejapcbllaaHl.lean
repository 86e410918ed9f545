/- The law of breaks walked. -/
import Derived.Test.YtcdajejapcbllaaHe
namespace Go.Proofs.Ytcdajejapcbllaa.Dc
open Go.ChangeShapes Go.WideShapes Go.ChangeAt Go.RowKit
open Go.Proofs.Ytcdajejapcbllaa.Lists Go.Proofs.Ytcdajejapcbllaa.Al Go.Proofs.Ytcdajejapcbllaa.Rd Go.Proofs.Ytcdajejapcbllaa.Su Go.Proofs.Ytcdajejapcbllaa.Se Go.Proofs.Ytcdajejapcbllaa.Bk Go.Proofs.Ytcdajejapcbllaa.Hg

theorem shom_any (L : List Int) (v : Value) (w : World) (h : Lists.Reads w v L) (hf : L.length < 9223372036854775808) :
    Calls Try.prog 6 #[v] w fun e w' => ∃ u0, e = .returned (.tuple #[u0, .int .i64 (R1 L)]) ∧ w'.ownsRow w.heap.size 2 1 u0 (X0 L).length (ints (X0 L)) ∧ Below w.heap.size w w' := by
  cases hok : okS L
  · have e1 : R1 L = 0 := by unfold R1 good; rw [hok]; rfl
    have e2 : X0 L = [] := by unfold X0 good; rw [hok]; rfl
    rw [e1, e2]
    exact shom_no L v w h hf hok
  · exact shom_yes L v w h hf hok
theorem x0_len (L : List Int) : (X0 L).length ≤ 500 ∧ (0 < (X0 L).length → good L = true ∧ X0 L = bmp L (stp L) (kk L) ∧ (X0 L).length = L.length) := by
  unfold X0
  cases h : good L
  · exact ⟨Nat.zero_le _, fun x => absurd x (by simp)⟩
  · refine ⟨?_, fun _ => ⟨rfl, rfl, ?_⟩⟩
    · rw [if_pos rfl, bmp_len]
      unfold good at h
      rw [Bool.and_eq_true] at h
      exact (okS_parts h.1).2.1
    · rw [if_pos rfl, bmp_len]

set_option maxHeartbeats 4000000 in
set_option maxRecDepth 20000 in
theorem homLaw (a : Option Addr) (len cap : Nat) (w : World) (hc : Go.Proofs.Ytcdajejapcbllaa.Rd.Code w a len cap) (hn : len < 9223372036854775808) : Calls Try.prog 3 #[.slice a len cap] w fun e w' => e = .returned (.bool true) ∧ Below w.heap.size w w' := by
  by_cases hl : 1048576 < len
  · have C : Hid (Calls Try.prog 4 #[.slice a len cap] w fun e w' => e = .returned (.bool true) ∧ w' = w) := big_yes a len cap w hl hn
    clear hc
    go_enter Try.func3, Try.ntmps3
    go_wp2_with fail
    refine C.out.mono ?_
    rintro e w1 ⟨rfl, hw⟩
    subst hw
    go_wp2_with fail
    go_ret
    exact ⟨rfl, Below.refl _ _⟩
  have C : Hid (Calls Try.prog 4 #[.slice a len cap] w fun e w' => e = .returned (.bool false) ∧ w' = w) := big_no a len cap w (by omega)
  have D : Hid (Calls Try.prog 5 #[.slice a len cap] w fun e w' => ∃ v L, e = .returned v ∧ Lists.Reads w' v L ∧ L.length ≤ 501 ∧ Below w.heap.size w w') := hom_any a len cap w hc (by omega)
  clear hc
  go_enter Try.func3, Try.ntmps3
  go_wp2_with fail
  refine C.out.mono ?_
  rintro e w1 ⟨rfl, hw⟩
  have hw' := hw.symm
  subst hw'
  clear hw
  go_wp2_with fail
  refine D.out.mono ?_
  rintro e w1 ⟨v, L, rfl, h1, h2, h3⟩
  have B1 : Hid (Below w.heap.size w w1) := h3
  obtain ⟨xl, xg⟩ := x0_len L
  have SA : Hid (Calls Try.prog 6 #[v] w1 fun e w' => ∃ u0, e = .returned (.tuple #[u0, .int .i64 (R1 L)]) ∧ w'.ownsRow w1.heap.size 2 1 u0 (X0 L).length (ints (X0 L)) ∧ Below w1.heap.size w1 w') := shom_any L v w1 h1 (by omega)
  have IA : Hid (∀ w', Below w1.heap.size w1 w' → Calls Try.prog 7 #[v] w' fun e w'' => ∃ u0, e = .returned (.tuple #[u0, .int .i64 (R1 L)]) ∧ w''.ownsRow w'.heap.size 2 1 u0 (X0 L).length (ints (X0 L)) ∧ Below w'.heap.size w' w'') := fun w' hb => ihom_any L v w' (h1.on hb) (by omega)
  have IB : Hid (∀ w', Below w1.heap.size w1 w' → Calls Try.prog 9 #[v] w' fun e w'' => e = .returned (.tuple #[.int .i64 (at_ L), .int .i64 (far L)]) ∧ w'' = w') := fun w' hb => i_any L v w' (h1.on hb) (by omega)
  have H1 : Hid (∀ w', Below w1.heap.size w1 w' → Lists.Reads w' v L) := fun w' hb => h1.on hb
  have XG : Hid (0 < (X0 L).length → good L = true ∧ X0 L = bmp L (stp L) (kk L) ∧ (X0 L).length = L.length) := xg
  obtain ⟨sa, sb, rfl⟩ := h1.form
  clear h1 h3 C D xg
  obtain ⟨X, hX⟩ : ∃ X, X = X0 L := ⟨_, rfl⟩
  rw [← hX] at SA IA xl XG
  obtain ⟨st, hst⟩ : ∃ st, st = R1 L := ⟨_, rfl⟩
  rw [← hst] at SA IA
  clear hX hst
  obtain ⟨n, hn⟩ : ∃ n, n = L.length := ⟨_, rfl⟩
  rw [← hn] at h2 SA IA IB H1 XG ⊢
  have HN : Hid (n = L.length) := hn
  clear hn
  go_wp2_with fail
  refine SA.out.mono ?_
  rintro e w2 ⟨u0, rfl, r2, b2⟩
  have R2 : Hid (w2.ownsRow w1.heap.size 2 1 u0 X.length (ints X)) := r2
  have B2 : Hid (Below w1.heap.size w1 w2) := b2
  clear r2 b2
  go_wp2_with fail
  refine (IA.out w2 B2.out).mono ?_
  rintro e w3 ⟨u1, rfl, r3, b3⟩
  have R3 : Hid (w3.ownsRow w2.heap.size 2 1 u1 X.length (ints X)) := r3
  have RE : Hid (Lists.Reads w3 u0 X) := (Lists.reads_row R2.out).on b3
  have B3 : Hid (Below w1.heap.size w1 w3) := B2.out.trans (b3.mono B2.out.size)
  have S3 : Hid (Calls Try.prog 8 #[u1, u0] w3 fun e w' => e = .returned (.bool true) ∧ ∃ m, w' = w3.drewN m) := same_any X u1 u0 w3 (Lists.reads_row r3) RE.out (by omega)
  clear r3 b3
  obtain ⟨ua, uc, hu0⟩ := RE.out.form
  subst hu0
  go_wp2_with fail
  refine S3.out.mono ?_
  rintro e w4 ⟨rfl, m4, hw4⟩
  have B4 : Hid (Below w1.heap.size w1 w4) := (by rw [hw4]; exact Rd.below_drewN B3.out m4)
  have R4 : Hid (w4.ownsRow w2.heap.size 2 1 u1 X.length (ints X)) := (by rw [hw4]; exact R3.out)
  clear hw4 S3 R3 RE
  go_wp2_with fail
  refine (IB.out w4 B4.out).mono ?_
  rintro e w5 ⟨rfl, hw5⟩
  have hw5' := hw5.symm
  subst hw5'
  clear hw5
  by_cases hx : X.length = 0
  · have q1 : ((X.length : Int) == 0) = true := by rw [hx]; rfl
    generalize at_ L = kz at *
    generalize far L = fz at *
    go_wp2_with fail
    go_ret
    exact ⟨rfl, B1.out.trans (B4.out.mono B1.out.size)⟩
  · have q1 : ((X.length : Int) == 0) = false := by rw [beq_eq_false_iff_ne]; omega
    by_cases hn2 : (n : Int) < 2
    · generalize at_ L = kz at *
      generalize far L = fz at *
      go_wp2_with fail
      go_ret
      exact ⟨rfl, B1.out.trans (B4.out.mono B1.out.size)⟩
    · obtain ⟨gd, xe, xn⟩ := XG.out (by omega)
      unfold good at gd
      rw [Bool.and_eq_true] at gd
      obtain ⟨ka, kl, k0⟩ := kk_at gd.1
      rw [ka]
      have hnl := HN.out
      have k1 : 1 ≤ kk L := by
        by_cases e : kk L = 0
        · have := k0 e; omega
        · omega
      have SM := left_small L (kk L) k1 kl (stp L) (by unfold stp; rw [if_neg (by omega)])
      rw [← xe] at SM gd
      have okX := gd.2
      obtain ⟨p1, p2, p3, p4, p5⟩ := parts_bd okX (kk L) (by omega)
      have dX : den X (kk L) = den L (kk L) := by unfold den; rw [xn, hnl]
      have dp := den_pos (L := L) (kk L) k1 kl
      obtain ⟨x1, x2, xz⟩ := okS_parts okX
      have XD : X.drop (kk L) = L.drop (kk L) := by rw [xe]; exact bmp_drop L (stp L) (kk L)
      rcases row_cases R4.out with ⟨e0, _⟩ | ⟨g, c, eu, gb, gs, gc, gm⟩
      · rw [e0] at hx; simp at hx
      rw [xn] at eu
      subst eu
      have RX : Lists.Reads w4 (.slice (some ⟨g, 0, none⟩) n c) X := Lists.reads_row R4.out
      have RS := H1.out w4 B4.out
      rcases RS with ⟨e0, _⟩ | ⟨b, o, c2, es, sg, sm_, sbk, sc⟩
      · rw [e0] at hnl; simp at hnl; omega
      rw [← hnl] at es sg
      simp at es
      obtain ⟨rfl, rfl⟩ := es
      have RS2 : Lists.Reads w4 (.slice (some ⟨b, o, none⟩) n sb) L := Or.inr ⟨b, o, sb, by rw [← hnl], by omega, sm_, sbk, sc⟩
      rw [xn] at gc
      generalize kk L = k at *
      have C8 : Hid (∀ m, Calls Try.prog 8 #[.slice (some ⟨g, k, none⟩) (n - k) (c - k), .slice (some ⟨b, o + k, none⟩) (n - k) (sb - k)] (w4.drewN m) fun e w' => e = .returned (.bool true) ∧ ∃ m', w' = (w4.drewN m).drewN m') := fun m => by
        have a1 := reads_drop (k := k) RX (by omega) (by omega)
        have a2 := reads_drop (k := k) RS2 (by omega) (by omega)
        rw [XD] at a1
        rw [Nat.zero_add] at a1
        exact same_any (L.drop k) _ _ (w4.drewN m) a1 a2 (by simp; omega)
      have C1 : Hid (∀ q m, Calls Try.prog 11 #[.slice (some ⟨g, k, none⟩) (n - k) (c - k)] ((w4.drewN q).drewN m) fun e w' => e = .returned (.int .i64 (tot X X.length - tot X k)) ∧ w' = (w4.drewN q).drewN m) := fun q m => by
        have a1 := reads_drop (k := k) RX (by omega) (by omega)
        rw [Nat.zero_add] at a1
        have := lsum_any (X.drop k) _ ((w4.drewN q).drewN m) a1 (by simp; omega) (by simp; omega) (bd_drop xz k)
        rw [tot_drop X k (by omega)] at this
        exact this
      have C2 : Hid (∀ q m, Calls Try.prog 11 #[.slice (some ⟨g, 0, none⟩) k c] ((w4.drewN q).drewN m) fun e w' => e = .returned (.int .i64 (tot X k)) ∧ w' = (w4.drewN q).drewN m) := fun q m => by
        have := lsum_any (X.take k) _ ((w4.drewN q).drewN m) (reads_take (k := k) RX (by omega) (by omega)) (by simp; omega) (by simp; omega) (bd_take xz k)
        rw [tot_take X k (by omega)] at this
        exact this
      have E1 : Hid (num X k = (tot X X.length - tot X k) * (k : Int) - tot X k * ((n : Int) - (k : Int))) := (by show _ = _; unfold num; rw [xn])
      have E2 : Hid (den L k = (k : Int) * ((n : Int) - (k : Int))) := (by show _ = _; unfold den; rw [← hnl])
      rw [← hnl, ← E1.out] at SM
      rw [xn] at p3 p4
      have nb : -50000000000 ≤ num X k ∧ num X k ≤ 50000000000 := by rw [E1.out, xn]; omega
      have J0 : IntKind.i64.wrap ((n : Int) - (k : Int)) = (n : Int) - (k : Int) := IntWalk.i64_in _ (by omega)
      have J1 : IntKind.i64.wrap ((tot X X.length - tot X k) * (k : Int)) = (tot X X.length - tot X k) * (k : Int) := IntWalk.i64_in _ (by rw [xn]; omega)
      have J2 : IntKind.i64.wrap (tot X k * ((n : Int) - (k : Int))) = tot X k * ((n : Int) - (k : Int)) := IntWalk.i64_in _ (by omega)
      have J3 : IntKind.i64.wrap ((tot X X.length - tot X k) * (k : Int) - tot X k * ((n : Int) - (k : Int))) = num X k := by rw [← E1.out]; exact IntWalk.i64_in _ (by omega)
      have dub : den L k ≤ 9000000000 := by omega
      have J4 : IntKind.i64.wrap ((k : Int) * ((n : Int) - (k : Int))) = den L k := by rw [← E2.out]; exact IntWalk.i64_in _ (by omega)
      have CA : Hid (∀ q m, Calls Try.prog 10 #[.int .i64 (num X k)] ((w4.drewN q).drewN m) fun e w' => e = .returned (.int .i64 ((num X k).natAbs : Int)) ∧ w' = (w4.drewN q).drewN m) := fun q m => abs_any _ _ (by omega)
      have g1 : ¬ (k : Int) < 1 := by omega
      have g13 : 1 ≤ (k : Int) := by omega
      have g14 : (k : Int) < (n : Int) := by omega
      have g2 : ¬ (n : Int) ≤ (k : Int) := by omega
      have d1 : decide ((k : Int) < 1) = false := decide_eq_false g1
      have d2 : decide ((n : Int) ≤ (k : Int)) = false := decide_eq_false g2
      have d3 : decide ((k : Int) ≥ (n : Int)) = false := decide_eq_false g2
      have g15 : ¬ n ≤ k := by omega
      have d4 : decide (n ≤ k) = false := decide_eq_false g15
      have g3 : (0 : Int) ≤ (k : Int) := by omega
      have g4 : (k : Int) ≤ (n : Int) := by omega
      have g5 : (n : Int) ≤ (c : Int) := by omega
      have g6 : (k : Int) ≤ (c : Int) := by omega
      have g7 : ¬ c = k := by omega
      have g8 : ¬ k = c := by omega
      have g9 : (n : Int) ≤ (sb : Int) := by omega
      have g10 : (k : Int) ≤ (sb : Int) := by omega
      have g11 : ¬ sb = k := by omega
      have g12 : ¬ k = sb := by omega
      have dl : decide (((num X k).natAbs : Int) < den L k) = true := decide_eq_true SM
      unfold maxLen at gm sm_
      have BF : Hid (∀ q m, Below w.heap.size w ((w4.drewN q).drewN m)) := fun q m => Rd.below_drewN (Rd.below_drewN (B1.out.trans (B4.out.mono B1.out.size)) q) m
      clear SM p1 p2 p3 p4 p5 nb dub dp dX xz XD RX RS2 okX gd xe sc sbk gs gb ka k0 E1 E2
      generalize num X k = nu at *
      generalize den L k = de at *
      generalize tot X X.length - tot X k = t2 at *
      generalize tot X k = t1 at *
      generalize far L = fz at *
      rw [xn] at q1 ⊢
      have n0 : ¬ n = 0 := by omega
      have n00 : ¬ (n : Int) = 0 := by omega
      clear xn hx XG HN hnl x1 x2 xl R4 R2
      go_wp2_with fail
      go_quiet ((go_at_call 8; exact Calls.quiet_of (C8.out _)))
      have C1' : Hid (∀ m, Calls Try.prog 11 #[.slice (some ⟨g, k, none⟩) (n - k) (c - k)] ((w4.drewN nq).drewN m) fun e w' => e = .returned (.int .i64 t2) ∧ w' = (w4.drewN nq).drewN m) := fun m => C1.out nq m
      have C2' : Hid (∀ m, Calls Try.prog 11 #[.slice (some ⟨g, 0, none⟩) k c] ((w4.drewN nq).drewN m) fun e w' => e = .returned (.int .i64 t1) ∧ w' = (w4.drewN nq).drewN m) := fun m => C2.out nq m
      have CA' : Hid (∀ m, Calls Try.prog 10 #[.int .i64 nu] ((w4.drewN nq).drewN m) fun e w' => e = .returned (.int .i64 (nu.natAbs : Int)) ∧ w' = (w4.drewN nq).drewN m) := fun m => CA.out nq m
      have BF' : Hid (∀ m, Below w.heap.size w ((w4.drewN nq).drewN m)) := fun m => BF.out nq m
      clear C1 C2 CA BF C8 IB IA SA H1
      generalize w4.drewN nq = w6 at *
      go_wp2_with fail
      go_quiet ((first | (go_at_call_of 11 (Value.slice (some ⟨g, k, none⟩) (n - k) (c - k)); exact Calls.quiet_of_same (C1'.out _)) | (go_at_call 11; exact Calls.quiet_of_same (C2'.out _)) | (go_at_call 10; exact Calls.quiet_of_same (CA'.out _))))
      go_wp2_with fail
      go_ret
      exact ⟨by simp, BF'.out _⟩
end Go.Proofs.Ytcdajejapcbllaa.Dc
