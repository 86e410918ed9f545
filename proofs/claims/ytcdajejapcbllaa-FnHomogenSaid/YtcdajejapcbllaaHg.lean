/- Homogen: the program. -/
import Derived.Test.YtcdajejapcbllaaHp
namespace Go.Proofs.Ytcdajejapcbllaa.Hg
open Go.ChangeShapes Go.WideShapes Go.ChangeAt Go.RowKit
open Go.Proofs.Ytcdajejapcbllaa.Lists Go.Proofs.Ytcdajejapcbllaa.Al Go.Proofs.Ytcdajejapcbllaa.Su Go.Proofs.Ytcdajejapcbllaa.Se Go.Proofs.Ytcdajejapcbllaa.Bk

theorem row_none (w : World) (b : Nat) : w.ownsRow b 2 1 (.slice none 0 0) 0 [] := ⟨by simp, .inl ⟨rfl, rfl⟩⟩
theorem empty_row {W : World} (e : TypeId) : (W.alloc (.cells #[] e)).ownsRow W.heap.size e 1 (.slice (some ⟨W.heap.size, 0, none⟩) 0 0) 0 [] := by
  refine ⟨by simp, .inr ⟨W.heap.size, 0, #[], rfl, Nat.le_refl _, ?_, Nat.le_refl _, Nat.zero_le _, by simp, by simp⟩⟩
  exact heap_alloc_new W _
theorem row_put {w : World} {B g n : Nat} {cap : Nat} {O : List Int} (R : w.ownsRow B 2 1 (.slice (some ⟨g, 0, none⟩) n cap) n (ints O)) (x : Nat) (z : Int) : (w.setCell ⟨g, x, none⟩ (.int .i64 z)).ownsRow B 2 1 (.slice (some ⟨g, 0, none⟩) n cap) n (ints (O.set x z)) := by
  rw [← Lists.ints_set]
  exact (R.stored x _).1
theorem row_get {w : World} {B g n : Nat} {cap : Nat} {O : List Int} (R : w.ownsRow B 2 1 (.slice (some ⟨g, 0, none⟩) n cap) n (ints O)) (hO : O.length = n) (x : Nat) (hx : x < n) : w.cell? ⟨g, x, none⟩ = some (.int .i64 (O.getD x 0)) := by
  subst hO
  exact row_cell R x hx
set_option maxHeartbeats 1000000 in
theorem istep_any (L : List Int) (v : Value) (w : World) (hL : Lists.Reads w v L) (hok : okS L = true) :
    Calls Try.prog 19 #[v, .int .i64 (kk L : Int)] w fun e w' => e = .returned (.int .i64 (stp L)) ∧ ∃ m, w' = w.drewN m := by
  obtain ⟨_, hk, _⟩ := kk_at hok
  by_cases h0 : kk L = 0
  · have e : stp L = 0 := by unfold stp; rw [if_pos h0]
    rw [e, h0]
    obtain ⟨a, cap, rfl⟩ := hL.form
    clear hL hk h0 e
    generalize L.length = n at *
    go_enter Try.func19, Try.ntmps19
    go_wp2_with fail
    go_ret
    exact ⟨rfl, 0, rfl⟩
  · have e : stp L = (num L (kk L)).tdiv (den L (kk L)) := by unfold stp; rw [if_neg h0]
    rw [e]
    exact step_any L (kk L) v w hL hok (by omega) hk

set_option maxHeartbeats 1000000 in
theorem ihom_any (L : List Int) (v : Value) (w : World) (hL : Lists.Reads w v L) (hf : L.length < 9223372036854775808) :
    Calls Try.prog 7 #[v] w fun e w' => ∃ u0, e = .returned (.tuple #[u0, .int .i64 (R1 L)]) ∧ w'.ownsRow w.heap.size 2 1 u0 (X0 L).length (ints (X0 L)) ∧ Below w.heap.size w w' := by
  have C : Hid (Calls Try.prog 18 #[v] w fun e w' => e = .returned (.bool (okS L)) ∧ w' = w) := iok_any L v w hL hf
  cases hok : okS L
  · have e1 : R1 L = 0 := by unfold R1 good; rw [hok]; rfl
    have e2 : X0 L = [] := by unfold X0 good; rw [hok]; rfl
    rw [hok] at C
    rw [e1, e2]
    obtain ⟨a, cap, rfl⟩ := hL.form
    clear hL hok e1 e2
    generalize L.length = n at *
    go_enter Try.func7, Try.ntmps7
    go_wp2_with fail
    refine C.out.mono ?_
    rintro e w1 ⟨rfl, hw⟩
    subst hw
    go_wp2_with fail
    go_ret2
    exact ⟨_, rfl, row_none _ _, Below.refl _ _⟩
  · obtain ⟨l1, l2, hz⟩ := okS_parts hok
    obtain ⟨ka, kl, _⟩ := kk_at hok
    have sb := stp_bd hok
    rw [hok] at C
    have C2 : Hid (Calls Try.prog 9 #[v] w fun e w' => e = .returned (.tuple #[.int .i64 (kk L : Int), .int .i64 (far L)]) ∧ w' = w) := (by
      have := i_any L v w hL hf
      rw [ka] at this
      exact this)
    have C3 : Hid (Calls Try.prog 19 #[v, .int .i64 (kk L : Int)] w fun e w' => e = .returned (.int .i64 (stp L)) ∧ ∃ m, w' = w.drewN m) := istep_any L v w hL hok
    have C4 : Hid (∀ m, Calls Try.prog 20 #[v] (w.drewN m) fun e w' => e = .returned (.slice (some ⟨w.heap.size, 0, none⟩) L.length L.length) ∧ w'.ownsRow w.heap.size 2 1 (.slice (some ⟨w.heap.size, 0, none⟩) L.length L.length) L.length (ints (bmp L (stp L) 0)) ∧ Below w.heap.size w w') := fun m => by
      have := copy_any L v (w.drewN m) hL l1 (by omega)
      rw [bmp_zero]
      refine this.mono ?_
      rintro e w' ⟨h1, h2, h3⟩
      exact ⟨h1, h2, ⟨h3.os, h3.tape, h3.output, h3.size, h3.block⟩⟩
    have HS : Hid (∀ j, j < L.length → (bmp L (stp L) j).set j (L.getD j 0 + stp L) = bmp L (stp L) (j + 1)) := fun j _ => bmp_set L (stp L) j
    have HG : Hid (∀ j, j < L.length → (bmp L (stp L) j).getD j 0 = L.getD j 0) := fun j hj => bmp_get L (stp L) j hj
    have HZ : Hid (∀ j, j < L.length → -100000 ≤ L.getD j 0 ∧ L.getD j 0 ≤ 100000) := hz
    have HL : Hid (∀ j, (bmp L (stp L) j).length = L.length) := bmp_len L (stp L)
    have C5 : Hid (∀ w' : World, w'.ownsRow w.heap.size 2 1 (.slice (some ⟨w.heap.size, 0, none⟩) L.length L.length) L.length (ints (bmp L (stp L) (kk L))) → Calls Try.prog 18 #[.slice (some ⟨w.heap.size, 0, none⟩) L.length L.length] w' fun e w'' => e = .returned (.bool (okS (bmp L (stp L) (kk L)))) ∧ w'' = w') := fun w' h => by
      have hl := bmp_len L (stp L) (kk L)
      have h' : w'.ownsRow w.heap.size 2 1 (.slice (some ⟨w.heap.size, 0, none⟩) L.length L.length) (bmp L (stp L) (kk L)).length (ints (bmp L (stp L) (kk L))) := by rw [hl]; exact h
      exact iok_any _ _ w' (reads_row h') (by rw [hl]; omega)
    have F1 : Hid (okS (bmp L (stp L) (kk L)) = true → R1 L = stp L ∧ X0 L = bmp L (stp L) (kk L)) := fun h => by unfold R1 X0 good; rw [hok, h]; exact ⟨rfl, rfl⟩
    have F2 : Hid (okS (bmp L (stp L) (kk L)) = false → R1 L = 0 ∧ X0 L = []) := fun h => by unfold R1 X0 good; rw [hok, h]; exact ⟨rfl, rfl⟩
    obtain ⟨a, cap, rfl⟩ := hL.form
    clear hL hz hok ka
    obtain ⟨n, hn⟩ : ∃ n, n = L.length := ⟨_, rfl⟩
    rw [← hn] at hf l1 l2 kl C C2 C3 C4 C5 HS HG HZ HL
    obtain ⟨k, hkk⟩ : ∃ k, k = kk L := ⟨_, rfl⟩
    rw [← hkk] at kl C2 C3 C5 F1 F2
    obtain ⟨st, hst⟩ : ∃ st, st = stp L := ⟨_, rfl⟩
    rw [← hst] at sb C3 C4 C5 HS HG HL F1 F2
    clear hkk hst
    rw [← hn]
    clear hn
    go_enter Try.func7, Try.ntmps7
    go_wp2_with fail
    refine C.out.mono ?_
    rintro e w1 ⟨rfl, hw⟩
    subst hw
    go_wp2_with fail
    refine C2.out.mono ?_
    rintro e w2 ⟨rfl, hw⟩
    have hw' := hw.symm
    subst hw'
    go_wp2_with fail
    refine C3.out.mono ?_
    rintro e w2 ⟨rfl, m, hw⟩
    subst hw
    go_wp2_with fail
    refine (C4.out m).mono ?_
    rintro e w3 ⟨rfl, hr, hb⟩
    have R3 : Hid (w3.ownsRow w1.heap.size 2 1 (.slice (some ⟨w1.heap.size, 0, none⟩) n n) n (ints (bmp L st 0))) := hr
    have B3 : Hid (Below w1.heap.size w1 w3) := hb
    clear hr hb C C2 C3 C4
    go_wp2_with fail
    go_loopw [23] (fun c wr => ∃ j : Nat, j ≤ k ∧ c = .int .i64 j ∧ Hid (wr.ownsRow w1.heap.size 2 1 (.slice (some ⟨w1.heap.size, 0, none⟩) n n) n (ints (bmp L st j))) ∧ Hid (Below w1.heap.size w1 wr)) (fun c _ => k - (intOf c).toNat)
    case atStart => exact ⟨0, Nat.zero_le _, rfl, R3, B3⟩
    case round =>
      obtain ⟨j, hj, rfl, R, BB⟩ := hrel
      by_cases hlt : j < k
      · have i0 : (0 : Int) ≤ (j : Int) := by omega
        have i1 : (j : Int) < (k : Int) := by omega
        have i2 : (j : Int) < (n : Int) := by omega
        have c1 : wr.cell? ⟨w1.heap.size, j, none⟩ = some (.int .i64 (L.getD j 0)) := by
          have := row_get R.out (HL.out j) j (by omega)
          rw [HG.out j (by omega)] at this
          exact this
        have c2 : wr.frozen? ⟨w1.heap.size, j, none⟩ = false := R.out.frozenAt j
        have z1 := HZ.out j (by omega)
        have RE : Hid ((wr.setCell ⟨w1.heap.size, j, none⟩ (.int .i64 (L.getD j 0 + st))).ownsRow w1.heap.size 2 1 (.slice (some ⟨w1.heap.size, 0, none⟩) n n) n (ints (bmp L st (j + 1)))) := (by
          have := row_put R.out j (L.getD j 0 + st)
          rw [HS.out j (by omega)] at this
          exact this)
        have BE : Hid (Below w1.heap.size w1 (wr.setCell ⟨w1.heap.size, j, none⟩ (.int .i64 (L.getD j 0 + st)))) := BB.out.setCell (p := ⟨w1.heap.size, j, none⟩) (Nat.le_refl _) _
        have J1 : IntKind.i64.wrap (L.getD j 0 + st) = L.getD j 0 + st := IntWalk.i64_in _ (by omega)
        clear z1
        generalize L.getD j 0 = z at *
        go_wp2_with fail
        go_roundw
        case rel => exact ⟨j + 1, by omega, by go_num, RE, BE⟩
        case measure => simp [intOf]; omega
      · have hjk : j = k := by omega
        subst hjk
        have C6 : Hid (Calls Try.prog 18 #[.slice (some ⟨w1.heap.size, 0, none⟩) n n] wr fun e w'' => e = .returned (.bool (okS (bmp L st j))) ∧ w'' = wr) := C5.out wr R.out
        clear C5
        cases hg : okS (bmp L st j)
        · obtain ⟨f1, f2⟩ := F2.out hg
          have FF : Hid (R1 L = 0 ∧ X0 L = []) := ⟨f1, f2⟩
          rw [hg] at C6
          clear f1 f2 hg F1 F2
          go_wp2_with fail
          refine C6.out.mono ?_
          rintro e w4 ⟨rfl, hw⟩
          have hw' := hw.symm
          subst hw'
          go_wp2_with fail
          go_ret2
          exact ⟨.slice none 0 0, by rw [FF.out.1]; rfl, by rw [FF.out.2]; exact row_none _ _, BB.out⟩
        · obtain ⟨f1, f2⟩ := F1.out hg
          have FF : Hid (R1 L = st ∧ X0 L = bmp L st j) := ⟨f1, f2⟩
          rw [hg] at C6
          clear f1 f2 hg F1 F2
          go_wp2_with fail
          refine C6.out.mono ?_
          rintro e w4 ⟨rfl, hw⟩
          have hw' := hw.symm
          subst hw'
          go_wp2_with fail
          go_ret2
          exact ⟨.slice (some ⟨w1.heap.size, 0, none⟩) n n, by rw [FF.out.1]; rfl, by rw [FF.out.2, HL.out]; exact R.out, BB.out⟩
end Go.Proofs.Ytcdajejapcbllaa.Hg
