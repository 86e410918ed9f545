/- Levels: the greatest level that is reached; one number heard. -/
import Derived.Test.YtlegcimlhgkibaaLw
import Derived.Test.YtlegcimlhgkibaaLx
import Derived.OneCell
namespace Go.Proofs.Ytlegcimlhgkibaa.Lv
open Go.ChangeShapes Go.WideShapes Go.ChangeAt Go.RowKit
open Go.Proofs.Ytlegcimlhgkibaa.Lists Go.Proofs.Ytlegcimlhgkibaa.Al Go.Proofs.Ytlegcimlhgkibaa.Se

set_option maxHeartbeats 1000000 in
theorem stop_any (L : List Int) (x : Int) (v : Value) (w : World) (hL : Lists.Reads w v L) (hf : L.length ≤ 5) (hn : Nf L) :
    Calls Try.prog 14 #[v, .int .i64 x] w fun e w' => e = .returned (.int .i64 (tp L x : Int)) ∧ w' = w := by
  have HNF : Hid (∀ k, k < L.length → L.getD k 0 ≤ x → cnt L x (k + 1) = k + 1) := fun k hk h => cnt_hit hn hk h
  clear hn
  obtain ⟨b, o, hcell, hvv⟩ := reads_at hL
  obtain ⟨a, cap, rfl⟩ := hL.form
  have HC : Hid (∀ i, i < L.length → w.cell? ⟨b, o + i, none⟩ = some (.int .i64 (L.getD i 0))) := hcell
  have HB : Hid (0 < L.length → b < w.heap.size ∧ a = some ⟨b, o, none⟩) := fun hi => by
    obtain ⟨h1, c, h2⟩ := hvv hi
    simp at h2
    exact ⟨h1, h2.1⟩
  unfold tp
  obtain ⟨n, hn⟩ : ∃ n, n = L.length := ⟨_, rfl⟩
  rw [← hn] at hf ⊢
  have HN : Hid (n = L.length) := hn
  clear hL hcell hvv hn
  go_enter Try.func14, Try.ntmps14
  go_wp2_with fail
  go_loop [5, 6] (fun c i => ∃ k : Nat, k ≤ n ∧ i = .int .i64 k ∧ c = .int .i64 (cnt L x k : Int)) (fun _ i => n - (intOf i).toNat)
  case atStart => exact ⟨0, by omega, rfl, rfl⟩
  case round =>
    obtain ⟨k, hk, rfl, rfl⟩ := hrel
    by_cases hlt : k < n
    · have hkl : k < L.length := by rw [← HN.out]; exact hlt
      obtain ⟨hb, hx⟩ := HB.out (by omega)
      subst hx
      have q : w.cell? ⟨b, o + k, none⟩ = some (.int .i64 (L.getD k 0)) := HC.out k hkl
      have i1 : (0 : Int) ≤ (k : Int) := by omega
      have i2 : (k : Int) < (n : Int) := by omega
      have cb := cnt_le L x k
      by_cases hz : L.getD k 0 ≤ x
      · have E : Hid (cnt L x (k + 1) = k + 1) := HNF.out k hkl hz
        generalize cnt L x k = ck at *
        generalize L.getD k 0 = z at *
        go_wp2_with fail
        go_round
        case rel => exact ⟨k + 1, by omega, by go_num, by rw [E.out]; go_num⟩
        case measure => simp [intOf]; omega
      · have E : Hid (cnt L x (k + 1) = cnt L x k) := cnt_stay hz
        generalize cnt L x k = ck at *
        generalize L.getD k 0 = z at *
        go_wp2_with fail
        go_round
        case rel => exact ⟨k + 1, by omega, by go_num, by rw [E.out]⟩
        case measure => simp [intOf]; omega
    · have hkn : k = n := by omega
      subst hkn
      go_wp2_with fail
      go_ret
      exact ⟨rfl, rfl⟩

set_option maxHeartbeats 1000000 in
theorem itop_any (L : List Int) (x : Int) (v : Value) (w : World) (hL : Lists.Reads w v L) (hf : L.length ≤ 5) :
    Calls Try.prog 24 #[v, .int .i64 x] w fun e w' => e = .returned (.int .i64 (tp L x : Int)) ∧ w' = w := by
  obtain ⟨b, o, hcell, hvv⟩ := reads_at hL
  obtain ⟨a, cap, rfl⟩ := hL.form
  have HC : Hid (∀ i, i < L.length → w.cell? ⟨b, o + i, none⟩ = some (.int .i64 (L.getD i 0))) := hcell
  have HB : Hid (0 < L.length → b < w.heap.size ∧ a = some ⟨b, o, none⟩) := fun hi => by
    obtain ⟨h1, c, h2⟩ := hvv hi
    simp at h2
    exact ⟨h1, h2.1⟩
  unfold tp
  obtain ⟨n, hn⟩ : ∃ n, n = L.length := ⟨_, rfl⟩
  rw [← hn] at hf ⊢
  have HN : Hid (n = L.length) := hn
  clear hL hcell hvv hn
  go_enter Try.func24, Try.ntmps24
  go_wp2_with fail
  go_loop [5, 10] (fun c i => ∃ k : Nat, k ≤ n ∧ i = .int .i64 k ∧ c = .int .i64 (cnt L x k : Int)) (fun _ i => n - (intOf i).toNat)
  case atStart => exact ⟨0, by omega, rfl, rfl⟩
  case round =>
    obtain ⟨k, hk, rfl, rfl⟩ := hrel
    by_cases hlt : k < n
    · have hkl : k < L.length := by rw [← HN.out]; exact hlt
      obtain ⟨hb, hx⟩ := HB.out (by omega)
      subst hx
      have q : w.cell? ⟨b, o + k, none⟩ = some (.int .i64 (L.getD k 0)) := HC.out k hkl
      have i1 : (0 : Int) ≤ (k : Int) := by omega
      have i2 : (k : Int) < (n : Int) := by omega
      have cb := cnt_le L x k
      by_cases hz : L.getD k 0 ≤ x
      · have E : Hid (cnt L x (k + 1) = cnt L x k + 1) := cnt_up hz
        generalize cnt L x k = ck at *
        generalize L.getD k 0 = z at *
        go_wp2_with fail
        go_round
        case rel => exact ⟨k + 1, by omega, by go_num, by rw [E.out]; go_num⟩
        case measure => simp [intOf]; omega
      · have E : Hid (cnt L x (k + 1) = cnt L x k) := cnt_stay hz
        generalize cnt L x k = ck at *
        generalize L.getD k 0 = z at *
        go_wp2_with fail
        go_round
        case rel => exact ⟨k + 1, by omega, by go_num, by rw [E.out]⟩
        case measure => simp [intOf]; omega
    · have hkn : k = n := by omega
      subst hkn
      go_wp2_with fail
      go_ret
      exact ⟨rfl, rfl⟩

/-- the alarm's block -/
def Bx (w : World) (r : Nat) (vA vB : Value) (h l c : Int) : Prop := w.heap[r]? = some (.cells #[vA, vB, .int .i64 h, .int .i64 l, .int .i64 c] 40 (0, 0))
theorem Bx.lt {w : World} {r : Nat} {vA vB : Value} {h l c : Int} (b : Bx w r vA vB h l c) : r < w.heap.size := lt_of_block b
theorem Bx.cells {w : World} {r : Nat} {vA vB : Value} {h l c : Int} (b : Bx w r vA vB h l c) : w.cell? ⟨r, 0, none⟩ = some vA ∧ w.cell? ⟨r, 1, none⟩ = some vB ∧ w.cell? ⟨r, 2, none⟩ = some (.int .i64 h) ∧ w.cell? ⟨r, 3, none⟩ = some (.int .i64 l) ∧ w.cell? ⟨r, 4, none⟩ = some (.int .i64 c) ∧ w.frozen? ⟨r, 3, none⟩ = false ∧ w.frozen? ⟨r, 4, none⟩ = false := by
  unfold Bx at b
  simp [World.cell?, World.frozen?, b]
theorem Bx.s3 {w : World} {r : Nat} {vA vB : Value} {h l c : Int} (b : Bx w r vA vB h l c) (x : Int) : Bx (w.setCell ⟨r, 3, none⟩ (.int .i64 x)) r vA vB h x c := by
  have hlt := b.lt
  unfold Bx at b ⊢
  have h' : w.heap[r] = .cells #[vA, vB, .int .i64 h, .int .i64 l, .int .i64 c] 40 (0, 0) := by simpa [Array.getElem?_eq_getElem hlt] using b
  show (w.heap.modify r _)[r]? = _
  rw [Array.getElem?_eq_getElem (by simpa using hlt), Array.getElem_modify_self, h']
  rfl
theorem Bx.s4 {w : World} {r : Nat} {vA vB : Value} {h l c : Int} (b : Bx w r vA vB h l c) (x : Int) : Bx (w.setCell ⟨r, 4, none⟩ (.int .i64 x)) r vA vB h l x := by
  have hlt := b.lt
  unfold Bx at b ⊢
  have h' : w.heap[r] = .cells #[vA, vB, .int .i64 h, .int .i64 l, .int .i64 c] 40 (0, 0) := by simpa [Array.getElem?_eq_getElem hlt] using b
  show (w.heap.modify r _)[r]? = _
  rw [Array.getElem?_eq_getElem (by simpa using hlt), Array.getElem_modify_self, h']
  rfl
theorem Bx.d {w : World} {r : Nat} {vA vB : Value} {h l c : Int} (b : Bx w r vA vB h l c) (n : Nat) : Bx (w.drewN n) r vA vB h l c := b
theorem grown_d {w w1 : World} {g : Option Nat} (h : w.grownBy w1 g) (n : Nat) : w.grownBy (w1.drewN n) g := ⟨h.os, h.tape, h.output, h.size, h.block⟩

set_option maxHeartbeats 2000000 in
theorem hear_any (A B : List Int) (vA vB : Value) (hh : Nat) (l c : Nat) (x : Int) (r : Nat) (w : World) (K : Bx w r vA vB (hh : Int) (l : Int) (c : Int))
    (hA : Lists.Reads w vA A) (hB : Lists.Reads w vB B) (hB' : ∀ (w' : World) , w.grownBy w' (some r) → Lists.Reads w' vB B) (fA : A.length ≤ 5) (fB : B.length = A.length) (h1 : 1 ≤ hh) (h2 : hh ≤ 100) (hl : l ≤ A.length) (hc : c < hh) :
    Calls Try.prog 18 #[.pointer (some ⟨r, 0, none⟩), .int .i64 x] w fun e w' => e = .returned (.tuple #[]) ∧ Bx w' r vA vB (hh : Int) ((st A B hh (l, c) x).1 : Int) ((st A B hh (l, c) x).2 : Int) ∧ w.grownBy w' (some r) := by
  have C1 : Hid (Calls Try.prog 24 #[vA, .int .i64 x] w fun e w' => e = .returned (.int .i64 (tp A x : Int)) ∧ w' = w) := itop_any A x vA w hA fA
  have C2 : Hid (∀ w', w.grownBy w' (some r) → Calls Try.prog 24 #[vB, .int .i64 x] w' fun e w'' => e = .returned (.int .i64 (tp B x : Int)) ∧ w'' = w') := fun w' h => itop_any B x vB w' (hB' w' h) (by omega)
  obtain ⟨c0, c1, c2, c3, c4, f3, f4⟩ := K.cells
  have KB : Hid (Bx w r vA vB (hh : Int) (l : Int) (c : Int)) := K
  have tb := tp_le A x
  obtain ⟨sa, ca, rfl⟩ := hA.form
  clear hA hB' K
  have kl := KB.out.lt
  by_cases g1 : l < tp A x
  · have E1 : (st A B hh (l, c) x).1 = tp A x := by unfold st; simp [g1]
    have E2 : (st A B hh (l, c) x).2 = 0 := by unfold st; simp [g1]
    rw [E1, E2]
    have j1 : (l : Int) < (tp A x : Int) := by omega
    have FIN : Hid (Bx ((w.setCell ⟨r, 3, none⟩ (.int .i64 (tp A x : Int))).setCell ⟨r, 4, none⟩ (.int .i64 0)) r (.slice sa A.length ca) vB (hh : Int) (tp A x : Int) 0) := (KB.out.s3 _).s4 _
    have FG : Hid (w.grownBy ((w.setCell ⟨r, 3, none⟩ (.int .i64 (tp A x : Int))).setCell ⟨r, 4, none⟩ (.int .i64 0)) (some r)) := Lists.grown_setCell (Lists.grown_setCell (World.grownBy.refl _ _) 3 _) 4 _
    have e0 : decide ((0 : Int) = (hh : Int)) = false := decide_eq_false (by omega)
    have e1 : ((0 : Int) == (hh : Int)) = false := by simp; omega
    clear E1 E2 hB
    generalize tp A x = t at *
    clear fB
    go_enter Try.func18, Try.ntmps18
    go_wp2_with fail
    refine C1.out.mono ?_
    rintro e w1 ⟨rfl, hw⟩
    subst hw
    go_wp2_with fail
    generalize (w1.setCell ⟨r, 3, none⟩ (.int .i64 (t : Int))).setCell ⟨r, 4, none⟩ (.int .i64 0) = W at *
    obtain ⟨d0, d1, d2, d3, d4, _, _⟩ := FIN.out.cells
    go_quiet (fail)
    go_wp2_with fail
    go_end0
    exact ⟨rfl, FIN.out.d _, grown_d FG.out _⟩
  · have j1 : ¬ (l : Int) < (tp A x : Int) := by omega
    by_cases g2 : 0 < l
    · have fl : l - 1 < B.length := by omega
      obtain ⟨bb, ob, hcb, hvb⟩ := reads_at hB
      obtain ⟨hb3, cb, hvv⟩ := hvb (by omega)
      have q := hcb (l - 1) fl
      subst hvv
      have j2 : (0 : Int) < (l : Int) := by omega
      have j3 : (1 : Int) ≤ (l : Int) := by omega
      have j4 : (0 : Int) ≤ (l : Int) - 1 := by omega
      have j5 : (l : Int) - 1 < (B.length : Int) := by omega
      have j6 : ((l : Int) - 1).toNat = l - 1 := by omega
      have j7 : IntKind.i64.wrap ((l : Int) - 1) = (l : Int) - 1 := IntWalk.i64_in _ (by omega)
      have n2 : 0 < l := g2
      by_cases g3 : x < B.getD (l - 1) 0
      · have F4 : Hid (Bx (w.setCell ⟨r, 4, none⟩ (.int .i64 ((c : Int) + 1))) r (.slice sa A.length ca) (.slice (some ⟨bb, ob, none⟩) B.length cb) (hh : Int) (l : Int) ((c : Int) + 1)) := KB.out.s4 _
        have FG : Hid (w.grownBy (w.setCell ⟨r, 4, none⟩ (.int .i64 ((c : Int) + 1))) (some r)) := Lists.grown_setCell (World.grownBy.refl _ _) 4 _
        by_cases g4 : c + 1 = hh
        · have E1 : (st A B hh (l, c) x).1 = tp B x := by unfold st; simp only [if_neg g1, if_pos (And.intro g2 g3), if_pos g4]
          have E2 : (st A B hh (l, c) x).2 = 0 := by unfold st; simp only [if_neg g1, if_pos (And.intro g2 g3), if_pos g4]
          rw [E1, E2]
          have e0 : decide ((c : Int) + 1 = (hh : Int)) = true := decide_eq_true (by omega)
          have e1 : ((c : Int) + 1 == (hh : Int)) = true := by simp; omega
          have wq : IntKind.i64.wrap ((c : Int) + 1) = (c : Int) + 1 := IntWalk.i64_in _ (by omega)
          clear E1 E2 hB hcb hvb
          generalize tp A x = t at *
          generalize tp B x = u at *
          generalize B.getD (l - 1) 0 = y at *
          clear fB
          go_enter Try.func18, Try.ntmps18
          go_wp2_with fail
          refine C1.out.mono ?_
          rintro e w1 ⟨rfl, hw⟩
          subst hw
          go_wp2_with fail
          go_quiet (fail)
          have F5 : Hid (Bx ((w1.drewN nq).setCell ⟨r, 4, none⟩ (.int .i64 ((c : Int) + 1))) r (.slice sa A.length ca) (.slice (some ⟨bb, ob, none⟩) B.length cb) (hh : Int) (l : Int) ((c : Int) + 1)) := F4.out
          have G5 : Hid (w1.grownBy ((w1.drewN nq).setCell ⟨r, 4, none⟩ (.int .i64 ((c : Int) + 1))) (some r)) := grown_d FG.out nq
          go_wp2_with fail
          generalize (w1.drewN nq).setCell ⟨r, 4, none⟩ (.int .i64 ((c : Int) + 1)) = W at *
          clear c0 c1 c2 c3 c4 f3 f4 F4 FG nq
          obtain ⟨c0, c1, c2, c3, c4, f3, f4⟩ := F5.out.cells
          have kl2 := F5.out.lt
          go_quiet (fail)
          have F6 : Hid (Bx (((W.drewN nq).setCell ⟨r, 3, none⟩ (.int .i64 (u : Int))).setCell ⟨r, 4, none⟩ (.int .i64 0)) r (.slice sa A.length ca) (.slice (some ⟨bb, ob, none⟩) B.length cb) (hh : Int) (u : Int) 0) := ((F5.out.d nq).s3 _).s4 _
          have G6 : Hid (w1.grownBy (((W.drewN nq).setCell ⟨r, 3, none⟩ (.int .i64 (u : Int))).setCell ⟨r, 4, none⟩ (.int .i64 0)) (some r)) := Lists.grown_setCell (Lists.grown_setCell (grown_d G5.out nq) 3 _) 4 _
          go_wp2_with fail
          refine (C2.out _ (grown_d G5.out nq)).mono ?_
          rintro e w2 ⟨rfl, hw⟩
          subst hw
          go_wp2_with fail
          go_end0
          exact ⟨rfl, F6.out, G6.out⟩
        · have E1 : (st A B hh (l, c) x).1 = l := by unfold st; simp only [if_neg g1, if_pos (And.intro g2 g3), if_neg g4]
          have E2 : ((st A B hh (l, c) x).2 : Int) = (c : Int) + 1 := by unfold st; simp only [if_neg g1, if_pos (And.intro g2 g3), if_neg g4]; omega
          rw [E1, E2]
          have e0 : decide ((c : Int) + 1 = (hh : Int)) = false := decide_eq_false (by omega)
          have e1 : ((c : Int) + 1 == (hh : Int)) = false := by simp; omega
          have wq : IntKind.i64.wrap ((c : Int) + 1) = (c : Int) + 1 := IntWalk.i64_in _ (by omega)
          clear E1 E2 hB hcb hvb
          generalize tp A x = t at *
          generalize B.getD (l - 1) 0 = y at *
          clear fB
          go_enter Try.func18, Try.ntmps18
          go_wp2_with fail
          refine C1.out.mono ?_
          rintro e w1 ⟨rfl, hw⟩
          subst hw
          go_wp2_with fail
          go_quiet (fail)
          have F5 : Hid (Bx ((w1.drewN nq).setCell ⟨r, 4, none⟩ (.int .i64 ((c : Int) + 1))) r (.slice sa A.length ca) (.slice (some ⟨bb, ob, none⟩) B.length cb) (hh : Int) (l : Int) ((c : Int) + 1)) := F4.out
          have G5 : Hid (w1.grownBy ((w1.drewN nq).setCell ⟨r, 4, none⟩ (.int .i64 ((c : Int) + 1))) (some r)) := grown_d FG.out nq
          go_wp2_with fail
          generalize (w1.drewN nq).setCell ⟨r, 4, none⟩ (.int .i64 ((c : Int) + 1)) = W at *
          clear c0 c1 c2 c3 c4 f3 f4 F4 FG nq
          obtain ⟨c0, c1, c2, c3, c4, f3, f4⟩ := F5.out.cells
          go_quiet (fail)
          go_wp2_with fail
          go_end0
          exact ⟨rfl, F5.out.d _, grown_d G5.out _⟩
      · have E1 : (st A B hh (l, c) x).1 = l := by unfold st; simp only [if_neg g1, if_neg (fun e : 0 < l ∧ x < B.getD (l - 1) 0 => g3 e.2)]
        have E2 : (st A B hh (l, c) x).2 = 0 := by unfold st; simp only [if_neg g1, if_neg (fun e : 0 < l ∧ x < B.getD (l - 1) 0 => g3 e.2)]
        rw [E1, E2]
        have F4 : Hid (Bx (w.setCell ⟨r, 4, none⟩ (.int .i64 0)) r (.slice sa A.length ca) (.slice (some ⟨bb, ob, none⟩) B.length cb) (hh : Int) (l : Int) 0) := KB.out.s4 _
        have FG : Hid (w.grownBy (w.setCell ⟨r, 4, none⟩ (.int .i64 0)) (some r)) := Lists.grown_setCell (World.grownBy.refl _ _) 4 _
        have g3' : decide (x < B.getD (l - 1) 0) = false := decide_eq_false g3
        have e0 : decide ((0 : Int) = (hh : Int)) = false := decide_eq_false (by omega)
        have e1 : ((0 : Int) == (hh : Int)) = false := by simp; omega
        clear E1 E2 hB hcb hvb
        generalize tp A x = t at *
        generalize B.getD (l - 1) 0 = y at *
        clear fB
        go_enter Try.func18, Try.ntmps18
        go_wp2_with fail
        refine C1.out.mono ?_
        rintro e w1 ⟨rfl, hw⟩
        subst hw
        go_wp2_with fail
        go_quiet (fail)
        have F5 : Hid (Bx ((w1.drewN nq).setCell ⟨r, 4, none⟩ (.int .i64 0)) r (.slice sa A.length ca) (.slice (some ⟨bb, ob, none⟩) B.length cb) (hh : Int) (l : Int) 0) := F4.out
        have G5 : Hid (w1.grownBy ((w1.drewN nq).setCell ⟨r, 4, none⟩ (.int .i64 0)) (some r)) := grown_d FG.out nq
        go_wp2_with fail
        generalize (w1.drewN nq).setCell ⟨r, 4, none⟩ (.int .i64 0) = W at *
        clear c0 c1 c2 c3 c4 f3 f4 F4 FG nq
        obtain ⟨c0, c1, c2, c3, c4, f3, f4⟩ := F5.out.cells
        go_quiet (fail)
        go_wp2_with fail
        go_end0
        exact ⟨rfl, F5.out.d _, grown_d G5.out _⟩
    · have l0 : l = 0 := by omega
      subst l0
      have E1 : (st A B hh (0, c) x).1 = 0 := by unfold st; simp only [if_neg g1, if_neg (fun e : 0 < 0 ∧ x < B.getD (0 - 1) 0 => g2 e.1)]
      have E2 : (st A B hh (0, c) x).2 = 0 := by unfold st; simp only [if_neg g1, if_neg (fun e : 0 < 0 ∧ x < B.getD (0 - 1) 0 => g2 e.1)]
      rw [E1, E2]
      have F4 : Hid (Bx (w.setCell ⟨r, 4, none⟩ (.int .i64 0)) r (.slice sa A.length ca) vB (hh : Int) ((0 : Nat) : Int) 0) := KB.out.s4 _
      have FG : Hid (w.grownBy (w.setCell ⟨r, 4, none⟩ (.int .i64 0)) (some r)) := Lists.grown_setCell (World.grownBy.refl _ _) 4 _
      have e0 : decide ((0 : Int) = (hh : Int)) = false := decide_eq_false (by omega)
      have e1 : ((0 : Int) == (hh : Int)) = false := by simp; omega
      clear E1 E2 hB
      generalize tp A x = t at *
      clear fB
      go_enter Try.func18, Try.ntmps18
      go_wp2_with fail
      refine C1.out.mono ?_
      rintro e w1 ⟨rfl, hw⟩
      subst hw
      go_wp2_with fail
      go_quiet (fail)
      have F5 : Hid (Bx ((w1.drewN nq).setCell ⟨r, 4, none⟩ (.int .i64 0)) r (.slice sa A.length ca) vB (hh : Int) ((0 : Nat) : Int) 0) := F4.out
      have G5 : Hid (w1.grownBy ((w1.drewN nq).setCell ⟨r, 4, none⟩ (.int .i64 0)) (some r)) := grown_d FG.out nq
      go_wp2_with fail
      generalize (w1.drewN nq).setCell ⟨r, 4, none⟩ (.int .i64 0) = W at *
      clear c0 c1 c2 c3 c4 f3 f4 F4 FG nq
      obtain ⟨c0, c1, c2, c3, c4, f3, f4⟩ := F5.out.cells
      go_quiet (fail)
      go_wp2_with fail
      go_end0
      exact ⟨rfl, F5.out.d _, grown_d G5.out _⟩
end Go.Proofs.Ytlegcimlhgkibaa.Lv
