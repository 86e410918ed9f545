/- Storm cells: the program. -/
import Derived.Test.YtimbghigjfioeaaClI
import Derived.Test.YtimbghigjfioeaaMvM
namespace Go.Proofs.Ytimbghigjfioeaa.Cl
open Go.ChangeShapes Go.WideShapes Go.ChangeAt Go.RowKit
open Go.Proofs.Ytimbghigjfioeaa.Lists Go.Proofs.Ytimbghigjfioeaa.Wn

def zeros (n : Nat) : List Int := (List.range n).map fun _ => 0
theorem zeros_len (n : Nat) : (zeros n).length = n := by simp [zeros]
theorem zeros_get (n x : Nat) : (zeros n).getD x 0 = 0 := by
  unfold zeros
  by_cases h : x < n
  · simp [List.getD_eq_getElem?_getD, h]
  · rw [List.getD_eq_getElem?_getD, List.getElem?_eq_none (by simp; omega)]; rfl
theorem zeros_made (n : Nat) : (madeCells (Value.int .i64 0).cells (n * 1)).toList = ints (zeros n) := by
  apply List.ext_getElem
  · simp [madeCells, ints, zeros]
  · intro i h1 h2
    simp [madeCells, ints, zeros, Value.cells, Nat.mod_one]
theorem zeros_snoc (n : Nat) : zeros (n + 1) = zeros n ++ [0] := by simp [zeros, List.range_succ]
theorem row_low {w w' : World} {base n B : Nat} {v : Value} {xs : List Value} (R : w.ownsRow base 2 1 v n xs) (hb : Below B w w') (hk : ∀ k, v.ownBlock = some k → k < B) : w'.ownsRow base 2 1 v n xs := by
  refine ⟨R.1, ?_⟩
  rcases R.2 with h | ⟨g, cap, cur, h1, h2, h3, h4⟩
  · exact .inl h
  · exact .inr ⟨g, cap, cur, h1, h2, (hb.block g (hk g (by rw [h1]; rfl))).trans h3, h4⟩
/-- The run's bounds. -/
theorem run_in {r c lv : Int} {L A : List Int} {n k : Nat} {m : Int} (h : Run (nbs r c) (hi L lv) k (zeros n) m A) : A.length = n ∧ 0 ≤ m ∧ m ≤ k ∧ ∀ y, y < A.length → A.getD y 0 ≠ m + 1 := by
  obtain ⟨h1, h2, h3, h4⟩ := run_ok (nbs r c) (hi L lv) (fun x _ => zeros_get n x) h
  exact ⟨h1.trans (zeros_len n), h2, h3, fun y hy e => by have := (h4 y hy).2; omega⟩
theorem run_take {r c lv : Int} {L A A' : List Int} {n k : Nat} {m : Int} (h : Run (nbs r c) (hi L lv) k (zeros n) m A) (h0 : A.getD k 0 = 0) (hv : lv ≤ L.getD k 0) (f : Fill (nbs r c) (hi L lv) A k (m + 1) A') : Run (nbs r c) (hi L lv) (k + 1) (zeros n) (m + 1) A' :=
  ⟨m, A, h, by rw [if_pos ⟨h0, decide_eq_true hv⟩]; exact ⟨rfl, f⟩⟩
theorem run_skip {r c lv : Int} {L A : List Int} {n k : Nat} {m : Int} (h : Run (nbs r c) (hi L lv) k (zeros n) m A) (h0 : ¬ (A.getD k 0 = 0 ∧ lv ≤ L.getD k 0)) : Run (nbs r c) (hi L lv) (k + 1) (zeros n) m A :=
  ⟨m, A, h, by rw [if_neg (fun q => h0 ⟨q.1, of_decide_eq_true q.2⟩)]; exact ⟨rfl, rfl⟩⟩

set_option maxRecDepth 20000 in
set_option maxHeartbeats 2000000 in
theorem icells_yes (r c : Int) (L : List Int) (lv : Int) (v : Value) (w : World) (hL : Lists.Reads w v L) (fL : L.length < 9223372036854775808) (h1 : Bx.okB r c L = true) :
    Calls Try.prog 6 #[Bx.sv r c v, .int .i64 lv] w fun e w' => ∃ u m A, Run (nbs r c) (hi L lv) L.length (zeros L.length) m A ∧ e = .returned u ∧ w'.ownsRow w.heap.size 2 1 u A.length (ints A) ∧ Below w.heap.size w w' := by
  obtain ⟨hr, hc, hn⟩ := Mv.size_of h1
  have n0 := Bx.mul_le hr hc
  obtain ⟨b, o, hcell, hv⟩ := Bx.reads_at hL
  obtain ⟨hb, cap, hv⟩ := hv (by omega)
  have S1 : Hid (∀ w', Below w.heap.size w w' → Calls Try.prog 10 #[Bx.sv r c v] w' fun e w'' => e = .returned (.bool true) ∧ Below w'.heap.size w' w'') := fun w' hb => by have := Bx.iok_any r c L v w' (hL.on hb) fL; rwa [h1] at this
  obtain ⟨n, hnn⟩ : ∃ n, L.length = n := ⟨_, rfl⟩
  rw [hnn] at hn hcell hv ⊢
  have n5 : n ≤ 576 := by omega
  have HC : Hid (∀ i, i < n → w.cell? ⟨b, o + i, none⟩ = some (.int .i64 (L.getD i 0))) := hcell
  subst hv
  have MK : Hid (∀ (A0 : List Int) (x : Nat) (m : Int) (g : Nat) (wx : World), (∀ i, i < n → wx.cell? ⟨b, o + i, none⟩ = some (.int .i64 (L.getD i 0))) → b < g → A0.length = n → x < n → A0.getD x 0 = 0 → (1 ≤ m ∧ m ≤ 576) → (∀ y, y < A0.length → A0.getD y 0 ≠ m) → wx.ownsRow g 2 1 (.slice (some ⟨g, 0, none⟩) n n) n (ints A0) →
    Calls Try.prog 11 #[Bx.sv r c (.slice (some ⟨b, o, none⟩) n cap), .int .i64 lv, .slice (some ⟨g, 0, none⟩) n n, .int .i64 x, .int .i64 m] wx fun e w' => e = .returned (.tuple #[]) ∧ ∃ A', Fill (nbs r c) (hi L lv) A0 x m A' ∧ w'.ownsRow g 2 1 (.slice (some ⟨g, 0, none⟩) n n) n (ints A') ∧ Below g wx w') := fun A0 x m g wx q1 q2 q3 q4 q5 q6 q7 q8 => mark_storm r c lv L A0 n x m b o cap g wx hr hc hn q1 q2 q3 q4 q5 q6 q7 q8
  obtain ⟨i0, hi, hz0, hz1, hz2⟩ := info_parts Lists.Try.info2
  have FZ : Hid ((madeCells (Value.int .i64 0).cells (n * 1)).toList = ints (zeros n)) := zeros_made n
  obtain ⟨w0, hw0⟩ : ∃ w0, w0 = w.alloc (Obj.cells #[.int .i64 r, .int .i64 c, .slice (some ⟨b, o, none⟩) n cap] 26) := ⟨_, rfl⟩
  have HW0 : Hid (w0 = w.alloc (Obj.cells #[.int .i64 r, .int .i64 c, .slice (some ⟨b, o, none⟩) n cap] 26)) := hw0
  have B0 : Hid (Below w.heap.size w w0) := (by show Below _ _ _; rw [hw0]; exact (Below.refl _ _).alloc (Nat.le_refl _) _)
  have z0 : Hid (w0.heap.size = w.heap.size + 1) := (by show _ = _; rw [hw0]; simp)
  have X1 : Hid (Bo.Box w0 w.heap.size (.int .i64 r) (.int .i64 c) (.slice (some ⟨b, o, none⟩) n cap)) := (by show Bo.Box _ _ _ _ _; rw [hw0]; unfold Bo.Box; simp [go_sem])
  clear hr hc hn n0 hcell fL h1 hw0 hL hnn
  go_enter Try.func6, Try.ntmps6
  go_wp2_with fail
  rw [← HW0.out]
  refine (S1.out _ B0.out).mono ?_
  rintro e w1 ⟨rfl, b1⟩
  have B1 : Hid (Below w.heap.size w w1) := B0.out.trans (b1.mono B0.out.size)
  have Y1 : Hid (Bo.Box w1 w.heap.size (.int .i64 r) (.int .i64 c) (.slice (some ⟨b, o, none⟩) n cap)) := X1.out.on b1 (by have := z0.out; omega)
  have z1 : Hid (w.heap.size < w1.heap.size) := (by show _ < _; have := z0.out; have := b1.size; omega)
  obtain ⟨y0, y1, y2⟩ := id Y1.out
  clear b1 HW0 X1 B0 z0
  go_wp2_with (at_make; refine wpList_make_full _ rfl _ _ 24 rfl w1.heap.size 2 i0 (.int .i64 0) 1 Try.underlying24 hi hz0 hz1 .i64 .i64 (n : Int) (n : Int) n rfl rfl rfl rfl (by rw [hz2]; omega) (by unfold maxLen; omega) (Nat.le_refl _) ?_; intro w4 hown hgrow; have B4 : Hid (Below w1.heap.size w1 w4) := (Below.refl _ _).grown hgrow (Nat.le_refl _) (fun k hk => by cases hk); have Y4 : Hid (Bo.Box w4 w.heap.size (.int .i64 r) (.int .i64 c) (.slice (some ⟨b, o, none⟩) n cap)) := Y1.out.on B4.out z1.out; clear y0 y1 y2; obtain ⟨y0, y1, y2⟩ := id Y4.out)
  rw [FZ.out] at hown
  have R0 : Hid (w4.ownsRow w1.heap.size 2 1 (.slice (some ⟨w1.heap.size, 0, none⟩) n n) n (ints (zeros n))) := hown
  clear hown hgrow FZ
  go_loopw [6, 19] (fun t i wr => ∃ (k : Nat) (m : Int) (A : List Int), k ≤ n ∧ t = .int .i64 m ∧ i = .int .i64 k ∧ Hid (Run (nbs r c) (Cl.hi L lv) k (zeros n) m A) ∧ Hid (wr.ownsRow w1.heap.size 2 1 (.slice (some ⟨w1.heap.size, 0, none⟩) n n) n (ints A)) ∧ Hid (Below w1.heap.size w1 wr)) (fun _ i _ => n - (intOf i).toNat)
  case atStart => exact ⟨0, 0, zeros n, Nat.zero_le _, rfl, rfl, ⟨rfl, rfl⟩, R0, B4⟩
  case round =>
    clear R0 B4 Y4 y0 y1 y2
    obtain ⟨k, m, A, hk, rfl, rfl, U, R, BB⟩ := hrel
    obtain ⟨AL, m0, m1, an⟩ := run_in U.out
    have HA : Hid (A.length = n) := AL
    have AN : Hid (∀ y, y < A.length → A.getD y 0 ≠ m + 1) := an
    clear AL an
    by_cases hlt : k < n
    · have bw : b < w1.heap.size := Nat.lt_of_lt_of_le hb (Nat.le_of_lt z1.out)
      have CC : Hid (∀ i, i < n → wr.cell? ⟨b, o + i, none⟩ = some (.int .i64 (L.getD i 0))) := fun i hi => (BB.out.cell (p := ⟨b, o + i, none⟩) bw).trans ((B1.out.cell (p := ⟨b, o + i, none⟩) hb).trans (HC.out i hi))
      have q0 := CC.out k hlt
      have q1 : wr.cell? ⟨w1.heap.size, k, none⟩ = some (.int .i64 (A.getD k 0)) := row_get R.out HA.out k hlt
      obtain ⟨y0, y1, y2⟩ := Y1.out.on BB.out z1.out
      have i1 : (0 : Int) ≤ (k : Int) := Int.natCast_nonneg k
      have i2 : (k : Int) < (n : Int) := Int.ofNat_lt.2 hlt
      by_cases hv : lv ≤ L.getD k 0
      · by_cases h0 : A.getD k 0 = 0
        · have MM : Hid (Calls Try.prog 11 #[Bx.sv r c (.slice (some ⟨b, o, none⟩) n cap), .int .i64 lv, .slice (some ⟨w1.heap.size, 0, none⟩) n n, .int .i64 k, .int .i64 (m + 1)] wr fun e w' => e = .returned (.tuple #[]) ∧ ∃ A', Fill (nbs r c) (Cl.hi L lv) A k (m + 1) A' ∧ w'.ownsRow w1.heap.size 2 1 (.slice (some ⟨w1.heap.size, 0, none⟩) n n) n (ints A') ∧ Below w1.heap.size wr w') := MK.out A k (m + 1) w1.heap.size wr CC.out bw HA.out hlt h0 ⟨by omega, by omega⟩ AN.out R.out
          have TK : Hid (∀ A', Fill (nbs r c) (Cl.hi L lv) A k (m + 1) A' → Run (nbs r c) (Cl.hi L lv) (k + 1) (zeros n) (m + 1) A') := fun A' f => run_take U.out h0 hv f
          rw [h0] at q1
          clear h0 U CC AN HA MK
          generalize L.getD k 0 = z at *
          go_wp2_with fail
          refine Calls.mono MM.out ?_
          rintro e w2 ⟨rfl, A', f, r2, b2⟩
          have T2 : Hid (Run (nbs r c) (Cl.hi L lv) (k + 1) (zeros n) (m + 1) A') := TK.out A' f
          have R2 : Hid (w2.ownsRow w1.heap.size 2 1 (.slice (some ⟨w1.heap.size, 0, none⟩) n n) n (ints A')) := r2
          have B2 : Hid (Below w1.heap.size w1 w2) := BB.out.trans b2
          clear f r2 b2 TK MM R BB
          go_wp2_with fail
          go_roundw
          case rel => exact ⟨k + 1, m + 1, A', hlt, rfl, by go_num, T2, R2, B2⟩
          case measure => simp [intOf]; omega
        · have T2 : Hid (Run (nbs r c) (Cl.hi L lv) (k + 1) (zeros n) m A) := run_skip U.out (fun h => h0 h.1)
          have h0' : (A.getD k 0 == 0) = false := by rw [beq_eq_false_iff_ne]; exact h0
          clear U AN CC HA MK h0
          generalize L.getD k 0 = z at *
          generalize A.getD k 0 = az at *
          go_wp2_with fail
          go_roundw
          case rel => exact ⟨k + 1, m, A, hlt, rfl, by go_num, T2, R, BB⟩
          case measure => simp [intOf]; omega
      · have T2 : Hid (Run (nbs r c) (Cl.hi L lv) (k + 1) (zeros n) m A) := run_skip U.out (fun h => hv h.2)
        clear U AN CC HA MK q1
        generalize L.getD k 0 = z at *
        go_wp2_with fail
        go_roundw
        case rel => exact ⟨k + 1, m, A, hlt, rfl, by go_num, T2, R, BB⟩
        case measure => simp [intOf]; omega
    · have ek : k = n := Nat.le_antisymm hk (Nat.le_of_not_lt hlt)
      subst ek
      have R2 : Hid (wr.ownsRow w.heap.size 2 1 (.slice (some ⟨w1.heap.size, 0, none⟩) k k) A.length (ints A)) := (by show World.ownsRow _ _ _ _ _ _ _; rw [HA.out]; exact Bo.own_down R.out (Nat.le_of_lt z1.out))
      have B2 : Hid (Below w.heap.size w wr) := B1.out.trans (BB.out.mono (Nat.le_of_lt z1.out))
      clear R BB AN HA MK
      go_wp2_with fail
      go_ret
      exact ⟨_, m, A, U.out, rfl, R2.out, B2.out⟩
end Go.Proofs.Ytimbghigjfioeaa.Cl
