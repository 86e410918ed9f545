/- How many cells are high in both boxes, so far on: the model and the program. -/
import Derived.Test.YtimbghigjfioeaaMvH
namespace Go.Proofs.Ytimbghigjfioeaa.Mv
open Go.ChangeShapes Go.WideShapes Go.ChangeAt Go.RowKit
open Go.Proofs.Ytimbghigjfioeaa.Lists

def bt (r c : Int) (L M : List Int) (lv di dj i j : Int) : Bool := hi r c L lv i j && hi r c M lv (i + di) (j + dj)
def cj (r c : Int) (L M : List Int) (lv di dj : Int) (i : Nat) : Nat → Int
  | 0 => 0
  | m + 1 => cj r c L M lv di dj i m + if bt r c L M lv di dj i m then 1 else 0
def ci (r c : Int) (L M : List Int) (lv di dj : Int) : Nat → Int
  | 0 => 0
  | n + 1 => ci r c L M lv di dj n + cj r c L M lv di dj n c.toNat
theorem cj_le (r c : Int) (L M : List Int) (lv di dj : Int) (i m : Nat) : 0 ≤ cj r c L M lv di dj i m ∧ cj r c L M lv di dj i m ≤ m := by
  induction m with
  | zero => simp [cj]
  | succ m ih => unfold cj; split <;> omega
theorem ci_le (r c : Int) (L M : List Int) (lv di dj : Int) (hc : c ≤ 24) (n : Nat) : 0 ≤ ci r c L M lv di dj n ∧ ci r c L M lv di dj n ≤ 24 * n := by
  induction n with
  | zero => simp [ci]
  | succ n ih => have := cj_le r c L M lv di dj n c.toNat; unfold ci; omega
def both (r c : Int) (L M : List Int) (lv di dj : Int) : Int := ci r c L M lv di dj r.toNat

theorem on2 {w w' : World} (v : Value) {L : List Int} (h : Lists.Reads w v L) (hb : Below w.heap.size w w') : Lists.Reads w' v L := h.on hb

set_option maxRecDepth 20000 in
set_option maxHeartbeats 1000000 in
theorem iboth_any (r c : Int) (L M : List Int) (lv di dj : Int) (v u : Value) (w : World) (hL : Lists.Reads w v L) (hM : Lists.Reads w u M) (hr : 1 ≤ r ∧ r ≤ 24) (hc : 1 ≤ c ∧ c ≤ 24) (hn : (L.length : Int) = r * c) (hm : (M.length : Int) = r * c) (hdi : -3 ≤ di ∧ di ≤ 3) (hdj : -3 ≤ dj ∧ dj ≤ 3) :
    Calls Try.prog 13 #[Bx.sv r c v, .int .i64 lv, Bx.sv r c u, .int .i64 di, .int .i64 dj] w fun e w' => e = .returned (.int .i64 (both r c L M lv di dj)) ∧ Below w.heap.size w w' := by
  obtain ⟨w0, hw0⟩ : ∃ w0, w0 = (w.alloc (Obj.cells #[.int .i64 r, .int .i64 c, v] 26)).alloc (Obj.cells #[.int .i64 r, .int .i64 c, u] 26) := ⟨_, rfl⟩
  have HW0 : Hid (w0 = (w.alloc (Obj.cells #[.int .i64 r, .int .i64 c, v] 26)).alloc (Obj.cells #[.int .i64 r, .int .i64 c, u] 26)) := hw0
  have B0 : Hid (Below w.heap.size w w0) := (by show Below _ _ _; rw [hw0]; exact ((Below.refl _ _).alloc (Nat.le_refl _) _).alloc (by simp) _)
  have z0 : Hid (w0.heap.size = w.heap.size + 2) := (by show _ = _; rw [hw0]; simp)
  have X1 : Hid (Bo.Box w0 w.heap.size (.int .i64 r) (.int .i64 c) v) := (by show Bo.Box _ _ _ _ _; rw [hw0]; unfold Bo.Box; simp [go_sem])
  have X2 : Hid (Bo.Box w0 (w.heap.size + 1) (.int .i64 r) (.int .i64 c) u) := (by show Bo.Box _ _ _ _ _; rw [hw0]; unfold Bo.Box; simp [go_sem])
  have S1 : Hid (∀ w', Below w0.heap.size w0 w' → ∀ i j, Calls Try.prog 21 #[Bx.sv r c v, .int .i64 lv, .agg #[.int .i64 j, .int .i64 i]] w' fun e w'' => e = .returned (.bool (hi r c L lv i j)) ∧ Below w'.heap.size w' w'') := fun w' hb i j => ihigh_any r c L lv i j v w' (hL.on (B0.out.trans (hb.mono B0.out.size))) hr hc hn
  have S2 : Hid (∀ w', Below w0.heap.size w0 w' → ∀ i j, Calls Try.prog 21 #[Bx.sv r c u, .int .i64 lv, .agg #[.int .i64 j, .int .i64 i]] w' fun e w'' => e = .returned (.bool (hi r c M lv i j)) ∧ Below w'.heap.size w' w'') := fun w' hb i j => ihigh_any r c M lv i j u w' (hM.on (B0.out.trans (hb.mono B0.out.size))) hr hc hm
  obtain ⟨r1, r2⟩ := hr
  obtain ⟨c1, c2⟩ := hc
  obtain ⟨d1, d2⟩ := hdi
  obtain ⟨e1, e2⟩ := hdj
  have C1 : Hid (c ≤ 24) := c2
  clear hL hM hn hm hw0
  go_enter Try.func13, Try.ntmps13
  go_wp2_with fail
  rw [← HW0.out]
  clear HW0
  go_loopw [11, 16] (fun n i wr => ∃ k : Nat, (k : Int) ≤ r ∧ i = .int .i64 k ∧ n = .int .i64 (ci r c L M lv di dj k) ∧ Hid (Below w0.heap.size w0 wr)) (fun _ i _ => r.toNat - (intOf i).toNat)
  case atStart => exact ⟨0, by omega, rfl, rfl, Below.refl _ _⟩
  case round =>
    obtain ⟨k, hk, rfl, rfl, BB⟩ := hrel
    have cb := ci_le r c L M lv di dj C1.out k
    obtain ⟨x0, x1, x2⟩ := X1.out.on BB.out (by have := z0.out; omega)
    by_cases hlt : (k : Int) < r
    · have CN : Hid (ci r c L M lv di dj (k + 1) = ci r c L M lv di dj k + cj r c L M lv di dj k c.toNat) := rfl
      have C0 : Hid (cj r c L M lv di dj k 0 = 0) := rfl
      generalize ci r c L M lv di dj k = N at *
      go_wp2_with fail
      go_loopw [11, 21] (fun n j wr => ∃ m : Nat, (m : Int) ≤ c ∧ j = .int .i64 m ∧ n = .int .i64 (N + cj r c L M lv di dj k m) ∧ Hid (Below w0.heap.size w0 wr)) (fun _ j _ => c.toNat - (intOf j).toNat)
      case atStart => exact ⟨0, by omega, rfl, by rw [C0.out]; simp, BB⟩
      case round =>
        clear x0 x1 x2 BB
        obtain ⟨m, hm, rfl, rfl, BB⟩ := hrel
        have cm := cj_le r c L M lv di dj k m
        obtain ⟨x0, x1, x2⟩ := X1.out.on BB.out (by have := z0.out; omega)
        obtain ⟨y0, y1, y2⟩ := X2.out.on BB.out (by have := z0.out; omega)
        by_cases hlm : (m : Int) < c
        · have T1 : Hid (Calls Try.prog 21 #[Bx.sv r c v, .int .i64 lv, .agg #[.int .i64 m, .int .i64 k]] wr fun e w'' => e = .returned (.bool (hi r c L lv k m)) ∧ Below wr.heap.size wr w'') := S1.out _ BB.out (k : Int) (m : Int)
          cases hb : hi r c L lv k m
          · have CM : Hid (cj r c L M lv di dj k (m + 1) = cj r c L M lv di dj k m) := (by show _ = _; rw [cj, bt, hb]; simp)
            rw [hb] at T1
            clear hb
            generalize cj r c L M lv di dj k m = Q at *
            go_wp2_with fail
            refine (Calls.mono T1.out) ?_
            rintro e w1 ⟨rfl, b1⟩
            have B1 : Hid (Below w0.heap.size w0 w1) := BB.out.trans (b1.mono BB.out.size)
            clear b1 T1
            go_wp2_with fail
            go_roundw
            case rel => exact ⟨m + 1, by omega, by go_num, by rw [CM.out], B1⟩
            case measure => simp [intOf]; omega
          · rw [hb] at T1
            go_wp2_with fail
            refine (Calls.mono T1.out) ?_
            rintro e w1 ⟨rfl, b1⟩
            have B1 : Hid (Below w0.heap.size w0 w1) := BB.out.trans (b1.mono BB.out.size)
            have z1 : Hid (w0.heap.size ≤ w1.heap.size) := B1.out.size
            have T2 : Hid (Calls Try.prog 21 #[Bx.sv r c u, .int .i64 lv, .agg #[.int .i64 (m + dj), .int .i64 (k + di)]] w1 fun e w'' => e = .returned (.bool (hi r c M lv (k + di) (m + dj))) ∧ Below w1.heap.size w1 w'') := S2.out _ B1.out ((k : Int) + di) ((m : Int) + dj)
            clear b1 T1 x0 x1 x2 y0 y1 y2
            obtain ⟨y0, y1, y2⟩ := X2.out.on B1.out (by have := z0.out; omega)
            cases hb2 : hi r c M lv (k + di) (m + dj)
            · have CM : Hid (cj r c L M lv di dj k (m + 1) = cj r c L M lv di dj k m) := (by show _ = _; rw [cj, bt, hb, hb2]; simp)
              rw [hb2] at T2
              clear hb hb2
              generalize cj r c L M lv di dj k m = Q at *
              go_wp2_with fail
              refine (Calls.mono T2.out) ?_
              rintro e w2 ⟨rfl, b2⟩
              have B2 : Hid (Below w0.heap.size w0 w2) := B1.out.trans (b2.mono B1.out.size)
              clear b2 T2
              go_wp2_with fail
              go_roundw
              case rel => exact ⟨m + 1, by omega, by go_num, by rw [CM.out], B2⟩
              case measure => simp [intOf]; omega
            · have CM : Hid (cj r c L M lv di dj k (m + 1) = cj r c L M lv di dj k m + 1) := (by show _ = _; rw [cj, bt, hb, hb2]; simp)
              rw [hb2] at T2
              clear hb hb2
              generalize cj r c L M lv di dj k m = Q at *
              go_wp2_with fail
              refine (Calls.mono T2.out) ?_
              rintro e w2 ⟨rfl, b2⟩
              have B2 : Hid (Below w0.heap.size w0 w2) := B1.out.trans (b2.mono B1.out.size)
              clear b2 T2
              go_wp2_with fail
              go_roundw
              case rel => exact ⟨m + 1, by omega, by go_num, by rw [CM.out]; go_num, B2⟩
              case measure => simp [intOf]; omega
        · have em : m = c.toNat := by omega
          subst em
          go_wp2_with fail
          go_roundw
          case rel => exact ⟨k + 1, by omega, by go_num, by rw [CN.out], BB⟩
          case measure => simp [intOf]; omega
    · have ek : k = r.toNat := by omega
      subst ek
      go_wp2_with fail
      go_ret
      exact ⟨rfl, B0.out.trans (BB.out.mono B0.out.size)⟩
end Go.Proofs.Ytimbghigjfioeaa.Mv
