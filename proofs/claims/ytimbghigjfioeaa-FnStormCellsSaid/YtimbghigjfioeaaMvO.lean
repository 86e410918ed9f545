/- Moved: the program at right boxes. -/
import Derived.Test.YtimbghigjfioeaaMvM
namespace Go.Proofs.Ytimbghigjfioeaa.Mv
open Go.ChangeShapes Go.WideShapes Go.ChangeAt Go.RowKit
open Go.Proofs.Ytimbghigjfioeaa.Lists


set_option maxRecDepth 20000 in
set_option maxHeartbeats 2000000 in
theorem imoved_yes (r c : Int) (L : List Int) (lv : Int) (M : List Int) (v u : Value) (w : World) (hL : Lists.Reads w v L) (hM : Lists.Reads w u M) (fL : L.length < 9223372036854775808) (fM : M.length < 9223372036854775808) (h1 : Bx.okB r c L = true) (h2 : Bx.okB r c M = true) :
    Calls Try.prog 8 #[Bx.sv r c v, .int .i64 lv, Bx.sv r c u] w fun e w' => ∃ x y, Best (both r c L M lv) x y ∧ e = .returned (.tuple #[.int .i64 x, .int .i64 y, .bool true]) ∧ Below w.heap.size w w' := by
  obtain ⟨hr, hc, hn⟩ := size_of h1
  obtain ⟨_, _, hm⟩ := size_of h2
  obtain ⟨w0, hw0⟩ : ∃ w0, w0 = (w.alloc (Obj.cells #[.int .i64 r, .int .i64 c, v] 26)).alloc (Obj.cells #[.int .i64 r, .int .i64 c, u] 26) := ⟨_, rfl⟩
  have HW0 : Hid (w0 = (w.alloc (Obj.cells #[.int .i64 r, .int .i64 c, v] 26)).alloc (Obj.cells #[.int .i64 r, .int .i64 c, u] 26)) := hw0
  have B0 : Hid (Below w.heap.size w w0) := (by show Below _ _ _; rw [hw0]; exact ((Below.refl _ _).alloc (Nat.le_refl _) _).alloc (by simp) _)
  have z0 : Hid (w0.heap.size = w.heap.size + 2) := (by show _ = _; rw [hw0]; simp)
  have X1 : Hid (Bo.Box w0 w.heap.size (.int .i64 r) (.int .i64 c) v) := (by show Bo.Box _ _ _ _ _; rw [hw0]; unfold Bo.Box; simp [go_sem])
  have X2 : Hid (Bo.Box w0 (w.heap.size + 1) (.int .i64 r) (.int .i64 c) u) := (by show Bo.Box _ _ _ _ _; rw [hw0]; unfold Bo.Box; simp [go_sem])
  have S1 : Hid (∀ w', Below w.heap.size w w' → Calls Try.prog 10 #[Bx.sv r c v] w' fun e w'' => e = .returned (.bool true) ∧ Below w'.heap.size w' w'') := fun w' hb => by have := Bx.iok_any r c L v w' (hL.on hb) fL; rwa [h1] at this
  have S2 : Hid (∀ w', Below w.heap.size w w' → Calls Try.prog 10 #[Bx.sv r c u] w' fun e w'' => e = .returned (.bool true) ∧ Below w'.heap.size w' w'') := fun w' hb => by have := Bx.iok_any r c M u w' (hM.on hb) fM; rwa [h2] at this
  have FB : Hid (∀ a b, 0 ≤ both r c L M lv a b ∧ both r c L M lv a b ≤ 576) := fun a b => by have := ci_le r c L M lv a b hc.2 r.toNat; unfold both; omega
  have S3 : Hid (∀ w', Below w.heap.size w w' → ∀ a b, In a b → Calls Try.prog 13 #[Bx.sv r c v, .int .i64 lv, Bx.sv r c u, .int .i64 a, .int .i64 b] w' fun e w'' => e = .returned (.int .i64 (both r c L M lv a b)) ∧ Below w'.heap.size w' w'') := fun w' hb a b hi => iboth_any r c L M lv a b v u w' (hL.on hb) (hM.on hb) hr hc hn hm ⟨hi.1, hi.2.1⟩ ⟨hi.2.2.1, hi.2.2.2⟩
  generalize both r c L M lv = F at *
  have rr : (r != r) = false := by simp
  have cc : (c != c) = false := by simp
  clear hL hM hw0 fL fM h1 h2 hr hc hn hm
  go_enter Try.func8, Try.ntmps8
  go_wp2_with fail
  rw [← HW0.out]
  refine (S1.out _ B0.out).mono ?_
  rintro e w1 ⟨rfl, b1⟩
  have B1 : Hid (Below w.heap.size w w1) := B0.out.trans (b1.mono B0.out.size)
  have Y1 : Hid (Bo.Box w1 w.heap.size (.int .i64 r) (.int .i64 c) v) := X1.out.on b1 (by have := z0.out; omega)
  have Y2 : Hid (Bo.Box w1 (w.heap.size + 1) (.int .i64 r) (.int .i64 c) u) := X2.out.on b1 (by have := z0.out; omega)
  have z1 : Hid (w0.heap.size ≤ w1.heap.size) := b1.size
  obtain ⟨y0, y1, y2⟩ := Y2.out
  clear b1 HW0 X1 X2
  go_wp2_with fail
  refine (S2.out _ B1.out).mono ?_
  rintro e w2 ⟨rfl, b2⟩
  have B2 : Hid (Below w.heap.size w w2) := B1.out.trans (b2.mono B1.out.size)
  have P1 : Hid (Bo.Box w2 w.heap.size (.int .i64 r) (.int .i64 c) v) := Y1.out.on b2 (by have := z0.out; have := z1.out; omega)
  have P2 : Hid (Bo.Box w2 (w.heap.size + 1) (.int .i64 r) (.int .i64 c) u) := Y2.out.on b2 (by have := z0.out; have := z1.out; omega)
  obtain ⟨p0, p1, p2⟩ := id P1.out
  obtain ⟨q0, q1, q2⟩ := id P2.out
  have z2 : Hid (w.heap.size + 1 < w2.heap.size) := (by show _ < _; have := b2.size; have := z0.out; have := z1.out; omega)
  clear b2 y0 y1 y2 Y1 Y2
  have T0 : Hid (∀ w', Below w.heap.size w w' → Calls Try.prog 13 #[Bx.sv r c v, .int .i64 lv, Bx.sv r c u, .int .i64 0, .int .i64 0] w' fun e w'' => e = .returned (.int .i64 (F 0 0)) ∧ Below w'.heap.size w' w'') := fun w' hb => S3.out w' hb 0 0 (by unfold In; omega)
  have f0 := FB.out 0 0
  have PS : Hid (PI F 0 0 0 (F 0 0)) := pi_start F
  generalize F 0 0 = g0 at *
  go_wp2_with fail
  refine (T0.out _ B2.out).mono ?_
  rintro e w5 ⟨rfl, b5⟩
  have B5 : Hid (Below w2.heap.size w2 w5) := b5
  clear b5 T0
  go_wp2_with fail
  go_loopw [9, 10, 11, 12] (fun x y m di wr => ∃ X Y Mo a : Int, -3 ≤ a ∧ a ≤ 4 ∧ -1 ≤ Mo ∧ Mo ≤ 576 ∧ x = .int .i64 X ∧ y = .int .i64 Y ∧ m = .int .i64 Mo ∧ di = .int .i64 a ∧ Hid (PI F (ix a (-3)) X Y Mo) ∧ Hid (Below w2.heap.size w2 wr)) (fun _ _ _ di _ => (4 - intOf di).toNat)
  case atStart => exact ⟨0, 0, g0, -3, by omega, by omega, by omega, by omega, rfl, rfl, rfl, rfl, PS, B5⟩
  case round =>
    obtain ⟨X, Y, Mo, a, ha0, ha1, hm0, hm1, rfl, rfl, rfl, rfl, HI, BB⟩ := hrel
    clear p0 p1 p2 q0 q1 q2 f0 PS
    by_cases hla : a ≤ 3
    · have SA : Hid (0 ≤ a * a ∧ a * a ≤ 9 ∧ (a * a = 0 → a = 0)) := sq_le ha0 hla
      go_wp2_with fail
      go_loopw [9, 10, 11, 13] (fun x y m dj wr => ∃ X Y Mo b : Int, -3 ≤ b ∧ b ≤ 4 ∧ -1 ≤ Mo ∧ Mo ≤ 576 ∧ x = .int .i64 X ∧ y = .int .i64 Y ∧ m = .int .i64 Mo ∧ dj = .int .i64 b ∧ Hid (PI F (ix a b) X Y Mo) ∧ Hid (Below w2.heap.size w2 wr)) (fun _ _ _ dj _ => (4 - intOf dj).toNat)
      case atStart => exact ⟨X, Y, Mo, -3, by omega, by omega, by omega, by omega, rfl, rfl, rfl, rfl, HI, BB⟩
      case round =>
        clear HI BB hm0 hm1
        obtain ⟨X, Y, Mo, b, hb0, hb1, hm0, hm1, rfl, rfl, rfl, rfl, HI, BB⟩ := hrel
        obtain ⟨p0, p1, p2⟩ := P1.out.on BB.out (by have := z2.out; omega)
        obtain ⟨q0, q1, q2⟩ := P2.out.on BB.out (by have := z2.out; omega)
        by_cases hlb : b ≤ 3
        · have IN : Hid (In a b) := ⟨ha0, hla, hb0, hlb⟩
          have IX : Hid (ix a (b + 1) = ix a b + 1) := (by show _ = _; unfold ix; omega)
          have inx : In X Y := HI.out.1
          have sx := sq_le inx.1 inx.2.1
          have sy := sq_le inx.2.2.1 inx.2.2.2
          have sb := sq_le hb0 hlb
          have sa := SA.out
          have DD : Hid (D a b = a * a + b * b) := rfl
          have DX : Hid (D X Y = X * X + Y * Y) := rfl
          have fb := FB.out a b
          have T3 : Hid (∀ w', Below w.heap.size w w' → Calls Try.prog 13 #[Bx.sv r c v, .int .i64 lv, Bx.sv r c u, .int .i64 a, .int .i64 b] w' fun e w'' => e = .returned (.int .i64 (F a b)) ∧ Below w'.heap.size w' w'') := fun w' hb => S3.out w' hb a b IN.out
          have BW : Hid (Below w.heap.size w wr) := B2.out.trans (BB.out.mono B2.out.size)
          have TK : Hid ((Mo < F a b ∨ (F a b = Mo ∧ D a b < D X Y)) → PI F (ix a (b + 1)) a b (F a b)) := fun h => by rw [IX.out]; exact pi_take HI.out IN.out rfl h
          have KP : Hid (¬ Mo < F a b → (F a b = Mo → ¬ D a b < D X Y) → PI F (ix a (b + 1)) X Y Mo) := fun h h' => by rw [IX.out]; exact pi_keep HI.out IN.out rfl h h'
          rw [DD.out, DX.out] at TK KP
          have xb : -3 ≤ X ∧ X ≤ 3 ∧ -3 ≤ Y ∧ Y ≤ 3 := inx
          obtain ⟨xb1, xb2, xb3, xb4⟩ := xb
          obtain ⟨s, hs⟩ : ∃ s, a * a = s := ⟨_, rfl⟩
          obtain ⟨t, ht⟩ : ∃ t, b * b = t := ⟨_, rfl⟩
          obtain ⟨s', hs'⟩ : ∃ s, X * X = s := ⟨_, rfl⟩
          obtain ⟨t', ht'⟩ : ∃ t, Y * Y = t := ⟨_, rfl⟩
          rw [hs] at sa TK KP
          rw [ht] at sb TK KP
          rw [hs'] at sx TK KP
          rw [ht'] at sy TK KP
          obtain ⟨sa1, sa2, _⟩ := sa
          obtain ⟨sb1, sb2, _⟩ := sb
          obtain ⟨sx1, sx2, _⟩ := sx
          obtain ⟨sy1, sy2, _⟩ := sy
          clear HI inx DD DX
          generalize F a b = f at *
          by_cases hf : Mo < f
          · have TK' : Hid (PI F (ix a (b + 1)) a b f) := TK.out (.inl hf)
            clear KP TK
            go_wp2_with fail
            refine (T3.out _ BW.out).mono ?_
            rintro e w3 ⟨rfl, b3⟩
            have B3 : Hid (Below w2.heap.size w2 w3) := BB.out.trans (b3.mono BB.out.size)
            clear b3
            go_wp2_with fail
            go_roundw
            case rel => exact ⟨a, b, f, b + 1, by omega, by omega, by omega, by omega, rfl, rfl, rfl, by go_num, TK', B3⟩
            case measure => simp [intOf]; omega
          · by_cases he : f = Mo
            · have he' : (f == Mo) = true := by simp [he]
              by_cases hd : s + t < s' + t'
              · have TK' : Hid (PI F (ix a (b + 1)) a b f) := TK.out (.inr ⟨he, hd⟩)
                clear KP TK
                have HE : Hid (f = Mo) := he
                clear he
                go_wp2_with fail
                refine (T3.out _ BW.out).mono ?_
                rintro e w3 ⟨rfl, b3⟩
                have B3 : Hid (Below w2.heap.size w2 w3) := BB.out.trans (b3.mono BB.out.size)
                clear b3
                go_wp2_with fail
                go_roundw
                case rel => exact ⟨a, b, f, b + 1, by omega, by omega, by omega, by omega, rfl, rfl, rfl, by go_num, TK', B3⟩
                case measure => simp [intOf]; omega
              · have KP' : Hid (PI F (ix a (b + 1)) X Y Mo) := KP.out hf (fun _ => hd)
                clear KP TK
                clear he
                go_wp2_with fail
                refine (T3.out _ BW.out).mono ?_
                rintro e w3 ⟨rfl, b3⟩
                have B3 : Hid (Below w2.heap.size w2 w3) := BB.out.trans (b3.mono BB.out.size)
                clear b3
                go_wp2_with fail
                go_roundw
                case rel => exact ⟨X, Y, Mo, b + 1, by omega, by omega, by omega, by omega, rfl, rfl, rfl, by go_num, KP', B3⟩
                case measure => simp [intOf]; omega
            · have he' : (f == Mo) = false := by simp [he]
              have KP' : Hid (PI F (ix a (b + 1)) X Y Mo) := KP.out hf (fun h => absurd h he)
              clear KP TK he
              go_wp2_with fail
              refine (T3.out _ BW.out).mono ?_
              rintro e w3 ⟨rfl, b3⟩
              have B3 : Hid (Below w2.heap.size w2 w3) := BB.out.trans (b3.mono BB.out.size)
              clear b3
              go_wp2_with fail
              go_roundw
              case rel => exact ⟨X, Y, Mo, b + 1, by omega, by omega, by omega, by omega, rfl, rfl, rfl, by go_num, KP', B3⟩
              case measure => simp [intOf]; omega
        · have eb : b = 4 := by omega
          subst eb
          have IX : Hid (PI F (ix (a + 1) (-3)) X Y Mo) := (by show PI _ _ _ _ _; have e : ix (a + 1) (-3) = ix a 4 := (by unfold ix; omega); rw [e]; exact HI.out)
          go_wp2_with fail
          go_roundw
          case rel => exact ⟨X, Y, Mo, a + 1, by omega, by omega, by omega, by omega, rfl, rfl, rfl, by go_num, IX, BB⟩
          case measure => simp [intOf]; omega
    · have ea : a = 4 := by omega
      subst ea
      have BE : Hid (Best F X Y) := pi_end (HI.out : PI F 49 X Y Mo)
      go_wp2_with fail
      go_ret3
      exact ⟨X, Y, BE.out, rfl, B2.out.trans (BB.out.mono B2.out.size)⟩
end Go.Proofs.Ytimbghigjfioeaa.Mv
