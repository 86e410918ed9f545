/- Moved: the model at right boxes. -/
import Derived.Test.YthmknlejnnnbaaaMvM
namespace Go.Proofs.Ythmknlejnnnbaaa.Mv
open Go.ChangeShapes Go.WideShapes Go.ChangeAt Go.RowKit
open Go.Proofs.Ythmknlejnnnbaaa.Lists


set_option maxRecDepth 20000 in
set_option maxHeartbeats 2000000 in
theorem smoved_yes (r c : Int) (L : List Int) (lv : Int) (M : List Int) (v u : Value) (w : World) (hL : Lists.Reads w v L) (hM : Lists.Reads w u M) (fL : L.length < 9223372036854775808) (fM : M.length < 9223372036854775808) (h1 : Bx.okB r c L = true) (h2 : Bx.okB r c M = true) :
    Calls Try.prog 6 #[Bx.sv r c v, .int .i64 lv, Bx.sv r c u] w fun e w' => ∃ x y, Best (both r c L M lv) x y ∧ e = .returned (.tuple #[.int .i64 x, .int .i64 y, .bool true]) ∧ Below w.heap.size w w' := by
  obtain ⟨hr, hc, hn⟩ := size_of h1
  obtain ⟨_, _, hm⟩ := size_of h2
  obtain ⟨w0, hw0⟩ : ∃ w0, w0 = (w.alloc (Obj.cells #[.int .i64 r, .int .i64 c, v] 28)).alloc (Obj.cells #[.int .i64 r, .int .i64 c, u] 28) := ⟨_, rfl⟩
  have HW0 : Hid (w0 = (w.alloc (Obj.cells #[.int .i64 r, .int .i64 c, v] 28)).alloc (Obj.cells #[.int .i64 r, .int .i64 c, u] 28)) := hw0
  have B0 : Hid (Below w.heap.size w w0) := (by show Below _ _ _; rw [hw0]; exact ((Below.refl _ _).alloc (Nat.le_refl _) _).alloc (by simp) _)
  have z0 : Hid (w0.heap.size = w.heap.size + 2) := (by show _ = _; rw [hw0]; simp)
  have X1 : Hid (Bo.Box w0 w.heap.size (.int .i64 r) (.int .i64 c) v) := (by show Bo.Box _ _ _ _ _; rw [hw0]; unfold Bo.Box; simp [go_sem])
  have X2 : Hid (Bo.Box w0 (w.heap.size + 1) (.int .i64 r) (.int .i64 c) u) := (by show Bo.Box _ _ _ _ _; rw [hw0]; unfold Bo.Box; simp [go_sem])
  have S1 : Hid (∀ w', Below w.heap.size w w' → Calls Try.prog 17 #[Bx.sv r c v] w' fun e w'' => e = .returned (.bool true) ∧ Below w'.heap.size w' w'') := fun w' hb => by have := Bx.sok_any r c L v w' (hL.on hb) fL; rwa [h1] at this
  have S2 : Hid (∀ w', Below w.heap.size w w' → Calls Try.prog 17 #[Bx.sv r c u] w' fun e w'' => e = .returned (.bool true) ∧ Below w'.heap.size w' w'') := fun w' hb => by have := Bx.sok_any r c M u w' (hM.on hb) fM; rwa [h2] at this
  have FB : Hid (∀ a b, 0 ≤ both r c L M lv a b ∧ both r c L M lv a b ≤ 576) := fun a b => by have := ci_le r c L M lv a b hc.2 r.toNat; unfold both; omega
  have S3 : Hid (∀ w', Below w.heap.size w w' → ∀ a b, In a b → Calls Try.prog 18 #[Bx.sv r c v, .int .i64 lv, Bx.sv r c u, .int .i64 a, .int .i64 b] w' fun e w'' => e = .returned (.int .i64 (both r c L M lv a b)) ∧ Below w'.heap.size w' w'') := fun w' hb a b hi => sboth_any r c L M lv a b v u w' (hL.on hb) (hM.on hb) hr hc hn hm ⟨hi.1, hi.2.1⟩ ⟨hi.2.2.1, hi.2.2.2⟩
  generalize both r c L M lv = F at *
  have rr : (r != r) = false := by simp
  have cc : (c != c) = false := by simp
  clear hL hM hw0 fL fM h1 h2 hr hc hn hm
  go_enter Try.func6, Try.ntmps6
  go_wp2_with fail
  rw [← HW0.out]
  refine (S1.out _ B0.out).mono ?_
  rintro e w1 ⟨rfl, b1⟩
  have B1 : Hid (Below w.heap.size w w1) := B0.out.trans (b1.mono B0.out.size)
  have Y1 : Hid (Bo.Box w1 w.heap.size (.int .i64 r) (.int .i64 c) v) := X1.out.on b1 (by have := z0.out; omega)
  have Y2 : Hid (Bo.Box w1 (w.heap.size + 1) (.int .i64 r) (.int .i64 c) u) := X2.out.on b1 (by have := z0.out; omega)
  have z1 : Hid (w0.heap.size ≤ w1.heap.size) := b1.size
  obtain ⟨y0, y1, y2⟩ := Y2.out
  clear b1 HW0 X1 X2
  go_wp2_with fail
  refine (S2.out _ B1.out).mono ?_
  rintro e w2 ⟨rfl, b2⟩
  have B2 : Hid (Below w.heap.size w w2) := B1.out.trans (b2.mono B1.out.size)
  have P1 : Hid (Bo.Box w2 w.heap.size (.int .i64 r) (.int .i64 c) v) := Y1.out.on b2 (by have := z0.out; have := z1.out; omega)
  have P2 : Hid (Bo.Box w2 (w.heap.size + 1) (.int .i64 r) (.int .i64 c) u) := Y2.out.on b2 (by have := z0.out; have := z1.out; omega)
  obtain ⟨p0, p1, p2⟩ := id P1.out
  obtain ⟨q0, q1, q2⟩ := id P2.out
  have z2 : Hid (w.heap.size + 1 < w2.heap.size) := (by show _ < _; have := b2.size; have := z0.out; have := z1.out; omega)
  clear b2 y0 y1 y2 Y1 Y2
  go_wp2_with fail
  go_loopw [9, 10, 11, 12] (fun x y m d wr => ∃ X Y Mo e : Int, 0 ≤ e ∧ e ≤ 19 ∧ -1 ≤ Mo ∧ Mo ≤ 576 ∧ x = .int .i64 X ∧ y = .int .i64 Y ∧ m = .int .i64 Mo ∧ d = .int .i64 e ∧ Hid (MI F e 0 X Y Mo) ∧ Hid (Below w2.heap.size w2 wr)) (fun _ _ _ d _ => (19 - intOf d).toNat)
  case atStart => exact ⟨0, 0, -1, 0, by omega, by omega, by omega, by omega, rfl, rfl, rfl, rfl, mi_start F, Below.refl _ _⟩
  case round =>
    obtain ⟨X, Y, Mo, d, hd0, hd1, hm0, hm1, rfl, rfl, rfl, rfl, HI, BB⟩ := hrel
    clear p0 p1 p2 q0 q1 q2
    by_cases hlt : d ≤ 18
    · go_wp2_with fail
      go_loopw [9, 10, 11, 13] (fun x y m di wr => ∃ X Y Mo a : Int, -3 ≤ a ∧ a ≤ 4 ∧ -1 ≤ Mo ∧ Mo ≤ 576 ∧ x = .int .i64 X ∧ y = .int .i64 Y ∧ m = .int .i64 Mo ∧ di = .int .i64 a ∧ Hid (MI F d (ix a (-3)) X Y Mo) ∧ Hid (Below w2.heap.size w2 wr)) (fun _ _ _ di _ => (4 - intOf di).toNat)
      case atStart => exact ⟨X, Y, Mo, -3, by omega, by omega, by omega, by omega, rfl, rfl, rfl, rfl, HI, BB⟩
      case round =>
        clear HI BB hm0 hm1
        obtain ⟨X, Y, Mo, a, ha0, ha1, hm0, hm1, rfl, rfl, rfl, rfl, HI, BB⟩ := hrel
        by_cases hla : a ≤ 3
        · have sa := sq_le ha0 hla
          have SA : Hid (0 ≤ a * a ∧ a * a ≤ 9 ∧ (a * a = 0 → a = 0)) := sa
          clear sa
          go_wp2_with fail
          go_loopw [9, 10, 11, 14] (fun x y m dj wr => ∃ X Y Mo b : Int, -3 ≤ b ∧ b ≤ 4 ∧ -1 ≤ Mo ∧ Mo ≤ 576 ∧ x = .int .i64 X ∧ y = .int .i64 Y ∧ m = .int .i64 Mo ∧ dj = .int .i64 b ∧ Hid (MI F d (ix a b) X Y Mo) ∧ Hid (Below w2.heap.size w2 wr)) (fun _ _ _ dj _ => (4 - intOf dj).toNat)
          case atStart => exact ⟨X, Y, Mo, -3, by omega, by omega, by omega, by omega, rfl, rfl, rfl, rfl, HI, BB⟩
          case round =>
            clear HI BB hm0 hm1
            obtain ⟨X, Y, Mo, b, hb0, hb1, hm0, hm1, rfl, rfl, rfl, rfl, HI, BB⟩ := hrel
            obtain ⟨p0, p1, p2⟩ := P1.out.on BB.out (by have := z2.out; omega)
            obtain ⟨q0, q1, q2⟩ := P2.out.on BB.out (by have := z2.out; omega)
            by_cases hlb : b ≤ 3
            · have IN : Hid (In a b) := ⟨ha0, hla, hb0, hlb⟩
              have IX : Hid (ix a (b + 1) = ix a b + 1) := (by show _ = _; unfold ix; omega)
              have sb := sq_le hb0 hlb
              obtain ⟨s, hs⟩ : ∃ s, a * a = s := ⟨_, rfl⟩
              obtain ⟨t, ht⟩ : ∃ t, b * b = t := ⟨_, rfl⟩
              have sa := SA.out
              rw [hs] at sa
              rw [ht] at sb
              obtain ⟨sa1, sa2, _⟩ := sa
              obtain ⟨sb1, sb2, _⟩ := sb
              have DD : Hid (D a b = s + t) := (by show _ = _; unfold D; rw [hs, ht])
              by_cases hd : s + t = d
              · have hd' : (s + t != d) = false := by simp [hd]
                have fb := FB.out a b
                have T3 : Hid (∀ w', Below w.heap.size w w' → Calls Try.prog 18 #[Bx.sv r c v, .int .i64 lv, Bx.sv r c u, .int .i64 a, .int .i64 b] w' fun e w'' => e = .returned (.int .i64 (F a b)) ∧ Below w'.heap.size w' w'') := fun w' hb => S3.out w' hb a b IN.out
                have HD : Hid (D a b = d) := DD.out.trans hd
                have BW : Hid (Below w.heap.size w wr) := B2.out.trans (BB.out.mono B2.out.size)
                have TK : Hid (Mo < F a b → MI F d (ix a (b + 1)) a b (F a b)) := fun h => by rw [IX.out]; exact mi_take HI.out IN.out rfl HD.out h
                have KP : Hid (¬ Mo < F a b → MI F d (ix a (b + 1)) X Y Mo) := fun h => by rw [IX.out]; exact mi_keep HI.out IN.out rfl HD.out (FB.out a b).1 h
                clear hd HI
                generalize F a b = f at *
                by_cases hf : Mo < f
                · have TK' : Hid (MI F d (ix a (b + 1)) a b f) := TK.out hf
                  go_wp2_with fail
                  refine (T3.out _ BW.out).mono ?_
                  rintro e w3 ⟨rfl, b3⟩
                  have B3 : Hid (Below w2.heap.size w2 w3) := BB.out.trans (b3.mono BB.out.size)
                  clear b3
                  go_wp2_with fail
                  go_roundw
                  case rel => exact ⟨a, b, f, b + 1, by omega, by omega, by omega, by omega, rfl, rfl, rfl, by go_num, TK', B3⟩
                  case measure => simp [intOf]; omega
                · have KP' : Hid (MI F d (ix a (b + 1)) X Y Mo) := KP.out hf
                  go_wp2_with fail
                  refine (T3.out _ BW.out).mono ?_
                  rintro e w3 ⟨rfl, b3⟩
                  have B3 : Hid (Below w2.heap.size w2 w3) := BB.out.trans (b3.mono BB.out.size)
                  clear b3
                  go_wp2_with fail
                  go_roundw
                  case rel => exact ⟨X, Y, Mo, b + 1, by omega, by omega, by omega, by omega, rfl, rfl, rfl, by go_num, KP', B3⟩
                  case measure => simp [intOf]; omega
              · have hd' : (s + t != d) = true := by simp [hd]
                have SK : Hid (MI F d (ix a (b + 1)) X Y Mo) := (by show MI _ _ _ _ _ _; rw [IX.out]; exact mi_skip HI.out IN.out rfl (by rw [DD.out]; exact hd))
                clear hd HI
                go_wp2_with fail
                go_roundw
                case rel => exact ⟨X, Y, Mo, b + 1, by omega, by omega, by omega, by omega, rfl, rfl, rfl, by go_num, SK, BB⟩
                case measure => simp [intOf]; omega
            · have eb : b = 4 := by omega
              subst eb
              have IX : Hid (MI F d (ix (a + 1) (-3)) X Y Mo) := (by show MI _ _ _ _ _ _; have e : ix (a + 1) (-3) = ix a 4 := (by unfold ix; omega); rw [e]; exact HI.out)
              go_wp2_with fail
              go_roundw
              case rel => exact ⟨X, Y, Mo, a + 1, by omega, by omega, by omega, by omega, rfl, rfl, rfl, by go_num, IX, BB⟩
              case measure => simp [intOf]; omega
        · have ea : a = 4 := by omega
          subst ea
          have NX : Hid (MI F (d + 1) 0 X Y Mo) := mi_next (HI.out : MI F d 49 X Y Mo)
          go_wp2_with fail
          go_roundw
          case rel => exact ⟨X, Y, Mo, d + 1, by omega, by omega, by omega, by omega, rfl, rfl, rfl, by go_num, NX, BB⟩
          case measure => simp [intOf]; omega
    · have ed : d = 19 := by omega
      subst ed
      have BE : Hid (Best F X Y) := mi_end HI.out
      go_wp2_with fail
      go_ret3
      exact ⟨X, Y, BE.out, rfl, B2.out.trans (BB.out.mono B2.out.size)⟩
end Go.Proofs.Ythmknlejnnnbaaa.Mv
