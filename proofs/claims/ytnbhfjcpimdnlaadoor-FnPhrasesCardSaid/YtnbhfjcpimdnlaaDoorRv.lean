/- ReadPhrase of the model. -/
import Derived.Test.YtnbhfjcpimdnlaaDoorRs
namespace Go.Proofs.YtnbhfjcpimdnlaaDoor.Ph
open Go.ChangeShapes Go.WideShapes Go.ChangeAt Go.RowKit
open Go.Proofs.YtnbhfjcpimdnlaaDoor.Dec (cat)
def msr (b : Nat) (w : World) : Nat := match w.cell? ⟨b, 2, none⟩ with
  | some v => 13 - (intOf v).toNat
  | none => 0
theorem msr_eq {w : World} {b : Nat} {d f l r p : Int} (h : SY w b d f l r p) : msr b w = 13 - l.toNat := by
  unfold msr; rw [h.cells.2.2.1]; rfl
set_option maxHeartbeats 8000000 in
set_option maxRecDepth 20000 in
theorem sread_yes (t : Int) (X : List UInt8) (w : World) (ht : t = 1 ∨ t = 2 ∨ t = 3) (hX : X.length ≤ 200) :
    Calls Tryd.prog 5 #[.string ⟨X.toArray⟩, .int .i64 t] w fun e w' => ((∃ d f l r p, T5 t X d f l r p ∧ e = .returned (.tuple #[.agg #[.int .i64 d, .int .i64 f, .int .i64 l, .int .i64 r, .int .i64 p], .bool true])) ∨ ((∀ d f l r p, ¬ T5 t X d f l r p) ∧ e = .returned (.tuple #[.agg #[.int .i64 0, .int .i64 0, .int .i64 0, .int .i64 0, .int .i64 0], .bool false]))) ∧ Below w.heap.size w w' := by
  obtain ⟨x, hx⟩ : ∃ x : ByteArray, x = ⟨X.toArray⟩ := ⟨_, rfl⟩
  have TC : Hid (∀ W, Calls Tryd.prog 13 #[.int .i64 t, .int .i64 1, .int .i64 3] W fun e w' => e = .returned (.bool true) ∧ w' = W) := fun W => (by have := sin_any t 1 3 W; rwa [(by unfold inn; rcases ht with rfl | rfl | rfl <;> rfl : inn t 1 3 = true)] at this)
  have AC : Hid (∀ (h : List UInt8) (W : World), Calls Tryd.prog 14 #[.string x, .string ⟨h.toArray⟩] W fun e w' => e = .returned (.bool (h.isPrefixOf X)) ∧ w' = W) := fun h W => hx ▸ sahead X h W (by omega)
  have WC : Hid (∀ d f l r p, Sk d f l r p → ∀ W, Calls Tryd.prog 15 #[.agg #[.int .i64 d, .int .i64 f, .int .i64 l, .int .i64 r, .int .i64 p], .int .i64 t] W fun e w' => e = .returned (.string ⟨(now t d f).toArray⟩) ∧ Below W.heap.size W w') := fun d f l r p hs W => swind_any t d f l r p W ht hs
  have LC' : Hid (∀ d f l r p, Sk d f l r p → ∀ W, Calls Tryd.prog 16 #[.agg #[.int .i64 d, .int .i64 f, .int .i64 l, .int .i64 r, .int .i64 p], .int .i64 t] W fun e w' => e = .returned (.string ⟨(ltr t f l).toArray⟩) ∧ Below W.heap.size W w') := fun d f l r p hs W => slater_any t d f l r p W ht hs
  have OC : Hid (∀ d f l r p W, Calls Tryd.prog 17 #[.agg #[.int .i64 d, .int .i64 f, .int .i64 l, .int .i64 r, .int .i64 p]] W fun e w' => e = .returned (.bool (sok d f l r p)) ∧ Below W.heap.size W w') := fun d f l r p W => mok_any d f l r p W
  have PC : Hid (∀ d f l r p, sok d f l r p = true → ∀ W, Calls Tryd.prog 10 #[.agg #[.int .i64 d, .int .i64 f, .int .i64 l, .int .i64 r, .int .i64 p], .int .i64 t] W fun e w' => e = .returned (.string ⟨(phr t d f l r p).toArray⟩) ∧ Below W.heap.size W w') := fun d f l r p hs W => (by
    have := sphrase_any d f l r p t W
    unfold ans at this
    rwa [hs, (by unfold inn; rcases ht with rfl | rfl | rfl <;> rfl : inn t 1 3 = true), if_pos (by rfl)] at this)
  have EQ : Hid (∀ d f l r p, ((⟨(phr t d f l r p).toArray⟩ : ByteArray).toList == x.toList) = decide (phr t d f l r p = X)) := fun d f l r p => (by
    show _ = _
    rw [hx, Lib.toList_data, Lib.toList_data]
    rw [Bool.eq_iff_iff]; simp)
  have NL : Hid (∀ d f : Int, 0 ≤ f ∧ f ≤ 12 → (now t d f).length ≤ 400) := fun d f h => now_len t d f h
  have LL : Hid (∀ f l : Int, 0 ≤ l ∧ l ≤ 12 → (ltr t f l).length ≤ 100) := fun f l h => ltr_len t f l h
  have sx : ¬ (200 : Int) < (x.size : Int) := by rw [hx]; simp [ByteArray.size]; omega
  obtain ⟨w0, hw0⟩ : ∃ w0, w0 = w.alloc (.cells #[.int .i64 0, .int .i64 0, .int .i64 0, .int .i64 0, .int .i64 0] 23) := ⟨_, rfl⟩
  have HW : Hid (w0 = w.alloc (.cells #[.int .i64 0, .int .i64 0, .int .i64 0, .int .i64 0, .int .i64 0] 23)) := hw0
  have B0 : Hid (Below w.heap.size w w0) := (by show Below _ _ _; rw [hw0]; exact (Below.refl _ _).alloc (Nat.le_refl _) _)
  have A0 : Hid (SY w0 w.heap.size 0 0 0 0 0) := (by show SY _ _ _ _ _ _ _; rw [hw0]; exact heap_alloc_new w _)
  rw [← hx]
  clear hw0 hx hX ht
  go_enter Tryd.func5, Tryd.ntmps5
  go_upto_region 1 with fail
  rw [← HW.out]
  clear HW
  go_wp2_with fail
  refine (TC.out _).mono ?_
  rintro e w1 ⟨rfl, hw1⟩
  subst hw1
  clear TC
  go_wp2_with fail
  go_loopw [6] (fun i wr => ∃ k : Int, (0 ≤ k ∧ k ≤ 9) ∧ i = .int .i64 k ∧ Hid (Nx t X k 0 0 0 0) ∧ Hid (SY wr w.heap.size 0 0 0 0 0) ∧ Hid (Below w.heap.size w wr)) (fun i _ => 9 - (intOf i).toNat)
  case atStart => exact ⟨0, by omega, rfl, nx0, A0, B0⟩
  case round =>
    clear A0 B0 sx
    obtain ⟨d, hd, rfl, N1, A1, B1⟩ := hrel
    obtain ⟨d0, d9⟩ := hd
    by_cases hlt : d ≤ 8
    · go_wp2_with fail
      obtain ⟨wo, hwo⟩ : ∃ wo, wo = wr := ⟨_, rfl⟩
      subst hwo
      go_loopw [7] (fun i ws => ∃ k : Int, (0 ≤ k ∧ k ≤ 13) ∧ i = .int .i64 k ∧ Hid (Nx t X d k 0 0 0) ∧ Hid (SY ws w.heap.size 0 0 0 0 0) ∧ Hid (Below w.heap.size w ws)) (fun i _ => 13 - (intOf i).toNat)
      case atStart => exact ⟨0, by omega, rfl, N1, A1, B1⟩
      case round =>
        clear A1 B1 N1
        obtain ⟨f, hf, rfl, N2, A2, B2⟩ := hrel
        obtain ⟨f0, f13⟩ := hf
        by_cases hlf : f ≤ 12
        · obtain ⟨w3, hw3⟩ : ∃ w3, w3 = wr.alloc (.cells #[.int .i64 d, .int .i64 f, .int .i64 0, .int .i64 0, .int .i64 0] 23) := ⟨_, rfl⟩
          have HW3 : Hid (w3 = wr.alloc (.cells #[.int .i64 d, .int .i64 f, .int .i64 0, .int .i64 0, .int .i64 0] 23)) := hw3
          have S3 : Hid (SY w3 wr.heap.size d f 0 0 0) := (by show SY _ _ _ _ _ _ _; rw [hw3]; exact heap_alloc_new wr _)
          have b3 : Below wr.heap.size wr w3 := (by rw [hw3]; exact (Below.refl _ _).alloc (Nat.le_refl _) _)
          have A3 : Hid (SY w3 w.heap.size 0 0 0 0 0) := A2.out.on b3 A2.out.lt
          have B3 : Hid (Below w.heap.size w w3) := B2.out.trans (b3.mono B2.out.size)
          have ne3 : w.heap.size < wr.heap.size := A2.out.lt
          clear hw3 b3 A2 B2
          go_upto_region 10 with fail
          rw [← HW3.out]
          clear HW3
          generalize wr.heap.size = b at *
          obtain ⟨qd, ed⟩ : ∃ q, (d == 0) = q := ⟨_, rfl⟩
          obtain ⟨qf, ef⟩ : ∃ q, (f == 0) = q := ⟨_, rfl⟩
          obtain ⟨c0, c1, c2, c3, c4, -⟩ := S3.out.cells
          by_cases hz : qf = qd
          · subst hz
            have ez : (qf != qf) = false := by simp
            have SK0 : Hid (Sk d f 0 0 0) := ⟨by omega, by omega, by omega, by omega, by omega⟩
            go_wp2_with fail
            refine (WC.out d f 0 0 0 SK0.out _).mono ?_
            rintro e w4 ⟨rfl, b4⟩
            have S4 : Hid (SY w4 b d f 0 0 0) := S3.out.on b4 S3.out.lt
            have A4 : Hid (SY w4 w.heap.size 0 0 0 0 0) := A3.out.on b4 A3.out.lt
            have B4 : Hid (Below w.heap.size w w4) := B3.out.trans (b4.mono B3.out.size)
            clear b4 S3 A3 B3 c0 c1 c2 c3 c4
            go_wp2_with fail
            refine (AC.out (now t d f) _).mono ?_
            rintro e w5 ⟨rfl, hw5⟩
            have hw5' := hw5.symm
            subst hw5'
            clear hw5
            obtain ⟨qp, hp⟩ : ∃ q, (now t d f).isPrefixOf X = q := ⟨_, rfl⟩
            have HP : Hid ((now t d f).isPrefixOf X = qp) := hp
            rw [hp]
            clear hp
            cases qp
            · go_wp2_with fail
              go_roundw
              case rel => exact ⟨f + 1, by omega, by go_num, nx_fs N2.out (fun l r p h => by have := h.wind; rw [HP.out] at this; exact absurd this (by decide)), A4, B4⟩
              case measure => simp [intOf]; omega
            · clear HP SK0 ez ef ed
              obtain ⟨c0, c1, c2, c3, c4, cf⟩ := S4.out.cells
              have g2 := cf 2
              clear cf
              obtain ⟨w6, hw6⟩ : ∃ w6, w6 = w4.setCell ⟨b, 2, none⟩ (.int .i64 0) := ⟨_, rfl⟩
              have HW6 : Hid (w6 = w4.setCell ⟨b, 2, none⟩ (.int .i64 0)) := hw6
              have S6 : Hid (SY w6 b d f 0 0 0) := (by show SY _ _ _ _ _ _ _; rw [hw6]; exact S4.out.s2 0)
              have A6 : Hid (SY w6 w.heap.size 0 0 0 0 0) := (by show SY _ _ _ _ _ _ _; rw [hw6]; exact A4.out.keep (by omega) 2 _)
              have B6 : Hid (Below w.heap.size w w6) := (by show Below _ _ _; rw [hw6]; exact B4.out.setCell (p := ⟨b, 2, none⟩) (Nat.le_of_lt ne3) _)
              clear hw6 S4 A4 B4
              go_wp2_with fail
              rw [← HW6.out]
              clear HW6 c0 c1 c2 c3 c4 g2
              go_loopw [9] (fun _ ws => ∃ k : Int, (0 ≤ k ∧ k ≤ 13) ∧ Hid (Nx t X d f k 0 0) ∧ Hid (SY ws b d f k 0 0) ∧ Hid (SY ws w.heap.size 0 0 0 0 0) ∧ Hid (Below w.heap.size w ws)) (fun _ ws => msr b ws)
              case atStart => exact ⟨0, by omega, N2, S6, A6, B6⟩
              case round =>
                clear N2 S6 A6 B6
                obtain ⟨l, hl, N3, S7, A7, B7⟩ := hrel
                obtain ⟨l0, l13⟩ := hl
                obtain ⟨c0, c1, c2, c3, c4, cf⟩ := S7.out.cells
                clear cf
                have MR : Hid (msr b wr = 13 - l.toNat) := msr_eq S7.out
                by_cases hll : l ≤ 12
                · have SK1 : Hid (Sk d f l 0 0) := ⟨by omega, by omega, by omega, by omega, by omega⟩
                  have WC1 : Hid (∀ W, Calls Tryd.prog 15 #[.agg #[.int .i64 d, .int .i64 f, .int .i64 l, .int .i64 0, .int .i64 0], .int .i64 t] W fun e w' => e = .returned (.string ⟨(now t d f).toArray⟩) ∧ Below W.heap.size W w') := WC.out d f l 0 0 SK1.out
                  have LC1 : Hid (∀ W, Calls Tryd.prog 16 #[.agg #[.int .i64 d, .int .i64 f, .int .i64 l, .int .i64 0, .int .i64 0], .int .i64 t] W fun e w' => e = .returned (.string ⟨(ltr t f l).toArray⟩) ∧ Below W.heap.size W w') := LC'.out d f l 0 0 SK1.out
                  have HD : Hid (∀ r p, T5 t X d f l r p → (now t d f ++ ltr t f l ++ [46, 32]).isPrefixOf X = true) := fun r p h => h.head
                  have hl1 := NL.out d f (by omega)
                  have hl2 := LL.out f l (by omega)
                  have wn3 : b < wr.heap.size := S7.out.lt
                  have wn4 : w.heap.size < wr.heap.size := A7.out.lt
                  generalize now t d f = WT at *
                  generalize ltr t f l = LT at *
                  obtain ⟨P0, hP0⟩ : ∃ A, A = WT ++ LT := ⟨_, rfl⟩
                  obtain ⟨P1, hP1⟩ : ∃ A, A = P0 ++ [46, 32] := ⟨_, rfl⟩
                  have q0 : P0.length = WT.length + LT.length := by rw [hP0]; simp
                  have e0 : (⟨WT.toArray⟩ : ByteArray) ++ ⟨LT.toArray⟩ = ⟨P0.toArray⟩ := by rw [hP0]; exact cat WT LT
                  have e1 : (⟨P0.toArray⟩ : ByteArray) ++ ⟨#[46, 32]⟩ = ⟨P1.toArray⟩ := by rw [hP1]; exact cat P0 [46, 32]
                  have u0 : ¬ 9223372036854775807 < WT.length + LT.length := by omega
                  have u1 : ¬ 9223372036854775807 < P0.length + 2 := by omega
                  rw [← hP0, ← hP1] at HD
                  clear hP0 hP1 q0 hl1 hl2 SK1
                  go_upto_region 14 with fail
                  go_region_held3 (fun w' => w'.cell? ⟨b, 0, none⟩ = some (.int .i64 d) ∧ w'.cell? ⟨b, 1, none⟩ = some (.int .i64 f) ∧ w'.cell? ⟨b, 2, none⟩ = some (.int .i64 l) ∧ w'.cell? ⟨b, 3, none⟩ = some (.int .i64 0) ∧ w'.cell? ⟨b, 4, none⟩ = some (.int .i64 0)) (go_keep)
                    (first
                    | (go_at_call 15; refine (WC1.out _).mono ?_; rintro e w8 ⟨rfl, hb8⟩; have D8 : Below wr.heap.size wr w8 := (Below.refl _ _).drew.trans (hb8.mono (by simp)); have S8 := S7.out.on D8 wn3; obtain ⟨a0, a1, a2, a3, a4, -⟩ := S8.cells)
                    | (go_at_call 16; refine (LC1.out _).mono ?_; rintro e w9 ⟨rfl, hb9⟩; have D9 : Below wr.heap.size wr w9 := D8.trans (hb9.mono D8.size); have S9 := S7.out.on D9 wn3; obtain ⟨b0, b1, b2, b3, b4, -⟩ := S9.cells))
                  have S9' : Hid (SY w9 b d f l 0 0) := S9
                  have A9 : Hid (SY w9 w.heap.size 0 0 0 0 0) := A7.out.on D9 wn4
                  have B9 : Hid (Below w.heap.size w w9) := B7.out.trans (D9.mono B7.out.size)
                  clear a0 a1 a2 a3 a4 b0 b1 b2 b3 b4 hb8 hb9 D8 D9 S8 S9 S7 A7 B7 c0 c1 c2 c3 c4 WC1 LC1 e0 e1 u0 u1 wn3 wn4
                  go_wp2_with fail
                  refine (AC.out P1 _).mono ?_
                  rintro e w5 ⟨rfl, hw5⟩
                  have hw5' := hw5.symm
                  subst hw5'
                  clear hw5
                  obtain ⟨qp, hp⟩ : ∃ q, P1.isPrefixOf X = q := ⟨_, rfl⟩
                  have HP : Hid (P1.isPrefixOf X = qp) := hp
                  rw [hp]
                  clear hp
                  cases qp
                  · obtain ⟨c0, c1, c2, c3, c4, cf⟩ := S9'.out.cells
                    have g2 := cf 2
                    clear cf
                    have SN : Hid (SY (w9.setCell ⟨b, 2, none⟩ (.int .i64 (l + 1))) b d f (l + 1) 0 0) := S9'.out.s2 (l + 1)
                    have AN : Hid (SY (w9.setCell ⟨b, 2, none⟩ (.int .i64 (l + 1))) w.heap.size 0 0 0 0 0) := A9.out.keep (by omega) 2 _
                    have BN : Hid (Below w.heap.size w (w9.setCell ⟨b, 2, none⟩ (.int .i64 (l + 1)))) := B9.out.setCell (p := ⟨b, 2, none⟩) (Nat.le_of_lt ne3) _
                    have MS : Hid (msr b (w9.setCell ⟨b, 2, none⟩ (.int .i64 (l + 1))) < msr b wr) := (by
                      show _ < _
                      rw [msr_eq SN.out, MR.out]; omega)
                    clear S9' A9 B9
                    go_wp2_with fail
                    go_roundw
                    case rel => exact ⟨l + 1, by omega, nx_ls N3.out (fun r p h => by have := HD.out r p h; rw [HP.out] at this; exact absurd this (by decide)), SN, AN, BN⟩
                    case measure => exact MS.out
                  · clear HP HD
                    go_wp2_with fail
                    obtain ⟨wq, hwq⟩ : ∃ wq, wq = wr := ⟨_, rfl⟩
                    subst hwq
                    go_loopw [10] (fun i ws => ∃ k : Int, (0 ≤ k ∧ k ≤ 4) ∧ i = .int .i64 k ∧ Hid (Nx t X d f l k 0) ∧ Hid (SY ws b d f l 0 0) ∧ Hid (SY ws w.heap.size 0 0 0 0 0) ∧ Hid (Below w.heap.size w ws)) (fun i _ => 4 - (intOf i).toNat)
                    case atStart => exact ⟨0, by omega, rfl, N3, S9', A9, B9⟩
                    case round =>
                      clear N3 S9' A9 B9
                      obtain ⟨r, hr, rfl, N4, S10, A10, B10⟩ := hrel
                      obtain ⟨r0, r4⟩ := hr
                      by_cases hlr : r ≤ 3
                      · go_wp2_with fail
                        obtain ⟨wv, hwv⟩ : ∃ wv, wv = wr := ⟨_, rfl⟩
                        subst hwv
                        go_loopw [11] (fun i ws => ∃ k : Int, (0 ≤ k ∧ k ≤ 101) ∧ i = .int .i64 k ∧ Hid (Nx t X d f l r k) ∧ Hid (SY ws b d f l 0 0) ∧ Hid (SY ws w.heap.size 0 0 0 0 0) ∧ Hid (Below w.heap.size w ws)) (fun i _ => 101 - (intOf i).toNat)
                        case atStart => exact ⟨0, by omega, rfl, N4, S10, A10, B10⟩
                        case round =>
                          clear N4 S10 A10 B10
                          obtain ⟨p, hp, rfl, N5, S11, A11, B11⟩ := hrel
                          obtain ⟨p0, p101⟩ := hp
                          by_cases hlp : p ≤ 100
                          · obtain ⟨c0, c1, c2, c3, c4, -⟩ := S11.out.cells
                            obtain ⟨w12, hw12⟩ : ∃ w12, w12 = wr.alloc (.cells #[.int .i64 d, .int .i64 f, .int .i64 l, .int .i64 r, .int .i64 p] 23) := ⟨_, rfl⟩
                            have HW12 : Hid (w12 = wr.alloc (.cells #[.int .i64 d, .int .i64 f, .int .i64 l, .int .i64 r, .int .i64 p] 23)) := hw12
                            have R12 : Hid (SY w12 wr.heap.size d f l r p) := (by show SY _ _ _ _ _ _ _; rw [hw12]; exact heap_alloc_new wr _)
                            have b12 : Below wr.heap.size wr w12 := (by rw [hw12]; exact (Below.refl _ _).alloc (Nat.le_refl _) _)
                            have S12 : Hid (SY w12 b d f l 0 0) := S11.out.on b12 S11.out.lt
                            have A12 : Hid (SY w12 w.heap.size 0 0 0 0 0) := A11.out.on b12 A11.out.lt
                            have B12 : Hid (Below w.heap.size w w12) := B11.out.trans (b12.mono B11.out.size)
                            have ne12 : w.heap.size < wr.heap.size := A11.out.lt
                            clear hw12 b12 S11 A11 B11
                            go_upto_region 23 with fail
                            rw [← HW12.out]
                            clear HW12 c0 c1 c2 c3 c4
                            generalize wr.heap.size = c at *
                            obtain ⟨c0, c1, c2, c3, c4, -⟩ := R12.out.cells
                            go_wp2_with fail
                            refine (OC.out d f l r p _).mono ?_
                            rintro e w13 ⟨rfl, b13⟩
                            have R13 : Hid (SY w13 c d f l r p) := R12.out.on b13 R12.out.lt
                            have S13 : Hid (SY w13 b d f l 0 0) := S12.out.on b13 S12.out.lt
                            have A13 : Hid (SY w13 w.heap.size 0 0 0 0 0) := A12.out.on b13 A12.out.lt
                            have B13 : Hid (Below w.heap.size w w13) := B12.out.trans (b13.mono B12.out.size)
                            clear b13 R12 S12 A12 B12 c0 c1 c2 c3 c4
                            obtain ⟨qs, hs⟩ : ∃ q, sok d f l r p = q := ⟨_, rfl⟩
                            have HS : Hid (sok d f l r p = qs) := hs
                            rw [hs]
                            clear hs
                            cases qs
                            · go_wp2_with fail
                              go_roundw
                              case rel => exact ⟨p + 1, by omega, by go_num, nx_p N5.out (fun h => by have := h.1; rw [HS.out] at this; exact absurd this (by decide)), S13, A13, B13⟩
                              case measure => simp [intOf]; omega
                            · obtain ⟨c0, c1, c2, c3, c4, -⟩ := R13.out.cells
                              have PC1 : Hid (∀ W, Calls Tryd.prog 10 #[.agg #[.int .i64 d, .int .i64 f, .int .i64 l, .int .i64 r, .int .i64 p], .int .i64 t] W fun e w' => e = .returned (.string ⟨(phr t d f l r p).toArray⟩) ∧ Below W.heap.size W w') := PC.out d f l r p HS.out
                              have eq1 := EQ.out d f l r p
                              obtain ⟨qe, he⟩ : ∃ q, decide (phr t d f l r p = X) = q := ⟨_, rfl⟩
                              have HE : Hid (decide (phr t d f l r p = X) = qe) := he
                              rw [he] at eq1
                              have HT : Hid (qe = true → T5 t X d f l r p) := fun h => ⟨HS.out, of_decide_eq_true (HE.out.trans h)⟩
                              have HF : Hid (qe = false → ¬ T5 t X d f l r p) := fun h g => of_decide_eq_false (HE.out.trans h) g.2
                              clear he HE
                              generalize (⟨(phr t d f l r p).toArray⟩ : ByteArray) = PH at *
                              go_wp2_with fail
                              refine (PC1.out _).mono ?_
                              rintro e w14 ⟨rfl, b14⟩
                              have R14 : Hid (SY w14 c d f l r p) := R13.out.on b14 R13.out.lt
                              have S14 : Hid (SY w14 b d f l 0 0) := S13.out.on b14 S13.out.lt
                              have A14 : Hid (SY w14 w.heap.size 0 0 0 0 0) := A13.out.on b14 A13.out.lt
                              have B14 : Hid (Below w.heap.size w w14) := B13.out.trans (b14.mono B13.out.size)
                              clear b14 R13 S13 A13 B13 c0 c1 c2 c3 c4 PC1
                              cases qe
                              · go_wp2_with fail
                                go_roundw
                                case rel => exact ⟨p + 1, by omega, by go_num, nx_p N5.out (HF.out (by first | rfl | trivial)), S14, A14, B14⟩
                                case measure => simp [intOf]; omega
                              · obtain ⟨c0, c1, c2, c3, c4, -⟩ := R14.out.cells
                                obtain ⟨a0, a1, a2, a3, a4, af⟩ := A14.out.cells
                                have g0 := af 0; have g1 := af 1; have g2 := af 2; have g3 := af 3; have g4 := af 4
                                have BE : Hid (∀ y0 y1 y2 y3 y4 : Value, Below w.heap.size w (((((w14.setCell ⟨w.heap.size, 0, none⟩ y0).setCell ⟨w.heap.size, 1, none⟩ y1).setCell ⟨w.heap.size, 2, none⟩ y2).setCell ⟨w.heap.size, 3, none⟩ y3).setCell ⟨w.heap.size, 4, none⟩ y4)) := fun y0 y1 y2 y3 y4 => ((((B14.out.setCell (p := ⟨w.heap.size, 0, none⟩) (Nat.le_refl _) _).setCell (p := ⟨w.heap.size, 1, none⟩) (Nat.le_refl _) _).setCell (p := ⟨w.heap.size, 2, none⟩) (Nat.le_refl _) _).setCell (p := ⟨w.heap.size, 3, none⟩) (Nat.le_refl _) _).setCell (p := ⟨w.heap.size, 4, none⟩) (Nat.le_refl _) _
                                clear af
                                go_wp2_with fail
                                refine bodyPost_ret (v := .tuple #[.agg #[.int .i64 d, .int .i64 f, .int .i64 l, .int .i64 r, .int .i64 p], .bool true]) (by simp [results, Tryd.results5, go_sem, a0, a1, a2, a3, a4]) rfl ⟨Or.inl ⟨d, f, l, r, p, HT.out (by first | rfl | trivial), rfl⟩, ?_⟩
                                exact BE.out _ _ _ _ _
                          · have e101 : p = 101 := by omega
                            subst e101
                            go_wp2_with fail
                            go_roundw
                            case rel => exact ⟨r + 1, by omega, by go_num, nx_r N5.out, S11, A11, B11⟩
                            case measure => simp [intOf]; omega
                      · have e4 : r = 4 := by omega
                        subst e4
                        obtain ⟨c0, c1, c2, c3, c4, cf⟩ := S10.out.cells
                        have g2 := cf 2
                        clear cf
                        have SN : Hid (SY (wr.setCell ⟨b, 2, none⟩ (.int .i64 (l + 1))) b d f (l + 1) 0 0) := S10.out.s2 (l + 1)
                        have AN : Hid (SY (wr.setCell ⟨b, 2, none⟩ (.int .i64 (l + 1))) w.heap.size 0 0 0 0 0) := A10.out.keep (by omega) 2 _
                        have BN : Hid (Below w.heap.size w (wr.setCell ⟨b, 2, none⟩ (.int .i64 (l + 1)))) := B10.out.setCell (p := ⟨b, 2, none⟩) (Nat.le_of_lt ne3) _
                        have MS : Hid (msr b (wr.setCell ⟨b, 2, none⟩ (.int .i64 (l + 1))) < msr b wq) := (by
                          show _ < _
                          rw [msr_eq SN.out, MR.out]; omega)
                        clear S10 A10 B10
                        go_wp2_with fail
                        go_roundw
                        case rel => exact ⟨l + 1, by omega, nx_l N4.out, SN, AN, BN⟩
                        case measure => exact MS.out
                · have e13 : l = 13 := by omega
                  subst e13
                  go_wp2_with fail
                  go_roundw
                  case rel => exact ⟨f + 1, by omega, by go_num, nx_f N3.out, A7, B7⟩
                  case measure => simp [intOf]; omega
          · have NT : Hid (∀ l r p, ¬ T5 t X d f l r p) := fun l r p h => (by
              have z := (sok_z h.1).1
              apply hz
              rw [← ed, ← ef, Bool.eq_iff_iff]
              simpa using z)
            cases qf
            · cases qd
              · exact absurd rfl hz
              · clear hz
                go_wp2_with fail
                go_roundw
                case rel => exact ⟨f + 1, by omega, by go_num, nx_fs N2.out NT.out, A3, B3⟩
                case measure => simp [intOf]; omega
            · cases qd
              · clear hz
                go_wp2_with fail
                go_roundw
                case rel => exact ⟨f + 1, by omega, by go_num, nx_fs N2.out NT.out, A3, B3⟩
                case measure => simp [intOf]; omega
              · exact absurd rfl hz
        · have e13 : f = 13 := by omega
          subst e13
          go_wp2_with fail
          go_roundw
          case rel => exact ⟨d + 1, by omega, by go_num, nx_d N2.out, A2, B2⟩
          case measure => simp [intOf]; omega
    · have e9 : d = 9 := by omega
      subst e9
      obtain ⟨a0, a1, a2, a3, a4, af⟩ := A1.out.cells
      have g0 := af 0; have g1 := af 1; have g2 := af 2; have g3 := af 3; have g4 := af 4
      have BE : Hid (∀ y0 y1 y2 y3 y4 : Value, Below w.heap.size w (((((wr.setCell ⟨w.heap.size, 0, none⟩ y0).setCell ⟨w.heap.size, 1, none⟩ y1).setCell ⟨w.heap.size, 2, none⟩ y2).setCell ⟨w.heap.size, 3, none⟩ y3).setCell ⟨w.heap.size, 4, none⟩ y4)) := fun y0 y1 y2 y3 y4 => ((((B1.out.setCell (p := ⟨w.heap.size, 0, none⟩) (Nat.le_refl _) _).setCell (p := ⟨w.heap.size, 1, none⟩) (Nat.le_refl _) _).setCell (p := ⟨w.heap.size, 2, none⟩) (Nat.le_refl _) _).setCell (p := ⟨w.heap.size, 3, none⟩) (Nat.le_refl _) _).setCell (p := ⟨w.heap.size, 4, none⟩) (Nat.le_refl _) _
      clear af
      go_wp2_with fail
      refine bodyPost_ret (v := .tuple #[.agg #[.int .i64 0, .int .i64 0, .int .i64 0, .int .i64 0, .int .i64 0], .bool false]) (by simp [results, Tryd.results5, go_sem, a0, a1, a2, a3, a4]) rfl ⟨Or.inr ⟨nx_end N1.out, rfl⟩, ?_⟩
      first | exact BE.out _ _ _ _ _ | exact B1.out
end Go.Proofs.YtnbhfjcpimdnlaaDoor.Ph
