/- Phrases: the law. -/
import Derived.Test.YtnbhfjcpimdnlaaDoorSd
namespace Go.Proofs.YtnbhfjcpimdnlaaDoor.Ph
open Go.ChangeShapes Go.WideShapes Go.ChangeAt Go.RowKit
open Go.Proofs.YtnbhfjcpimdnlaaDoor.Rd (big_yes big_no)
theorem ans_T5 {d f l k p t : Int} (h : ans d f l k p t ≠ []) : (t = 1 ∨ t = 2 ∨ t = 3) ∧ T5 t (ans d f l k p t) d f l k p ∧ ans d f l k p t = phr t d f l k p := by
  unfold ans at h ⊢
  cases hs : sok d f l k p with
  | false => rw [hs] at h; simp at h
  | true =>
    cases hi : inn t 1 3 with
    | false => rw [hs, hi] at h; simp at h
    | true => exact ⟨inn3.1 hi, ⟨hs, rfl⟩, rfl⟩
theorem code_keep {w w' : World} {a : Option Addr} {n cap : Nat} (h : Go.Proofs.YtnbhfjcpimdnlaaDoor.Rd.Code w a n cap) (hb : Below w.heap.size w w') : Go.Proofs.YtnbhfjcpimdnlaaDoor.Rd.Code w' a n cap := by
  rcases h with h | ⟨b, o, h1, h2, h3, h4, h5⟩
  · exact Or.inl h
  · refine Or.inr ⟨b, o, h1, Nat.lt_of_lt_of_le h2 hb.size, h3, h4, fun i hi => ?_⟩
    obtain ⟨u, hu, e⟩ := h5 i hi
    exact ⟨u, hu, (hb.cell (p := ⟨b, o + i, none⟩) h2).trans e⟩
set_option maxHeartbeats 4000000 in
set_option maxRecDepth 20000 in
theorem phrLaw0 (a1 : Option Addr) (n1 c1 : Nat) (a2 : Option Addr) (n2 c2 : Nat) (w : World) (hT : Tb w) (h1 : Go.Proofs.YtnbhfjcpimdnlaaDoor.Rd.Code w a1 n1 c1) (h2 : Go.Proofs.YtnbhfjcpimdnlaaDoor.Rd.Code w a2 n2 c2) (m1 : n1 ≤ 1048576) (m2 : n2 ≤ 1048576) :
    Calls Tryd.prog 4 #[.slice a1 n1 c1, .slice a2 n2 c2] w fun e w' => e = .returned (.bool true) ∧ Below w.heap.size w w' := by
  have G1' : Hid (∀ W, Calls Tryd.prog 8 #[.slice a1 n1 c1] W fun e w' => e = .returned (.bool false) ∧ w' = W) := fun W => big_no a1 n1 c1 W m1
  have G2' : Hid (∀ W, Calls Tryd.prog 8 #[.slice a2 n2 c2] W fun e w' => e = .returned (.bool false) ∧ w' = W) := fun W => big_no a2 n2 c2 W m2
  have TK : Hid (∀ W, Below w.heap.size w W → Tb W) := fun W hb => hT.keep hb
  have D1 : Hid (Calls Tryd.prog 9 #[.slice a1 n1 c1] w fun e w' => (∃ d f l k p t : Int, e = .returned (.tuple #[.agg #[.int .i64 d, .int .i64 f, .int .i64 l, .int .i64 k, .int .i64 p], .int .i64 t]) ∧ 0 ≤ t ∧ t < 5) ∧ Below w.heap.size w w') := drawp_any a1 n1 c1 w h1 m1
  have D2 : Hid (∀ W, Below w.heap.size w W → Calls Tryd.prog 12 #[.slice a2 n2 c2] W fun e w' => (∃ (x : ByteArray) (t : Int), e = .returned (.tuple #[.string x, .int .i64 t]) ∧ x.size ≤ 1000 ∧ 0 ≤ t ∧ t ≤ 5) ∧ Below W.heap.size W w') := fun W hb => drawr_any a2 n2 c2 W (code_keep h2 hb) m2
  clear h1 h2 hT m1 m2
  go_enter Tryd.func4, Tryd.ntmps4
  go_wp2_with fail
  refine (G1'.out _).mono ?_
  rintro e wz ⟨rfl, hw⟩
  have hw' := hw.symm
  subst hw'
  clear hw
  go_wp2_with fail
  refine (G2'.out _).mono ?_
  rintro e wz ⟨rfl, hw⟩
  have hw' := hw.symm
  subst hw'
  clear hw G1' G2'
  go_wp2_with fail
  refine D1.out.mono ?_
  rintro e w1 ⟨⟨d, f, l, k, p, t, rfl, t0, t5⟩, b1⟩
  obtain ⟨w2, hw2⟩ : ∃ w2, w2 = w1.alloc (.cells #[.int .i64 d, .int .i64 f, .int .i64 l, .int .i64 k, .int .i64 p] 23) := ⟨_, rfl⟩
  have HW2 : Hid (w2 = w1.alloc (.cells #[.int .i64 d, .int .i64 f, .int .i64 l, .int .i64 k, .int .i64 p] 23)) := hw2
  have B2 : Hid (Below w.heap.size w w2) := (by show Below _ _ _; rw [hw2]; exact b1.alloc b1.size _)
  have S2 : Hid (SY w2 w1.heap.size d f l k p) := (by show SY _ _ _ _ _ _ _; rw [hw2]; exact heap_alloc_new w1 _)
  clear hw2 b1 D1
  go_upto_region 4 with fail
  rw [← HW2.out]
  clear HW2
  generalize w1.heap.size = a at *
  have ok1 : okn t := by unfold okn; omega
  have C10 : Hid (∀ W, Calls Tryd.prog 10 #[.agg #[.int .i64 d, .int .i64 f, .int .i64 l, .int .i64 k, .int .i64 p], .int .i64 t] W fun e w' => e = .returned (.string ⟨(ans d f l k p t).toArray⟩) ∧ Below W.heap.size W w') := fun W => sphrase_any d f l k p t W
  have C11 : Hid (∀ W, Tb W → Calls Tryd.prog 11 #[.agg #[.int .i64 d, .int .i64 f, .int .i64 l, .int .i64 k, .int .i64 p], .int .i64 t] W fun e w' => e = .returned (.string ⟨(ans d f l k p t).toArray⟩) ∧ Below W.heap.size W w') := fun W h => iphrase_any d f l k p t W h ok1
  obtain ⟨j, hj⟩ : ∃ j, t % 3 = j := ⟨_, rfl⟩
  have et : t.tmod 3 = j := by rw [Int.tmod_eq_emod_of_nonneg t0]; exact hj
  have j0 : 0 ≤ j ∧ j ≤ 2 := by omega
  have CA : Hid (ans d f l k p t ≠ [] → (∀ W, Tb W → Calls Tryd.prog 6 #[.string ⟨(ans d f l k p t).toArray⟩, .int .i64 t] W fun e w' => e = .returned (.tuple #[.agg #[.int .i64 d, .int .i64 f, .int .i64 l, .int .i64 k, .int .i64 p], .bool true]) ∧ Below W.heap.size W w') ∧ (∀ W, Tb W → Calls Tryd.prog 6 #[.string ⟨(ans d f l k p t).toArray⟩, .int .i64 (j + 1)] W fun e w' => e = .returned (.tuple #[.agg #[.int .i64 0, .int .i64 0, .int .i64 0, .int .i64 0, .int .i64 0], .bool false]) ∧ Below W.heap.size W w')) := fun hne => (by
    obtain ⟨t3, hT5, e⟩ := ans_T5 hne
    have hl := hT5.len t3
    obtain ⟨q1, q2⟩ := T5_tell t3 hT5
    have n := no_tell (t := t % 3 + 1) (X := ans d f l k p t) (fun _ => by rw [e]; exact no_other t d f l k p t3 hT5.1)
    refine ⟨fun W h => ?_, fun W h => ?_⟩
    · have := iread_any (ans d f l k p t) t W h ok1 (by omega)
      rw [q1, q2] at this
      exact this
    · have := iread_any (ans d f l k p t) (t % 3 + 1) W h (by unfold okn; omega) (by omega)
      rw [n.1, n.2, hj] at this
      exact this)
  obtain ⟨x, hx⟩ : ∃ x : ByteArray, x = ⟨(ans d f l k p t).toArray⟩ := ⟨_, rfl⟩
  obtain ⟨q, hq⟩ : ∃ q, decide (ans d f l k p t = []) = q := ⟨_, rfl⟩
  have E0 : x.toList = ans d f l k p t := by rw [hx, Lib.toList_data]
  have E1 : (x.toList == []) = q := by rw [E0, ← hq]; rw [Bool.eq_iff_iff]; simp
  have E2 : (x.toList == (⟨#[]⟩ : ByteArray).toList) = q := by rw [Lib.toList_data (⟨#[]⟩ : ByteArray)]; exact E1
  have E3 : x.toList.isEmpty = q := by rw [← E1]; cases x.toList <;> rfl
  have HQ : Hid (q = false → ans d f l k p t ≠ []) := fun e => of_decide_eq_false (hq.trans e)
  rw [← hx] at C10 C11 CA
  clear hx hq hj E0
  obtain ⟨y0, y1, y2, y3, y4, -⟩ := S2.out.cells
  go_wp2_with fail
  refine (C10.out _).mono ?_
  rintro e w3 ⟨rfl, b3⟩
  have B3 : Hid (Below w.heap.size w w3) := B2.out.trans (b3.mono B2.out.size)
  have S3 : Hid (SY w3 a d f l k p) := S2.out.on b3 S2.out.lt
  clear b3 y0 y1 y2 y3 y4 B2 S2 C10
  obtain ⟨y0, y1, y2, y3, y4, -⟩ := S3.out.cells
  go_wp2_with fail
  refine (C11.out _ (TK.out _ B3.out)).mono ?_
  rintro e w4 ⟨rfl, b4⟩
  have B4 : Hid (Below w.heap.size w w4) := B3.out.trans (b4.mono B3.out.size)
  have S4 : Hid (SY w4 a d f l k p) := S3.out.on b4 S3.out.lt
  clear b4 y0 y1 y2 y3 y4 B3 S3 C11
  go_upto_if 40 with fail
  go_cut [9] (fun _ wx => Hid (Below w.heap.size w wx))
  case first =>
    cases q
    · obtain ⟨CA1, CA2⟩ := CA.out (HQ.out (by first | rfl | trivial))
      have HA1 : Hid (∀ W, Tb W → Calls Tryd.prog 6 #[.string x, .int .i64 t] W fun e w' => e = .returned (.tuple #[.agg #[.int .i64 d, .int .i64 f, .int .i64 l, .int .i64 k, .int .i64 p], .bool true]) ∧ Below W.heap.size W w') := CA1
      have HA2 : Hid (∀ W, Tb W → Calls Tryd.prog 6 #[.string x, .int .i64 (j + 1)] W fun e w' => e = .returned (.tuple #[.agg #[.int .i64 0, .int .i64 0, .int .i64 0, .int .i64 0, .int .i64 0], .bool false]) ∧ Below W.heap.size W w') := CA2
      clear CA1 CA2 CA
      go_wp2_with fail
      refine (HA1.out _ (TK.out _ B4.out)).mono ?_
      rintro e w5 ⟨rfl, b5⟩
      obtain ⟨w6, hw6⟩ : ∃ w6, w6 = w5.alloc (.cells #[.int .i64 d, .int .i64 f, .int .i64 l, .int .i64 k, .int .i64 p] 23) := ⟨_, rfl⟩
      have HW6 : Hid (w6 = w5.alloc (.cells #[.int .i64 d, .int .i64 f, .int .i64 l, .int .i64 k, .int .i64 p] 23)) := hw6
      have b6 : Below w4.heap.size w4 w6 := (by rw [hw6]; exact b5.alloc b5.size _)
      have B6 : Hid (Below w.heap.size w w6) := B4.out.trans (b6.mono B4.out.size)
      have S6 : Hid (SY w6 a d f l k p) := S4.out.on b6 S4.out.lt
      have R6 : Hid (SY w6 w5.heap.size d f l k p) := (by show SY _ _ _ _ _ _ _; rw [hw6]; exact heap_alloc_new w5 _)
      clear hw6 b6 b5 B4 S4 HA1
      go_upto_region 10 with fail
      rw [← HW6.out]
      clear HW6
      generalize w5.heap.size = b at *
      go_wp2_with fail
      refine (HA2.out _ (TK.out _ B6.out)).mono ?_
      rintro e w7 ⟨rfl, b7⟩
      have b8 : Below w6.heap.size w6 (w7.alloc (.cells #[.int .i64 0, .int .i64 0, .int .i64 0, .int .i64 0, .int .i64 0] 23)) := b7.alloc b7.size _
      have B8 : Hid (Below w.heap.size w (w7.alloc (.cells #[.int .i64 0, .int .i64 0, .int .i64 0, .int .i64 0, .int .i64 0] 23))) := B6.out.trans (b8.mono B6.out.size)
      have S8 := S6.out.on b7 S6.out.lt
      have R8 := R6.out.on b7 R6.out.lt
      have la := S8.lt
      have lb := R8.lt
      obtain ⟨y0, y1, y2, y3, y4, -⟩ := S8.cells
      obtain ⟨z0, z1, z2, z3, z4, -⟩ := R8.cells
      have na : ¬ a = w7.heap.size := by omega
      have nb : ¬ b = w7.heap.size := by omega
      clear b7 b8 S8 R8 B6 S6 R6 HA2
      go_wp2_with fail
      go_meet
      exact B8
    · clear CA
      go_wp2_with fail
      go_meet
      exact B4
  case rest =>
    clear B4 S4 E1 E2 E3 HQ CA
    go_wp2_with fail
    refine (D2.out _ hcut.out).mono ?_
    rintro e w5 ⟨⟨x2, t2, rfl, hs2, u0, u5'⟩, b5⟩
    have B5 : Hid (Below w.heap.size w w5) := hcut.out.trans (b5.mono hcut.out.size)
    clear b5 hcut D2
    obtain ⟨X2, rfl⟩ : ∃ X : List UInt8, x2 = ⟨X.toArray⟩ := ⟨x2.data.toList, by cases x2; simp⟩
    have ok2 : okn t2 := by unfold okn; omega
    have l2 : X2.length ≤ 2000000 := by simp [ByteArray.size] at hs2; omega
    obtain ⟨d2, hd2⟩ : ∃ d2, (told t2 X2).1 = d2 := ⟨_, rfl⟩
    obtain ⟨f2, hf2⟩ : ∃ f2, (told t2 X2).2.1 = f2 := ⟨_, rfl⟩
    obtain ⟨l2', hl2⟩ : ∃ f2, (told t2 X2).2.2.1 = f2 := ⟨_, rfl⟩
    obtain ⟨k2, hk2⟩ : ∃ f2, (told t2 X2).2.2.2.1 = f2 := ⟨_, rfl⟩
    obtain ⟨p2, hp2⟩ : ∃ f2, (told t2 X2).2.2.2.2 = f2 := ⟨_, rfl⟩
    obtain ⟨q2, hq2⟩ : ∃ q, tell t2 X2 = q := ⟨_, rfl⟩
    have eS : sayV (told t2 X2) = .agg #[.int .i64 d2, .int .i64 f2, .int .i64 l2', .int .i64 k2, .int .i64 p2] := by unfold sayV; rw [hd2, hf2, hl2, hk2, hp2]
    have SC : Hid (∀ W, Calls Tryd.prog 5 #[.string ⟨X2.toArray⟩, .int .i64 t2] W fun e w' => e = .returned (.tuple #[.agg #[.int .i64 d2, .int .i64 f2, .int .i64 l2', .int .i64 k2, .int .i64 p2], .bool q2]) ∧ Below W.heap.size W w') := fun W => (by have := sread_any X2 t2 W; rwa [eS, hq2] at this)
    have IC : Hid (∀ W, Tb W → Calls Tryd.prog 6 #[.string ⟨X2.toArray⟩, .int .i64 t2] W fun e w' => e = .returned (.tuple #[.agg #[.int .i64 d2, .int .i64 f2, .int .i64 l2', .int .i64 k2, .int .i64 p2], .bool q2]) ∧ Below W.heap.size W w') := fun W h => (by have := iread_any X2 t2 W h ok2 l2; rwa [eS, hq2] at this)
    have PC : Hid (q2 = true → ∀ W, Tb W → Calls Tryd.prog 11 #[.agg #[.int .i64 d2, .int .i64 f2, .int .i64 l2', .int .i64 k2, .int .i64 p2], .int .i64 t2] W fun e w' => e = .returned (.string ⟨X2.toArray⟩) ∧ Below W.heap.size W w') := fun hh W h => (by
      have hte := hq2.trans hh
      obtain ⟨t3, g⟩ := tell_T5 hte
      have et2 : told t2 X2 = rdp t2 X2 := by unfold told; rw [if_pos hte]
      rw [et2] at hd2 hf2 hl2 hk2 hp2
      rw [hd2, hf2, hl2, hk2, hp2] at g
      have := iphrase_any d2 f2 l2' k2 p2 t2 W h ok2
      unfold ans at this
      rwa [g.1, inn3.2 t3, if_pos (by rfl), g.2] at this)
    generalize (⟨X2.toArray⟩ : ByteArray) = x2 at *
    clear eS hd2 hf2 hl2 hk2 hp2 hq2 hs2 l2
    go_wp2_with fail
    refine (SC.out _).mono ?_
    rintro e w6 ⟨rfl, b6⟩
    have B6 : Hid (Below w.heap.size w (w6.alloc (.cells #[.int .i64 d2, .int .i64 f2, .int .i64 l2', .int .i64 k2, .int .i64 p2] 23))) := (by have := B5.out.trans (b6.mono B5.out.size); exact this.alloc this.size _)
    clear b6 B5 SC
    go_wp2_with fail
    refine (IC.out _ (TK.out _ B6.out)).mono ?_
    rintro e w7 ⟨rfl, b7⟩
    have B7 : Hid (Below w.heap.size w w7) := B6.out.trans (b7.mono B6.out.size)
    have B8 : Hid (Below w.heap.size w (w7.alloc (.cells #[.int .i64 d2, .int .i64 f2, .int .i64 l2', .int .i64 k2, .int .i64 p2] 23))) := B7.out.alloc B7.out.size _
    clear b7 B6 IC
    cases q2
    · go_wp2_with fail
      go_ret
      exact ⟨rfl, B8.out⟩
    · have PC1 : Hid (∀ W, Tb W → Calls Tryd.prog 11 #[.agg #[.int .i64 d2, .int .i64 f2, .int .i64 l2', .int .i64 k2, .int .i64 p2], .int .i64 t2] W fun e w' => e = .returned (.string x2) ∧ Below W.heap.size W w') := PC.out (by first | rfl | trivial)
      clear PC
      go_wp2_with fail
      refine (PC1.out _ (TK.out _ B8.out)).mono ?_
      rintro e w9 ⟨rfl, b9⟩
      have B9 : Hid (Below w.heap.size w w9) := B8.out.trans (b9.mono B8.out.size)
      clear b9
      go_wp2_with fail
      go_ret
      exact ⟨by first | rfl | simp, B9.out⟩
set_option maxHeartbeats 1000000 in
theorem phrLaw1 (a1 : Option Addr) (n1 c1 : Nat) (a2 : Option Addr) (n2 c2 : Nat) (w : World) (m1 : 1048576 < n1) (l1 : n1 < 9223372036854775808) :
    Calls Tryd.prog 4 #[.slice a1 n1 c1, .slice a2 n2 c2] w fun e w' => e = .returned (.bool true) ∧ Below w.heap.size w w' := by
  have G : Hid (∀ W, Calls Tryd.prog 8 #[.slice a1 n1 c1] W fun e w' => e = .returned (.bool true) ∧ w' = W) := fun W => big_yes a1 n1 c1 W m1 l1
  go_enter Tryd.func4, Tryd.ntmps4
  go_wp2_with fail
  refine (G.out _).mono ?_
  rintro e wz ⟨rfl, hw⟩
  have hw' := hw.symm
  subst hw'
  clear hw
  go_wp2_with fail
  go_ret
  exact ⟨rfl, Below.refl _ _⟩
set_option maxHeartbeats 1000000 in
theorem phrLaw2 (a1 : Option Addr) (n1 c1 : Nat) (a2 : Option Addr) (n2 c2 : Nat) (w : World) (m1 : n1 ≤ 1048576) (m2 : 1048576 < n2) (l2 : n2 < 9223372036854775808) :
    Calls Tryd.prog 4 #[.slice a1 n1 c1, .slice a2 n2 c2] w fun e w' => e = .returned (.bool true) ∧ Below w.heap.size w w' := by
  have G : Hid (∀ W, Calls Tryd.prog 8 #[.slice a1 n1 c1] W fun e w' => e = .returned (.bool false) ∧ w' = W) := fun W => big_no a1 n1 c1 W m1
  have G' : Hid (∀ W, Calls Tryd.prog 8 #[.slice a2 n2 c2] W fun e w' => e = .returned (.bool true) ∧ w' = W) := fun W => big_yes a2 n2 c2 W m2 l2
  go_enter Tryd.func4, Tryd.ntmps4
  go_wp2_with fail
  refine (G.out _).mono ?_
  rintro e wz ⟨rfl, hw⟩
  have hw' := hw.symm
  subst hw'
  clear hw
  go_wp2_with fail
  refine (G'.out _).mono ?_
  rintro e wz ⟨rfl, hw⟩
  have hw' := hw.symm
  subst hw'
  clear hw
  go_wp2_with fail
  go_ret
  exact ⟨rfl, Below.refl _ _⟩
/-- for every two codes the law returns true -/
theorem phrLaw (a1 : Option Addr) (n1 c1 : Nat) (a2 : Option Addr) (n2 c2 : Nat) (w : World) (hT : Tb w) (h1 : Go.Proofs.YtnbhfjcpimdnlaaDoor.Rd.Code w a1 n1 c1) (h2 : Go.Proofs.YtnbhfjcpimdnlaaDoor.Rd.Code w a2 n2 c2) (l1 : n1 < 9223372036854775808) (l2 : n2 < 9223372036854775808) :
    Calls Tryd.prog 4 #[.slice a1 n1 c1, .slice a2 n2 c2] w fun e w' => e = .returned (.bool true) ∧ Below w.heap.size w w' := by
  by_cases m1 : n1 ≤ 1048576
  · by_cases m2 : n2 ≤ 1048576
    · exact phrLaw0 a1 n1 c1 a2 n2 c2 w hT h1 h2 m1 m2
    · exact phrLaw2 a1 n1 c1 a2 n2 c2 w m1 (by omega) l2
  · exact phrLaw1 a1 n1 c1 a2 n2 c2 w (by omega) l1
end Go.Proofs.YtnbhfjcpimdnlaaDoor.Ph
