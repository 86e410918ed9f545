/- FnLaid: the law. -/
import Derived.Test.YtgfcimbhfbgnfaaDt
import Derived.Test.YtgfcimbhfbgnfaaLp
namespace Go.Proofs.Ytgfcimbhfbgnfaa.Sk
open Go.ChangeShapes Go.WideShapes Go.ChangeAt Go.RowKit
open Go.Proofs.Ytgfcimbhfbgnfaa.Al Go.Proofs.Ytgfcimbhfbgnfaa.Rd

/-- the law's boxes -/
structure LB (w : World) (ka kb kx : Nat) (d p v : Int) (W C : ByteArray) (b d2 p2 v2 : Int) (W2 C2 : ByteArray) (b2 x0 x1 x2 : Int) (x3 x4 : ByteArray) (x5 : Int) (wx : World) : Prop where
  a : SB wx ka d p v W C b
  b' : SB wx kb d2 p2 v2 W2 C2 b2
  x : SB wx kx x0 x1 x2 x3 x4 x5
  bl : Below w.heap.size w wx
theorem LB.on {w : World} {ka kb kx : Nat} {d p v : Int} {W C : ByteArray} {b d2 p2 v2 : Int} {W2 C2 : ByteArray} {b2 x0 x1 x2 : Int} {x3 x4 : ByteArray} {x5 : Int} {wx w' : World} (h : LB w ka kb kx d p v W C b d2 p2 v2 W2 C2 b2 x0 x1 x2 x3 x4 x5 wx) (hb : Below wx.heap.size wx w') : LB w ka kb kx d p v W C b d2 p2 v2 W2 C2 b2 x0 x1 x2 x3 x4 x5 w' :=
  ⟨h.a.on hb h.a.lt, h.b'.on hb h.b'.lt, h.x.on hb h.x.lt, h.bl.trans (hb.mono h.bl.size)⟩

set_option maxRecDepth 20000 in
set_option maxHeartbeats 60000000 in
theorem laidLaw (a : Option Addr) (n0 cap : Nat) (w : World) (hc : Go.Proofs.Ytgfcimbhfbgnfaa.Rd.Code w a n0 cap) (hn : n0 < 9223372036854775808) : Calls Try.prog 3 #[.slice a n0 cap] w fun e w' => e = .returned (.bool true) ∧ Below w.heap.size w w' := by
  by_cases hbig : 1048576 < n0
  · have BG : Hid (Calls Try.prog 4 #[.slice a n0 cap] w fun e w' => e = .returned (.bool true) ∧ w' = w) := big_yes a n0 cap w hbig hn
    clear hc hn hbig
    go_enter Try.func3, Try.ntmps3
    go_wp2_with fail
    refine BG.out.mono ?_
    rintro e w1 ⟨rfl, rfl⟩
    go_wp2_with fail
    go_ret
    exact ⟨rfl, Below.refl _ _⟩
  have BG : Hid (Calls Try.prog 4 #[.slice a n0 cap] w fun e w' => e = .returned (.bool false) ∧ w' = w) := big_no a n0 cap w (by omega)
  have DR : Hid (Calls Try.prog 5 #[.slice a n0 cap] w fun e w' => (∃ d p v W C b d2 p2 v2 W2 C2 b2, e = .returned (.tuple #[sk d p v W C b, sk d2 p2 v2 W2 C2 b2])) ∧ Below w.heap.size w w') := dlaid_any a n0 cap w hc (by omega)
  clear hc hn hbig
  go_enter Try.func3, Try.ntmps3
  go_wp2_with fail
  refine BG.out.mono ?_
  rintro e w1 ⟨rfl, rfl⟩
  go_wp2_with fail
  refine DR.out.mono ?_
  rintro e w2 ⟨⟨d, p, v, W, C, b, d2, p2, v2, W2, C2, b2, rfl⟩, hb2⟩
  obtain ⟨xx, hxx⟩ : ∃ xx, xx = laid (d, p, v, W, C, b) (d2, p2, v2, W2, C2, b2) := ⟨_, rfl⟩
  have HXX : Hid (xx = laid (d, p, v, W, C, b) (d2, p2, v2, W2, C2, b2)) := hxx
  have IA0 : ∀ w, Calls Try.prog 6 #[sk d p v W C b, sk d2 p2 v2 W2 C2 b2] w fun e w' => e = .returned (sv xx) ∧ Below w.heap.size w w' := (by rw [hxx]; exact fun w => ilaid_any d p v W C b d2 p2 v2 W2 C2 b2 w)
  have SA0 : ∀ w, Calls Try.prog 7 #[sk d p v W C b, sk d2 p2 v2 W2 C2 b2] w fun e w' => e = .returned (sv xx) ∧ Below w.heap.size w w' := (by rw [hxx]; exact fun w => slaid_any d p v W C b d2 p2 v2 W2 C2 b2 w)
  clear hxx
  obtain ⟨x0, x1, x2, x3, x4, x5⟩ := xx
  have IA : Hid (∀ w, Calls Try.prog 6 #[sk d p v W C b, sk d2 p2 v2 W2 C2 b2] w fun e w' => e = .returned (sk x0 x1 x2 x3 x4 x5) ∧ Below w.heap.size w w') := IA0
  have SA : Hid (∀ w, Calls Try.prog 7 #[sk d p v W C b, sk d2 p2 v2 W2 C2 b2] w fun e w' => e = .returned (sk x0 x1 x2 x3 x4 x5) ∧ Below w.heap.size w w') := SA0
  clear IA0 SA0
  obtain ⟨wb, hwb⟩ : ∃ wb, wb = (w2.alloc (.cells #[.int .i64 d, .int .i64 p, .int .i64 v, .string W, .string C, .int .i64 b] 25)).alloc (.cells #[.int .i64 d2, .int .i64 p2, .int .i64 v2, .string W2, .string C2, .int .i64 b2] 25) := ⟨_, rfl⟩
  have HW : Hid (wb = (w2.alloc (.cells #[.int .i64 d, .int .i64 p, .int .i64 v, .string W, .string C, .int .i64 b] 25)).alloc (.cells #[.int .i64 d2, .int .i64 p2, .int .i64 v2, .string W2, .string C2, .int .i64 b2] 25)) := hwb
  have K0 : Hid (SB wb w2.heap.size d p v W C b ∧ SB wb (w2.heap.size + 1) d2 p2 v2 W2 C2 b2 ∧ Below w1.heap.size w1 wb) := (by
    show _ ∧ _ ∧ _
    rw [hwb]
    refine ⟨(SB.new w2 d p v W C b).on ((Below.refl _ _).alloc (Nat.le_refl _) _) (by simp), ?_, (hb2.alloc hb2.size _).alloc (by have := hb2.size; simp; omega) _⟩
    have := SB.new (w2.alloc (.cells #[.int .i64 d, .int .i64 p, .int .i64 v, .string W, .string C, .int .i64 b] 25)) d2 p2 v2 W2 C2 b2
    simpa using this)
  clear hwb hb2 BG DR
  go_upto_region 4 with fail
  rw [← HW.out]
  clear HW
  obtain ⟨ka, hka⟩ : ∃ ka, ka = w2.heap.size := ⟨_, rfl⟩
  obtain ⟨kb, hkb⟩ : ∃ kb, kb = w2.heap.size + 1 := ⟨_, rfl⟩
  rw [← hkb, ← hka] at K0
  rw [← hkb, ← hka]
  clear hka hkb
  obtain ⟨a0, a1, a2, a3, a4, a5, _⟩ := K0.out.1.cells
  obtain ⟨c0, c1, c2, c3, c4, c5, _⟩ := K0.out.2.1.cells
  go_wp2_with fail
  refine (IA.out _).mono ?_
  rintro e w3 ⟨rfl, hb3⟩
  have L0 : Hid (LB w1 ka kb w3.heap.size d p v W C b d2 p2 v2 W2 C2 b2 x0 x1 x2 x3 x4 x5 (w3.alloc (.cells #[.int .i64 x0, .int .i64 x1, .int .i64 x2, .string x3, .string x4, .int .i64 x5] 25))) := (by
    have k1 := K0.out.1.on hb3 K0.out.1.lt
    have k2 := K0.out.2.1.on hb3 K0.out.2.1.lt
    have k3 := K0.out.2.2.trans (hb3.mono K0.out.2.2.size)
    exact ⟨k1.on ((Below.refl _ _).alloc (Nat.le_refl _) _) k1.lt, k2.on ((Below.refl _ _).alloc (Nat.le_refl _) _) k2.lt, SB.new _ _ _ _ _ _ _, k3.alloc k3.size _⟩)
  clear hb3 K0 a0 a1 a2 a3 a4 a5 c0 c1 c2 c3 c4 c5
  go_upto_region 5 with fail
  obtain ⟨kx, hkx⟩ : ∃ kx, kx = w3.heap.size := ⟨_, rfl⟩
  rw [← hkx] at L0 ⊢
  obtain ⟨wd, hwd⟩ : ∃ wd, wd = w3.alloc (.cells #[.int .i64 x0, .int .i64 x1, .int .i64 x2, .string x3, .string x4, .int .i64 x5] 25) := ⟨_, rfl⟩
  rw [← hwd] at L0 ⊢
  clear hwd hkx
  go_cut [21] (fun q wx => q = .bool false ∧ Hid (LB w1 ka kb kx d p v W C b d2 p2 v2 W2 C2 b2 x0 x1 x2 x3 x4 x5 wx))
  case first =>
    obtain ⟨a0, a1, a2, a3, a4, a5, _⟩ := L0.out.a.cells
    obtain ⟨c0, c1, c2, c3, c4, c5, _⟩ := L0.out.b'.cells
    obtain ⟨e0, e1, e2, e3, e4, e5, _⟩ := L0.out.x.cells
    have NE : ∀ w, (binOp .neq 25 (sk x0 x1 x2 x3 x4 x5) (sk x0 x1 x2 x3 x4 x5)).run Try.prog w = .ok (.bool false) w := fun w => (by rw [neqU]; rw [show sm x0 x1 x2 x3 x4 x5 x0 x1 x2 x3 x4 x5 = true from smS_self (x0, x1, x2, x3, x4, x5)]; rfl)
    have GU := guard25
    have CR : Hid (Calls Try.prog 7 #[sk d p v W C b, sk d2 p2 v2 W2 C2 b2] wd.drew fun e w' => e = .returned (sk x0 x1 x2 x3 x4 x5) ∧ Below wd.heap.size wd w') := (SA.out wd.drew).mono (by rintro e w' ⟨rfl, hb⟩; exact ⟨rfl, (Below.refl _ _).drew.trans hb⟩)
    go_region_held3 (fun w' => w'.cell? ⟨ka, 0, none⟩ = some (.int .i64 (d)) ∧ w'.cell? ⟨ka, 1, none⟩ = some (.int .i64 (p)) ∧ w'.cell? ⟨ka, 2, none⟩ = some (.int .i64 (v)) ∧ w'.cell? ⟨ka, 3, none⟩ = some (.string W) ∧ w'.cell? ⟨ka, 4, none⟩ = some (.string C) ∧ w'.cell? ⟨ka, 5, none⟩ = some (.int .i64 (b)) ∧ w'.cell? ⟨kb, 0, none⟩ = some (.int .i64 (d2)) ∧ w'.cell? ⟨kb, 1, none⟩ = some (.int .i64 (p2)) ∧ w'.cell? ⟨kb, 2, none⟩ = some (.int .i64 (v2)) ∧ w'.cell? ⟨kb, 3, none⟩ = some (.string W2) ∧ w'.cell? ⟨kb, 4, none⟩ = some (.string C2) ∧ w'.cell? ⟨kb, 5, none⟩ = some (.int .i64 (b2)) ∧ w'.cell? ⟨kx, 0, none⟩ = some (.int .i64 (x0)) ∧ w'.cell? ⟨kx, 1, none⟩ = some (.int .i64 (x1)) ∧ w'.cell? ⟨kx, 2, none⟩ = some (.int .i64 (x2)) ∧ w'.cell? ⟨kx, 3, none⟩ = some (.string x3) ∧ w'.cell? ⟨kx, 4, none⟩ = some (.string x4) ∧ w'.cell? ⟨kx, 5, none⟩ = some (.int .i64 (x5))) (go_keep)
      ((go_at_call 7; refine CR.out.mono ?_; rintro e w7 ⟨rfl, b7⟩; have L7 : Hid (LB w1 ka kb kx d p v W C b d2 p2 v2 W2 C2 b2 x0 x1 x2 x3 x4 x5 w7) := L0.out.on b7; obtain ⟨a70, a71, a72, a73, a74, a75, _⟩ := L7.out.a.cells; obtain ⟨c70, c71, c72, c73, c74, c75, _⟩ := L7.out.b'.cells; obtain ⟨e70, e71, e72, e73, e74, e75, _⟩ := L7.out.x.cells; clear b7))
    all_goals
      go_wp2_with fail
      go_meet
      exact ⟨rfl, L7⟩
  case rest =>
    obtain ⟨we, hq⟩ : ∃ q : World, q = wc := ⟨_, rfl⟩
    subst hq
    obtain ⟨rfl, L1⟩ := hcut
    clear L0 IA SA
    have C1 : Hid (∀ w, Calls Try.prog 8 #[sk d p v W C b] w fun e w' => e = .returned (.bool (ok d p v W C b)) ∧ Below w.heap.size w w') := fun w => sok_any d p v W C b w
    have C2' : Hid (∀ w, Calls Try.prog 8 #[sk d2 p2 v2 W2 C2 b2] w fun e w' => e = .returned (.bool (ok d2 p2 v2 W2 C2 b2)) ∧ Below w.heap.size w w') := fun w => sok_any d2 p2 v2 W2 C2 b2 w
    obtain ⟨a0, a1, a2, a3, a4, a5, _⟩ := L1.out.a.cells
    cases hoa : ok d p v W C b
    · have HZ : (x0, x1, x2, x3, x4, x5) = ((0 : Int), (0 : Int), (0 : Int), E, E, (0 : Int)) := (by rw [HXX.out]; show (if (ok d p v W C b && ok d2 p2 v2 W2 C2 b2) = true then _ else _) = _; rw [hoa]; rfl)
      rw [hoa] at C1
      clear HXX C2' hoa
      simp only [Prod.mk.injEq] at HZ
      obtain ⟨rfl, rfl, rfl, rfl, rfl, rfl⟩ := HZ
      have EZ : ∀ w, (binOp .eql 25 (sk 0 0 0 E E 0) (sk 0 0 0 E E 0)).run Try.prog w = .ok (.bool true) w := fun w => (by rw [eqlU]; rw [show sm 0 0 0 E E 0 0 0 0 E E 0 = true from smS_self (0, 0, 0, E, E, 0)])
      have GU := guard25
      go_wp2_with fail
      refine (C1.out _).mono ?_
      rintro e w4 ⟨rfl, hb⟩
      have L4 : Hid (LB w1 ka kb kx d p v W C b d2 p2 v2 W2 C2 b2 0 0 0 E E 0 w4) := L1.out.on hb
      clear hb a0 a1 a2 a3 a4 a5 C1 L1
      obtain ⟨e0, e1, e2, e3, e4, e5, _⟩ := L4.out.x.cells
      go_wp2_with fail
      go_ret
      exact ⟨rfl, L4.out.bl⟩
    cases hob : ok d2 p2 v2 W2 C2 b2
    · have HZ : (x0, x1, x2, x3, x4, x5) = ((0 : Int), (0 : Int), (0 : Int), E, E, (0 : Int)) := (by rw [HXX.out]; show (if (ok d p v W C b && ok d2 p2 v2 W2 C2 b2) = true then _ else _) = _; rw [hoa, hob]; rfl)
      rw [hoa] at C1
      rw [hob] at C2'
      clear HXX hoa hob
      simp only [Prod.mk.injEq] at HZ
      obtain ⟨rfl, rfl, rfl, rfl, rfl, rfl⟩ := HZ
      have EZ : ∀ w, (binOp .eql 25 (sk 0 0 0 E E 0) (sk 0 0 0 E E 0)).run Try.prog w = .ok (.bool true) w := fun w => (by rw [eqlU]; rw [show sm 0 0 0 E E 0 0 0 0 E E 0 = true from smS_self (0, 0, 0, E, E, 0)])
      have GU := guard25
      go_wp2_with fail
      refine (C1.out _).mono ?_
      rintro e w4 ⟨rfl, hb⟩
      have L4 : Hid (LB w1 ka kb kx d p v W C b d2 p2 v2 W2 C2 b2 0 0 0 E E 0 w4) := L1.out.on hb
      clear hb a0 a1 a2 a3 a4 a5 C1 L1
      obtain ⟨c0, c1, c2, c3, c4, c5, _⟩ := L4.out.b'.cells
      go_wp2_with fail
      refine (C2'.out _).mono ?_
      rintro e w5 ⟨rfl, hb⟩
      have L5 : Hid (LB w1 ka kb kx d p v W C b d2 p2 v2 W2 C2 b2 0 0 0 E E 0 w5) := L4.out.on hb
      clear hb c0 c1 c2 c3 c4 c5 C2' L4
      obtain ⟨e0, e1, e2, e3, e4, e5, _⟩ := L5.out.x.cells
      go_wp2_with fail
      go_ret
      exact ⟨rfl, L5.out.bl⟩
    have HL : Hid ((x0, x1, x2, x3, x4, x5) = lay (d, p, v, W, C, b) (d2, p2, v2, W2, C2, b2)) := (by show _ = _; rw [HXX.out]; show (if (ok d p v W C b && ok d2 p2 v2 W2 C2 b2) = true then _ else _) = _; rw [hoa, hob]; rfl)
    have OKX : Hid (ok x0 x1 x2 x3 x4 x5 = true) := (by
      have h := ok_lay (d, p, v, W, C, b) (d2, p2, v2, W2, C2, b2) hoa hob
      rw [← HL.out] at h
      exact h)
    -- what the calls answer
    have LD : ∀ p q : Sky, okk p = true → okk q = true → laid p q = lay p q := fun p q h1 h2 => (by unfold laid; rw [h1, h2]; rfl)
    obtain ⟨z1, hz1⟩ : ∃ z1, z1 = laid (x0, x1, x2, x3, x4, x5) (d2, p2, v2, W2, C2, b2) := ⟨_, rfl⟩
    have M1 : smS z1 (x0, x1, x2, x3, x4, x5) = true := (by rw [hz1, LD _ _ OKX.out hob, HL.out]; exact lay_again _ _)
    have I1 : ∀ w, Calls Try.prog 6 #[sk x0 x1 x2 x3 x4 x5, sk d2 p2 v2 W2 C2 b2] w fun e w' => e = .returned (sv z1) ∧ Below w.heap.size w w' := (by rw [hz1]; exact fun w => ilaid_any x0 x1 x2 x3 x4 x5 d2 p2 v2 W2 C2 b2 w)
    obtain ⟨z2, hz2⟩ : ∃ z2, z2 = laid (d, p, v, W, C, b) non := ⟨_, rfl⟩
    have M2 : smS z2 (d, p, v, W, C, b) = true := (by rw [hz2, LD _ _ hoa ok_non, lay_non]; exact smS_self _)
    have I2 : ∀ w, Calls Try.prog 6 #[sk d p v W C b, sk (-1) 0 (-1) E E 0] w fun e w' => e = .returned (sv z2) ∧ Below w.heap.size w w' := (by rw [hz2]; exact fun w => ilaid_any d p v W C b (-1) 0 (-1) E E 0 w)
    obtain ⟨z3, hz3⟩ : ∃ z3, z3 = laid non (d, p, v, W, C, b) := ⟨_, rfl⟩
    have M3 : smS z3 (d, p, v, W, C, b) = true := (by rw [hz3, LD _ _ ok_non hoa]; exact non_lay _ hoa)
    have I3 : ∀ w, Calls Try.prog 6 #[sk (-1) 0 (-1) E E 0, sk d p v W C b] w fun e w' => e = .returned (sv z3) ∧ Below w.heap.size w w' := (by rw [hz3]; exact fun w => ilaid_any (-1) 0 (-1) E E 0 d p v W C b w)
    obtain ⟨z4, hz4⟩ : ∃ z4, z4 = laid (d2, p2, v2, W2, C2, b2) (x0, x1, x2, x3, x4, x5) := ⟨_, rfl⟩
    have M4 : (x0 == -1) = false → (x2 == -1) = false → (x3.toList == []) = false → (x4.toList == []) = false → smS z4 (x0, x1, x2, x3, x4, x5) = true := fun h1 h2 h3 h4 => (by rw [hz4, LD _ _ hob OKX.out, lay_full (d2, p2, v2, W2, C2, b2) (x0, x1, x2, x3, x4, x5) h1 h2 h3 h4]; exact smS_self _)
    have I4 : ∀ w, Calls Try.prog 6 #[sk d2 p2 v2 W2 C2 b2, sk x0 x1 x2 x3 x4 x5] w fun e w' => e = .returned (sv z4) ∧ Below w.heap.size w w' := (by rw [hz4]; exact fun w => ilaid_any d2 p2 v2 W2 C2 b2 x0 x1 x2 x3 x4 x5 w)
    clear hz1 hz2 hz3 hz4 LD HXX
    obtain ⟨r0, r1, r2, r3, r4, r5⟩ := z1
    obtain ⟨s0, s1, s2, s3, s4, s5⟩ := z2
    obtain ⟨t0, t1, t2, t3, t4, t5⟩ := z3
    obtain ⟨y0, y1, y2, y3, y4, y5⟩ := z4
    have J1 : Hid (∀ w, Calls Try.prog 6 #[sk x0 x1 x2 x3 x4 x5, sk d2 p2 v2 W2 C2 b2] w fun e w' => e = .returned (sk r0 r1 r2 r3 r4 r5) ∧ Below w.heap.size w w') := I1
    have J2 : Hid (∀ w, Calls Try.prog 6 #[sk d p v W C b, sk (-1) 0 (-1) E E 0] w fun e w' => e = .returned (sk s0 s1 s2 s3 s4 s5) ∧ Below w.heap.size w w') := I2
    have J3 : Hid (∀ w, Calls Try.prog 6 #[sk (-1) 0 (-1) E E 0, sk d p v W C b] w fun e w' => e = .returned (sk t0 t1 t2 t3 t4 t5) ∧ Below w.heap.size w w') := I3
    have J4 : Hid (∀ w, Calls Try.prog 6 #[sk d2 p2 v2 W2 C2 b2, sk x0 x1 x2 x3 x4 x5] w fun e w' => e = .returned (sk y0 y1 y2 y3 y4 y5) ∧ Below w.heap.size w w') := I4
    have J0 : Hid (∀ w, Calls Try.prog 9 #[sk x0 x1 x2 x3 x4 x5] w fun e w' => e = .returned (.bool true) ∧ Below w.heap.size w w') := (by
      have h : ∀ w, Calls Try.prog 9 #[sk x0 x1 x2 x3 x4 x5] w fun e w' => e = .returned (.bool (ok x0 x1 x2 x3 x4 x5)) ∧ Below w.heap.size w w' := fun w => iok_any x0 x1 x2 x3 x4 x5 w
      rw [OKX.out] at h
      exact h)
    have N1 : Hid (∀ w, (binOp .neq 25 (sk r0 r1 r2 r3 r4 r5) (sk x0 x1 x2 x3 x4 x5)).run Try.prog w = .ok (.bool false) w) := fun w => (by rw [neqU]; rw [show sm r0 r1 r2 r3 r4 r5 x0 x1 x2 x3 x4 x5 = true from M1]; rfl)
    have N2 : Hid (∀ w, (binOp .neq 25 (sk s0 s1 s2 s3 s4 s5) (sk d p v W C b)).run Try.prog w = .ok (.bool false) w) := fun w => (by rw [neqU]; rw [show sm s0 s1 s2 s3 s4 s5 d p v W C b = true from M2]; rfl)
    have N3 : Hid (∀ w, (binOp .neq 25 (sk t0 t1 t2 t3 t4 t5) (sk d p v W C b)).run Try.prog w = .ok (.bool false) w) := fun w => (by rw [neqU]; rw [show sm t0 t1 t2 t3 t4 t5 d p v W C b = true from M3]; rfl)
    obtain ⟨n1, hn1⟩ : ∃ n1, n1 = !sm y0 y1 y2 y3 y4 y5 x0 x1 x2 x3 x4 x5 := ⟨_, rfl⟩
    have N4 : Hid (∀ w, (binOp .neq 25 (sk y0 y1 y2 y3 y4 y5) (sk x0 x1 x2 x3 x4 x5)).run Try.prog w = .ok (.bool n1) w) := fun w => (by rw [neqU, hn1])
    have M5 : Hid ((x0 == -1) = false → (x2 == -1) = false → (x3.toList == []) = false → (x4.toList == []) = false → n1 = false) := fun h1 h2 h3 h4 => (by rw [hn1, show sm y0 y1 y2 y3 y4 y5 x0 x1 x2 x3 x4 x5 = true from M4 h1 h2 h3 h4]; rfl)
    rw [hoa] at C1
    rw [hob] at C2'
    clear M1 M2 M3 M4 I1 I2 I3 I4 hn1 OKX hoa hob
    go_wp2_with fail
    refine (C1.out _).mono ?_
    rintro e w4 ⟨rfl, hb⟩
    have L4 : Hid (LB w1 ka kb kx d p v W C b d2 p2 v2 W2 C2 b2 x0 x1 x2 x3 x4 x5 w4) := L1.out.on hb
    clear hb a0 a1 a2 a3 a4 a5 C1 L1
    obtain ⟨c0, c1, c2, c3, c4, c5, _⟩ := L4.out.b'.cells
    go_wp2_with fail
    refine (C2'.out _).mono ?_
    rintro e w5 ⟨rfl, hb⟩
    have L5 : Hid (LB w1 ka kb kx d p v W C b d2 p2 v2 W2 C2 b2 x0 x1 x2 x3 x4 x5 (w5.alloc (.cells #[.int .i64 (-1), .int .i64 0, .int .i64 (-1), .string E, .string E, .int .i64 0] 25)) ∧ SB (w5.alloc (.cells #[.int .i64 (-1), .int .i64 0, .int .i64 (-1), .string E, .string E, .int .i64 0] 25)) w5.heap.size (-1) 0 (-1) E E 0) := ⟨(L4.out.on hb).on ((Below.refl _ _).alloc (Nat.le_refl _) _), SB.new _ _ _ _ _ _ _⟩
    clear hb c0 c1 c2 c3 c4 c5 C2' L4
    go_upto_region 10 with fail
    obtain ⟨kn, hkn⟩ : ∃ kn, kn = w5.heap.size := ⟨_, rfl⟩
    rw [← hkn] at L5 ⊢
    obtain ⟨wd, hwd⟩ : ∃ wd, wd = w5.alloc (.cells #[.int .i64 (-1), .int .i64 0, .int .i64 (-1), .string E, .string E, .int .i64 0] 25) := ⟨_, rfl⟩
    rw [← hwd] at L5 ⊢
    clear hwd hkn
    go_cut [84] (fun q wx => q = .bool false ∧ Hid (LB w1 ka kb kx d p v W C b d2 p2 v2 W2 C2 b2 x0 x1 x2 x3 x4 x5 wx))
    case first =>
      have R1 := N1.out
      have R2 := N2.out
      have R3 := N3.out
      have R4 := N4.out
      have GU := guard25
      have Q := M5.out
      clear N1 N2 N3 N4 M5 HL
      obtain ⟨a0, a1, a2, a3, a4, a5, _⟩ := L5.out.1.a.cells
      obtain ⟨c0, c1, c2, c3, c4, c5, _⟩ := L5.out.1.b'.cells
      obtain ⟨f0, f1, f2, f3, f4, f5, _⟩ := L5.out.1.x.cells
      obtain ⟨k0, k1, k2, k3, k4, k5, _⟩ := L5.out.2.cells
      cases n1
      · clear Q
        refine wp_region_held_drew (S := fun w' => w'.cell? ⟨ka, 0, none⟩ = some (.int .i64 (d)) ∧ w'.cell? ⟨ka, 1, none⟩ = some (.int .i64 (p)) ∧ w'.cell? ⟨ka, 2, none⟩ = some (.int .i64 (v)) ∧ w'.cell? ⟨ka, 3, none⟩ = some (.string W) ∧ w'.cell? ⟨ka, 4, none⟩ = some (.string C) ∧ w'.cell? ⟨ka, 5, none⟩ = some (.int .i64 (b)) ∧ w'.cell? ⟨kb, 0, none⟩ = some (.int .i64 (d2)) ∧ w'.cell? ⟨kb, 1, none⟩ = some (.int .i64 (p2)) ∧ w'.cell? ⟨kb, 2, none⟩ = some (.int .i64 (v2)) ∧ w'.cell? ⟨kb, 3, none⟩ = some (.string W2) ∧ w'.cell? ⟨kb, 4, none⟩ = some (.string C2) ∧ w'.cell? ⟨kb, 5, none⟩ = some (.int .i64 (b2)) ∧ w'.cell? ⟨kx, 0, none⟩ = some (.int .i64 (x0)) ∧ w'.cell? ⟨kx, 1, none⟩ = some (.int .i64 (x1)) ∧ w'.cell? ⟨kx, 2, none⟩ = some (.int .i64 (x2)) ∧ w'.cell? ⟨kx, 3, none⟩ = some (.string x3) ∧ w'.cell? ⟨kx, 4, none⟩ = some (.string x4) ∧ w'.cell? ⟨kx, 5, none⟩ = some (.int .i64 (x5)) ∧ w'.cell? ⟨kn, 0, none⟩ = some (.int .i64 (-1)) ∧ w'.cell? ⟨kn, 1, none⟩ = some (.int .i64 (0)) ∧ w'.cell? ⟨kn, 2, none⟩ = some (.int .i64 (-1)) ∧ w'.cell? ⟨kn, 3, none⟩ = some (.string E) ∧ w'.cell? ⟨kn, 4, none⟩ = some (.string E) ∧ w'.cell? ⟨kn, 5, none⟩ = some (.int .i64 (0))) (by kernel_rfl) (by (try dsimp only); go_keep) (fun hHeld => ?_)
        refine wpAnyH_take (i := 0) (oi := { dst := some 34, op := Go.Op.load 25 (Go.Operand.tmp 5), type := 25, pos := "laws.go:1785", after := #[], guard := none }) (v := ?_) rfl (by kernel_rfl) (by kernel_rfl) (by kernel_rfl) (fun _ _ _ h => h) (Or.inl ⟨by rfl, ?_⟩) (by assumption) ?_
        rotate_left 1
        · (intro w hSw; (try dsimp only at hSw); go_simp); all_goals (with_reducible rfl)
        try simp only [Act.put, List.setIfInBounds_toArray, List.set_cons_zero, List.set_cons_succ]
        refine wpAnyH_ready (rs := [1]) (by kernel_rfl) (by simp) ?_
        refine AllReadyH.cons (o := { dst := some 35, op := Go.Op.call { callee := Go.Callee.value (Go.Operand.func 9), args := #[Go.Operand.tmp 34], argTypes := #[25] }, type := 4, pos := "laws.go:1785", after := #[{ on := 0, ground := Go.Ground.data }], guard := none }) rfl (fun K hK => ?_) AllReadyH.nil
        go_simp
        (go_at_call 9; (with_reducible refine (J0.out _).mono ?_); rintro e o1 ⟨rfl, hb1⟩; have M1 : Hid (LB w1 ka kb kx d p v W C b d2 p2 v2 W2 C2 b2 x0 x1 x2 x3 x4 x5 o1 ∧ SB o1 kn (-1) 0 (-1) E E 0) := (by have z := L5.out.1.on ((Below.refl _ _).drew.trans hb1); have y := L5.out.2.on ((Below.refl _ _).drew.trans hb1) L5.out.2.lt; exact ⟨z, y⟩); obtain ⟨a10, a11, a12, a13, a14, a15, _⟩ := M1.out.1.a.cells; obtain ⟨c10, c11, c12, c13, c14, c15, _⟩ := M1.out.1.b'.cells; obtain ⟨f10, f11, f12, f13, f14, f15, _⟩ := M1.out.1.x.cells; obtain ⟨k10, k11, k12, k13, k14, k15, _⟩ := M1.out.2.cells; clear hb1)
        go_wp2_with fail
        refine hK.out _ _ (by (try dsimp only); go_keep) (fun hHeld2 => ?_)
        clear hK K hHeld
        have hHeld := hHeld2
        clear hHeld2
        try simp only [Act.put, List.setIfInBounds_toArray, List.set_cons_zero, List.set_cons_succ]
        refine wpAnyH_take (i := 2) (oi := { dst := some 36, op := Go.Op.unOp Go.UnOp.not 4 (Go.Operand.tmp 35), type := 4, pos := "laws.go:1785", after := #[{ on := 1, ground := Go.Ground.data }], guard := none }) (v := ?_) rfl (by kernel_rfl) (by kernel_rfl) (by kernel_rfl) (fun _ _ _ h => h) (Or.inl ⟨by rfl, ?_⟩) (by assumption) ?_
        rotate_left 1
        · (intro w hSw; (try dsimp only at hSw); go_simp); all_goals (with_reducible rfl)
        try simp only [Act.put, List.setIfInBounds_toArray, List.set_cons_zero, List.set_cons_succ]
        refine wpAnyH_take (i := 3) (oi := { dst := some 37, op := Go.Op.move (Go.Operand.tmp 36), type := 4, pos := "laws.go:1785", after := #[{ on := 2, ground := Go.Ground.data }, { on := 1, ground := Go.Ground.chain }], guard := none }) (v := ?_) rfl (by kernel_rfl) (by kernel_rfl) (by kernel_rfl) (fun _ _ _ h => h) (Or.inl ⟨by rfl, ?_⟩) (by assumption) ?_
        rotate_left 1
        · (intro w hSw; (try dsimp only at hSw); go_simp); all_goals (with_reducible rfl)
        try simp only [Act.put, List.setIfInBounds_toArray, List.set_cons_zero, List.set_cons_succ]
        refine wpAnyH_take (i := 4) (oi := { dst := some 38, op := Go.Op.load 25 (Go.Operand.tmp 5), type := 25, pos := "laws.go:1785", after := #[{ on := 3, ground := Go.Ground.guard }], guard := some (3, false) }) (v := ?_) rfl (by kernel_rfl) (by kernel_rfl) (by kernel_rfl) (fun _ _ _ h => h) (Or.inl ⟨by rfl, ?_⟩) (by assumption) ?_
        rotate_left 1
        · (intro w hSw; (try dsimp only at hSw); go_simp); all_goals (with_reducible rfl)
        try simp only [Act.put, List.setIfInBounds_toArray, List.set_cons_zero, List.set_cons_succ]
        refine wpAnyH_take (i := 5) (oi := { dst := some 39, op := Go.Op.load 25 (Go.Operand.tmp 4), type := 25, pos := "laws.go:1785", after := #[{ on := 3, ground := Go.Ground.guard }], guard := some (3, false) }) (v := ?_) rfl (by kernel_rfl) (by kernel_rfl) (by kernel_rfl) (fun _ _ _ h => h) (Or.inl ⟨by rfl, ?_⟩) (by assumption) ?_
        rotate_left 1
        · (intro w hSw; (try dsimp only at hSw); go_simp); all_goals (with_reducible rfl)
        try simp only [Act.put, List.setIfInBounds_toArray, List.set_cons_zero, List.set_cons_succ]
        refine wpAnyH_take (i := 7) (oi := { dst := some 41, op := Go.Op.load 25 (Go.Operand.tmp 5), type := 25, pos := "laws.go:1785", after := #[{ on := 3, ground := Go.Ground.guard }], guard := some (3, false) }) (v := ?_) rfl (by kernel_rfl) (by kernel_rfl) (by kernel_rfl) (fun _ _ _ h => h) (Or.inl ⟨by rfl, ?_⟩) (by assumption) ?_
        rotate_left 1
        · (intro w hSw; (try dsimp only at hSw); go_simp); all_goals (with_reducible rfl)
        try simp only [Act.put, List.setIfInBounds_toArray, List.set_cons_zero, List.set_cons_succ]
        refine wpAnyH_ready (rs := [6]) (by kernel_rfl) (by simp) ?_
        refine AllReadyH.cons (o := { dst := some 40, op := Go.Op.call { callee := Go.Callee.value (Go.Operand.func 6), args := #[Go.Operand.tmp 38, Go.Operand.tmp 39], argTypes := #[25, 25] }, type := 25, pos := "laws.go:1785", after := #[{ on := 4, ground := Go.Ground.data }, { on := 5, ground := Go.Ground.data }, { on := 3, ground := Go.Ground.chain }, { on := 3, ground := Go.Ground.guard }], guard := some (3, false) }) rfl (fun K hK => ?_) AllReadyH.nil
        go_simp
        (go_at_call 6; (with_reducible refine (J1.out _).mono ?_); rintro e o2 ⟨rfl, hb2⟩; have M2 : Hid (LB w1 ka kb kx d p v W C b d2 p2 v2 W2 C2 b2 x0 x1 x2 x3 x4 x5 o2 ∧ SB o2 kn (-1) 0 (-1) E E 0) := ⟨M1.out.1.on hb2, M1.out.2.on hb2 M1.out.2.lt⟩; obtain ⟨a20, a21, a22, a23, a24, a25, _⟩ := M2.out.1.a.cells; obtain ⟨c20, c21, c22, c23, c24, c25, _⟩ := M2.out.1.b'.cells; obtain ⟨f20, f21, f22, f23, f24, f25, _⟩ := M2.out.1.x.cells; obtain ⟨k20, k21, k22, k23, k24, k25, _⟩ := M2.out.2.cells; clear hb2)
        go_wp2_with fail
        refine hK.out _ _ (by (try dsimp only); go_keep) (fun hHeld2 => ?_)
        clear hK K hHeld
        have hHeld := hHeld2
        clear hHeld2
        try simp only [Act.put, List.setIfInBounds_toArray, List.set_cons_zero, List.set_cons_succ]
        refine wpAnyH_take (i := 8) (oi := { dst := some 42, op := Go.Op.binOp Go.BinOp.neq 25 (Go.Operand.tmp 40) (Go.Operand.tmp 41) 25, type := 4, pos := "laws.go:1785", after := #[{ on := 6, ground := Go.Ground.data }, { on := 7, ground := Go.Ground.data }, { on := 3, ground := Go.Ground.guard }], guard := some (3, false) }) (v := ?_) rfl (by kernel_rfl) (by kernel_rfl) (by kernel_rfl) (fun _ _ _ h => h) (Or.inl ⟨by rfl, ?_⟩) (by assumption) ?_
        rotate_left 1
        · (intro w hSw; (try dsimp only at hSw); go_simp); all_goals (with_reducible rfl)
        try simp only [Act.put, List.setIfInBounds_toArray, List.set_cons_zero, List.set_cons_succ]
        refine wpAnyH_take (i := 9) (oi := { dst := some 43, op := Go.Op.pick (Go.Operand.tmp 37) (Go.Operand.const (Go.Value.bool true)) (Go.Operand.tmp 42), type := 4, pos := "laws.go:1785", after := #[{ on := 3, ground := Go.Ground.data }, { on := 8, ground := Go.Ground.data }], guard := none }) (v := ?_) rfl (by kernel_rfl) (by kernel_rfl) (by kernel_rfl) (fun _ _ _ h => h) (Or.inl ⟨by rfl, ?_⟩) (by assumption) ?_
        rotate_left 1
        · (intro w hSw; (try dsimp only at hSw); go_simp); all_goals (with_reducible rfl)
        try simp only [Act.put, List.setIfInBounds_toArray, List.set_cons_zero, List.set_cons_succ]
        refine wpAnyH_take (i := 10) (oi := { dst := some 44, op := Go.Op.move (Go.Operand.tmp 43), type := 4, pos := "laws.go:1785", after := #[{ on := 9, ground := Go.Ground.data }, { on := 6, ground := Go.Ground.chain }], guard := none }) (v := ?_) rfl (by kernel_rfl) (by kernel_rfl) (by kernel_rfl) (fun _ _ _ h => h) (Or.inl ⟨by rfl, ?_⟩) (by assumption) ?_
        rotate_left 1
        · (intro w hSw; (try dsimp only at hSw); go_simp); all_goals (with_reducible rfl)
        try simp only [Act.put, List.setIfInBounds_toArray, List.set_cons_zero, List.set_cons_succ]
        refine wpAnyH_take (i := 11) (oi := { dst := some 45, op := Go.Op.load 25 (Go.Operand.tmp 3), type := 25, pos := "laws.go:1785", after := #[{ on := 10, ground := Go.Ground.guard }], guard := some (10, false) }) (v := ?_) rfl (by kernel_rfl) (by kernel_rfl) (by kernel_rfl) (fun _ _ _ h => h) (Or.inl ⟨by rfl, ?_⟩) (by assumption) ?_
        rotate_left 1
        · (intro w hSw; (try dsimp only at hSw); go_simp); all_goals (with_reducible rfl)
        try simp only [Act.put, List.setIfInBounds_toArray, List.set_cons_zero, List.set_cons_succ]
        refine wpAnyH_take (i := 12) (oi := { dst := some 46, op := Go.Op.load 25 (Go.Operand.tmp 6), type := 25, pos := "laws.go:1785", after := #[{ on := 10, ground := Go.Ground.guard }], guard := some (10, false) }) (v := ?_) rfl (by kernel_rfl) (by kernel_rfl) (by kernel_rfl) (fun _ _ _ h => h) (Or.inl ⟨by rfl, ?_⟩) (by assumption) ?_
        rotate_left 1
        · (intro w hSw; (try dsimp only at hSw); go_simp); all_goals (with_reducible rfl)
        try simp only [Act.put, List.setIfInBounds_toArray, List.set_cons_zero, List.set_cons_succ]
        refine wpAnyH_take (i := 14) (oi := { dst := some 48, op := Go.Op.load 25 (Go.Operand.tmp 3), type := 25, pos := "laws.go:1785", after := #[{ on := 10, ground := Go.Ground.guard }], guard := some (10, false) }) (v := ?_) rfl (by kernel_rfl) (by kernel_rfl) (by kernel_rfl) (fun _ _ _ h => h) (Or.inl ⟨by rfl, ?_⟩) (by assumption) ?_
        rotate_left 1
        · (intro w hSw; (try dsimp only at hSw); go_simp); all_goals (with_reducible rfl)
        try simp only [Act.put, List.setIfInBounds_toArray, List.set_cons_zero, List.set_cons_succ]
        refine wpAnyH_ready (rs := [13]) (by kernel_rfl) (by simp) ?_
        refine AllReadyH.cons (o := { dst := some 47, op := Go.Op.call { callee := Go.Callee.value (Go.Operand.func 6), args := #[Go.Operand.tmp 45, Go.Operand.tmp 46], argTypes := #[25, 25] }, type := 25, pos := "laws.go:1785", after := #[{ on := 11, ground := Go.Ground.data }, { on := 12, ground := Go.Ground.data }, { on := 10, ground := Go.Ground.chain }, { on := 10, ground := Go.Ground.guard }], guard := some (10, false) }) rfl (fun K hK => ?_) AllReadyH.nil
        go_simp
        (go_at_call 6; (with_reducible refine (J2.out _).mono ?_); rintro e o3 ⟨rfl, hb3⟩; have M3 : Hid (LB w1 ka kb kx d p v W C b d2 p2 v2 W2 C2 b2 x0 x1 x2 x3 x4 x5 o3 ∧ SB o3 kn (-1) 0 (-1) E E 0) := ⟨M2.out.1.on hb3, M2.out.2.on hb3 M2.out.2.lt⟩; obtain ⟨a30, a31, a32, a33, a34, a35, _⟩ := M3.out.1.a.cells; obtain ⟨c30, c31, c32, c33, c34, c35, _⟩ := M3.out.1.b'.cells; obtain ⟨f30, f31, f32, f33, f34, f35, _⟩ := M3.out.1.x.cells; obtain ⟨k30, k31, k32, k33, k34, k35, _⟩ := M3.out.2.cells; clear hb3)
        go_wp2_with fail
        refine hK.out _ _ (by (try dsimp only); go_keep) (fun hHeld2 => ?_)
        clear hK K hHeld
        have hHeld := hHeld2
        clear hHeld2
        try simp only [Act.put, List.setIfInBounds_toArray, List.set_cons_zero, List.set_cons_succ]
        refine wpAnyH_take (i := 15) (oi := { dst := some 49, op := Go.Op.binOp Go.BinOp.neq 25 (Go.Operand.tmp 47) (Go.Operand.tmp 48) 25, type := 4, pos := "laws.go:1785", after := #[{ on := 13, ground := Go.Ground.data }, { on := 14, ground := Go.Ground.data }, { on := 10, ground := Go.Ground.guard }], guard := some (10, false) }) (v := ?_) rfl (by kernel_rfl) (by kernel_rfl) (by kernel_rfl) (fun _ _ _ h => h) (Or.inl ⟨by rfl, ?_⟩) (by assumption) ?_
        rotate_left 1
        · (intro w hSw; (try dsimp only at hSw); go_simp); all_goals (with_reducible rfl)
        try simp only [Act.put, List.setIfInBounds_toArray, List.set_cons_zero, List.set_cons_succ]
        refine wpAnyH_take (i := 16) (oi := { dst := some 50, op := Go.Op.pick (Go.Operand.tmp 44) (Go.Operand.const (Go.Value.bool true)) (Go.Operand.tmp 49), type := 4, pos := "laws.go:1785", after := #[{ on := 10, ground := Go.Ground.data }, { on := 15, ground := Go.Ground.data }], guard := none }) (v := ?_) rfl (by kernel_rfl) (by kernel_rfl) (by kernel_rfl) (fun _ _ _ h => h) (Or.inl ⟨by rfl, ?_⟩) (by assumption) ?_
        rotate_left 1
        · (intro w hSw; (try dsimp only at hSw); go_simp); all_goals (with_reducible rfl)
        try simp only [Act.put, List.setIfInBounds_toArray, List.set_cons_zero, List.set_cons_succ]
        refine wpAnyH_take (i := 17) (oi := { dst := some 51, op := Go.Op.move (Go.Operand.tmp 50), type := 4, pos := "laws.go:1785", after := #[{ on := 16, ground := Go.Ground.data }, { on := 13, ground := Go.Ground.chain }], guard := none }) (v := ?_) rfl (by kernel_rfl) (by kernel_rfl) (by kernel_rfl) (fun _ _ _ h => h) (Or.inl ⟨by rfl, ?_⟩) (by assumption) ?_
        rotate_left 1
        · (intro w hSw; (try dsimp only at hSw); go_simp); all_goals (with_reducible rfl)
        try simp only [Act.put, List.setIfInBounds_toArray, List.set_cons_zero, List.set_cons_succ]
        refine wpAnyH_take (i := 18) (oi := { dst := some 52, op := Go.Op.load 25 (Go.Operand.tmp 6), type := 25, pos := "laws.go:1785", after := #[{ on := 17, ground := Go.Ground.guard }], guard := some (17, false) }) (v := ?_) rfl (by kernel_rfl) (by kernel_rfl) (by kernel_rfl) (fun _ _ _ h => h) (Or.inl ⟨by rfl, ?_⟩) (by assumption) ?_
        rotate_left 1
        · (intro w hSw; (try dsimp only at hSw); go_simp); all_goals (with_reducible rfl)
        try simp only [Act.put, List.setIfInBounds_toArray, List.set_cons_zero, List.set_cons_succ]
        refine wpAnyH_take (i := 19) (oi := { dst := some 53, op := Go.Op.load 25 (Go.Operand.tmp 3), type := 25, pos := "laws.go:1785", after := #[{ on := 17, ground := Go.Ground.guard }], guard := some (17, false) }) (v := ?_) rfl (by kernel_rfl) (by kernel_rfl) (by kernel_rfl) (fun _ _ _ h => h) (Or.inl ⟨by rfl, ?_⟩) (by assumption) ?_
        rotate_left 1
        · (intro w hSw; (try dsimp only at hSw); go_simp); all_goals (with_reducible rfl)
        try simp only [Act.put, List.setIfInBounds_toArray, List.set_cons_zero, List.set_cons_succ]
        refine wpAnyH_take (i := 21) (oi := { dst := some 55, op := Go.Op.load 25 (Go.Operand.tmp 3), type := 25, pos := "laws.go:1785", after := #[{ on := 17, ground := Go.Ground.guard }], guard := some (17, false) }) (v := ?_) rfl (by kernel_rfl) (by kernel_rfl) (by kernel_rfl) (fun _ _ _ h => h) (Or.inl ⟨by rfl, ?_⟩) (by assumption) ?_
        rotate_left 1
        · (intro w hSw; (try dsimp only at hSw); go_simp); all_goals (with_reducible rfl)
        try simp only [Act.put, List.setIfInBounds_toArray, List.set_cons_zero, List.set_cons_succ]
        refine wpAnyH_ready (rs := [20]) (by kernel_rfl) (by simp) ?_
        refine AllReadyH.cons (o := { dst := some 54, op := Go.Op.call { callee := Go.Callee.value (Go.Operand.func 6), args := #[Go.Operand.tmp 52, Go.Operand.tmp 53], argTypes := #[25, 25] }, type := 25, pos := "laws.go:1785", after := #[{ on := 18, ground := Go.Ground.data }, { on := 19, ground := Go.Ground.data }, { on := 17, ground := Go.Ground.chain }, { on := 17, ground := Go.Ground.guard }], guard := some (17, false) }) rfl (fun K hK => ?_) AllReadyH.nil
        go_simp
        (go_at_call 6; (with_reducible refine (J3.out _).mono ?_); rintro e o4 ⟨rfl, hb4⟩; have M4 : Hid (LB w1 ka kb kx d p v W C b d2 p2 v2 W2 C2 b2 x0 x1 x2 x3 x4 x5 o4 ∧ SB o4 kn (-1) 0 (-1) E E 0) := ⟨M3.out.1.on hb4, M3.out.2.on hb4 M3.out.2.lt⟩; obtain ⟨a40, a41, a42, a43, a44, a45, _⟩ := M4.out.1.a.cells; obtain ⟨c40, c41, c42, c43, c44, c45, _⟩ := M4.out.1.b'.cells; obtain ⟨f40, f41, f42, f43, f44, f45, _⟩ := M4.out.1.x.cells; obtain ⟨k40, k41, k42, k43, k44, k45, _⟩ := M4.out.2.cells; clear hb4)
        go_wp2_with fail
        refine hK.out _ _ (by (try dsimp only); go_keep) (fun hHeld2 => ?_)
        clear hK K hHeld
        have hHeld := hHeld2
        clear hHeld2
        try simp only [Act.put, List.setIfInBounds_toArray, List.set_cons_zero, List.set_cons_succ]
        refine wpAnyH_take (i := 22) (oi := { dst := some 56, op := Go.Op.binOp Go.BinOp.neq 25 (Go.Operand.tmp 54) (Go.Operand.tmp 55) 25, type := 4, pos := "laws.go:1785", after := #[{ on := 20, ground := Go.Ground.data }, { on := 21, ground := Go.Ground.data }, { on := 17, ground := Go.Ground.guard }], guard := some (17, false) }) (v := ?_) rfl (by kernel_rfl) (by kernel_rfl) (by kernel_rfl) (fun _ _ _ h => h) (Or.inl ⟨by rfl, ?_⟩) (by assumption) ?_
        rotate_left 1
        · (intro w hSw; (try dsimp only at hSw); go_simp); all_goals (with_reducible rfl)
        try simp only [Act.put, List.setIfInBounds_toArray, List.set_cons_zero, List.set_cons_succ]
        refine wpAnyH_take (i := 23) (oi := { dst := some 57, op := Go.Op.pick (Go.Operand.tmp 51) (Go.Operand.const (Go.Value.bool true)) (Go.Operand.tmp 56), type := 4, pos := "laws.go:1785", after := #[{ on := 17, ground := Go.Ground.data }, { on := 22, ground := Go.Ground.data }], guard := none }) (v := ?_) rfl (by kernel_rfl) (by kernel_rfl) (by kernel_rfl) (fun _ _ _ h => h) (Or.inl ⟨by rfl, ?_⟩) (by assumption) ?_
        rotate_left 1
        · (intro w hSw; (try dsimp only at hSw); go_simp); all_goals (with_reducible rfl)
        try simp only [Act.put, List.setIfInBounds_toArray, List.set_cons_zero, List.set_cons_succ]
        refine wpAnyH_take (i := 24) (oi := { dst := some 58, op := Go.Op.move (Go.Operand.tmp 57), type := 4, pos := "laws.go:1785", after := #[{ on := 23, ground := Go.Ground.data }, { on := 20, ground := Go.Ground.chain }], guard := none }) (v := ?_) rfl (by kernel_rfl) (by kernel_rfl) (by kernel_rfl) (fun _ _ _ h => h) (Or.inl ⟨by rfl, ?_⟩) (by assumption) ?_
        rotate_left 1
        · (intro w hSw; (try dsimp only at hSw); go_simp); all_goals (with_reducible rfl)
        try simp only [Act.put, List.setIfInBounds_toArray, List.set_cons_zero, List.set_cons_succ]
        refine wpAnyH_take (i := 25) (oi := { dst := some 59, op := Go.Op.load 25 (Go.Operand.tmp 4), type := 25, pos := "laws.go:1785", after := #[{ on := 24, ground := Go.Ground.guard }], guard := some (24, false) }) (v := ?_) rfl (by kernel_rfl) (by kernel_rfl) (by kernel_rfl) (fun _ _ _ h => h) (Or.inl ⟨by rfl, ?_⟩) (by assumption) ?_
        rotate_left 1
        · (intro w hSw; (try dsimp only at hSw); go_simp); all_goals (with_reducible rfl)
        try simp only [Act.put, List.setIfInBounds_toArray, List.set_cons_zero, List.set_cons_succ]
        refine wpAnyH_take (i := 26) (oi := { dst := some 60, op := Go.Op.load 25 (Go.Operand.tmp 5), type := 25, pos := "laws.go:1785", after := #[{ on := 24, ground := Go.Ground.guard }], guard := some (24, false) }) (v := ?_) rfl (by kernel_rfl) (by kernel_rfl) (by kernel_rfl) (fun _ _ _ h => h) (Or.inl ⟨by rfl, ?_⟩) (by assumption) ?_
        rotate_left 1
        · (intro w hSw; (try dsimp only at hSw); go_simp); all_goals (with_reducible rfl)
        try simp only [Act.put, List.setIfInBounds_toArray, List.set_cons_zero, List.set_cons_succ]
        refine wpAnyH_take (i := 28) (oi := { dst := some 62, op := Go.Op.load 25 (Go.Operand.tmp 5), type := 25, pos := "laws.go:1785", after := #[{ on := 24, ground := Go.Ground.guard }], guard := some (24, false) }) (v := ?_) rfl (by kernel_rfl) (by kernel_rfl) (by kernel_rfl) (fun _ _ _ h => h) (Or.inl ⟨by rfl, ?_⟩) (by assumption) ?_
        rotate_left 1
        · (intro w hSw; (try dsimp only at hSw); go_simp); all_goals (with_reducible rfl)
        try simp only [Act.put, List.setIfInBounds_toArray, List.set_cons_zero, List.set_cons_succ]
        refine wpAnyH_ready (rs := [27]) (by kernel_rfl) (by simp) ?_
        refine AllReadyH.cons (o := { dst := some 61, op := Go.Op.call { callee := Go.Callee.value (Go.Operand.func 6), args := #[Go.Operand.tmp 59, Go.Operand.tmp 60], argTypes := #[25, 25] }, type := 25, pos := "laws.go:1785", after := #[{ on := 25, ground := Go.Ground.data }, { on := 26, ground := Go.Ground.data }, { on := 24, ground := Go.Ground.chain }, { on := 24, ground := Go.Ground.guard }], guard := some (24, false) }) rfl (fun K hK => ?_) AllReadyH.nil
        go_simp
        (go_at_call 6; (with_reducible refine (J4.out _).mono ?_); rintro e o5 ⟨rfl, hb5⟩; have Q5 : Hid (LB w1 ka kb kx d p v W C b d2 p2 v2 W2 C2 b2 x0 x1 x2 x3 x4 x5 o5 ∧ SB o5 kn (-1) 0 (-1) E E 0) := ⟨M4.out.1.on hb5, M4.out.2.on hb5 M4.out.2.lt⟩; obtain ⟨a50, a51, a52, a53, a54, a55, _⟩ := Q5.out.1.a.cells; obtain ⟨c50, c51, c52, c53, c54, c55, _⟩ := Q5.out.1.b'.cells; obtain ⟨f50, f51, f52, f53, f54, f55, _⟩ := Q5.out.1.x.cells; obtain ⟨k50, k51, k52, k53, k54, k55, _⟩ := Q5.out.2.cells; clear hb5)
        go_wp2_with fail
        refine hK.out _ _ (by (try dsimp only); go_keep) (fun hHeld2 => ?_)
        clear hK K hHeld
        have hHeld := hHeld2
        clear hHeld2
        try simp only [Act.put, List.setIfInBounds_toArray, List.set_cons_zero, List.set_cons_succ]
        refine wpAnyH_take (i := 29) (oi := { dst := some 63, op := Go.Op.binOp Go.BinOp.neq 25 (Go.Operand.tmp 61) (Go.Operand.tmp 62) 25, type := 4, pos := "laws.go:1785", after := #[{ on := 27, ground := Go.Ground.data }, { on := 28, ground := Go.Ground.data }, { on := 24, ground := Go.Ground.guard }], guard := some (24, false) }) (v := ?_) rfl (by kernel_rfl) (by kernel_rfl) (by kernel_rfl) (fun _ _ _ h => h) (Or.inl ⟨by rfl, ?_⟩) (by assumption) ?_
        rotate_left 1
        · (intro w hSw; (try dsimp only at hSw); go_simp); all_goals (with_reducible rfl)
        try simp only [Act.put, List.setIfInBounds_toArray, List.set_cons_zero, List.set_cons_succ]
        refine wpAnyH_take (i := 30) (oi := { dst := some 64, op := Go.Op.move (Go.Operand.tmp 63), type := 4, pos := "laws.go:1785", after := #[{ on := 29, ground := Go.Ground.data }, { on := 27, ground := Go.Ground.chain }, { on := 24, ground := Go.Ground.guard }], guard := some (24, false) }) (v := ?_) rfl (by kernel_rfl) (by kernel_rfl) (by kernel_rfl) (fun _ _ _ h => h) (Or.inl ⟨by rfl, ?_⟩) (by assumption) ?_
        rotate_left 1
        · (intro w hSw; (try dsimp only at hSw); go_simp); all_goals (with_reducible rfl)
        try simp only [Act.put, List.setIfInBounds_toArray, List.set_cons_zero, List.set_cons_succ]
        refine wpAnyH_take (i := 31) (oi := { dst := some 65, op := Go.Op.fieldAddr 25 (Go.Operand.tmp 5) 0, type := 0, pos := "laws.go:1785", after := #[{ on := 30, ground := Go.Ground.guard }], guard := some (30, true) }) (v := undef) rfl (by kernel_rfl) (by kernel_rfl) (by kernel_rfl) (fun _ _ _ h => h) (Or.inr ⟨by rfl, rfl⟩) (by assumption) ?_
        try simp only [Act.put, List.setIfInBounds_toArray, List.set_cons_zero, List.set_cons_succ]
        refine wpAnyH_take (i := 32) (oi := { dst := some 66, op := Go.Op.load 2 (Go.Operand.tmp 65), type := 2, pos := "laws.go:1785", after := #[{ on := 31, ground := Go.Ground.data }, { on := 30, ground := Go.Ground.guard }], guard := some (30, true) }) (v := undef) rfl (by kernel_rfl) (by kernel_rfl) (by kernel_rfl) (fun _ _ _ h => h) (Or.inr ⟨by rfl, rfl⟩) (by assumption) ?_
        try simp only [Act.put, List.setIfInBounds_toArray, List.set_cons_zero, List.set_cons_succ]
        refine wpAnyH_take (i := 33) (oi := { dst := some 67, op := Go.Op.binOp Go.BinOp.neq 2 (Go.Operand.tmp 66) (Go.Operand.const (Go.Value.int Go.IntKind.i64 (-1))) 2, type := 4, pos := "laws.go:1785", after := #[{ on := 32, ground := Go.Ground.data }, { on := 30, ground := Go.Ground.guard }], guard := some (30, true) }) (v := undef) rfl (by kernel_rfl) (by kernel_rfl) (by kernel_rfl) (fun _ _ _ h => h) (Or.inr ⟨by rfl, rfl⟩) (by assumption) ?_
        try simp only [Act.put, List.setIfInBounds_toArray, List.set_cons_zero, List.set_cons_succ]
        refine wpAnyH_take (i := 34) (oi := { dst := some 68, op := Go.Op.pick (Go.Operand.tmp 64) (Go.Operand.tmp 67) (Go.Operand.const (Go.Value.bool false)), type := 4, pos := "laws.go:1785", after := #[{ on := 30, ground := Go.Ground.data }, { on := 33, ground := Go.Ground.data }, { on := 24, ground := Go.Ground.guard }], guard := some (24, false) }) (v := ?_) rfl (by kernel_rfl) (by kernel_rfl) (by kernel_rfl) (fun _ _ _ h => h) (Or.inl ⟨by rfl, ?_⟩) (by assumption) ?_
        rotate_left 1
        · (intro w hSw; (try dsimp only at hSw); go_simp); all_goals (with_reducible rfl)
        try simp only [Act.put, List.setIfInBounds_toArray, List.set_cons_zero, List.set_cons_succ]
        refine wpAnyH_take (i := 35) (oi := { dst := some 69, op := Go.Op.move (Go.Operand.tmp 68), type := 4, pos := "laws.go:1785", after := #[{ on := 34, ground := Go.Ground.data }, { on := 30, ground := Go.Ground.chain }, { on := 24, ground := Go.Ground.guard }], guard := some (24, false) }) (v := ?_) rfl (by kernel_rfl) (by kernel_rfl) (by kernel_rfl) (fun _ _ _ h => h) (Or.inl ⟨by rfl, ?_⟩) (by assumption) ?_
        rotate_left 1
        · (intro w hSw; (try dsimp only at hSw); go_simp); all_goals (with_reducible rfl)
        try simp only [Act.put, List.setIfInBounds_toArray, List.set_cons_zero, List.set_cons_succ]
        refine wpAnyH_take (i := 36) (oi := { dst := some 70, op := Go.Op.fieldAddr 25 (Go.Operand.tmp 5) 2, type := 0, pos := "laws.go:1785", after := #[{ on := 35, ground := Go.Ground.guard }], guard := some (35, true) }) (v := undef) rfl (by kernel_rfl) (by kernel_rfl) (by kernel_rfl) (fun _ _ _ h => h) (Or.inr ⟨by rfl, rfl⟩) (by assumption) ?_
        try simp only [Act.put, List.setIfInBounds_toArray, List.set_cons_zero, List.set_cons_succ]
        refine wpAnyH_take (i := 37) (oi := { dst := some 71, op := Go.Op.load 2 (Go.Operand.tmp 70), type := 2, pos := "laws.go:1785", after := #[{ on := 36, ground := Go.Ground.data }, { on := 35, ground := Go.Ground.guard }], guard := some (35, true) }) (v := undef) rfl (by kernel_rfl) (by kernel_rfl) (by kernel_rfl) (fun _ _ _ h => h) (Or.inr ⟨by rfl, rfl⟩) (by assumption) ?_
        try simp only [Act.put, List.setIfInBounds_toArray, List.set_cons_zero, List.set_cons_succ]
        refine wpAnyH_take (i := 38) (oi := { dst := some 72, op := Go.Op.binOp Go.BinOp.neq 2 (Go.Operand.tmp 71) (Go.Operand.const (Go.Value.int Go.IntKind.i64 (-1))) 2, type := 4, pos := "laws.go:1785", after := #[{ on := 37, ground := Go.Ground.data }, { on := 35, ground := Go.Ground.guard }], guard := some (35, true) }) (v := undef) rfl (by kernel_rfl) (by kernel_rfl) (by kernel_rfl) (fun _ _ _ h => h) (Or.inr ⟨by rfl, rfl⟩) (by assumption) ?_
        try simp only [Act.put, List.setIfInBounds_toArray, List.set_cons_zero, List.set_cons_succ]
        refine wpAnyH_take (i := 39) (oi := { dst := some 73, op := Go.Op.pick (Go.Operand.tmp 69) (Go.Operand.tmp 72) (Go.Operand.const (Go.Value.bool false)), type := 4, pos := "laws.go:1785", after := #[{ on := 35, ground := Go.Ground.data }, { on := 38, ground := Go.Ground.data }, { on := 24, ground := Go.Ground.guard }], guard := some (24, false) }) (v := ?_) rfl (by kernel_rfl) (by kernel_rfl) (by kernel_rfl) (fun _ _ _ h => h) (Or.inl ⟨by rfl, ?_⟩) (by assumption) ?_
        rotate_left 1
        · (intro w hSw; (try dsimp only at hSw); go_simp); all_goals (with_reducible rfl)
        try simp only [Act.put, List.setIfInBounds_toArray, List.set_cons_zero, List.set_cons_succ]
        refine wpAnyH_take (i := 40) (oi := { dst := some 74, op := Go.Op.move (Go.Operand.tmp 73), type := 4, pos := "laws.go:1785", after := #[{ on := 39, ground := Go.Ground.data }, { on := 35, ground := Go.Ground.chain }, { on := 24, ground := Go.Ground.guard }], guard := some (24, false) }) (v := ?_) rfl (by kernel_rfl) (by kernel_rfl) (by kernel_rfl) (fun _ _ _ h => h) (Or.inl ⟨by rfl, ?_⟩) (by assumption) ?_
        rotate_left 1
        · (intro w hSw; (try dsimp only at hSw); go_simp); all_goals (with_reducible rfl)
        try simp only [Act.put, List.setIfInBounds_toArray, List.set_cons_zero, List.set_cons_succ]
        refine wpAnyH_take (i := 41) (oi := { dst := some 75, op := Go.Op.fieldAddr 25 (Go.Operand.tmp 5) 3, type := 0, pos := "laws.go:1785", after := #[{ on := 40, ground := Go.Ground.guard }], guard := some (40, true) }) (v := undef) rfl (by kernel_rfl) (by kernel_rfl) (by kernel_rfl) (fun _ _ _ h => h) (Or.inr ⟨by rfl, rfl⟩) (by assumption) ?_
        try simp only [Act.put, List.setIfInBounds_toArray, List.set_cons_zero, List.set_cons_succ]
        refine wpAnyH_take (i := 42) (oi := { dst := some 76, op := Go.Op.load 9 (Go.Operand.tmp 75), type := 9, pos := "laws.go:1785", after := #[{ on := 41, ground := Go.Ground.data }, { on := 40, ground := Go.Ground.guard }], guard := some (40, true) }) (v := undef) rfl (by kernel_rfl) (by kernel_rfl) (by kernel_rfl) (fun _ _ _ h => h) (Or.inr ⟨by rfl, rfl⟩) (by assumption) ?_
        try simp only [Act.put, List.setIfInBounds_toArray, List.set_cons_zero, List.set_cons_succ]
        refine wpAnyH_take (i := 43) (oi := { dst := some 77, op := Go.Op.binOp Go.BinOp.neq 9 (Go.Operand.tmp 76) (Go.Operand.const (Go.Value.string { data := #[] })) 9, type := 4, pos := "laws.go:1785", after := #[{ on := 42, ground := Go.Ground.data }, { on := 40, ground := Go.Ground.guard }], guard := some (40, true) }) (v := undef) rfl (by kernel_rfl) (by kernel_rfl) (by kernel_rfl) (fun _ _ _ h => h) (Or.inr ⟨by rfl, rfl⟩) (by assumption) ?_
        try simp only [Act.put, List.setIfInBounds_toArray, List.set_cons_zero, List.set_cons_succ]
        refine wpAnyH_take (i := 44) (oi := { dst := some 78, op := Go.Op.pick (Go.Operand.tmp 74) (Go.Operand.tmp 77) (Go.Operand.const (Go.Value.bool false)), type := 4, pos := "laws.go:1785", after := #[{ on := 40, ground := Go.Ground.data }, { on := 43, ground := Go.Ground.data }, { on := 24, ground := Go.Ground.guard }], guard := some (24, false) }) (v := ?_) rfl (by kernel_rfl) (by kernel_rfl) (by kernel_rfl) (fun _ _ _ h => h) (Or.inl ⟨by rfl, ?_⟩) (by assumption) ?_
        rotate_left 1
        · (intro w hSw; (try dsimp only at hSw); go_simp); all_goals (with_reducible rfl)
        try simp only [Act.put, List.setIfInBounds_toArray, List.set_cons_zero, List.set_cons_succ]
        refine wpAnyH_take (i := 45) (oi := { dst := some 79, op := Go.Op.move (Go.Operand.tmp 78), type := 4, pos := "laws.go:1785", after := #[{ on := 44, ground := Go.Ground.data }, { on := 40, ground := Go.Ground.chain }, { on := 24, ground := Go.Ground.guard }], guard := some (24, false) }) (v := ?_) rfl (by kernel_rfl) (by kernel_rfl) (by kernel_rfl) (fun _ _ _ h => h) (Or.inl ⟨by rfl, ?_⟩) (by assumption) ?_
        rotate_left 1
        · (intro w hSw; (try dsimp only at hSw); go_simp); all_goals (with_reducible rfl)
        try simp only [Act.put, List.setIfInBounds_toArray, List.set_cons_zero, List.set_cons_succ]
        refine wpAnyH_take (i := 46) (oi := { dst := some 80, op := Go.Op.fieldAddr 25 (Go.Operand.tmp 5) 4, type := 0, pos := "laws.go:1785", after := #[{ on := 45, ground := Go.Ground.guard }], guard := some (45, true) }) (v := undef) rfl (by kernel_rfl) (by kernel_rfl) (by kernel_rfl) (fun _ _ _ h => h) (Or.inr ⟨by rfl, rfl⟩) (by assumption) ?_
        try simp only [Act.put, List.setIfInBounds_toArray, List.set_cons_zero, List.set_cons_succ]
        refine wpAnyH_take (i := 47) (oi := { dst := some 81, op := Go.Op.load 9 (Go.Operand.tmp 80), type := 9, pos := "laws.go:1785", after := #[{ on := 46, ground := Go.Ground.data }, { on := 45, ground := Go.Ground.guard }], guard := some (45, true) }) (v := undef) rfl (by kernel_rfl) (by kernel_rfl) (by kernel_rfl) (fun _ _ _ h => h) (Or.inr ⟨by rfl, rfl⟩) (by assumption) ?_
        try simp only [Act.put, List.setIfInBounds_toArray, List.set_cons_zero, List.set_cons_succ]
        refine wpAnyH_take (i := 48) (oi := { dst := some 82, op := Go.Op.binOp Go.BinOp.neq 9 (Go.Operand.tmp 81) (Go.Operand.const (Go.Value.string { data := #[] })) 9, type := 4, pos := "laws.go:1785", after := #[{ on := 47, ground := Go.Ground.data }, { on := 45, ground := Go.Ground.guard }], guard := some (45, true) }) (v := undef) rfl (by kernel_rfl) (by kernel_rfl) (by kernel_rfl) (fun _ _ _ h => h) (Or.inr ⟨by rfl, rfl⟩) (by assumption) ?_
        try simp only [Act.put, List.setIfInBounds_toArray, List.set_cons_zero, List.set_cons_succ]
        refine wpAnyH_take (i := 49) (oi := { dst := some 83, op := Go.Op.pick (Go.Operand.tmp 79) (Go.Operand.tmp 82) (Go.Operand.const (Go.Value.bool false)), type := 4, pos := "laws.go:1785", after := #[{ on := 45, ground := Go.Ground.data }, { on := 48, ground := Go.Ground.data }, { on := 24, ground := Go.Ground.guard }], guard := some (24, false) }) (v := ?_) rfl (by kernel_rfl) (by kernel_rfl) (by kernel_rfl) (fun _ _ _ h => h) (Or.inl ⟨by rfl, ?_⟩) (by assumption) ?_
        rotate_left 1
        · (intro w hSw; (try dsimp only at hSw); go_simp); all_goals (with_reducible rfl)
        try simp only [Act.put, List.setIfInBounds_toArray, List.set_cons_zero, List.set_cons_succ]
        refine wpAnyH_take (i := 50) (oi := { dst := some 84, op := Go.Op.pick (Go.Operand.tmp 58) (Go.Operand.const (Go.Value.bool true)) (Go.Operand.tmp 83), type := 4, pos := "laws.go:1785", after := #[{ on := 24, ground := Go.Ground.data }, { on := 49, ground := Go.Ground.data }], guard := none }) (v := ?_) rfl (by kernel_rfl) (by kernel_rfl) (by kernel_rfl) (fun _ _ _ h => h) (Or.inl ⟨by rfl, ?_⟩) (by assumption) ?_
        rotate_left 1
        · (intro w hSw; (try dsimp only at hSw); go_simp); all_goals (with_reducible rfl)
        try simp only [Act.put, List.setIfInBounds_toArray, List.set_cons_zero, List.set_cons_succ]
        refine wpAnyH_done (by kernel_rfl) ?_ _
        go_wp2_with fail
        go_meet
        exact ⟨rfl, Q5.out.1⟩
      cases h0 : (x0 == -1)
      · have m0 : (x0 != -1) = true := by show (!(x0 == -1)) = _; rw [h0]; rfl
        cases h2 : (x2 == -1)
        · have m2 : (x2 != -1) = true := by show (!(x2 == -1)) = _; rw [h2]; rfl
          cases h3 : (x3.toList == [])
          · have m3 : (x3.toList != []) = true := by show (!(x3.toList == [])) = _; rw [h3]; rfl
            have m3' : x3.toList.isEmpty = false := by simpa using h3
            cases h4 : (x4.toList == [])
            · exact absurd (Q h0 h2 h3 h4) (by decide)
            · have m4 : (x4.toList != []) = false := by show (!(x4.toList == [])) = _; rw [h4]; rfl
              have m4' : x4.toList.isEmpty = true := by simpa using h4
              clear Q
              refine wp_region_held_drew (S := fun w' => w'.cell? ⟨ka, 0, none⟩ = some (.int .i64 (d)) ∧ w'.cell? ⟨ka, 1, none⟩ = some (.int .i64 (p)) ∧ w'.cell? ⟨ka, 2, none⟩ = some (.int .i64 (v)) ∧ w'.cell? ⟨ka, 3, none⟩ = some (.string W) ∧ w'.cell? ⟨ka, 4, none⟩ = some (.string C) ∧ w'.cell? ⟨ka, 5, none⟩ = some (.int .i64 (b)) ∧ w'.cell? ⟨kb, 0, none⟩ = some (.int .i64 (d2)) ∧ w'.cell? ⟨kb, 1, none⟩ = some (.int .i64 (p2)) ∧ w'.cell? ⟨kb, 2, none⟩ = some (.int .i64 (v2)) ∧ w'.cell? ⟨kb, 3, none⟩ = some (.string W2) ∧ w'.cell? ⟨kb, 4, none⟩ = some (.string C2) ∧ w'.cell? ⟨kb, 5, none⟩ = some (.int .i64 (b2)) ∧ w'.cell? ⟨kx, 0, none⟩ = some (.int .i64 (x0)) ∧ w'.cell? ⟨kx, 1, none⟩ = some (.int .i64 (x1)) ∧ w'.cell? ⟨kx, 2, none⟩ = some (.int .i64 (x2)) ∧ w'.cell? ⟨kx, 3, none⟩ = some (.string x3) ∧ w'.cell? ⟨kx, 4, none⟩ = some (.string x4) ∧ w'.cell? ⟨kx, 5, none⟩ = some (.int .i64 (x5)) ∧ w'.cell? ⟨kn, 0, none⟩ = some (.int .i64 (-1)) ∧ w'.cell? ⟨kn, 1, none⟩ = some (.int .i64 (0)) ∧ w'.cell? ⟨kn, 2, none⟩ = some (.int .i64 (-1)) ∧ w'.cell? ⟨kn, 3, none⟩ = some (.string E) ∧ w'.cell? ⟨kn, 4, none⟩ = some (.string E) ∧ w'.cell? ⟨kn, 5, none⟩ = some (.int .i64 (0))) (by kernel_rfl) (by (try dsimp only); go_keep) (fun hHeld => ?_)
              refine wpAnyH_take (i := 0) (oi := { dst := some 34, op := Go.Op.load 25 (Go.Operand.tmp 5), type := 25, pos := "laws.go:1785", after := #[], guard := none }) (v := ?_) rfl (by kernel_rfl) (by kernel_rfl) (by kernel_rfl) (fun _ _ _ h => h) (Or.inl ⟨by rfl, ?_⟩) (by assumption) ?_
              rotate_left 1
              · (intro w hSw; (try dsimp only at hSw); go_simp); all_goals (with_reducible rfl)
              try simp only [Act.put, List.setIfInBounds_toArray, List.set_cons_zero, List.set_cons_succ]
              refine wpAnyH_ready (rs := [1]) (by kernel_rfl) (by simp) ?_
              refine AllReadyH.cons (o := { dst := some 35, op := Go.Op.call { callee := Go.Callee.value (Go.Operand.func 9), args := #[Go.Operand.tmp 34], argTypes := #[25] }, type := 4, pos := "laws.go:1785", after := #[{ on := 0, ground := Go.Ground.data }], guard := none }) rfl (fun K hK => ?_) AllReadyH.nil
              go_simp
              (go_at_call 9; (with_reducible refine (J0.out _).mono ?_); rintro e o1 ⟨rfl, hb1⟩; have M1 : Hid (LB w1 ka kb kx d p v W C b d2 p2 v2 W2 C2 b2 x0 x1 x2 x3 x4 x5 o1 ∧ SB o1 kn (-1) 0 (-1) E E 0) := (by have z := L5.out.1.on ((Below.refl _ _).drew.trans hb1); have y := L5.out.2.on ((Below.refl _ _).drew.trans hb1) L5.out.2.lt; exact ⟨z, y⟩); obtain ⟨a10, a11, a12, a13, a14, a15, _⟩ := M1.out.1.a.cells; obtain ⟨c10, c11, c12, c13, c14, c15, _⟩ := M1.out.1.b'.cells; obtain ⟨f10, f11, f12, f13, f14, f15, _⟩ := M1.out.1.x.cells; obtain ⟨k10, k11, k12, k13, k14, k15, _⟩ := M1.out.2.cells; clear hb1)
              go_wp2_with fail
              refine hK.out _ _ (by (try dsimp only); go_keep) (fun hHeld2 => ?_)
              clear hK K hHeld
              have hHeld := hHeld2
              clear hHeld2
              try simp only [Act.put, List.setIfInBounds_toArray, List.set_cons_zero, List.set_cons_succ]
              refine wpAnyH_take (i := 2) (oi := { dst := some 36, op := Go.Op.unOp Go.UnOp.not 4 (Go.Operand.tmp 35), type := 4, pos := "laws.go:1785", after := #[{ on := 1, ground := Go.Ground.data }], guard := none }) (v := ?_) rfl (by kernel_rfl) (by kernel_rfl) (by kernel_rfl) (fun _ _ _ h => h) (Or.inl ⟨by rfl, ?_⟩) (by assumption) ?_
              rotate_left 1
              · (intro w hSw; (try dsimp only at hSw); go_simp); all_goals (with_reducible rfl)
              try simp only [Act.put, List.setIfInBounds_toArray, List.set_cons_zero, List.set_cons_succ]
              refine wpAnyH_take (i := 3) (oi := { dst := some 37, op := Go.Op.move (Go.Operand.tmp 36), type := 4, pos := "laws.go:1785", after := #[{ on := 2, ground := Go.Ground.data }, { on := 1, ground := Go.Ground.chain }], guard := none }) (v := ?_) rfl (by kernel_rfl) (by kernel_rfl) (by kernel_rfl) (fun _ _ _ h => h) (Or.inl ⟨by rfl, ?_⟩) (by assumption) ?_
              rotate_left 1
              · (intro w hSw; (try dsimp only at hSw); go_simp); all_goals (with_reducible rfl)
              try simp only [Act.put, List.setIfInBounds_toArray, List.set_cons_zero, List.set_cons_succ]
              refine wpAnyH_take (i := 4) (oi := { dst := some 38, op := Go.Op.load 25 (Go.Operand.tmp 5), type := 25, pos := "laws.go:1785", after := #[{ on := 3, ground := Go.Ground.guard }], guard := some (3, false) }) (v := ?_) rfl (by kernel_rfl) (by kernel_rfl) (by kernel_rfl) (fun _ _ _ h => h) (Or.inl ⟨by rfl, ?_⟩) (by assumption) ?_
              rotate_left 1
              · (intro w hSw; (try dsimp only at hSw); go_simp); all_goals (with_reducible rfl)
              try simp only [Act.put, List.setIfInBounds_toArray, List.set_cons_zero, List.set_cons_succ]
              refine wpAnyH_take (i := 5) (oi := { dst := some 39, op := Go.Op.load 25 (Go.Operand.tmp 4), type := 25, pos := "laws.go:1785", after := #[{ on := 3, ground := Go.Ground.guard }], guard := some (3, false) }) (v := ?_) rfl (by kernel_rfl) (by kernel_rfl) (by kernel_rfl) (fun _ _ _ h => h) (Or.inl ⟨by rfl, ?_⟩) (by assumption) ?_
              rotate_left 1
              · (intro w hSw; (try dsimp only at hSw); go_simp); all_goals (with_reducible rfl)
              try simp only [Act.put, List.setIfInBounds_toArray, List.set_cons_zero, List.set_cons_succ]
              refine wpAnyH_take (i := 7) (oi := { dst := some 41, op := Go.Op.load 25 (Go.Operand.tmp 5), type := 25, pos := "laws.go:1785", after := #[{ on := 3, ground := Go.Ground.guard }], guard := some (3, false) }) (v := ?_) rfl (by kernel_rfl) (by kernel_rfl) (by kernel_rfl) (fun _ _ _ h => h) (Or.inl ⟨by rfl, ?_⟩) (by assumption) ?_
              rotate_left 1
              · (intro w hSw; (try dsimp only at hSw); go_simp); all_goals (with_reducible rfl)
              try simp only [Act.put, List.setIfInBounds_toArray, List.set_cons_zero, List.set_cons_succ]
              refine wpAnyH_ready (rs := [6]) (by kernel_rfl) (by simp) ?_
              refine AllReadyH.cons (o := { dst := some 40, op := Go.Op.call { callee := Go.Callee.value (Go.Operand.func 6), args := #[Go.Operand.tmp 38, Go.Operand.tmp 39], argTypes := #[25, 25] }, type := 25, pos := "laws.go:1785", after := #[{ on := 4, ground := Go.Ground.data }, { on := 5, ground := Go.Ground.data }, { on := 3, ground := Go.Ground.chain }, { on := 3, ground := Go.Ground.guard }], guard := some (3, false) }) rfl (fun K hK => ?_) AllReadyH.nil
              go_simp
              (go_at_call 6; (with_reducible refine (J1.out _).mono ?_); rintro e o2 ⟨rfl, hb2⟩; have M2 : Hid (LB w1 ka kb kx d p v W C b d2 p2 v2 W2 C2 b2 x0 x1 x2 x3 x4 x5 o2 ∧ SB o2 kn (-1) 0 (-1) E E 0) := ⟨M1.out.1.on hb2, M1.out.2.on hb2 M1.out.2.lt⟩; obtain ⟨a20, a21, a22, a23, a24, a25, _⟩ := M2.out.1.a.cells; obtain ⟨c20, c21, c22, c23, c24, c25, _⟩ := M2.out.1.b'.cells; obtain ⟨f20, f21, f22, f23, f24, f25, _⟩ := M2.out.1.x.cells; obtain ⟨k20, k21, k22, k23, k24, k25, _⟩ := M2.out.2.cells; clear hb2)
              go_wp2_with fail
              refine hK.out _ _ (by (try dsimp only); go_keep) (fun hHeld2 => ?_)
              clear hK K hHeld
              have hHeld := hHeld2
              clear hHeld2
              try simp only [Act.put, List.setIfInBounds_toArray, List.set_cons_zero, List.set_cons_succ]
              refine wpAnyH_take (i := 8) (oi := { dst := some 42, op := Go.Op.binOp Go.BinOp.neq 25 (Go.Operand.tmp 40) (Go.Operand.tmp 41) 25, type := 4, pos := "laws.go:1785", after := #[{ on := 6, ground := Go.Ground.data }, { on := 7, ground := Go.Ground.data }, { on := 3, ground := Go.Ground.guard }], guard := some (3, false) }) (v := ?_) rfl (by kernel_rfl) (by kernel_rfl) (by kernel_rfl) (fun _ _ _ h => h) (Or.inl ⟨by rfl, ?_⟩) (by assumption) ?_
              rotate_left 1
              · (intro w hSw; (try dsimp only at hSw); go_simp); all_goals (with_reducible rfl)
              try simp only [Act.put, List.setIfInBounds_toArray, List.set_cons_zero, List.set_cons_succ]
              refine wpAnyH_take (i := 9) (oi := { dst := some 43, op := Go.Op.pick (Go.Operand.tmp 37) (Go.Operand.const (Go.Value.bool true)) (Go.Operand.tmp 42), type := 4, pos := "laws.go:1785", after := #[{ on := 3, ground := Go.Ground.data }, { on := 8, ground := Go.Ground.data }], guard := none }) (v := ?_) rfl (by kernel_rfl) (by kernel_rfl) (by kernel_rfl) (fun _ _ _ h => h) (Or.inl ⟨by rfl, ?_⟩) (by assumption) ?_
              rotate_left 1
              · (intro w hSw; (try dsimp only at hSw); go_simp); all_goals (with_reducible rfl)
              try simp only [Act.put, List.setIfInBounds_toArray, List.set_cons_zero, List.set_cons_succ]
              refine wpAnyH_take (i := 10) (oi := { dst := some 44, op := Go.Op.move (Go.Operand.tmp 43), type := 4, pos := "laws.go:1785", after := #[{ on := 9, ground := Go.Ground.data }, { on := 6, ground := Go.Ground.chain }], guard := none }) (v := ?_) rfl (by kernel_rfl) (by kernel_rfl) (by kernel_rfl) (fun _ _ _ h => h) (Or.inl ⟨by rfl, ?_⟩) (by assumption) ?_
              rotate_left 1
              · (intro w hSw; (try dsimp only at hSw); go_simp); all_goals (with_reducible rfl)
              try simp only [Act.put, List.setIfInBounds_toArray, List.set_cons_zero, List.set_cons_succ]
              refine wpAnyH_take (i := 11) (oi := { dst := some 45, op := Go.Op.load 25 (Go.Operand.tmp 3), type := 25, pos := "laws.go:1785", after := #[{ on := 10, ground := Go.Ground.guard }], guard := some (10, false) }) (v := ?_) rfl (by kernel_rfl) (by kernel_rfl) (by kernel_rfl) (fun _ _ _ h => h) (Or.inl ⟨by rfl, ?_⟩) (by assumption) ?_
              rotate_left 1
              · (intro w hSw; (try dsimp only at hSw); go_simp); all_goals (with_reducible rfl)
              try simp only [Act.put, List.setIfInBounds_toArray, List.set_cons_zero, List.set_cons_succ]
              refine wpAnyH_take (i := 12) (oi := { dst := some 46, op := Go.Op.load 25 (Go.Operand.tmp 6), type := 25, pos := "laws.go:1785", after := #[{ on := 10, ground := Go.Ground.guard }], guard := some (10, false) }) (v := ?_) rfl (by kernel_rfl) (by kernel_rfl) (by kernel_rfl) (fun _ _ _ h => h) (Or.inl ⟨by rfl, ?_⟩) (by assumption) ?_
              rotate_left 1
              · (intro w hSw; (try dsimp only at hSw); go_simp); all_goals (with_reducible rfl)
              try simp only [Act.put, List.setIfInBounds_toArray, List.set_cons_zero, List.set_cons_succ]
              refine wpAnyH_take (i := 14) (oi := { dst := some 48, op := Go.Op.load 25 (Go.Operand.tmp 3), type := 25, pos := "laws.go:1785", after := #[{ on := 10, ground := Go.Ground.guard }], guard := some (10, false) }) (v := ?_) rfl (by kernel_rfl) (by kernel_rfl) (by kernel_rfl) (fun _ _ _ h => h) (Or.inl ⟨by rfl, ?_⟩) (by assumption) ?_
              rotate_left 1
              · (intro w hSw; (try dsimp only at hSw); go_simp); all_goals (with_reducible rfl)
              try simp only [Act.put, List.setIfInBounds_toArray, List.set_cons_zero, List.set_cons_succ]
              refine wpAnyH_ready (rs := [13]) (by kernel_rfl) (by simp) ?_
              refine AllReadyH.cons (o := { dst := some 47, op := Go.Op.call { callee := Go.Callee.value (Go.Operand.func 6), args := #[Go.Operand.tmp 45, Go.Operand.tmp 46], argTypes := #[25, 25] }, type := 25, pos := "laws.go:1785", after := #[{ on := 11, ground := Go.Ground.data }, { on := 12, ground := Go.Ground.data }, { on := 10, ground := Go.Ground.chain }, { on := 10, ground := Go.Ground.guard }], guard := some (10, false) }) rfl (fun K hK => ?_) AllReadyH.nil
              go_simp
              (go_at_call 6; (with_reducible refine (J2.out _).mono ?_); rintro e o3 ⟨rfl, hb3⟩; have M3 : Hid (LB w1 ka kb kx d p v W C b d2 p2 v2 W2 C2 b2 x0 x1 x2 x3 x4 x5 o3 ∧ SB o3 kn (-1) 0 (-1) E E 0) := ⟨M2.out.1.on hb3, M2.out.2.on hb3 M2.out.2.lt⟩; obtain ⟨a30, a31, a32, a33, a34, a35, _⟩ := M3.out.1.a.cells; obtain ⟨c30, c31, c32, c33, c34, c35, _⟩ := M3.out.1.b'.cells; obtain ⟨f30, f31, f32, f33, f34, f35, _⟩ := M3.out.1.x.cells; obtain ⟨k30, k31, k32, k33, k34, k35, _⟩ := M3.out.2.cells; clear hb3)
              go_wp2_with fail
              refine hK.out _ _ (by (try dsimp only); go_keep) (fun hHeld2 => ?_)
              clear hK K hHeld
              have hHeld := hHeld2
              clear hHeld2
              try simp only [Act.put, List.setIfInBounds_toArray, List.set_cons_zero, List.set_cons_succ]
              refine wpAnyH_take (i := 15) (oi := { dst := some 49, op := Go.Op.binOp Go.BinOp.neq 25 (Go.Operand.tmp 47) (Go.Operand.tmp 48) 25, type := 4, pos := "laws.go:1785", after := #[{ on := 13, ground := Go.Ground.data }, { on := 14, ground := Go.Ground.data }, { on := 10, ground := Go.Ground.guard }], guard := some (10, false) }) (v := ?_) rfl (by kernel_rfl) (by kernel_rfl) (by kernel_rfl) (fun _ _ _ h => h) (Or.inl ⟨by rfl, ?_⟩) (by assumption) ?_
              rotate_left 1
              · (intro w hSw; (try dsimp only at hSw); go_simp); all_goals (with_reducible rfl)
              try simp only [Act.put, List.setIfInBounds_toArray, List.set_cons_zero, List.set_cons_succ]
              refine wpAnyH_take (i := 16) (oi := { dst := some 50, op := Go.Op.pick (Go.Operand.tmp 44) (Go.Operand.const (Go.Value.bool true)) (Go.Operand.tmp 49), type := 4, pos := "laws.go:1785", after := #[{ on := 10, ground := Go.Ground.data }, { on := 15, ground := Go.Ground.data }], guard := none }) (v := ?_) rfl (by kernel_rfl) (by kernel_rfl) (by kernel_rfl) (fun _ _ _ h => h) (Or.inl ⟨by rfl, ?_⟩) (by assumption) ?_
              rotate_left 1
              · (intro w hSw; (try dsimp only at hSw); go_simp); all_goals (with_reducible rfl)
              try simp only [Act.put, List.setIfInBounds_toArray, List.set_cons_zero, List.set_cons_succ]
              refine wpAnyH_take (i := 17) (oi := { dst := some 51, op := Go.Op.move (Go.Operand.tmp 50), type := 4, pos := "laws.go:1785", after := #[{ on := 16, ground := Go.Ground.data }, { on := 13, ground := Go.Ground.chain }], guard := none }) (v := ?_) rfl (by kernel_rfl) (by kernel_rfl) (by kernel_rfl) (fun _ _ _ h => h) (Or.inl ⟨by rfl, ?_⟩) (by assumption) ?_
              rotate_left 1
              · (intro w hSw; (try dsimp only at hSw); go_simp); all_goals (with_reducible rfl)
              try simp only [Act.put, List.setIfInBounds_toArray, List.set_cons_zero, List.set_cons_succ]
              refine wpAnyH_take (i := 18) (oi := { dst := some 52, op := Go.Op.load 25 (Go.Operand.tmp 6), type := 25, pos := "laws.go:1785", after := #[{ on := 17, ground := Go.Ground.guard }], guard := some (17, false) }) (v := ?_) rfl (by kernel_rfl) (by kernel_rfl) (by kernel_rfl) (fun _ _ _ h => h) (Or.inl ⟨by rfl, ?_⟩) (by assumption) ?_
              rotate_left 1
              · (intro w hSw; (try dsimp only at hSw); go_simp); all_goals (with_reducible rfl)
              try simp only [Act.put, List.setIfInBounds_toArray, List.set_cons_zero, List.set_cons_succ]
              refine wpAnyH_take (i := 19) (oi := { dst := some 53, op := Go.Op.load 25 (Go.Operand.tmp 3), type := 25, pos := "laws.go:1785", after := #[{ on := 17, ground := Go.Ground.guard }], guard := some (17, false) }) (v := ?_) rfl (by kernel_rfl) (by kernel_rfl) (by kernel_rfl) (fun _ _ _ h => h) (Or.inl ⟨by rfl, ?_⟩) (by assumption) ?_
              rotate_left 1
              · (intro w hSw; (try dsimp only at hSw); go_simp); all_goals (with_reducible rfl)
              try simp only [Act.put, List.setIfInBounds_toArray, List.set_cons_zero, List.set_cons_succ]
              refine wpAnyH_take (i := 21) (oi := { dst := some 55, op := Go.Op.load 25 (Go.Operand.tmp 3), type := 25, pos := "laws.go:1785", after := #[{ on := 17, ground := Go.Ground.guard }], guard := some (17, false) }) (v := ?_) rfl (by kernel_rfl) (by kernel_rfl) (by kernel_rfl) (fun _ _ _ h => h) (Or.inl ⟨by rfl, ?_⟩) (by assumption) ?_
              rotate_left 1
              · (intro w hSw; (try dsimp only at hSw); go_simp); all_goals (with_reducible rfl)
              try simp only [Act.put, List.setIfInBounds_toArray, List.set_cons_zero, List.set_cons_succ]
              refine wpAnyH_ready (rs := [20]) (by kernel_rfl) (by simp) ?_
              refine AllReadyH.cons (o := { dst := some 54, op := Go.Op.call { callee := Go.Callee.value (Go.Operand.func 6), args := #[Go.Operand.tmp 52, Go.Operand.tmp 53], argTypes := #[25, 25] }, type := 25, pos := "laws.go:1785", after := #[{ on := 18, ground := Go.Ground.data }, { on := 19, ground := Go.Ground.data }, { on := 17, ground := Go.Ground.chain }, { on := 17, ground := Go.Ground.guard }], guard := some (17, false) }) rfl (fun K hK => ?_) AllReadyH.nil
              go_simp
              (go_at_call 6; (with_reducible refine (J3.out _).mono ?_); rintro e o4 ⟨rfl, hb4⟩; have M4 : Hid (LB w1 ka kb kx d p v W C b d2 p2 v2 W2 C2 b2 x0 x1 x2 x3 x4 x5 o4 ∧ SB o4 kn (-1) 0 (-1) E E 0) := ⟨M3.out.1.on hb4, M3.out.2.on hb4 M3.out.2.lt⟩; obtain ⟨a40, a41, a42, a43, a44, a45, _⟩ := M4.out.1.a.cells; obtain ⟨c40, c41, c42, c43, c44, c45, _⟩ := M4.out.1.b'.cells; obtain ⟨f40, f41, f42, f43, f44, f45, _⟩ := M4.out.1.x.cells; obtain ⟨k40, k41, k42, k43, k44, k45, _⟩ := M4.out.2.cells; clear hb4)
              go_wp2_with fail
              refine hK.out _ _ (by (try dsimp only); go_keep) (fun hHeld2 => ?_)
              clear hK K hHeld
              have hHeld := hHeld2
              clear hHeld2
              try simp only [Act.put, List.setIfInBounds_toArray, List.set_cons_zero, List.set_cons_succ]
              refine wpAnyH_take (i := 22) (oi := { dst := some 56, op := Go.Op.binOp Go.BinOp.neq 25 (Go.Operand.tmp 54) (Go.Operand.tmp 55) 25, type := 4, pos := "laws.go:1785", after := #[{ on := 20, ground := Go.Ground.data }, { on := 21, ground := Go.Ground.data }, { on := 17, ground := Go.Ground.guard }], guard := some (17, false) }) (v := ?_) rfl (by kernel_rfl) (by kernel_rfl) (by kernel_rfl) (fun _ _ _ h => h) (Or.inl ⟨by rfl, ?_⟩) (by assumption) ?_
              rotate_left 1
              · (intro w hSw; (try dsimp only at hSw); go_simp); all_goals (with_reducible rfl)
              try simp only [Act.put, List.setIfInBounds_toArray, List.set_cons_zero, List.set_cons_succ]
              refine wpAnyH_take (i := 23) (oi := { dst := some 57, op := Go.Op.pick (Go.Operand.tmp 51) (Go.Operand.const (Go.Value.bool true)) (Go.Operand.tmp 56), type := 4, pos := "laws.go:1785", after := #[{ on := 17, ground := Go.Ground.data }, { on := 22, ground := Go.Ground.data }], guard := none }) (v := ?_) rfl (by kernel_rfl) (by kernel_rfl) (by kernel_rfl) (fun _ _ _ h => h) (Or.inl ⟨by rfl, ?_⟩) (by assumption) ?_
              rotate_left 1
              · (intro w hSw; (try dsimp only at hSw); go_simp); all_goals (with_reducible rfl)
              try simp only [Act.put, List.setIfInBounds_toArray, List.set_cons_zero, List.set_cons_succ]
              refine wpAnyH_take (i := 24) (oi := { dst := some 58, op := Go.Op.move (Go.Operand.tmp 57), type := 4, pos := "laws.go:1785", after := #[{ on := 23, ground := Go.Ground.data }, { on := 20, ground := Go.Ground.chain }], guard := none }) (v := ?_) rfl (by kernel_rfl) (by kernel_rfl) (by kernel_rfl) (fun _ _ _ h => h) (Or.inl ⟨by rfl, ?_⟩) (by assumption) ?_
              rotate_left 1
              · (intro w hSw; (try dsimp only at hSw); go_simp); all_goals (with_reducible rfl)
              try simp only [Act.put, List.setIfInBounds_toArray, List.set_cons_zero, List.set_cons_succ]
              refine wpAnyH_take (i := 25) (oi := { dst := some 59, op := Go.Op.load 25 (Go.Operand.tmp 4), type := 25, pos := "laws.go:1785", after := #[{ on := 24, ground := Go.Ground.guard }], guard := some (24, false) }) (v := ?_) rfl (by kernel_rfl) (by kernel_rfl) (by kernel_rfl) (fun _ _ _ h => h) (Or.inl ⟨by rfl, ?_⟩) (by assumption) ?_
              rotate_left 1
              · (intro w hSw; (try dsimp only at hSw); go_simp); all_goals (with_reducible rfl)
              try simp only [Act.put, List.setIfInBounds_toArray, List.set_cons_zero, List.set_cons_succ]
              refine wpAnyH_take (i := 26) (oi := { dst := some 60, op := Go.Op.load 25 (Go.Operand.tmp 5), type := 25, pos := "laws.go:1785", after := #[{ on := 24, ground := Go.Ground.guard }], guard := some (24, false) }) (v := ?_) rfl (by kernel_rfl) (by kernel_rfl) (by kernel_rfl) (fun _ _ _ h => h) (Or.inl ⟨by rfl, ?_⟩) (by assumption) ?_
              rotate_left 1
              · (intro w hSw; (try dsimp only at hSw); go_simp); all_goals (with_reducible rfl)
              try simp only [Act.put, List.setIfInBounds_toArray, List.set_cons_zero, List.set_cons_succ]
              refine wpAnyH_take (i := 28) (oi := { dst := some 62, op := Go.Op.load 25 (Go.Operand.tmp 5), type := 25, pos := "laws.go:1785", after := #[{ on := 24, ground := Go.Ground.guard }], guard := some (24, false) }) (v := ?_) rfl (by kernel_rfl) (by kernel_rfl) (by kernel_rfl) (fun _ _ _ h => h) (Or.inl ⟨by rfl, ?_⟩) (by assumption) ?_
              rotate_left 1
              · (intro w hSw; (try dsimp only at hSw); go_simp); all_goals (with_reducible rfl)
              try simp only [Act.put, List.setIfInBounds_toArray, List.set_cons_zero, List.set_cons_succ]
              refine wpAnyH_ready (rs := [27]) (by kernel_rfl) (by simp) ?_
              refine AllReadyH.cons (o := { dst := some 61, op := Go.Op.call { callee := Go.Callee.value (Go.Operand.func 6), args := #[Go.Operand.tmp 59, Go.Operand.tmp 60], argTypes := #[25, 25] }, type := 25, pos := "laws.go:1785", after := #[{ on := 25, ground := Go.Ground.data }, { on := 26, ground := Go.Ground.data }, { on := 24, ground := Go.Ground.chain }, { on := 24, ground := Go.Ground.guard }], guard := some (24, false) }) rfl (fun K hK => ?_) AllReadyH.nil
              go_simp
              (go_at_call 6; (with_reducible refine (J4.out _).mono ?_); rintro e o5 ⟨rfl, hb5⟩; have Q5 : Hid (LB w1 ka kb kx d p v W C b d2 p2 v2 W2 C2 b2 x0 x1 x2 x3 x4 x5 o5 ∧ SB o5 kn (-1) 0 (-1) E E 0) := ⟨M4.out.1.on hb5, M4.out.2.on hb5 M4.out.2.lt⟩; obtain ⟨a50, a51, a52, a53, a54, a55, _⟩ := Q5.out.1.a.cells; obtain ⟨c50, c51, c52, c53, c54, c55, _⟩ := Q5.out.1.b'.cells; obtain ⟨f50, f51, f52, f53, f54, f55, _⟩ := Q5.out.1.x.cells; obtain ⟨k50, k51, k52, k53, k54, k55, _⟩ := Q5.out.2.cells; clear hb5)
              go_wp2_with fail
              refine hK.out _ _ (by (try dsimp only); go_keep) (fun hHeld2 => ?_)
              clear hK K hHeld
              have hHeld := hHeld2
              clear hHeld2
              try simp only [Act.put, List.setIfInBounds_toArray, List.set_cons_zero, List.set_cons_succ]
              refine wpAnyH_take (i := 29) (oi := { dst := some 63, op := Go.Op.binOp Go.BinOp.neq 25 (Go.Operand.tmp 61) (Go.Operand.tmp 62) 25, type := 4, pos := "laws.go:1785", after := #[{ on := 27, ground := Go.Ground.data }, { on := 28, ground := Go.Ground.data }, { on := 24, ground := Go.Ground.guard }], guard := some (24, false) }) (v := ?_) rfl (by kernel_rfl) (by kernel_rfl) (by kernel_rfl) (fun _ _ _ h => h) (Or.inl ⟨by rfl, ?_⟩) (by assumption) ?_
              rotate_left 1
              · (intro w hSw; (try dsimp only at hSw); go_simp); all_goals (with_reducible rfl)
              try simp only [Act.put, List.setIfInBounds_toArray, List.set_cons_zero, List.set_cons_succ]
              refine wpAnyH_take (i := 30) (oi := { dst := some 64, op := Go.Op.move (Go.Operand.tmp 63), type := 4, pos := "laws.go:1785", after := #[{ on := 29, ground := Go.Ground.data }, { on := 27, ground := Go.Ground.chain }, { on := 24, ground := Go.Ground.guard }], guard := some (24, false) }) (v := ?_) rfl (by kernel_rfl) (by kernel_rfl) (by kernel_rfl) (fun _ _ _ h => h) (Or.inl ⟨by rfl, ?_⟩) (by assumption) ?_
              rotate_left 1
              · (intro w hSw; (try dsimp only at hSw); go_simp); all_goals (with_reducible rfl)
              try simp only [Act.put, List.setIfInBounds_toArray, List.set_cons_zero, List.set_cons_succ]
              refine wpAnyH_take (i := 31) (oi := { dst := some 65, op := Go.Op.fieldAddr 25 (Go.Operand.tmp 5) 0, type := 0, pos := "laws.go:1785", after := #[{ on := 30, ground := Go.Ground.guard }], guard := some (30, true) }) (v := ?_) rfl (by kernel_rfl) (by kernel_rfl) (by kernel_rfl) (fun _ _ _ h => h) (Or.inl ⟨by rfl, ?_⟩) (by assumption) ?_
              rotate_left 1
              · (intro w hSw; (try dsimp only at hSw); go_simp); all_goals (with_reducible rfl)
              try simp only [Act.put, List.setIfInBounds_toArray, List.set_cons_zero, List.set_cons_succ]
              refine wpAnyH_take (i := 32) (oi := { dst := some 66, op := Go.Op.load 2 (Go.Operand.tmp 65), type := 2, pos := "laws.go:1785", after := #[{ on := 31, ground := Go.Ground.data }, { on := 30, ground := Go.Ground.guard }], guard := some (30, true) }) (v := ?_) rfl (by kernel_rfl) (by kernel_rfl) (by kernel_rfl) (fun _ _ _ h => h) (Or.inl ⟨by rfl, ?_⟩) (by assumption) ?_
              rotate_left 1
              · (intro w hSw; (try dsimp only at hSw); go_simp); all_goals (with_reducible rfl)
              try simp only [Act.put, List.setIfInBounds_toArray, List.set_cons_zero, List.set_cons_succ]
              refine wpAnyH_take (i := 33) (oi := { dst := some 67, op := Go.Op.binOp Go.BinOp.neq 2 (Go.Operand.tmp 66) (Go.Operand.const (Go.Value.int Go.IntKind.i64 (-1))) 2, type := 4, pos := "laws.go:1785", after := #[{ on := 32, ground := Go.Ground.data }, { on := 30, ground := Go.Ground.guard }], guard := some (30, true) }) (v := ?_) rfl (by kernel_rfl) (by kernel_rfl) (by kernel_rfl) (fun _ _ _ h => h) (Or.inl ⟨by rfl, ?_⟩) (by assumption) ?_
              rotate_left 1
              · (intro w hSw; (try dsimp only at hSw); go_simp); all_goals (with_reducible rfl)
              try simp only [Act.put, List.setIfInBounds_toArray, List.set_cons_zero, List.set_cons_succ]
              refine wpAnyH_take (i := 34) (oi := { dst := some 68, op := Go.Op.pick (Go.Operand.tmp 64) (Go.Operand.tmp 67) (Go.Operand.const (Go.Value.bool false)), type := 4, pos := "laws.go:1785", after := #[{ on := 30, ground := Go.Ground.data }, { on := 33, ground := Go.Ground.data }, { on := 24, ground := Go.Ground.guard }], guard := some (24, false) }) (v := ?_) rfl (by kernel_rfl) (by kernel_rfl) (by kernel_rfl) (fun _ _ _ h => h) (Or.inl ⟨by rfl, ?_⟩) (by assumption) ?_
              rotate_left 1
              · (intro w hSw; (try dsimp only at hSw); go_simp); all_goals (with_reducible rfl)
              try simp only [Act.put, List.setIfInBounds_toArray, List.set_cons_zero, List.set_cons_succ]
              refine wpAnyH_take (i := 35) (oi := { dst := some 69, op := Go.Op.move (Go.Operand.tmp 68), type := 4, pos := "laws.go:1785", after := #[{ on := 34, ground := Go.Ground.data }, { on := 30, ground := Go.Ground.chain }, { on := 24, ground := Go.Ground.guard }], guard := some (24, false) }) (v := ?_) rfl (by kernel_rfl) (by kernel_rfl) (by kernel_rfl) (fun _ _ _ h => h) (Or.inl ⟨by rfl, ?_⟩) (by assumption) ?_
              rotate_left 1
              · (intro w hSw; (try dsimp only at hSw); go_simp); all_goals (with_reducible rfl)
              try simp only [Act.put, List.setIfInBounds_toArray, List.set_cons_zero, List.set_cons_succ]
              refine wpAnyH_take (i := 36) (oi := { dst := some 70, op := Go.Op.fieldAddr 25 (Go.Operand.tmp 5) 2, type := 0, pos := "laws.go:1785", after := #[{ on := 35, ground := Go.Ground.guard }], guard := some (35, true) }) (v := ?_) rfl (by kernel_rfl) (by kernel_rfl) (by kernel_rfl) (fun _ _ _ h => h) (Or.inl ⟨by rfl, ?_⟩) (by assumption) ?_
              rotate_left 1
              · (intro w hSw; (try dsimp only at hSw); go_simp); all_goals (with_reducible rfl)
              try simp only [Act.put, List.setIfInBounds_toArray, List.set_cons_zero, List.set_cons_succ]
              refine wpAnyH_take (i := 37) (oi := { dst := some 71, op := Go.Op.load 2 (Go.Operand.tmp 70), type := 2, pos := "laws.go:1785", after := #[{ on := 36, ground := Go.Ground.data }, { on := 35, ground := Go.Ground.guard }], guard := some (35, true) }) (v := ?_) rfl (by kernel_rfl) (by kernel_rfl) (by kernel_rfl) (fun _ _ _ h => h) (Or.inl ⟨by rfl, ?_⟩) (by assumption) ?_
              rotate_left 1
              · (intro w hSw; (try dsimp only at hSw); go_simp); all_goals (with_reducible rfl)
              try simp only [Act.put, List.setIfInBounds_toArray, List.set_cons_zero, List.set_cons_succ]
              refine wpAnyH_take (i := 38) (oi := { dst := some 72, op := Go.Op.binOp Go.BinOp.neq 2 (Go.Operand.tmp 71) (Go.Operand.const (Go.Value.int Go.IntKind.i64 (-1))) 2, type := 4, pos := "laws.go:1785", after := #[{ on := 37, ground := Go.Ground.data }, { on := 35, ground := Go.Ground.guard }], guard := some (35, true) }) (v := ?_) rfl (by kernel_rfl) (by kernel_rfl) (by kernel_rfl) (fun _ _ _ h => h) (Or.inl ⟨by rfl, ?_⟩) (by assumption) ?_
              rotate_left 1
              · (intro w hSw; (try dsimp only at hSw); go_simp); all_goals (with_reducible rfl)
              try simp only [Act.put, List.setIfInBounds_toArray, List.set_cons_zero, List.set_cons_succ]
              refine wpAnyH_take (i := 39) (oi := { dst := some 73, op := Go.Op.pick (Go.Operand.tmp 69) (Go.Operand.tmp 72) (Go.Operand.const (Go.Value.bool false)), type := 4, pos := "laws.go:1785", after := #[{ on := 35, ground := Go.Ground.data }, { on := 38, ground := Go.Ground.data }, { on := 24, ground := Go.Ground.guard }], guard := some (24, false) }) (v := ?_) rfl (by kernel_rfl) (by kernel_rfl) (by kernel_rfl) (fun _ _ _ h => h) (Or.inl ⟨by rfl, ?_⟩) (by assumption) ?_
              rotate_left 1
              · (intro w hSw; (try dsimp only at hSw); go_simp); all_goals (with_reducible rfl)
              try simp only [Act.put, List.setIfInBounds_toArray, List.set_cons_zero, List.set_cons_succ]
              refine wpAnyH_take (i := 40) (oi := { dst := some 74, op := Go.Op.move (Go.Operand.tmp 73), type := 4, pos := "laws.go:1785", after := #[{ on := 39, ground := Go.Ground.data }, { on := 35, ground := Go.Ground.chain }, { on := 24, ground := Go.Ground.guard }], guard := some (24, false) }) (v := ?_) rfl (by kernel_rfl) (by kernel_rfl) (by kernel_rfl) (fun _ _ _ h => h) (Or.inl ⟨by rfl, ?_⟩) (by assumption) ?_
              rotate_left 1
              · (intro w hSw; (try dsimp only at hSw); go_simp); all_goals (with_reducible rfl)
              try simp only [Act.put, List.setIfInBounds_toArray, List.set_cons_zero, List.set_cons_succ]
              refine wpAnyH_take (i := 41) (oi := { dst := some 75, op := Go.Op.fieldAddr 25 (Go.Operand.tmp 5) 3, type := 0, pos := "laws.go:1785", after := #[{ on := 40, ground := Go.Ground.guard }], guard := some (40, true) }) (v := ?_) rfl (by kernel_rfl) (by kernel_rfl) (by kernel_rfl) (fun _ _ _ h => h) (Or.inl ⟨by rfl, ?_⟩) (by assumption) ?_
              rotate_left 1
              · (intro w hSw; (try dsimp only at hSw); go_simp); all_goals (with_reducible rfl)
              try simp only [Act.put, List.setIfInBounds_toArray, List.set_cons_zero, List.set_cons_succ]
              refine wpAnyH_take (i := 42) (oi := { dst := some 76, op := Go.Op.load 9 (Go.Operand.tmp 75), type := 9, pos := "laws.go:1785", after := #[{ on := 41, ground := Go.Ground.data }, { on := 40, ground := Go.Ground.guard }], guard := some (40, true) }) (v := ?_) rfl (by kernel_rfl) (by kernel_rfl) (by kernel_rfl) (fun _ _ _ h => h) (Or.inl ⟨by rfl, ?_⟩) (by assumption) ?_
              rotate_left 1
              · (intro w hSw; (try dsimp only at hSw); go_simp); all_goals (with_reducible rfl)
              try simp only [Act.put, List.setIfInBounds_toArray, List.set_cons_zero, List.set_cons_succ]
              refine wpAnyH_take (i := 43) (oi := { dst := some 77, op := Go.Op.binOp Go.BinOp.neq 9 (Go.Operand.tmp 76) (Go.Operand.const (Go.Value.string { data := #[] })) 9, type := 4, pos := "laws.go:1785", after := #[{ on := 42, ground := Go.Ground.data }, { on := 40, ground := Go.Ground.guard }], guard := some (40, true) }) (v := ?_) rfl (by kernel_rfl) (by kernel_rfl) (by kernel_rfl) (fun _ _ _ h => h) (Or.inl ⟨by rfl, ?_⟩) (by assumption) ?_
              rotate_left 1
              · (intro w hSw; (try dsimp only at hSw); go_simp); all_goals (with_reducible rfl)
              try simp only [Act.put, List.setIfInBounds_toArray, List.set_cons_zero, List.set_cons_succ]
              refine wpAnyH_take (i := 44) (oi := { dst := some 78, op := Go.Op.pick (Go.Operand.tmp 74) (Go.Operand.tmp 77) (Go.Operand.const (Go.Value.bool false)), type := 4, pos := "laws.go:1785", after := #[{ on := 40, ground := Go.Ground.data }, { on := 43, ground := Go.Ground.data }, { on := 24, ground := Go.Ground.guard }], guard := some (24, false) }) (v := ?_) rfl (by kernel_rfl) (by kernel_rfl) (by kernel_rfl) (fun _ _ _ h => h) (Or.inl ⟨by rfl, ?_⟩) (by assumption) ?_
              rotate_left 1
              · (intro w hSw; (try dsimp only at hSw); go_simp); all_goals (with_reducible rfl)
              try simp only [Act.put, List.setIfInBounds_toArray, List.set_cons_zero, List.set_cons_succ]
              refine wpAnyH_take (i := 45) (oi := { dst := some 79, op := Go.Op.move (Go.Operand.tmp 78), type := 4, pos := "laws.go:1785", after := #[{ on := 44, ground := Go.Ground.data }, { on := 40, ground := Go.Ground.chain }, { on := 24, ground := Go.Ground.guard }], guard := some (24, false) }) (v := ?_) rfl (by kernel_rfl) (by kernel_rfl) (by kernel_rfl) (fun _ _ _ h => h) (Or.inl ⟨by rfl, ?_⟩) (by assumption) ?_
              rotate_left 1
              · (intro w hSw; (try dsimp only at hSw); go_simp); all_goals (with_reducible rfl)
              try simp only [Act.put, List.setIfInBounds_toArray, List.set_cons_zero, List.set_cons_succ]
              refine wpAnyH_take (i := 46) (oi := { dst := some 80, op := Go.Op.fieldAddr 25 (Go.Operand.tmp 5) 4, type := 0, pos := "laws.go:1785", after := #[{ on := 45, ground := Go.Ground.guard }], guard := some (45, true) }) (v := ?_) rfl (by kernel_rfl) (by kernel_rfl) (by kernel_rfl) (fun _ _ _ h => h) (Or.inl ⟨by rfl, ?_⟩) (by assumption) ?_
              rotate_left 1
              · (intro w hSw; (try dsimp only at hSw); go_simp); all_goals (with_reducible rfl)
              try simp only [Act.put, List.setIfInBounds_toArray, List.set_cons_zero, List.set_cons_succ]
              refine wpAnyH_take (i := 47) (oi := { dst := some 81, op := Go.Op.load 9 (Go.Operand.tmp 80), type := 9, pos := "laws.go:1785", after := #[{ on := 46, ground := Go.Ground.data }, { on := 45, ground := Go.Ground.guard }], guard := some (45, true) }) (v := ?_) rfl (by kernel_rfl) (by kernel_rfl) (by kernel_rfl) (fun _ _ _ h => h) (Or.inl ⟨by rfl, ?_⟩) (by assumption) ?_
              rotate_left 1
              · (intro w hSw; (try dsimp only at hSw); go_simp); all_goals (with_reducible rfl)
              try simp only [Act.put, List.setIfInBounds_toArray, List.set_cons_zero, List.set_cons_succ]
              refine wpAnyH_take (i := 48) (oi := { dst := some 82, op := Go.Op.binOp Go.BinOp.neq 9 (Go.Operand.tmp 81) (Go.Operand.const (Go.Value.string { data := #[] })) 9, type := 4, pos := "laws.go:1785", after := #[{ on := 47, ground := Go.Ground.data }, { on := 45, ground := Go.Ground.guard }], guard := some (45, true) }) (v := ?_) rfl (by kernel_rfl) (by kernel_rfl) (by kernel_rfl) (fun _ _ _ h => h) (Or.inl ⟨by rfl, ?_⟩) (by assumption) ?_
              rotate_left 1
              · (intro w hSw; (try dsimp only at hSw); go_simp); all_goals (with_reducible rfl)
              try simp only [Act.put, List.setIfInBounds_toArray, List.set_cons_zero, List.set_cons_succ]
              refine wpAnyH_take (i := 49) (oi := { dst := some 83, op := Go.Op.pick (Go.Operand.tmp 79) (Go.Operand.tmp 82) (Go.Operand.const (Go.Value.bool false)), type := 4, pos := "laws.go:1785", after := #[{ on := 45, ground := Go.Ground.data }, { on := 48, ground := Go.Ground.data }, { on := 24, ground := Go.Ground.guard }], guard := some (24, false) }) (v := ?_) rfl (by kernel_rfl) (by kernel_rfl) (by kernel_rfl) (fun _ _ _ h => h) (Or.inl ⟨by rfl, ?_⟩) (by assumption) ?_
              rotate_left 1
              · (intro w hSw; (try dsimp only at hSw); go_simp); all_goals (with_reducible rfl)
              try simp only [Act.put, List.setIfInBounds_toArray, List.set_cons_zero, List.set_cons_succ]
              refine wpAnyH_take (i := 50) (oi := { dst := some 84, op := Go.Op.pick (Go.Operand.tmp 58) (Go.Operand.const (Go.Value.bool true)) (Go.Operand.tmp 83), type := 4, pos := "laws.go:1785", after := #[{ on := 24, ground := Go.Ground.data }, { on := 49, ground := Go.Ground.data }], guard := none }) (v := ?_) rfl (by kernel_rfl) (by kernel_rfl) (by kernel_rfl) (fun _ _ _ h => h) (Or.inl ⟨by rfl, ?_⟩) (by assumption) ?_
              rotate_left 1
              · (intro w hSw; (try dsimp only at hSw); go_simp); all_goals (with_reducible rfl)
              try simp only [Act.put, List.setIfInBounds_toArray, List.set_cons_zero, List.set_cons_succ]
              refine wpAnyH_done (by kernel_rfl) ?_ _
              go_wp2_with fail
              go_meet
              exact ⟨rfl, Q5.out.1⟩
          · have m3 : (x3.toList != []) = false := by show (!(x3.toList == [])) = _; rw [h3]; rfl
            have m3' : x3.toList.isEmpty = true := by simpa using h3
            clear Q
            refine wp_region_held_drew (S := fun w' => w'.cell? ⟨ka, 0, none⟩ = some (.int .i64 (d)) ∧ w'.cell? ⟨ka, 1, none⟩ = some (.int .i64 (p)) ∧ w'.cell? ⟨ka, 2, none⟩ = some (.int .i64 (v)) ∧ w'.cell? ⟨ka, 3, none⟩ = some (.string W) ∧ w'.cell? ⟨ka, 4, none⟩ = some (.string C) ∧ w'.cell? ⟨ka, 5, none⟩ = some (.int .i64 (b)) ∧ w'.cell? ⟨kb, 0, none⟩ = some (.int .i64 (d2)) ∧ w'.cell? ⟨kb, 1, none⟩ = some (.int .i64 (p2)) ∧ w'.cell? ⟨kb, 2, none⟩ = some (.int .i64 (v2)) ∧ w'.cell? ⟨kb, 3, none⟩ = some (.string W2) ∧ w'.cell? ⟨kb, 4, none⟩ = some (.string C2) ∧ w'.cell? ⟨kb, 5, none⟩ = some (.int .i64 (b2)) ∧ w'.cell? ⟨kx, 0, none⟩ = some (.int .i64 (x0)) ∧ w'.cell? ⟨kx, 1, none⟩ = some (.int .i64 (x1)) ∧ w'.cell? ⟨kx, 2, none⟩ = some (.int .i64 (x2)) ∧ w'.cell? ⟨kx, 3, none⟩ = some (.string x3) ∧ w'.cell? ⟨kx, 4, none⟩ = some (.string x4) ∧ w'.cell? ⟨kx, 5, none⟩ = some (.int .i64 (x5)) ∧ w'.cell? ⟨kn, 0, none⟩ = some (.int .i64 (-1)) ∧ w'.cell? ⟨kn, 1, none⟩ = some (.int .i64 (0)) ∧ w'.cell? ⟨kn, 2, none⟩ = some (.int .i64 (-1)) ∧ w'.cell? ⟨kn, 3, none⟩ = some (.string E) ∧ w'.cell? ⟨kn, 4, none⟩ = some (.string E) ∧ w'.cell? ⟨kn, 5, none⟩ = some (.int .i64 (0))) (by kernel_rfl) (by (try dsimp only); go_keep) (fun hHeld => ?_)
            refine wpAnyH_take (i := 0) (oi := { dst := some 34, op := Go.Op.load 25 (Go.Operand.tmp 5), type := 25, pos := "laws.go:1785", after := #[], guard := none }) (v := ?_) rfl (by kernel_rfl) (by kernel_rfl) (by kernel_rfl) (fun _ _ _ h => h) (Or.inl ⟨by rfl, ?_⟩) (by assumption) ?_
            rotate_left 1
            · (intro w hSw; (try dsimp only at hSw); go_simp); all_goals (with_reducible rfl)
            try simp only [Act.put, List.setIfInBounds_toArray, List.set_cons_zero, List.set_cons_succ]
            refine wpAnyH_ready (rs := [1]) (by kernel_rfl) (by simp) ?_
            refine AllReadyH.cons (o := { dst := some 35, op := Go.Op.call { callee := Go.Callee.value (Go.Operand.func 9), args := #[Go.Operand.tmp 34], argTypes := #[25] }, type := 4, pos := "laws.go:1785", after := #[{ on := 0, ground := Go.Ground.data }], guard := none }) rfl (fun K hK => ?_) AllReadyH.nil
            go_simp
            (go_at_call 9; (with_reducible refine (J0.out _).mono ?_); rintro e o1 ⟨rfl, hb1⟩; have M1 : Hid (LB w1 ka kb kx d p v W C b d2 p2 v2 W2 C2 b2 x0 x1 x2 x3 x4 x5 o1 ∧ SB o1 kn (-1) 0 (-1) E E 0) := (by have z := L5.out.1.on ((Below.refl _ _).drew.trans hb1); have y := L5.out.2.on ((Below.refl _ _).drew.trans hb1) L5.out.2.lt; exact ⟨z, y⟩); obtain ⟨a10, a11, a12, a13, a14, a15, _⟩ := M1.out.1.a.cells; obtain ⟨c10, c11, c12, c13, c14, c15, _⟩ := M1.out.1.b'.cells; obtain ⟨f10, f11, f12, f13, f14, f15, _⟩ := M1.out.1.x.cells; obtain ⟨k10, k11, k12, k13, k14, k15, _⟩ := M1.out.2.cells; clear hb1)
            go_wp2_with fail
            refine hK.out _ _ (by (try dsimp only); go_keep) (fun hHeld2 => ?_)
            clear hK K hHeld
            have hHeld := hHeld2
            clear hHeld2
            try simp only [Act.put, List.setIfInBounds_toArray, List.set_cons_zero, List.set_cons_succ]
            refine wpAnyH_take (i := 2) (oi := { dst := some 36, op := Go.Op.unOp Go.UnOp.not 4 (Go.Operand.tmp 35), type := 4, pos := "laws.go:1785", after := #[{ on := 1, ground := Go.Ground.data }], guard := none }) (v := ?_) rfl (by kernel_rfl) (by kernel_rfl) (by kernel_rfl) (fun _ _ _ h => h) (Or.inl ⟨by rfl, ?_⟩) (by assumption) ?_
            rotate_left 1
            · (intro w hSw; (try dsimp only at hSw); go_simp); all_goals (with_reducible rfl)
            try simp only [Act.put, List.setIfInBounds_toArray, List.set_cons_zero, List.set_cons_succ]
            refine wpAnyH_take (i := 3) (oi := { dst := some 37, op := Go.Op.move (Go.Operand.tmp 36), type := 4, pos := "laws.go:1785", after := #[{ on := 2, ground := Go.Ground.data }, { on := 1, ground := Go.Ground.chain }], guard := none }) (v := ?_) rfl (by kernel_rfl) (by kernel_rfl) (by kernel_rfl) (fun _ _ _ h => h) (Or.inl ⟨by rfl, ?_⟩) (by assumption) ?_
            rotate_left 1
            · (intro w hSw; (try dsimp only at hSw); go_simp); all_goals (with_reducible rfl)
            try simp only [Act.put, List.setIfInBounds_toArray, List.set_cons_zero, List.set_cons_succ]
            refine wpAnyH_take (i := 4) (oi := { dst := some 38, op := Go.Op.load 25 (Go.Operand.tmp 5), type := 25, pos := "laws.go:1785", after := #[{ on := 3, ground := Go.Ground.guard }], guard := some (3, false) }) (v := ?_) rfl (by kernel_rfl) (by kernel_rfl) (by kernel_rfl) (fun _ _ _ h => h) (Or.inl ⟨by rfl, ?_⟩) (by assumption) ?_
            rotate_left 1
            · (intro w hSw; (try dsimp only at hSw); go_simp); all_goals (with_reducible rfl)
            try simp only [Act.put, List.setIfInBounds_toArray, List.set_cons_zero, List.set_cons_succ]
            refine wpAnyH_take (i := 5) (oi := { dst := some 39, op := Go.Op.load 25 (Go.Operand.tmp 4), type := 25, pos := "laws.go:1785", after := #[{ on := 3, ground := Go.Ground.guard }], guard := some (3, false) }) (v := ?_) rfl (by kernel_rfl) (by kernel_rfl) (by kernel_rfl) (fun _ _ _ h => h) (Or.inl ⟨by rfl, ?_⟩) (by assumption) ?_
            rotate_left 1
            · (intro w hSw; (try dsimp only at hSw); go_simp); all_goals (with_reducible rfl)
            try simp only [Act.put, List.setIfInBounds_toArray, List.set_cons_zero, List.set_cons_succ]
            refine wpAnyH_take (i := 7) (oi := { dst := some 41, op := Go.Op.load 25 (Go.Operand.tmp 5), type := 25, pos := "laws.go:1785", after := #[{ on := 3, ground := Go.Ground.guard }], guard := some (3, false) }) (v := ?_) rfl (by kernel_rfl) (by kernel_rfl) (by kernel_rfl) (fun _ _ _ h => h) (Or.inl ⟨by rfl, ?_⟩) (by assumption) ?_
            rotate_left 1
            · (intro w hSw; (try dsimp only at hSw); go_simp); all_goals (with_reducible rfl)
            try simp only [Act.put, List.setIfInBounds_toArray, List.set_cons_zero, List.set_cons_succ]
            refine wpAnyH_ready (rs := [6]) (by kernel_rfl) (by simp) ?_
            refine AllReadyH.cons (o := { dst := some 40, op := Go.Op.call { callee := Go.Callee.value (Go.Operand.func 6), args := #[Go.Operand.tmp 38, Go.Operand.tmp 39], argTypes := #[25, 25] }, type := 25, pos := "laws.go:1785", after := #[{ on := 4, ground := Go.Ground.data }, { on := 5, ground := Go.Ground.data }, { on := 3, ground := Go.Ground.chain }, { on := 3, ground := Go.Ground.guard }], guard := some (3, false) }) rfl (fun K hK => ?_) AllReadyH.nil
            go_simp
            (go_at_call 6; (with_reducible refine (J1.out _).mono ?_); rintro e o2 ⟨rfl, hb2⟩; have M2 : Hid (LB w1 ka kb kx d p v W C b d2 p2 v2 W2 C2 b2 x0 x1 x2 x3 x4 x5 o2 ∧ SB o2 kn (-1) 0 (-1) E E 0) := ⟨M1.out.1.on hb2, M1.out.2.on hb2 M1.out.2.lt⟩; obtain ⟨a20, a21, a22, a23, a24, a25, _⟩ := M2.out.1.a.cells; obtain ⟨c20, c21, c22, c23, c24, c25, _⟩ := M2.out.1.b'.cells; obtain ⟨f20, f21, f22, f23, f24, f25, _⟩ := M2.out.1.x.cells; obtain ⟨k20, k21, k22, k23, k24, k25, _⟩ := M2.out.2.cells; clear hb2)
            go_wp2_with fail
            refine hK.out _ _ (by (try dsimp only); go_keep) (fun hHeld2 => ?_)
            clear hK K hHeld
            have hHeld := hHeld2
            clear hHeld2
            try simp only [Act.put, List.setIfInBounds_toArray, List.set_cons_zero, List.set_cons_succ]
            refine wpAnyH_take (i := 8) (oi := { dst := some 42, op := Go.Op.binOp Go.BinOp.neq 25 (Go.Operand.tmp 40) (Go.Operand.tmp 41) 25, type := 4, pos := "laws.go:1785", after := #[{ on := 6, ground := Go.Ground.data }, { on := 7, ground := Go.Ground.data }, { on := 3, ground := Go.Ground.guard }], guard := some (3, false) }) (v := ?_) rfl (by kernel_rfl) (by kernel_rfl) (by kernel_rfl) (fun _ _ _ h => h) (Or.inl ⟨by rfl, ?_⟩) (by assumption) ?_
            rotate_left 1
            · (intro w hSw; (try dsimp only at hSw); go_simp); all_goals (with_reducible rfl)
            try simp only [Act.put, List.setIfInBounds_toArray, List.set_cons_zero, List.set_cons_succ]
            refine wpAnyH_take (i := 9) (oi := { dst := some 43, op := Go.Op.pick (Go.Operand.tmp 37) (Go.Operand.const (Go.Value.bool true)) (Go.Operand.tmp 42), type := 4, pos := "laws.go:1785", after := #[{ on := 3, ground := Go.Ground.data }, { on := 8, ground := Go.Ground.data }], guard := none }) (v := ?_) rfl (by kernel_rfl) (by kernel_rfl) (by kernel_rfl) (fun _ _ _ h => h) (Or.inl ⟨by rfl, ?_⟩) (by assumption) ?_
            rotate_left 1
            · (intro w hSw; (try dsimp only at hSw); go_simp); all_goals (with_reducible rfl)
            try simp only [Act.put, List.setIfInBounds_toArray, List.set_cons_zero, List.set_cons_succ]
            refine wpAnyH_take (i := 10) (oi := { dst := some 44, op := Go.Op.move (Go.Operand.tmp 43), type := 4, pos := "laws.go:1785", after := #[{ on := 9, ground := Go.Ground.data }, { on := 6, ground := Go.Ground.chain }], guard := none }) (v := ?_) rfl (by kernel_rfl) (by kernel_rfl) (by kernel_rfl) (fun _ _ _ h => h) (Or.inl ⟨by rfl, ?_⟩) (by assumption) ?_
            rotate_left 1
            · (intro w hSw; (try dsimp only at hSw); go_simp); all_goals (with_reducible rfl)
            try simp only [Act.put, List.setIfInBounds_toArray, List.set_cons_zero, List.set_cons_succ]
            refine wpAnyH_take (i := 11) (oi := { dst := some 45, op := Go.Op.load 25 (Go.Operand.tmp 3), type := 25, pos := "laws.go:1785", after := #[{ on := 10, ground := Go.Ground.guard }], guard := some (10, false) }) (v := ?_) rfl (by kernel_rfl) (by kernel_rfl) (by kernel_rfl) (fun _ _ _ h => h) (Or.inl ⟨by rfl, ?_⟩) (by assumption) ?_
            rotate_left 1
            · (intro w hSw; (try dsimp only at hSw); go_simp); all_goals (with_reducible rfl)
            try simp only [Act.put, List.setIfInBounds_toArray, List.set_cons_zero, List.set_cons_succ]
            refine wpAnyH_take (i := 12) (oi := { dst := some 46, op := Go.Op.load 25 (Go.Operand.tmp 6), type := 25, pos := "laws.go:1785", after := #[{ on := 10, ground := Go.Ground.guard }], guard := some (10, false) }) (v := ?_) rfl (by kernel_rfl) (by kernel_rfl) (by kernel_rfl) (fun _ _ _ h => h) (Or.inl ⟨by rfl, ?_⟩) (by assumption) ?_
            rotate_left 1
            · (intro w hSw; (try dsimp only at hSw); go_simp); all_goals (with_reducible rfl)
            try simp only [Act.put, List.setIfInBounds_toArray, List.set_cons_zero, List.set_cons_succ]
            refine wpAnyH_take (i := 14) (oi := { dst := some 48, op := Go.Op.load 25 (Go.Operand.tmp 3), type := 25, pos := "laws.go:1785", after := #[{ on := 10, ground := Go.Ground.guard }], guard := some (10, false) }) (v := ?_) rfl (by kernel_rfl) (by kernel_rfl) (by kernel_rfl) (fun _ _ _ h => h) (Or.inl ⟨by rfl, ?_⟩) (by assumption) ?_
            rotate_left 1
            · (intro w hSw; (try dsimp only at hSw); go_simp); all_goals (with_reducible rfl)
            try simp only [Act.put, List.setIfInBounds_toArray, List.set_cons_zero, List.set_cons_succ]
            refine wpAnyH_ready (rs := [13]) (by kernel_rfl) (by simp) ?_
            refine AllReadyH.cons (o := { dst := some 47, op := Go.Op.call { callee := Go.Callee.value (Go.Operand.func 6), args := #[Go.Operand.tmp 45, Go.Operand.tmp 46], argTypes := #[25, 25] }, type := 25, pos := "laws.go:1785", after := #[{ on := 11, ground := Go.Ground.data }, { on := 12, ground := Go.Ground.data }, { on := 10, ground := Go.Ground.chain }, { on := 10, ground := Go.Ground.guard }], guard := some (10, false) }) rfl (fun K hK => ?_) AllReadyH.nil
            go_simp
            (go_at_call 6; (with_reducible refine (J2.out _).mono ?_); rintro e o3 ⟨rfl, hb3⟩; have M3 : Hid (LB w1 ka kb kx d p v W C b d2 p2 v2 W2 C2 b2 x0 x1 x2 x3 x4 x5 o3 ∧ SB o3 kn (-1) 0 (-1) E E 0) := ⟨M2.out.1.on hb3, M2.out.2.on hb3 M2.out.2.lt⟩; obtain ⟨a30, a31, a32, a33, a34, a35, _⟩ := M3.out.1.a.cells; obtain ⟨c30, c31, c32, c33, c34, c35, _⟩ := M3.out.1.b'.cells; obtain ⟨f30, f31, f32, f33, f34, f35, _⟩ := M3.out.1.x.cells; obtain ⟨k30, k31, k32, k33, k34, k35, _⟩ := M3.out.2.cells; clear hb3)
            go_wp2_with fail
            refine hK.out _ _ (by (try dsimp only); go_keep) (fun hHeld2 => ?_)
            clear hK K hHeld
            have hHeld := hHeld2
            clear hHeld2
            try simp only [Act.put, List.setIfInBounds_toArray, List.set_cons_zero, List.set_cons_succ]
            refine wpAnyH_take (i := 15) (oi := { dst := some 49, op := Go.Op.binOp Go.BinOp.neq 25 (Go.Operand.tmp 47) (Go.Operand.tmp 48) 25, type := 4, pos := "laws.go:1785", after := #[{ on := 13, ground := Go.Ground.data }, { on := 14, ground := Go.Ground.data }, { on := 10, ground := Go.Ground.guard }], guard := some (10, false) }) (v := ?_) rfl (by kernel_rfl) (by kernel_rfl) (by kernel_rfl) (fun _ _ _ h => h) (Or.inl ⟨by rfl, ?_⟩) (by assumption) ?_
            rotate_left 1
            · (intro w hSw; (try dsimp only at hSw); go_simp); all_goals (with_reducible rfl)
            try simp only [Act.put, List.setIfInBounds_toArray, List.set_cons_zero, List.set_cons_succ]
            refine wpAnyH_take (i := 16) (oi := { dst := some 50, op := Go.Op.pick (Go.Operand.tmp 44) (Go.Operand.const (Go.Value.bool true)) (Go.Operand.tmp 49), type := 4, pos := "laws.go:1785", after := #[{ on := 10, ground := Go.Ground.data }, { on := 15, ground := Go.Ground.data }], guard := none }) (v := ?_) rfl (by kernel_rfl) (by kernel_rfl) (by kernel_rfl) (fun _ _ _ h => h) (Or.inl ⟨by rfl, ?_⟩) (by assumption) ?_
            rotate_left 1
            · (intro w hSw; (try dsimp only at hSw); go_simp); all_goals (with_reducible rfl)
            try simp only [Act.put, List.setIfInBounds_toArray, List.set_cons_zero, List.set_cons_succ]
            refine wpAnyH_take (i := 17) (oi := { dst := some 51, op := Go.Op.move (Go.Operand.tmp 50), type := 4, pos := "laws.go:1785", after := #[{ on := 16, ground := Go.Ground.data }, { on := 13, ground := Go.Ground.chain }], guard := none }) (v := ?_) rfl (by kernel_rfl) (by kernel_rfl) (by kernel_rfl) (fun _ _ _ h => h) (Or.inl ⟨by rfl, ?_⟩) (by assumption) ?_
            rotate_left 1
            · (intro w hSw; (try dsimp only at hSw); go_simp); all_goals (with_reducible rfl)
            try simp only [Act.put, List.setIfInBounds_toArray, List.set_cons_zero, List.set_cons_succ]
            refine wpAnyH_take (i := 18) (oi := { dst := some 52, op := Go.Op.load 25 (Go.Operand.tmp 6), type := 25, pos := "laws.go:1785", after := #[{ on := 17, ground := Go.Ground.guard }], guard := some (17, false) }) (v := ?_) rfl (by kernel_rfl) (by kernel_rfl) (by kernel_rfl) (fun _ _ _ h => h) (Or.inl ⟨by rfl, ?_⟩) (by assumption) ?_
            rotate_left 1
            · (intro w hSw; (try dsimp only at hSw); go_simp); all_goals (with_reducible rfl)
            try simp only [Act.put, List.setIfInBounds_toArray, List.set_cons_zero, List.set_cons_succ]
            refine wpAnyH_take (i := 19) (oi := { dst := some 53, op := Go.Op.load 25 (Go.Operand.tmp 3), type := 25, pos := "laws.go:1785", after := #[{ on := 17, ground := Go.Ground.guard }], guard := some (17, false) }) (v := ?_) rfl (by kernel_rfl) (by kernel_rfl) (by kernel_rfl) (fun _ _ _ h => h) (Or.inl ⟨by rfl, ?_⟩) (by assumption) ?_
            rotate_left 1
            · (intro w hSw; (try dsimp only at hSw); go_simp); all_goals (with_reducible rfl)
            try simp only [Act.put, List.setIfInBounds_toArray, List.set_cons_zero, List.set_cons_succ]
            refine wpAnyH_take (i := 21) (oi := { dst := some 55, op := Go.Op.load 25 (Go.Operand.tmp 3), type := 25, pos := "laws.go:1785", after := #[{ on := 17, ground := Go.Ground.guard }], guard := some (17, false) }) (v := ?_) rfl (by kernel_rfl) (by kernel_rfl) (by kernel_rfl) (fun _ _ _ h => h) (Or.inl ⟨by rfl, ?_⟩) (by assumption) ?_
            rotate_left 1
            · (intro w hSw; (try dsimp only at hSw); go_simp); all_goals (with_reducible rfl)
            try simp only [Act.put, List.setIfInBounds_toArray, List.set_cons_zero, List.set_cons_succ]
            refine wpAnyH_ready (rs := [20]) (by kernel_rfl) (by simp) ?_
            refine AllReadyH.cons (o := { dst := some 54, op := Go.Op.call { callee := Go.Callee.value (Go.Operand.func 6), args := #[Go.Operand.tmp 52, Go.Operand.tmp 53], argTypes := #[25, 25] }, type := 25, pos := "laws.go:1785", after := #[{ on := 18, ground := Go.Ground.data }, { on := 19, ground := Go.Ground.data }, { on := 17, ground := Go.Ground.chain }, { on := 17, ground := Go.Ground.guard }], guard := some (17, false) }) rfl (fun K hK => ?_) AllReadyH.nil
            go_simp
            (go_at_call 6; (with_reducible refine (J3.out _).mono ?_); rintro e o4 ⟨rfl, hb4⟩; have M4 : Hid (LB w1 ka kb kx d p v W C b d2 p2 v2 W2 C2 b2 x0 x1 x2 x3 x4 x5 o4 ∧ SB o4 kn (-1) 0 (-1) E E 0) := ⟨M3.out.1.on hb4, M3.out.2.on hb4 M3.out.2.lt⟩; obtain ⟨a40, a41, a42, a43, a44, a45, _⟩ := M4.out.1.a.cells; obtain ⟨c40, c41, c42, c43, c44, c45, _⟩ := M4.out.1.b'.cells; obtain ⟨f40, f41, f42, f43, f44, f45, _⟩ := M4.out.1.x.cells; obtain ⟨k40, k41, k42, k43, k44, k45, _⟩ := M4.out.2.cells; clear hb4)
            go_wp2_with fail
            refine hK.out _ _ (by (try dsimp only); go_keep) (fun hHeld2 => ?_)
            clear hK K hHeld
            have hHeld := hHeld2
            clear hHeld2
            try simp only [Act.put, List.setIfInBounds_toArray, List.set_cons_zero, List.set_cons_succ]
            refine wpAnyH_take (i := 22) (oi := { dst := some 56, op := Go.Op.binOp Go.BinOp.neq 25 (Go.Operand.tmp 54) (Go.Operand.tmp 55) 25, type := 4, pos := "laws.go:1785", after := #[{ on := 20, ground := Go.Ground.data }, { on := 21, ground := Go.Ground.data }, { on := 17, ground := Go.Ground.guard }], guard := some (17, false) }) (v := ?_) rfl (by kernel_rfl) (by kernel_rfl) (by kernel_rfl) (fun _ _ _ h => h) (Or.inl ⟨by rfl, ?_⟩) (by assumption) ?_
            rotate_left 1
            · (intro w hSw; (try dsimp only at hSw); go_simp); all_goals (with_reducible rfl)
            try simp only [Act.put, List.setIfInBounds_toArray, List.set_cons_zero, List.set_cons_succ]
            refine wpAnyH_take (i := 23) (oi := { dst := some 57, op := Go.Op.pick (Go.Operand.tmp 51) (Go.Operand.const (Go.Value.bool true)) (Go.Operand.tmp 56), type := 4, pos := "laws.go:1785", after := #[{ on := 17, ground := Go.Ground.data }, { on := 22, ground := Go.Ground.data }], guard := none }) (v := ?_) rfl (by kernel_rfl) (by kernel_rfl) (by kernel_rfl) (fun _ _ _ h => h) (Or.inl ⟨by rfl, ?_⟩) (by assumption) ?_
            rotate_left 1
            · (intro w hSw; (try dsimp only at hSw); go_simp); all_goals (with_reducible rfl)
            try simp only [Act.put, List.setIfInBounds_toArray, List.set_cons_zero, List.set_cons_succ]
            refine wpAnyH_take (i := 24) (oi := { dst := some 58, op := Go.Op.move (Go.Operand.tmp 57), type := 4, pos := "laws.go:1785", after := #[{ on := 23, ground := Go.Ground.data }, { on := 20, ground := Go.Ground.chain }], guard := none }) (v := ?_) rfl (by kernel_rfl) (by kernel_rfl) (by kernel_rfl) (fun _ _ _ h => h) (Or.inl ⟨by rfl, ?_⟩) (by assumption) ?_
            rotate_left 1
            · (intro w hSw; (try dsimp only at hSw); go_simp); all_goals (with_reducible rfl)
            try simp only [Act.put, List.setIfInBounds_toArray, List.set_cons_zero, List.set_cons_succ]
            refine wpAnyH_take (i := 25) (oi := { dst := some 59, op := Go.Op.load 25 (Go.Operand.tmp 4), type := 25, pos := "laws.go:1785", after := #[{ on := 24, ground := Go.Ground.guard }], guard := some (24, false) }) (v := ?_) rfl (by kernel_rfl) (by kernel_rfl) (by kernel_rfl) (fun _ _ _ h => h) (Or.inl ⟨by rfl, ?_⟩) (by assumption) ?_
            rotate_left 1
            · (intro w hSw; (try dsimp only at hSw); go_simp); all_goals (with_reducible rfl)
            try simp only [Act.put, List.setIfInBounds_toArray, List.set_cons_zero, List.set_cons_succ]
            refine wpAnyH_take (i := 26) (oi := { dst := some 60, op := Go.Op.load 25 (Go.Operand.tmp 5), type := 25, pos := "laws.go:1785", after := #[{ on := 24, ground := Go.Ground.guard }], guard := some (24, false) }) (v := ?_) rfl (by kernel_rfl) (by kernel_rfl) (by kernel_rfl) (fun _ _ _ h => h) (Or.inl ⟨by rfl, ?_⟩) (by assumption) ?_
            rotate_left 1
            · (intro w hSw; (try dsimp only at hSw); go_simp); all_goals (with_reducible rfl)
            try simp only [Act.put, List.setIfInBounds_toArray, List.set_cons_zero, List.set_cons_succ]
            refine wpAnyH_take (i := 28) (oi := { dst := some 62, op := Go.Op.load 25 (Go.Operand.tmp 5), type := 25, pos := "laws.go:1785", after := #[{ on := 24, ground := Go.Ground.guard }], guard := some (24, false) }) (v := ?_) rfl (by kernel_rfl) (by kernel_rfl) (by kernel_rfl) (fun _ _ _ h => h) (Or.inl ⟨by rfl, ?_⟩) (by assumption) ?_
            rotate_left 1
            · (intro w hSw; (try dsimp only at hSw); go_simp); all_goals (with_reducible rfl)
            try simp only [Act.put, List.setIfInBounds_toArray, List.set_cons_zero, List.set_cons_succ]
            refine wpAnyH_ready (rs := [27]) (by kernel_rfl) (by simp) ?_
            refine AllReadyH.cons (o := { dst := some 61, op := Go.Op.call { callee := Go.Callee.value (Go.Operand.func 6), args := #[Go.Operand.tmp 59, Go.Operand.tmp 60], argTypes := #[25, 25] }, type := 25, pos := "laws.go:1785", after := #[{ on := 25, ground := Go.Ground.data }, { on := 26, ground := Go.Ground.data }, { on := 24, ground := Go.Ground.chain }, { on := 24, ground := Go.Ground.guard }], guard := some (24, false) }) rfl (fun K hK => ?_) AllReadyH.nil
            go_simp
            (go_at_call 6; (with_reducible refine (J4.out _).mono ?_); rintro e o5 ⟨rfl, hb5⟩; have Q5 : Hid (LB w1 ka kb kx d p v W C b d2 p2 v2 W2 C2 b2 x0 x1 x2 x3 x4 x5 o5 ∧ SB o5 kn (-1) 0 (-1) E E 0) := ⟨M4.out.1.on hb5, M4.out.2.on hb5 M4.out.2.lt⟩; obtain ⟨a50, a51, a52, a53, a54, a55, _⟩ := Q5.out.1.a.cells; obtain ⟨c50, c51, c52, c53, c54, c55, _⟩ := Q5.out.1.b'.cells; obtain ⟨f50, f51, f52, f53, f54, f55, _⟩ := Q5.out.1.x.cells; obtain ⟨k50, k51, k52, k53, k54, k55, _⟩ := Q5.out.2.cells; clear hb5)
            go_wp2_with fail
            refine hK.out _ _ (by (try dsimp only); go_keep) (fun hHeld2 => ?_)
            clear hK K hHeld
            have hHeld := hHeld2
            clear hHeld2
            try simp only [Act.put, List.setIfInBounds_toArray, List.set_cons_zero, List.set_cons_succ]
            refine wpAnyH_take (i := 29) (oi := { dst := some 63, op := Go.Op.binOp Go.BinOp.neq 25 (Go.Operand.tmp 61) (Go.Operand.tmp 62) 25, type := 4, pos := "laws.go:1785", after := #[{ on := 27, ground := Go.Ground.data }, { on := 28, ground := Go.Ground.data }, { on := 24, ground := Go.Ground.guard }], guard := some (24, false) }) (v := ?_) rfl (by kernel_rfl) (by kernel_rfl) (by kernel_rfl) (fun _ _ _ h => h) (Or.inl ⟨by rfl, ?_⟩) (by assumption) ?_
            rotate_left 1
            · (intro w hSw; (try dsimp only at hSw); go_simp); all_goals (with_reducible rfl)
            try simp only [Act.put, List.setIfInBounds_toArray, List.set_cons_zero, List.set_cons_succ]
            refine wpAnyH_take (i := 30) (oi := { dst := some 64, op := Go.Op.move (Go.Operand.tmp 63), type := 4, pos := "laws.go:1785", after := #[{ on := 29, ground := Go.Ground.data }, { on := 27, ground := Go.Ground.chain }, { on := 24, ground := Go.Ground.guard }], guard := some (24, false) }) (v := ?_) rfl (by kernel_rfl) (by kernel_rfl) (by kernel_rfl) (fun _ _ _ h => h) (Or.inl ⟨by rfl, ?_⟩) (by assumption) ?_
            rotate_left 1
            · (intro w hSw; (try dsimp only at hSw); go_simp); all_goals (with_reducible rfl)
            try simp only [Act.put, List.setIfInBounds_toArray, List.set_cons_zero, List.set_cons_succ]
            refine wpAnyH_take (i := 31) (oi := { dst := some 65, op := Go.Op.fieldAddr 25 (Go.Operand.tmp 5) 0, type := 0, pos := "laws.go:1785", after := #[{ on := 30, ground := Go.Ground.guard }], guard := some (30, true) }) (v := ?_) rfl (by kernel_rfl) (by kernel_rfl) (by kernel_rfl) (fun _ _ _ h => h) (Or.inl ⟨by rfl, ?_⟩) (by assumption) ?_
            rotate_left 1
            · (intro w hSw; (try dsimp only at hSw); go_simp); all_goals (with_reducible rfl)
            try simp only [Act.put, List.setIfInBounds_toArray, List.set_cons_zero, List.set_cons_succ]
            refine wpAnyH_take (i := 32) (oi := { dst := some 66, op := Go.Op.load 2 (Go.Operand.tmp 65), type := 2, pos := "laws.go:1785", after := #[{ on := 31, ground := Go.Ground.data }, { on := 30, ground := Go.Ground.guard }], guard := some (30, true) }) (v := ?_) rfl (by kernel_rfl) (by kernel_rfl) (by kernel_rfl) (fun _ _ _ h => h) (Or.inl ⟨by rfl, ?_⟩) (by assumption) ?_
            rotate_left 1
            · (intro w hSw; (try dsimp only at hSw); go_simp); all_goals (with_reducible rfl)
            try simp only [Act.put, List.setIfInBounds_toArray, List.set_cons_zero, List.set_cons_succ]
            refine wpAnyH_take (i := 33) (oi := { dst := some 67, op := Go.Op.binOp Go.BinOp.neq 2 (Go.Operand.tmp 66) (Go.Operand.const (Go.Value.int Go.IntKind.i64 (-1))) 2, type := 4, pos := "laws.go:1785", after := #[{ on := 32, ground := Go.Ground.data }, { on := 30, ground := Go.Ground.guard }], guard := some (30, true) }) (v := ?_) rfl (by kernel_rfl) (by kernel_rfl) (by kernel_rfl) (fun _ _ _ h => h) (Or.inl ⟨by rfl, ?_⟩) (by assumption) ?_
            rotate_left 1
            · (intro w hSw; (try dsimp only at hSw); go_simp); all_goals (with_reducible rfl)
            try simp only [Act.put, List.setIfInBounds_toArray, List.set_cons_zero, List.set_cons_succ]
            refine wpAnyH_take (i := 34) (oi := { dst := some 68, op := Go.Op.pick (Go.Operand.tmp 64) (Go.Operand.tmp 67) (Go.Operand.const (Go.Value.bool false)), type := 4, pos := "laws.go:1785", after := #[{ on := 30, ground := Go.Ground.data }, { on := 33, ground := Go.Ground.data }, { on := 24, ground := Go.Ground.guard }], guard := some (24, false) }) (v := ?_) rfl (by kernel_rfl) (by kernel_rfl) (by kernel_rfl) (fun _ _ _ h => h) (Or.inl ⟨by rfl, ?_⟩) (by assumption) ?_
            rotate_left 1
            · (intro w hSw; (try dsimp only at hSw); go_simp); all_goals (with_reducible rfl)
            try simp only [Act.put, List.setIfInBounds_toArray, List.set_cons_zero, List.set_cons_succ]
            refine wpAnyH_take (i := 35) (oi := { dst := some 69, op := Go.Op.move (Go.Operand.tmp 68), type := 4, pos := "laws.go:1785", after := #[{ on := 34, ground := Go.Ground.data }, { on := 30, ground := Go.Ground.chain }, { on := 24, ground := Go.Ground.guard }], guard := some (24, false) }) (v := ?_) rfl (by kernel_rfl) (by kernel_rfl) (by kernel_rfl) (fun _ _ _ h => h) (Or.inl ⟨by rfl, ?_⟩) (by assumption) ?_
            rotate_left 1
            · (intro w hSw; (try dsimp only at hSw); go_simp); all_goals (with_reducible rfl)
            try simp only [Act.put, List.setIfInBounds_toArray, List.set_cons_zero, List.set_cons_succ]
            refine wpAnyH_take (i := 36) (oi := { dst := some 70, op := Go.Op.fieldAddr 25 (Go.Operand.tmp 5) 2, type := 0, pos := "laws.go:1785", after := #[{ on := 35, ground := Go.Ground.guard }], guard := some (35, true) }) (v := ?_) rfl (by kernel_rfl) (by kernel_rfl) (by kernel_rfl) (fun _ _ _ h => h) (Or.inl ⟨by rfl, ?_⟩) (by assumption) ?_
            rotate_left 1
            · (intro w hSw; (try dsimp only at hSw); go_simp); all_goals (with_reducible rfl)
            try simp only [Act.put, List.setIfInBounds_toArray, List.set_cons_zero, List.set_cons_succ]
            refine wpAnyH_take (i := 37) (oi := { dst := some 71, op := Go.Op.load 2 (Go.Operand.tmp 70), type := 2, pos := "laws.go:1785", after := #[{ on := 36, ground := Go.Ground.data }, { on := 35, ground := Go.Ground.guard }], guard := some (35, true) }) (v := ?_) rfl (by kernel_rfl) (by kernel_rfl) (by kernel_rfl) (fun _ _ _ h => h) (Or.inl ⟨by rfl, ?_⟩) (by assumption) ?_
            rotate_left 1
            · (intro w hSw; (try dsimp only at hSw); go_simp); all_goals (with_reducible rfl)
            try simp only [Act.put, List.setIfInBounds_toArray, List.set_cons_zero, List.set_cons_succ]
            refine wpAnyH_take (i := 38) (oi := { dst := some 72, op := Go.Op.binOp Go.BinOp.neq 2 (Go.Operand.tmp 71) (Go.Operand.const (Go.Value.int Go.IntKind.i64 (-1))) 2, type := 4, pos := "laws.go:1785", after := #[{ on := 37, ground := Go.Ground.data }, { on := 35, ground := Go.Ground.guard }], guard := some (35, true) }) (v := ?_) rfl (by kernel_rfl) (by kernel_rfl) (by kernel_rfl) (fun _ _ _ h => h) (Or.inl ⟨by rfl, ?_⟩) (by assumption) ?_
            rotate_left 1
            · (intro w hSw; (try dsimp only at hSw); go_simp); all_goals (with_reducible rfl)
            try simp only [Act.put, List.setIfInBounds_toArray, List.set_cons_zero, List.set_cons_succ]
            refine wpAnyH_take (i := 39) (oi := { dst := some 73, op := Go.Op.pick (Go.Operand.tmp 69) (Go.Operand.tmp 72) (Go.Operand.const (Go.Value.bool false)), type := 4, pos := "laws.go:1785", after := #[{ on := 35, ground := Go.Ground.data }, { on := 38, ground := Go.Ground.data }, { on := 24, ground := Go.Ground.guard }], guard := some (24, false) }) (v := ?_) rfl (by kernel_rfl) (by kernel_rfl) (by kernel_rfl) (fun _ _ _ h => h) (Or.inl ⟨by rfl, ?_⟩) (by assumption) ?_
            rotate_left 1
            · (intro w hSw; (try dsimp only at hSw); go_simp); all_goals (with_reducible rfl)
            try simp only [Act.put, List.setIfInBounds_toArray, List.set_cons_zero, List.set_cons_succ]
            refine wpAnyH_take (i := 40) (oi := { dst := some 74, op := Go.Op.move (Go.Operand.tmp 73), type := 4, pos := "laws.go:1785", after := #[{ on := 39, ground := Go.Ground.data }, { on := 35, ground := Go.Ground.chain }, { on := 24, ground := Go.Ground.guard }], guard := some (24, false) }) (v := ?_) rfl (by kernel_rfl) (by kernel_rfl) (by kernel_rfl) (fun _ _ _ h => h) (Or.inl ⟨by rfl, ?_⟩) (by assumption) ?_
            rotate_left 1
            · (intro w hSw; (try dsimp only at hSw); go_simp); all_goals (with_reducible rfl)
            try simp only [Act.put, List.setIfInBounds_toArray, List.set_cons_zero, List.set_cons_succ]
            refine wpAnyH_take (i := 41) (oi := { dst := some 75, op := Go.Op.fieldAddr 25 (Go.Operand.tmp 5) 3, type := 0, pos := "laws.go:1785", after := #[{ on := 40, ground := Go.Ground.guard }], guard := some (40, true) }) (v := ?_) rfl (by kernel_rfl) (by kernel_rfl) (by kernel_rfl) (fun _ _ _ h => h) (Or.inl ⟨by rfl, ?_⟩) (by assumption) ?_
            rotate_left 1
            · (intro w hSw; (try dsimp only at hSw); go_simp); all_goals (with_reducible rfl)
            try simp only [Act.put, List.setIfInBounds_toArray, List.set_cons_zero, List.set_cons_succ]
            refine wpAnyH_take (i := 42) (oi := { dst := some 76, op := Go.Op.load 9 (Go.Operand.tmp 75), type := 9, pos := "laws.go:1785", after := #[{ on := 41, ground := Go.Ground.data }, { on := 40, ground := Go.Ground.guard }], guard := some (40, true) }) (v := ?_) rfl (by kernel_rfl) (by kernel_rfl) (by kernel_rfl) (fun _ _ _ h => h) (Or.inl ⟨by rfl, ?_⟩) (by assumption) ?_
            rotate_left 1
            · (intro w hSw; (try dsimp only at hSw); go_simp); all_goals (with_reducible rfl)
            try simp only [Act.put, List.setIfInBounds_toArray, List.set_cons_zero, List.set_cons_succ]
            refine wpAnyH_take (i := 43) (oi := { dst := some 77, op := Go.Op.binOp Go.BinOp.neq 9 (Go.Operand.tmp 76) (Go.Operand.const (Go.Value.string { data := #[] })) 9, type := 4, pos := "laws.go:1785", after := #[{ on := 42, ground := Go.Ground.data }, { on := 40, ground := Go.Ground.guard }], guard := some (40, true) }) (v := ?_) rfl (by kernel_rfl) (by kernel_rfl) (by kernel_rfl) (fun _ _ _ h => h) (Or.inl ⟨by rfl, ?_⟩) (by assumption) ?_
            rotate_left 1
            · (intro w hSw; (try dsimp only at hSw); go_simp); all_goals (with_reducible rfl)
            try simp only [Act.put, List.setIfInBounds_toArray, List.set_cons_zero, List.set_cons_succ]
            refine wpAnyH_take (i := 44) (oi := { dst := some 78, op := Go.Op.pick (Go.Operand.tmp 74) (Go.Operand.tmp 77) (Go.Operand.const (Go.Value.bool false)), type := 4, pos := "laws.go:1785", after := #[{ on := 40, ground := Go.Ground.data }, { on := 43, ground := Go.Ground.data }, { on := 24, ground := Go.Ground.guard }], guard := some (24, false) }) (v := ?_) rfl (by kernel_rfl) (by kernel_rfl) (by kernel_rfl) (fun _ _ _ h => h) (Or.inl ⟨by rfl, ?_⟩) (by assumption) ?_
            rotate_left 1
            · (intro w hSw; (try dsimp only at hSw); go_simp); all_goals (with_reducible rfl)
            try simp only [Act.put, List.setIfInBounds_toArray, List.set_cons_zero, List.set_cons_succ]
            refine wpAnyH_take (i := 45) (oi := { dst := some 79, op := Go.Op.move (Go.Operand.tmp 78), type := 4, pos := "laws.go:1785", after := #[{ on := 44, ground := Go.Ground.data }, { on := 40, ground := Go.Ground.chain }, { on := 24, ground := Go.Ground.guard }], guard := some (24, false) }) (v := ?_) rfl (by kernel_rfl) (by kernel_rfl) (by kernel_rfl) (fun _ _ _ h => h) (Or.inl ⟨by rfl, ?_⟩) (by assumption) ?_
            rotate_left 1
            · (intro w hSw; (try dsimp only at hSw); go_simp); all_goals (with_reducible rfl)
            try simp only [Act.put, List.setIfInBounds_toArray, List.set_cons_zero, List.set_cons_succ]
            refine wpAnyH_take (i := 46) (oi := { dst := some 80, op := Go.Op.fieldAddr 25 (Go.Operand.tmp 5) 4, type := 0, pos := "laws.go:1785", after := #[{ on := 45, ground := Go.Ground.guard }], guard := some (45, true) }) (v := undef) rfl (by kernel_rfl) (by kernel_rfl) (by kernel_rfl) (fun _ _ _ h => h) (Or.inr ⟨by rfl, rfl⟩) (by assumption) ?_
            try simp only [Act.put, List.setIfInBounds_toArray, List.set_cons_zero, List.set_cons_succ]
            refine wpAnyH_take (i := 47) (oi := { dst := some 81, op := Go.Op.load 9 (Go.Operand.tmp 80), type := 9, pos := "laws.go:1785", after := #[{ on := 46, ground := Go.Ground.data }, { on := 45, ground := Go.Ground.guard }], guard := some (45, true) }) (v := undef) rfl (by kernel_rfl) (by kernel_rfl) (by kernel_rfl) (fun _ _ _ h => h) (Or.inr ⟨by rfl, rfl⟩) (by assumption) ?_
            try simp only [Act.put, List.setIfInBounds_toArray, List.set_cons_zero, List.set_cons_succ]
            refine wpAnyH_take (i := 48) (oi := { dst := some 82, op := Go.Op.binOp Go.BinOp.neq 9 (Go.Operand.tmp 81) (Go.Operand.const (Go.Value.string { data := #[] })) 9, type := 4, pos := "laws.go:1785", after := #[{ on := 47, ground := Go.Ground.data }, { on := 45, ground := Go.Ground.guard }], guard := some (45, true) }) (v := undef) rfl (by kernel_rfl) (by kernel_rfl) (by kernel_rfl) (fun _ _ _ h => h) (Or.inr ⟨by rfl, rfl⟩) (by assumption) ?_
            try simp only [Act.put, List.setIfInBounds_toArray, List.set_cons_zero, List.set_cons_succ]
            refine wpAnyH_take (i := 49) (oi := { dst := some 83, op := Go.Op.pick (Go.Operand.tmp 79) (Go.Operand.tmp 82) (Go.Operand.const (Go.Value.bool false)), type := 4, pos := "laws.go:1785", after := #[{ on := 45, ground := Go.Ground.data }, { on := 48, ground := Go.Ground.data }, { on := 24, ground := Go.Ground.guard }], guard := some (24, false) }) (v := ?_) rfl (by kernel_rfl) (by kernel_rfl) (by kernel_rfl) (fun _ _ _ h => h) (Or.inl ⟨by rfl, ?_⟩) (by assumption) ?_
            rotate_left 1
            · (intro w hSw; (try dsimp only at hSw); go_simp); all_goals (with_reducible rfl)
            try simp only [Act.put, List.setIfInBounds_toArray, List.set_cons_zero, List.set_cons_succ]
            refine wpAnyH_take (i := 50) (oi := { dst := some 84, op := Go.Op.pick (Go.Operand.tmp 58) (Go.Operand.const (Go.Value.bool true)) (Go.Operand.tmp 83), type := 4, pos := "laws.go:1785", after := #[{ on := 24, ground := Go.Ground.data }, { on := 49, ground := Go.Ground.data }], guard := none }) (v := ?_) rfl (by kernel_rfl) (by kernel_rfl) (by kernel_rfl) (fun _ _ _ h => h) (Or.inl ⟨by rfl, ?_⟩) (by assumption) ?_
            rotate_left 1
            · (intro w hSw; (try dsimp only at hSw); go_simp); all_goals (with_reducible rfl)
            try simp only [Act.put, List.setIfInBounds_toArray, List.set_cons_zero, List.set_cons_succ]
            refine wpAnyH_done (by kernel_rfl) ?_ _
            go_wp2_with fail
            go_meet
            exact ⟨rfl, Q5.out.1⟩
        · have m2 : (x2 != -1) = false := by show (!(x2 == -1)) = _; rw [h2]; rfl
          clear Q
          refine wp_region_held_drew (S := fun w' => w'.cell? ⟨ka, 0, none⟩ = some (.int .i64 (d)) ∧ w'.cell? ⟨ka, 1, none⟩ = some (.int .i64 (p)) ∧ w'.cell? ⟨ka, 2, none⟩ = some (.int .i64 (v)) ∧ w'.cell? ⟨ka, 3, none⟩ = some (.string W) ∧ w'.cell? ⟨ka, 4, none⟩ = some (.string C) ∧ w'.cell? ⟨ka, 5, none⟩ = some (.int .i64 (b)) ∧ w'.cell? ⟨kb, 0, none⟩ = some (.int .i64 (d2)) ∧ w'.cell? ⟨kb, 1, none⟩ = some (.int .i64 (p2)) ∧ w'.cell? ⟨kb, 2, none⟩ = some (.int .i64 (v2)) ∧ w'.cell? ⟨kb, 3, none⟩ = some (.string W2) ∧ w'.cell? ⟨kb, 4, none⟩ = some (.string C2) ∧ w'.cell? ⟨kb, 5, none⟩ = some (.int .i64 (b2)) ∧ w'.cell? ⟨kx, 0, none⟩ = some (.int .i64 (x0)) ∧ w'.cell? ⟨kx, 1, none⟩ = some (.int .i64 (x1)) ∧ w'.cell? ⟨kx, 2, none⟩ = some (.int .i64 (x2)) ∧ w'.cell? ⟨kx, 3, none⟩ = some (.string x3) ∧ w'.cell? ⟨kx, 4, none⟩ = some (.string x4) ∧ w'.cell? ⟨kx, 5, none⟩ = some (.int .i64 (x5)) ∧ w'.cell? ⟨kn, 0, none⟩ = some (.int .i64 (-1)) ∧ w'.cell? ⟨kn, 1, none⟩ = some (.int .i64 (0)) ∧ w'.cell? ⟨kn, 2, none⟩ = some (.int .i64 (-1)) ∧ w'.cell? ⟨kn, 3, none⟩ = some (.string E) ∧ w'.cell? ⟨kn, 4, none⟩ = some (.string E) ∧ w'.cell? ⟨kn, 5, none⟩ = some (.int .i64 (0))) (by kernel_rfl) (by (try dsimp only); go_keep) (fun hHeld => ?_)
          refine wpAnyH_take (i := 0) (oi := { dst := some 34, op := Go.Op.load 25 (Go.Operand.tmp 5), type := 25, pos := "laws.go:1785", after := #[], guard := none }) (v := ?_) rfl (by kernel_rfl) (by kernel_rfl) (by kernel_rfl) (fun _ _ _ h => h) (Or.inl ⟨by rfl, ?_⟩) (by assumption) ?_
          rotate_left 1
          · (intro w hSw; (try dsimp only at hSw); go_simp); all_goals (with_reducible rfl)
          try simp only [Act.put, List.setIfInBounds_toArray, List.set_cons_zero, List.set_cons_succ]
          refine wpAnyH_ready (rs := [1]) (by kernel_rfl) (by simp) ?_
          refine AllReadyH.cons (o := { dst := some 35, op := Go.Op.call { callee := Go.Callee.value (Go.Operand.func 9), args := #[Go.Operand.tmp 34], argTypes := #[25] }, type := 4, pos := "laws.go:1785", after := #[{ on := 0, ground := Go.Ground.data }], guard := none }) rfl (fun K hK => ?_) AllReadyH.nil
          go_simp
          (go_at_call 9; (with_reducible refine (J0.out _).mono ?_); rintro e o1 ⟨rfl, hb1⟩; have M1 : Hid (LB w1 ka kb kx d p v W C b d2 p2 v2 W2 C2 b2 x0 x1 x2 x3 x4 x5 o1 ∧ SB o1 kn (-1) 0 (-1) E E 0) := (by have z := L5.out.1.on ((Below.refl _ _).drew.trans hb1); have y := L5.out.2.on ((Below.refl _ _).drew.trans hb1) L5.out.2.lt; exact ⟨z, y⟩); obtain ⟨a10, a11, a12, a13, a14, a15, _⟩ := M1.out.1.a.cells; obtain ⟨c10, c11, c12, c13, c14, c15, _⟩ := M1.out.1.b'.cells; obtain ⟨f10, f11, f12, f13, f14, f15, _⟩ := M1.out.1.x.cells; obtain ⟨k10, k11, k12, k13, k14, k15, _⟩ := M1.out.2.cells; clear hb1)
          go_wp2_with fail
          refine hK.out _ _ (by (try dsimp only); go_keep) (fun hHeld2 => ?_)
          clear hK K hHeld
          have hHeld := hHeld2
          clear hHeld2
          try simp only [Act.put, List.setIfInBounds_toArray, List.set_cons_zero, List.set_cons_succ]
          refine wpAnyH_take (i := 2) (oi := { dst := some 36, op := Go.Op.unOp Go.UnOp.not 4 (Go.Operand.tmp 35), type := 4, pos := "laws.go:1785", after := #[{ on := 1, ground := Go.Ground.data }], guard := none }) (v := ?_) rfl (by kernel_rfl) (by kernel_rfl) (by kernel_rfl) (fun _ _ _ h => h) (Or.inl ⟨by rfl, ?_⟩) (by assumption) ?_
          rotate_left 1
          · (intro w hSw; (try dsimp only at hSw); go_simp); all_goals (with_reducible rfl)
          try simp only [Act.put, List.setIfInBounds_toArray, List.set_cons_zero, List.set_cons_succ]
          refine wpAnyH_take (i := 3) (oi := { dst := some 37, op := Go.Op.move (Go.Operand.tmp 36), type := 4, pos := "laws.go:1785", after := #[{ on := 2, ground := Go.Ground.data }, { on := 1, ground := Go.Ground.chain }], guard := none }) (v := ?_) rfl (by kernel_rfl) (by kernel_rfl) (by kernel_rfl) (fun _ _ _ h => h) (Or.inl ⟨by rfl, ?_⟩) (by assumption) ?_
          rotate_left 1
          · (intro w hSw; (try dsimp only at hSw); go_simp); all_goals (with_reducible rfl)
          try simp only [Act.put, List.setIfInBounds_toArray, List.set_cons_zero, List.set_cons_succ]
          refine wpAnyH_take (i := 4) (oi := { dst := some 38, op := Go.Op.load 25 (Go.Operand.tmp 5), type := 25, pos := "laws.go:1785", after := #[{ on := 3, ground := Go.Ground.guard }], guard := some (3, false) }) (v := ?_) rfl (by kernel_rfl) (by kernel_rfl) (by kernel_rfl) (fun _ _ _ h => h) (Or.inl ⟨by rfl, ?_⟩) (by assumption) ?_
          rotate_left 1
          · (intro w hSw; (try dsimp only at hSw); go_simp); all_goals (with_reducible rfl)
          try simp only [Act.put, List.setIfInBounds_toArray, List.set_cons_zero, List.set_cons_succ]
          refine wpAnyH_take (i := 5) (oi := { dst := some 39, op := Go.Op.load 25 (Go.Operand.tmp 4), type := 25, pos := "laws.go:1785", after := #[{ on := 3, ground := Go.Ground.guard }], guard := some (3, false) }) (v := ?_) rfl (by kernel_rfl) (by kernel_rfl) (by kernel_rfl) (fun _ _ _ h => h) (Or.inl ⟨by rfl, ?_⟩) (by assumption) ?_
          rotate_left 1
          · (intro w hSw; (try dsimp only at hSw); go_simp); all_goals (with_reducible rfl)
          try simp only [Act.put, List.setIfInBounds_toArray, List.set_cons_zero, List.set_cons_succ]
          refine wpAnyH_take (i := 7) (oi := { dst := some 41, op := Go.Op.load 25 (Go.Operand.tmp 5), type := 25, pos := "laws.go:1785", after := #[{ on := 3, ground := Go.Ground.guard }], guard := some (3, false) }) (v := ?_) rfl (by kernel_rfl) (by kernel_rfl) (by kernel_rfl) (fun _ _ _ h => h) (Or.inl ⟨by rfl, ?_⟩) (by assumption) ?_
          rotate_left 1
          · (intro w hSw; (try dsimp only at hSw); go_simp); all_goals (with_reducible rfl)
          try simp only [Act.put, List.setIfInBounds_toArray, List.set_cons_zero, List.set_cons_succ]
          refine wpAnyH_ready (rs := [6]) (by kernel_rfl) (by simp) ?_
          refine AllReadyH.cons (o := { dst := some 40, op := Go.Op.call { callee := Go.Callee.value (Go.Operand.func 6), args := #[Go.Operand.tmp 38, Go.Operand.tmp 39], argTypes := #[25, 25] }, type := 25, pos := "laws.go:1785", after := #[{ on := 4, ground := Go.Ground.data }, { on := 5, ground := Go.Ground.data }, { on := 3, ground := Go.Ground.chain }, { on := 3, ground := Go.Ground.guard }], guard := some (3, false) }) rfl (fun K hK => ?_) AllReadyH.nil
          go_simp
          (go_at_call 6; (with_reducible refine (J1.out _).mono ?_); rintro e o2 ⟨rfl, hb2⟩; have M2 : Hid (LB w1 ka kb kx d p v W C b d2 p2 v2 W2 C2 b2 x0 x1 x2 x3 x4 x5 o2 ∧ SB o2 kn (-1) 0 (-1) E E 0) := ⟨M1.out.1.on hb2, M1.out.2.on hb2 M1.out.2.lt⟩; obtain ⟨a20, a21, a22, a23, a24, a25, _⟩ := M2.out.1.a.cells; obtain ⟨c20, c21, c22, c23, c24, c25, _⟩ := M2.out.1.b'.cells; obtain ⟨f20, f21, f22, f23, f24, f25, _⟩ := M2.out.1.x.cells; obtain ⟨k20, k21, k22, k23, k24, k25, _⟩ := M2.out.2.cells; clear hb2)
          go_wp2_with fail
          refine hK.out _ _ (by (try dsimp only); go_keep) (fun hHeld2 => ?_)
          clear hK K hHeld
          have hHeld := hHeld2
          clear hHeld2
          try simp only [Act.put, List.setIfInBounds_toArray, List.set_cons_zero, List.set_cons_succ]
          refine wpAnyH_take (i := 8) (oi := { dst := some 42, op := Go.Op.binOp Go.BinOp.neq 25 (Go.Operand.tmp 40) (Go.Operand.tmp 41) 25, type := 4, pos := "laws.go:1785", after := #[{ on := 6, ground := Go.Ground.data }, { on := 7, ground := Go.Ground.data }, { on := 3, ground := Go.Ground.guard }], guard := some (3, false) }) (v := ?_) rfl (by kernel_rfl) (by kernel_rfl) (by kernel_rfl) (fun _ _ _ h => h) (Or.inl ⟨by rfl, ?_⟩) (by assumption) ?_
          rotate_left 1
          · (intro w hSw; (try dsimp only at hSw); go_simp); all_goals (with_reducible rfl)
          try simp only [Act.put, List.setIfInBounds_toArray, List.set_cons_zero, List.set_cons_succ]
          refine wpAnyH_take (i := 9) (oi := { dst := some 43, op := Go.Op.pick (Go.Operand.tmp 37) (Go.Operand.const (Go.Value.bool true)) (Go.Operand.tmp 42), type := 4, pos := "laws.go:1785", after := #[{ on := 3, ground := Go.Ground.data }, { on := 8, ground := Go.Ground.data }], guard := none }) (v := ?_) rfl (by kernel_rfl) (by kernel_rfl) (by kernel_rfl) (fun _ _ _ h => h) (Or.inl ⟨by rfl, ?_⟩) (by assumption) ?_
          rotate_left 1
          · (intro w hSw; (try dsimp only at hSw); go_simp); all_goals (with_reducible rfl)
          try simp only [Act.put, List.setIfInBounds_toArray, List.set_cons_zero, List.set_cons_succ]
          refine wpAnyH_take (i := 10) (oi := { dst := some 44, op := Go.Op.move (Go.Operand.tmp 43), type := 4, pos := "laws.go:1785", after := #[{ on := 9, ground := Go.Ground.data }, { on := 6, ground := Go.Ground.chain }], guard := none }) (v := ?_) rfl (by kernel_rfl) (by kernel_rfl) (by kernel_rfl) (fun _ _ _ h => h) (Or.inl ⟨by rfl, ?_⟩) (by assumption) ?_
          rotate_left 1
          · (intro w hSw; (try dsimp only at hSw); go_simp); all_goals (with_reducible rfl)
          try simp only [Act.put, List.setIfInBounds_toArray, List.set_cons_zero, List.set_cons_succ]
          refine wpAnyH_take (i := 11) (oi := { dst := some 45, op := Go.Op.load 25 (Go.Operand.tmp 3), type := 25, pos := "laws.go:1785", after := #[{ on := 10, ground := Go.Ground.guard }], guard := some (10, false) }) (v := ?_) rfl (by kernel_rfl) (by kernel_rfl) (by kernel_rfl) (fun _ _ _ h => h) (Or.inl ⟨by rfl, ?_⟩) (by assumption) ?_
          rotate_left 1
          · (intro w hSw; (try dsimp only at hSw); go_simp); all_goals (with_reducible rfl)
          try simp only [Act.put, List.setIfInBounds_toArray, List.set_cons_zero, List.set_cons_succ]
          refine wpAnyH_take (i := 12) (oi := { dst := some 46, op := Go.Op.load 25 (Go.Operand.tmp 6), type := 25, pos := "laws.go:1785", after := #[{ on := 10, ground := Go.Ground.guard }], guard := some (10, false) }) (v := ?_) rfl (by kernel_rfl) (by kernel_rfl) (by kernel_rfl) (fun _ _ _ h => h) (Or.inl ⟨by rfl, ?_⟩) (by assumption) ?_
          rotate_left 1
          · (intro w hSw; (try dsimp only at hSw); go_simp); all_goals (with_reducible rfl)
          try simp only [Act.put, List.setIfInBounds_toArray, List.set_cons_zero, List.set_cons_succ]
          refine wpAnyH_take (i := 14) (oi := { dst := some 48, op := Go.Op.load 25 (Go.Operand.tmp 3), type := 25, pos := "laws.go:1785", after := #[{ on := 10, ground := Go.Ground.guard }], guard := some (10, false) }) (v := ?_) rfl (by kernel_rfl) (by kernel_rfl) (by kernel_rfl) (fun _ _ _ h => h) (Or.inl ⟨by rfl, ?_⟩) (by assumption) ?_
          rotate_left 1
          · (intro w hSw; (try dsimp only at hSw); go_simp); all_goals (with_reducible rfl)
          try simp only [Act.put, List.setIfInBounds_toArray, List.set_cons_zero, List.set_cons_succ]
          refine wpAnyH_ready (rs := [13]) (by kernel_rfl) (by simp) ?_
          refine AllReadyH.cons (o := { dst := some 47, op := Go.Op.call { callee := Go.Callee.value (Go.Operand.func 6), args := #[Go.Operand.tmp 45, Go.Operand.tmp 46], argTypes := #[25, 25] }, type := 25, pos := "laws.go:1785", after := #[{ on := 11, ground := Go.Ground.data }, { on := 12, ground := Go.Ground.data }, { on := 10, ground := Go.Ground.chain }, { on := 10, ground := Go.Ground.guard }], guard := some (10, false) }) rfl (fun K hK => ?_) AllReadyH.nil
          go_simp
          (go_at_call 6; (with_reducible refine (J2.out _).mono ?_); rintro e o3 ⟨rfl, hb3⟩; have M3 : Hid (LB w1 ka kb kx d p v W C b d2 p2 v2 W2 C2 b2 x0 x1 x2 x3 x4 x5 o3 ∧ SB o3 kn (-1) 0 (-1) E E 0) := ⟨M2.out.1.on hb3, M2.out.2.on hb3 M2.out.2.lt⟩; obtain ⟨a30, a31, a32, a33, a34, a35, _⟩ := M3.out.1.a.cells; obtain ⟨c30, c31, c32, c33, c34, c35, _⟩ := M3.out.1.b'.cells; obtain ⟨f30, f31, f32, f33, f34, f35, _⟩ := M3.out.1.x.cells; obtain ⟨k30, k31, k32, k33, k34, k35, _⟩ := M3.out.2.cells; clear hb3)
          go_wp2_with fail
          refine hK.out _ _ (by (try dsimp only); go_keep) (fun hHeld2 => ?_)
          clear hK K hHeld
          have hHeld := hHeld2
          clear hHeld2
          try simp only [Act.put, List.setIfInBounds_toArray, List.set_cons_zero, List.set_cons_succ]
          refine wpAnyH_take (i := 15) (oi := { dst := some 49, op := Go.Op.binOp Go.BinOp.neq 25 (Go.Operand.tmp 47) (Go.Operand.tmp 48) 25, type := 4, pos := "laws.go:1785", after := #[{ on := 13, ground := Go.Ground.data }, { on := 14, ground := Go.Ground.data }, { on := 10, ground := Go.Ground.guard }], guard := some (10, false) }) (v := ?_) rfl (by kernel_rfl) (by kernel_rfl) (by kernel_rfl) (fun _ _ _ h => h) (Or.inl ⟨by rfl, ?_⟩) (by assumption) ?_
          rotate_left 1
          · (intro w hSw; (try dsimp only at hSw); go_simp); all_goals (with_reducible rfl)
          try simp only [Act.put, List.setIfInBounds_toArray, List.set_cons_zero, List.set_cons_succ]
          refine wpAnyH_take (i := 16) (oi := { dst := some 50, op := Go.Op.pick (Go.Operand.tmp 44) (Go.Operand.const (Go.Value.bool true)) (Go.Operand.tmp 49), type := 4, pos := "laws.go:1785", after := #[{ on := 10, ground := Go.Ground.data }, { on := 15, ground := Go.Ground.data }], guard := none }) (v := ?_) rfl (by kernel_rfl) (by kernel_rfl) (by kernel_rfl) (fun _ _ _ h => h) (Or.inl ⟨by rfl, ?_⟩) (by assumption) ?_
          rotate_left 1
          · (intro w hSw; (try dsimp only at hSw); go_simp); all_goals (with_reducible rfl)
          try simp only [Act.put, List.setIfInBounds_toArray, List.set_cons_zero, List.set_cons_succ]
          refine wpAnyH_take (i := 17) (oi := { dst := some 51, op := Go.Op.move (Go.Operand.tmp 50), type := 4, pos := "laws.go:1785", after := #[{ on := 16, ground := Go.Ground.data }, { on := 13, ground := Go.Ground.chain }], guard := none }) (v := ?_) rfl (by kernel_rfl) (by kernel_rfl) (by kernel_rfl) (fun _ _ _ h => h) (Or.inl ⟨by rfl, ?_⟩) (by assumption) ?_
          rotate_left 1
          · (intro w hSw; (try dsimp only at hSw); go_simp); all_goals (with_reducible rfl)
          try simp only [Act.put, List.setIfInBounds_toArray, List.set_cons_zero, List.set_cons_succ]
          refine wpAnyH_take (i := 18) (oi := { dst := some 52, op := Go.Op.load 25 (Go.Operand.tmp 6), type := 25, pos := "laws.go:1785", after := #[{ on := 17, ground := Go.Ground.guard }], guard := some (17, false) }) (v := ?_) rfl (by kernel_rfl) (by kernel_rfl) (by kernel_rfl) (fun _ _ _ h => h) (Or.inl ⟨by rfl, ?_⟩) (by assumption) ?_
          rotate_left 1
          · (intro w hSw; (try dsimp only at hSw); go_simp); all_goals (with_reducible rfl)
          try simp only [Act.put, List.setIfInBounds_toArray, List.set_cons_zero, List.set_cons_succ]
          refine wpAnyH_take (i := 19) (oi := { dst := some 53, op := Go.Op.load 25 (Go.Operand.tmp 3), type := 25, pos := "laws.go:1785", after := #[{ on := 17, ground := Go.Ground.guard }], guard := some (17, false) }) (v := ?_) rfl (by kernel_rfl) (by kernel_rfl) (by kernel_rfl) (fun _ _ _ h => h) (Or.inl ⟨by rfl, ?_⟩) (by assumption) ?_
          rotate_left 1
          · (intro w hSw; (try dsimp only at hSw); go_simp); all_goals (with_reducible rfl)
          try simp only [Act.put, List.setIfInBounds_toArray, List.set_cons_zero, List.set_cons_succ]
          refine wpAnyH_take (i := 21) (oi := { dst := some 55, op := Go.Op.load 25 (Go.Operand.tmp 3), type := 25, pos := "laws.go:1785", after := #[{ on := 17, ground := Go.Ground.guard }], guard := some (17, false) }) (v := ?_) rfl (by kernel_rfl) (by kernel_rfl) (by kernel_rfl) (fun _ _ _ h => h) (Or.inl ⟨by rfl, ?_⟩) (by assumption) ?_
          rotate_left 1
          · (intro w hSw; (try dsimp only at hSw); go_simp); all_goals (with_reducible rfl)
          try simp only [Act.put, List.setIfInBounds_toArray, List.set_cons_zero, List.set_cons_succ]
          refine wpAnyH_ready (rs := [20]) (by kernel_rfl) (by simp) ?_
          refine AllReadyH.cons (o := { dst := some 54, op := Go.Op.call { callee := Go.Callee.value (Go.Operand.func 6), args := #[Go.Operand.tmp 52, Go.Operand.tmp 53], argTypes := #[25, 25] }, type := 25, pos := "laws.go:1785", after := #[{ on := 18, ground := Go.Ground.data }, { on := 19, ground := Go.Ground.data }, { on := 17, ground := Go.Ground.chain }, { on := 17, ground := Go.Ground.guard }], guard := some (17, false) }) rfl (fun K hK => ?_) AllReadyH.nil
          go_simp
          (go_at_call 6; (with_reducible refine (J3.out _).mono ?_); rintro e o4 ⟨rfl, hb4⟩; have M4 : Hid (LB w1 ka kb kx d p v W C b d2 p2 v2 W2 C2 b2 x0 x1 x2 x3 x4 x5 o4 ∧ SB o4 kn (-1) 0 (-1) E E 0) := ⟨M3.out.1.on hb4, M3.out.2.on hb4 M3.out.2.lt⟩; obtain ⟨a40, a41, a42, a43, a44, a45, _⟩ := M4.out.1.a.cells; obtain ⟨c40, c41, c42, c43, c44, c45, _⟩ := M4.out.1.b'.cells; obtain ⟨f40, f41, f42, f43, f44, f45, _⟩ := M4.out.1.x.cells; obtain ⟨k40, k41, k42, k43, k44, k45, _⟩ := M4.out.2.cells; clear hb4)
          go_wp2_with fail
          refine hK.out _ _ (by (try dsimp only); go_keep) (fun hHeld2 => ?_)
          clear hK K hHeld
          have hHeld := hHeld2
          clear hHeld2
          try simp only [Act.put, List.setIfInBounds_toArray, List.set_cons_zero, List.set_cons_succ]
          refine wpAnyH_take (i := 22) (oi := { dst := some 56, op := Go.Op.binOp Go.BinOp.neq 25 (Go.Operand.tmp 54) (Go.Operand.tmp 55) 25, type := 4, pos := "laws.go:1785", after := #[{ on := 20, ground := Go.Ground.data }, { on := 21, ground := Go.Ground.data }, { on := 17, ground := Go.Ground.guard }], guard := some (17, false) }) (v := ?_) rfl (by kernel_rfl) (by kernel_rfl) (by kernel_rfl) (fun _ _ _ h => h) (Or.inl ⟨by rfl, ?_⟩) (by assumption) ?_
          rotate_left 1
          · (intro w hSw; (try dsimp only at hSw); go_simp); all_goals (with_reducible rfl)
          try simp only [Act.put, List.setIfInBounds_toArray, List.set_cons_zero, List.set_cons_succ]
          refine wpAnyH_take (i := 23) (oi := { dst := some 57, op := Go.Op.pick (Go.Operand.tmp 51) (Go.Operand.const (Go.Value.bool true)) (Go.Operand.tmp 56), type := 4, pos := "laws.go:1785", after := #[{ on := 17, ground := Go.Ground.data }, { on := 22, ground := Go.Ground.data }], guard := none }) (v := ?_) rfl (by kernel_rfl) (by kernel_rfl) (by kernel_rfl) (fun _ _ _ h => h) (Or.inl ⟨by rfl, ?_⟩) (by assumption) ?_
          rotate_left 1
          · (intro w hSw; (try dsimp only at hSw); go_simp); all_goals (with_reducible rfl)
          try simp only [Act.put, List.setIfInBounds_toArray, List.set_cons_zero, List.set_cons_succ]
          refine wpAnyH_take (i := 24) (oi := { dst := some 58, op := Go.Op.move (Go.Operand.tmp 57), type := 4, pos := "laws.go:1785", after := #[{ on := 23, ground := Go.Ground.data }, { on := 20, ground := Go.Ground.chain }], guard := none }) (v := ?_) rfl (by kernel_rfl) (by kernel_rfl) (by kernel_rfl) (fun _ _ _ h => h) (Or.inl ⟨by rfl, ?_⟩) (by assumption) ?_
          rotate_left 1
          · (intro w hSw; (try dsimp only at hSw); go_simp); all_goals (with_reducible rfl)
          try simp only [Act.put, List.setIfInBounds_toArray, List.set_cons_zero, List.set_cons_succ]
          refine wpAnyH_take (i := 25) (oi := { dst := some 59, op := Go.Op.load 25 (Go.Operand.tmp 4), type := 25, pos := "laws.go:1785", after := #[{ on := 24, ground := Go.Ground.guard }], guard := some (24, false) }) (v := ?_) rfl (by kernel_rfl) (by kernel_rfl) (by kernel_rfl) (fun _ _ _ h => h) (Or.inl ⟨by rfl, ?_⟩) (by assumption) ?_
          rotate_left 1
          · (intro w hSw; (try dsimp only at hSw); go_simp); all_goals (with_reducible rfl)
          try simp only [Act.put, List.setIfInBounds_toArray, List.set_cons_zero, List.set_cons_succ]
          refine wpAnyH_take (i := 26) (oi := { dst := some 60, op := Go.Op.load 25 (Go.Operand.tmp 5), type := 25, pos := "laws.go:1785", after := #[{ on := 24, ground := Go.Ground.guard }], guard := some (24, false) }) (v := ?_) rfl (by kernel_rfl) (by kernel_rfl) (by kernel_rfl) (fun _ _ _ h => h) (Or.inl ⟨by rfl, ?_⟩) (by assumption) ?_
          rotate_left 1
          · (intro w hSw; (try dsimp only at hSw); go_simp); all_goals (with_reducible rfl)
          try simp only [Act.put, List.setIfInBounds_toArray, List.set_cons_zero, List.set_cons_succ]
          refine wpAnyH_take (i := 28) (oi := { dst := some 62, op := Go.Op.load 25 (Go.Operand.tmp 5), type := 25, pos := "laws.go:1785", after := #[{ on := 24, ground := Go.Ground.guard }], guard := some (24, false) }) (v := ?_) rfl (by kernel_rfl) (by kernel_rfl) (by kernel_rfl) (fun _ _ _ h => h) (Or.inl ⟨by rfl, ?_⟩) (by assumption) ?_
          rotate_left 1
          · (intro w hSw; (try dsimp only at hSw); go_simp); all_goals (with_reducible rfl)
          try simp only [Act.put, List.setIfInBounds_toArray, List.set_cons_zero, List.set_cons_succ]
          refine wpAnyH_ready (rs := [27]) (by kernel_rfl) (by simp) ?_
          refine AllReadyH.cons (o := { dst := some 61, op := Go.Op.call { callee := Go.Callee.value (Go.Operand.func 6), args := #[Go.Operand.tmp 59, Go.Operand.tmp 60], argTypes := #[25, 25] }, type := 25, pos := "laws.go:1785", after := #[{ on := 25, ground := Go.Ground.data }, { on := 26, ground := Go.Ground.data }, { on := 24, ground := Go.Ground.chain }, { on := 24, ground := Go.Ground.guard }], guard := some (24, false) }) rfl (fun K hK => ?_) AllReadyH.nil
          go_simp
          (go_at_call 6; (with_reducible refine (J4.out _).mono ?_); rintro e o5 ⟨rfl, hb5⟩; have Q5 : Hid (LB w1 ka kb kx d p v W C b d2 p2 v2 W2 C2 b2 x0 x1 x2 x3 x4 x5 o5 ∧ SB o5 kn (-1) 0 (-1) E E 0) := ⟨M4.out.1.on hb5, M4.out.2.on hb5 M4.out.2.lt⟩; obtain ⟨a50, a51, a52, a53, a54, a55, _⟩ := Q5.out.1.a.cells; obtain ⟨c50, c51, c52, c53, c54, c55, _⟩ := Q5.out.1.b'.cells; obtain ⟨f50, f51, f52, f53, f54, f55, _⟩ := Q5.out.1.x.cells; obtain ⟨k50, k51, k52, k53, k54, k55, _⟩ := Q5.out.2.cells; clear hb5)
          go_wp2_with fail
          refine hK.out _ _ (by (try dsimp only); go_keep) (fun hHeld2 => ?_)
          clear hK K hHeld
          have hHeld := hHeld2
          clear hHeld2
          try simp only [Act.put, List.setIfInBounds_toArray, List.set_cons_zero, List.set_cons_succ]
          refine wpAnyH_take (i := 29) (oi := { dst := some 63, op := Go.Op.binOp Go.BinOp.neq 25 (Go.Operand.tmp 61) (Go.Operand.tmp 62) 25, type := 4, pos := "laws.go:1785", after := #[{ on := 27, ground := Go.Ground.data }, { on := 28, ground := Go.Ground.data }, { on := 24, ground := Go.Ground.guard }], guard := some (24, false) }) (v := ?_) rfl (by kernel_rfl) (by kernel_rfl) (by kernel_rfl) (fun _ _ _ h => h) (Or.inl ⟨by rfl, ?_⟩) (by assumption) ?_
          rotate_left 1
          · (intro w hSw; (try dsimp only at hSw); go_simp); all_goals (with_reducible rfl)
          try simp only [Act.put, List.setIfInBounds_toArray, List.set_cons_zero, List.set_cons_succ]
          refine wpAnyH_take (i := 30) (oi := { dst := some 64, op := Go.Op.move (Go.Operand.tmp 63), type := 4, pos := "laws.go:1785", after := #[{ on := 29, ground := Go.Ground.data }, { on := 27, ground := Go.Ground.chain }, { on := 24, ground := Go.Ground.guard }], guard := some (24, false) }) (v := ?_) rfl (by kernel_rfl) (by kernel_rfl) (by kernel_rfl) (fun _ _ _ h => h) (Or.inl ⟨by rfl, ?_⟩) (by assumption) ?_
          rotate_left 1
          · (intro w hSw; (try dsimp only at hSw); go_simp); all_goals (with_reducible rfl)
          try simp only [Act.put, List.setIfInBounds_toArray, List.set_cons_zero, List.set_cons_succ]
          refine wpAnyH_take (i := 31) (oi := { dst := some 65, op := Go.Op.fieldAddr 25 (Go.Operand.tmp 5) 0, type := 0, pos := "laws.go:1785", after := #[{ on := 30, ground := Go.Ground.guard }], guard := some (30, true) }) (v := ?_) rfl (by kernel_rfl) (by kernel_rfl) (by kernel_rfl) (fun _ _ _ h => h) (Or.inl ⟨by rfl, ?_⟩) (by assumption) ?_
          rotate_left 1
          · (intro w hSw; (try dsimp only at hSw); go_simp); all_goals (with_reducible rfl)
          try simp only [Act.put, List.setIfInBounds_toArray, List.set_cons_zero, List.set_cons_succ]
          refine wpAnyH_take (i := 32) (oi := { dst := some 66, op := Go.Op.load 2 (Go.Operand.tmp 65), type := 2, pos := "laws.go:1785", after := #[{ on := 31, ground := Go.Ground.data }, { on := 30, ground := Go.Ground.guard }], guard := some (30, true) }) (v := ?_) rfl (by kernel_rfl) (by kernel_rfl) (by kernel_rfl) (fun _ _ _ h => h) (Or.inl ⟨by rfl, ?_⟩) (by assumption) ?_
          rotate_left 1
          · (intro w hSw; (try dsimp only at hSw); go_simp); all_goals (with_reducible rfl)
          try simp only [Act.put, List.setIfInBounds_toArray, List.set_cons_zero, List.set_cons_succ]
          refine wpAnyH_take (i := 33) (oi := { dst := some 67, op := Go.Op.binOp Go.BinOp.neq 2 (Go.Operand.tmp 66) (Go.Operand.const (Go.Value.int Go.IntKind.i64 (-1))) 2, type := 4, pos := "laws.go:1785", after := #[{ on := 32, ground := Go.Ground.data }, { on := 30, ground := Go.Ground.guard }], guard := some (30, true) }) (v := ?_) rfl (by kernel_rfl) (by kernel_rfl) (by kernel_rfl) (fun _ _ _ h => h) (Or.inl ⟨by rfl, ?_⟩) (by assumption) ?_
          rotate_left 1
          · (intro w hSw; (try dsimp only at hSw); go_simp); all_goals (with_reducible rfl)
          try simp only [Act.put, List.setIfInBounds_toArray, List.set_cons_zero, List.set_cons_succ]
          refine wpAnyH_take (i := 34) (oi := { dst := some 68, op := Go.Op.pick (Go.Operand.tmp 64) (Go.Operand.tmp 67) (Go.Operand.const (Go.Value.bool false)), type := 4, pos := "laws.go:1785", after := #[{ on := 30, ground := Go.Ground.data }, { on := 33, ground := Go.Ground.data }, { on := 24, ground := Go.Ground.guard }], guard := some (24, false) }) (v := ?_) rfl (by kernel_rfl) (by kernel_rfl) (by kernel_rfl) (fun _ _ _ h => h) (Or.inl ⟨by rfl, ?_⟩) (by assumption) ?_
          rotate_left 1
          · (intro w hSw; (try dsimp only at hSw); go_simp); all_goals (with_reducible rfl)
          try simp only [Act.put, List.setIfInBounds_toArray, List.set_cons_zero, List.set_cons_succ]
          refine wpAnyH_take (i := 35) (oi := { dst := some 69, op := Go.Op.move (Go.Operand.tmp 68), type := 4, pos := "laws.go:1785", after := #[{ on := 34, ground := Go.Ground.data }, { on := 30, ground := Go.Ground.chain }, { on := 24, ground := Go.Ground.guard }], guard := some (24, false) }) (v := ?_) rfl (by kernel_rfl) (by kernel_rfl) (by kernel_rfl) (fun _ _ _ h => h) (Or.inl ⟨by rfl, ?_⟩) (by assumption) ?_
          rotate_left 1
          · (intro w hSw; (try dsimp only at hSw); go_simp); all_goals (with_reducible rfl)
          try simp only [Act.put, List.setIfInBounds_toArray, List.set_cons_zero, List.set_cons_succ]
          refine wpAnyH_take (i := 36) (oi := { dst := some 70, op := Go.Op.fieldAddr 25 (Go.Operand.tmp 5) 2, type := 0, pos := "laws.go:1785", after := #[{ on := 35, ground := Go.Ground.guard }], guard := some (35, true) }) (v := ?_) rfl (by kernel_rfl) (by kernel_rfl) (by kernel_rfl) (fun _ _ _ h => h) (Or.inl ⟨by rfl, ?_⟩) (by assumption) ?_
          rotate_left 1
          · (intro w hSw; (try dsimp only at hSw); go_simp); all_goals (with_reducible rfl)
          try simp only [Act.put, List.setIfInBounds_toArray, List.set_cons_zero, List.set_cons_succ]
          refine wpAnyH_take (i := 37) (oi := { dst := some 71, op := Go.Op.load 2 (Go.Operand.tmp 70), type := 2, pos := "laws.go:1785", after := #[{ on := 36, ground := Go.Ground.data }, { on := 35, ground := Go.Ground.guard }], guard := some (35, true) }) (v := ?_) rfl (by kernel_rfl) (by kernel_rfl) (by kernel_rfl) (fun _ _ _ h => h) (Or.inl ⟨by rfl, ?_⟩) (by assumption) ?_
          rotate_left 1
          · (intro w hSw; (try dsimp only at hSw); go_simp); all_goals (with_reducible rfl)
          try simp only [Act.put, List.setIfInBounds_toArray, List.set_cons_zero, List.set_cons_succ]
          refine wpAnyH_take (i := 38) (oi := { dst := some 72, op := Go.Op.binOp Go.BinOp.neq 2 (Go.Operand.tmp 71) (Go.Operand.const (Go.Value.int Go.IntKind.i64 (-1))) 2, type := 4, pos := "laws.go:1785", after := #[{ on := 37, ground := Go.Ground.data }, { on := 35, ground := Go.Ground.guard }], guard := some (35, true) }) (v := ?_) rfl (by kernel_rfl) (by kernel_rfl) (by kernel_rfl) (fun _ _ _ h => h) (Or.inl ⟨by rfl, ?_⟩) (by assumption) ?_
          rotate_left 1
          · (intro w hSw; (try dsimp only at hSw); go_simp); all_goals (with_reducible rfl)
          try simp only [Act.put, List.setIfInBounds_toArray, List.set_cons_zero, List.set_cons_succ]
          refine wpAnyH_take (i := 39) (oi := { dst := some 73, op := Go.Op.pick (Go.Operand.tmp 69) (Go.Operand.tmp 72) (Go.Operand.const (Go.Value.bool false)), type := 4, pos := "laws.go:1785", after := #[{ on := 35, ground := Go.Ground.data }, { on := 38, ground := Go.Ground.data }, { on := 24, ground := Go.Ground.guard }], guard := some (24, false) }) (v := ?_) rfl (by kernel_rfl) (by kernel_rfl) (by kernel_rfl) (fun _ _ _ h => h) (Or.inl ⟨by rfl, ?_⟩) (by assumption) ?_
          rotate_left 1
          · (intro w hSw; (try dsimp only at hSw); go_simp); all_goals (with_reducible rfl)
          try simp only [Act.put, List.setIfInBounds_toArray, List.set_cons_zero, List.set_cons_succ]
          refine wpAnyH_take (i := 40) (oi := { dst := some 74, op := Go.Op.move (Go.Operand.tmp 73), type := 4, pos := "laws.go:1785", after := #[{ on := 39, ground := Go.Ground.data }, { on := 35, ground := Go.Ground.chain }, { on := 24, ground := Go.Ground.guard }], guard := some (24, false) }) (v := ?_) rfl (by kernel_rfl) (by kernel_rfl) (by kernel_rfl) (fun _ _ _ h => h) (Or.inl ⟨by rfl, ?_⟩) (by assumption) ?_
          rotate_left 1
          · (intro w hSw; (try dsimp only at hSw); go_simp); all_goals (with_reducible rfl)
          try simp only [Act.put, List.setIfInBounds_toArray, List.set_cons_zero, List.set_cons_succ]
          refine wpAnyH_take (i := 41) (oi := { dst := some 75, op := Go.Op.fieldAddr 25 (Go.Operand.tmp 5) 3, type := 0, pos := "laws.go:1785", after := #[{ on := 40, ground := Go.Ground.guard }], guard := some (40, true) }) (v := undef) rfl (by kernel_rfl) (by kernel_rfl) (by kernel_rfl) (fun _ _ _ h => h) (Or.inr ⟨by rfl, rfl⟩) (by assumption) ?_
          try simp only [Act.put, List.setIfInBounds_toArray, List.set_cons_zero, List.set_cons_succ]
          refine wpAnyH_take (i := 42) (oi := { dst := some 76, op := Go.Op.load 9 (Go.Operand.tmp 75), type := 9, pos := "laws.go:1785", after := #[{ on := 41, ground := Go.Ground.data }, { on := 40, ground := Go.Ground.guard }], guard := some (40, true) }) (v := undef) rfl (by kernel_rfl) (by kernel_rfl) (by kernel_rfl) (fun _ _ _ h => h) (Or.inr ⟨by rfl, rfl⟩) (by assumption) ?_
          try simp only [Act.put, List.setIfInBounds_toArray, List.set_cons_zero, List.set_cons_succ]
          refine wpAnyH_take (i := 43) (oi := { dst := some 77, op := Go.Op.binOp Go.BinOp.neq 9 (Go.Operand.tmp 76) (Go.Operand.const (Go.Value.string { data := #[] })) 9, type := 4, pos := "laws.go:1785", after := #[{ on := 42, ground := Go.Ground.data }, { on := 40, ground := Go.Ground.guard }], guard := some (40, true) }) (v := undef) rfl (by kernel_rfl) (by kernel_rfl) (by kernel_rfl) (fun _ _ _ h => h) (Or.inr ⟨by rfl, rfl⟩) (by assumption) ?_
          try simp only [Act.put, List.setIfInBounds_toArray, List.set_cons_zero, List.set_cons_succ]
          refine wpAnyH_take (i := 44) (oi := { dst := some 78, op := Go.Op.pick (Go.Operand.tmp 74) (Go.Operand.tmp 77) (Go.Operand.const (Go.Value.bool false)), type := 4, pos := "laws.go:1785", after := #[{ on := 40, ground := Go.Ground.data }, { on := 43, ground := Go.Ground.data }, { on := 24, ground := Go.Ground.guard }], guard := some (24, false) }) (v := ?_) rfl (by kernel_rfl) (by kernel_rfl) (by kernel_rfl) (fun _ _ _ h => h) (Or.inl ⟨by rfl, ?_⟩) (by assumption) ?_
          rotate_left 1
          · (intro w hSw; (try dsimp only at hSw); go_simp); all_goals (with_reducible rfl)
          try simp only [Act.put, List.setIfInBounds_toArray, List.set_cons_zero, List.set_cons_succ]
          refine wpAnyH_take (i := 45) (oi := { dst := some 79, op := Go.Op.move (Go.Operand.tmp 78), type := 4, pos := "laws.go:1785", after := #[{ on := 44, ground := Go.Ground.data }, { on := 40, ground := Go.Ground.chain }, { on := 24, ground := Go.Ground.guard }], guard := some (24, false) }) (v := ?_) rfl (by kernel_rfl) (by kernel_rfl) (by kernel_rfl) (fun _ _ _ h => h) (Or.inl ⟨by rfl, ?_⟩) (by assumption) ?_
          rotate_left 1
          · (intro w hSw; (try dsimp only at hSw); go_simp); all_goals (with_reducible rfl)
          try simp only [Act.put, List.setIfInBounds_toArray, List.set_cons_zero, List.set_cons_succ]
          refine wpAnyH_take (i := 46) (oi := { dst := some 80, op := Go.Op.fieldAddr 25 (Go.Operand.tmp 5) 4, type := 0, pos := "laws.go:1785", after := #[{ on := 45, ground := Go.Ground.guard }], guard := some (45, true) }) (v := undef) rfl (by kernel_rfl) (by kernel_rfl) (by kernel_rfl) (fun _ _ _ h => h) (Or.inr ⟨by rfl, rfl⟩) (by assumption) ?_
          try simp only [Act.put, List.setIfInBounds_toArray, List.set_cons_zero, List.set_cons_succ]
          refine wpAnyH_take (i := 47) (oi := { dst := some 81, op := Go.Op.load 9 (Go.Operand.tmp 80), type := 9, pos := "laws.go:1785", after := #[{ on := 46, ground := Go.Ground.data }, { on := 45, ground := Go.Ground.guard }], guard := some (45, true) }) (v := undef) rfl (by kernel_rfl) (by kernel_rfl) (by kernel_rfl) (fun _ _ _ h => h) (Or.inr ⟨by rfl, rfl⟩) (by assumption) ?_
          try simp only [Act.put, List.setIfInBounds_toArray, List.set_cons_zero, List.set_cons_succ]
          refine wpAnyH_take (i := 48) (oi := { dst := some 82, op := Go.Op.binOp Go.BinOp.neq 9 (Go.Operand.tmp 81) (Go.Operand.const (Go.Value.string { data := #[] })) 9, type := 4, pos := "laws.go:1785", after := #[{ on := 47, ground := Go.Ground.data }, { on := 45, ground := Go.Ground.guard }], guard := some (45, true) }) (v := undef) rfl (by kernel_rfl) (by kernel_rfl) (by kernel_rfl) (fun _ _ _ h => h) (Or.inr ⟨by rfl, rfl⟩) (by assumption) ?_
          try simp only [Act.put, List.setIfInBounds_toArray, List.set_cons_zero, List.set_cons_succ]
          refine wpAnyH_take (i := 49) (oi := { dst := some 83, op := Go.Op.pick (Go.Operand.tmp 79) (Go.Operand.tmp 82) (Go.Operand.const (Go.Value.bool false)), type := 4, pos := "laws.go:1785", after := #[{ on := 45, ground := Go.Ground.data }, { on := 48, ground := Go.Ground.data }, { on := 24, ground := Go.Ground.guard }], guard := some (24, false) }) (v := ?_) rfl (by kernel_rfl) (by kernel_rfl) (by kernel_rfl) (fun _ _ _ h => h) (Or.inl ⟨by rfl, ?_⟩) (by assumption) ?_
          rotate_left 1
          · (intro w hSw; (try dsimp only at hSw); go_simp); all_goals (with_reducible rfl)
          try simp only [Act.put, List.setIfInBounds_toArray, List.set_cons_zero, List.set_cons_succ]
          refine wpAnyH_take (i := 50) (oi := { dst := some 84, op := Go.Op.pick (Go.Operand.tmp 58) (Go.Operand.const (Go.Value.bool true)) (Go.Operand.tmp 83), type := 4, pos := "laws.go:1785", after := #[{ on := 24, ground := Go.Ground.data }, { on := 49, ground := Go.Ground.data }], guard := none }) (v := ?_) rfl (by kernel_rfl) (by kernel_rfl) (by kernel_rfl) (fun _ _ _ h => h) (Or.inl ⟨by rfl, ?_⟩) (by assumption) ?_
          rotate_left 1
          · (intro w hSw; (try dsimp only at hSw); go_simp); all_goals (with_reducible rfl)
          try simp only [Act.put, List.setIfInBounds_toArray, List.set_cons_zero, List.set_cons_succ]
          refine wpAnyH_done (by kernel_rfl) ?_ _
          go_wp2_with fail
          go_meet
          exact ⟨rfl, Q5.out.1⟩
      · have m0 : (x0 != -1) = false := by show (!(x0 == -1)) = _; rw [h0]; rfl
        clear Q
        refine wp_region_held_drew (S := fun w' => w'.cell? ⟨ka, 0, none⟩ = some (.int .i64 (d)) ∧ w'.cell? ⟨ka, 1, none⟩ = some (.int .i64 (p)) ∧ w'.cell? ⟨ka, 2, none⟩ = some (.int .i64 (v)) ∧ w'.cell? ⟨ka, 3, none⟩ = some (.string W) ∧ w'.cell? ⟨ka, 4, none⟩ = some (.string C) ∧ w'.cell? ⟨ka, 5, none⟩ = some (.int .i64 (b)) ∧ w'.cell? ⟨kb, 0, none⟩ = some (.int .i64 (d2)) ∧ w'.cell? ⟨kb, 1, none⟩ = some (.int .i64 (p2)) ∧ w'.cell? ⟨kb, 2, none⟩ = some (.int .i64 (v2)) ∧ w'.cell? ⟨kb, 3, none⟩ = some (.string W2) ∧ w'.cell? ⟨kb, 4, none⟩ = some (.string C2) ∧ w'.cell? ⟨kb, 5, none⟩ = some (.int .i64 (b2)) ∧ w'.cell? ⟨kx, 0, none⟩ = some (.int .i64 (x0)) ∧ w'.cell? ⟨kx, 1, none⟩ = some (.int .i64 (x1)) ∧ w'.cell? ⟨kx, 2, none⟩ = some (.int .i64 (x2)) ∧ w'.cell? ⟨kx, 3, none⟩ = some (.string x3) ∧ w'.cell? ⟨kx, 4, none⟩ = some (.string x4) ∧ w'.cell? ⟨kx, 5, none⟩ = some (.int .i64 (x5)) ∧ w'.cell? ⟨kn, 0, none⟩ = some (.int .i64 (-1)) ∧ w'.cell? ⟨kn, 1, none⟩ = some (.int .i64 (0)) ∧ w'.cell? ⟨kn, 2, none⟩ = some (.int .i64 (-1)) ∧ w'.cell? ⟨kn, 3, none⟩ = some (.string E) ∧ w'.cell? ⟨kn, 4, none⟩ = some (.string E) ∧ w'.cell? ⟨kn, 5, none⟩ = some (.int .i64 (0))) (by kernel_rfl) (by (try dsimp only); go_keep) (fun hHeld => ?_)
        refine wpAnyH_take (i := 0) (oi := { dst := some 34, op := Go.Op.load 25 (Go.Operand.tmp 5), type := 25, pos := "laws.go:1785", after := #[], guard := none }) (v := ?_) rfl (by kernel_rfl) (by kernel_rfl) (by kernel_rfl) (fun _ _ _ h => h) (Or.inl ⟨by rfl, ?_⟩) (by assumption) ?_
        rotate_left 1
        · (intro w hSw; (try dsimp only at hSw); go_simp); all_goals (with_reducible rfl)
        try simp only [Act.put, List.setIfInBounds_toArray, List.set_cons_zero, List.set_cons_succ]
        refine wpAnyH_ready (rs := [1]) (by kernel_rfl) (by simp) ?_
        refine AllReadyH.cons (o := { dst := some 35, op := Go.Op.call { callee := Go.Callee.value (Go.Operand.func 9), args := #[Go.Operand.tmp 34], argTypes := #[25] }, type := 4, pos := "laws.go:1785", after := #[{ on := 0, ground := Go.Ground.data }], guard := none }) rfl (fun K hK => ?_) AllReadyH.nil
        go_simp
        (go_at_call 9; (with_reducible refine (J0.out _).mono ?_); rintro e o1 ⟨rfl, hb1⟩; have M1 : Hid (LB w1 ka kb kx d p v W C b d2 p2 v2 W2 C2 b2 x0 x1 x2 x3 x4 x5 o1 ∧ SB o1 kn (-1) 0 (-1) E E 0) := (by have z := L5.out.1.on ((Below.refl _ _).drew.trans hb1); have y := L5.out.2.on ((Below.refl _ _).drew.trans hb1) L5.out.2.lt; exact ⟨z, y⟩); obtain ⟨a10, a11, a12, a13, a14, a15, _⟩ := M1.out.1.a.cells; obtain ⟨c10, c11, c12, c13, c14, c15, _⟩ := M1.out.1.b'.cells; obtain ⟨f10, f11, f12, f13, f14, f15, _⟩ := M1.out.1.x.cells; obtain ⟨k10, k11, k12, k13, k14, k15, _⟩ := M1.out.2.cells; clear hb1)
        go_wp2_with fail
        refine hK.out _ _ (by (try dsimp only); go_keep) (fun hHeld2 => ?_)
        clear hK K hHeld
        have hHeld := hHeld2
        clear hHeld2
        try simp only [Act.put, List.setIfInBounds_toArray, List.set_cons_zero, List.set_cons_succ]
        refine wpAnyH_take (i := 2) (oi := { dst := some 36, op := Go.Op.unOp Go.UnOp.not 4 (Go.Operand.tmp 35), type := 4, pos := "laws.go:1785", after := #[{ on := 1, ground := Go.Ground.data }], guard := none }) (v := ?_) rfl (by kernel_rfl) (by kernel_rfl) (by kernel_rfl) (fun _ _ _ h => h) (Or.inl ⟨by rfl, ?_⟩) (by assumption) ?_
        rotate_left 1
        · (intro w hSw; (try dsimp only at hSw); go_simp); all_goals (with_reducible rfl)
        try simp only [Act.put, List.setIfInBounds_toArray, List.set_cons_zero, List.set_cons_succ]
        refine wpAnyH_take (i := 3) (oi := { dst := some 37, op := Go.Op.move (Go.Operand.tmp 36), type := 4, pos := "laws.go:1785", after := #[{ on := 2, ground := Go.Ground.data }, { on := 1, ground := Go.Ground.chain }], guard := none }) (v := ?_) rfl (by kernel_rfl) (by kernel_rfl) (by kernel_rfl) (fun _ _ _ h => h) (Or.inl ⟨by rfl, ?_⟩) (by assumption) ?_
        rotate_left 1
        · (intro w hSw; (try dsimp only at hSw); go_simp); all_goals (with_reducible rfl)
        try simp only [Act.put, List.setIfInBounds_toArray, List.set_cons_zero, List.set_cons_succ]
        refine wpAnyH_take (i := 4) (oi := { dst := some 38, op := Go.Op.load 25 (Go.Operand.tmp 5), type := 25, pos := "laws.go:1785", after := #[{ on := 3, ground := Go.Ground.guard }], guard := some (3, false) }) (v := ?_) rfl (by kernel_rfl) (by kernel_rfl) (by kernel_rfl) (fun _ _ _ h => h) (Or.inl ⟨by rfl, ?_⟩) (by assumption) ?_
        rotate_left 1
        · (intro w hSw; (try dsimp only at hSw); go_simp); all_goals (with_reducible rfl)
        try simp only [Act.put, List.setIfInBounds_toArray, List.set_cons_zero, List.set_cons_succ]
        refine wpAnyH_take (i := 5) (oi := { dst := some 39, op := Go.Op.load 25 (Go.Operand.tmp 4), type := 25, pos := "laws.go:1785", after := #[{ on := 3, ground := Go.Ground.guard }], guard := some (3, false) }) (v := ?_) rfl (by kernel_rfl) (by kernel_rfl) (by kernel_rfl) (fun _ _ _ h => h) (Or.inl ⟨by rfl, ?_⟩) (by assumption) ?_
        rotate_left 1
        · (intro w hSw; (try dsimp only at hSw); go_simp); all_goals (with_reducible rfl)
        try simp only [Act.put, List.setIfInBounds_toArray, List.set_cons_zero, List.set_cons_succ]
        refine wpAnyH_take (i := 7) (oi := { dst := some 41, op := Go.Op.load 25 (Go.Operand.tmp 5), type := 25, pos := "laws.go:1785", after := #[{ on := 3, ground := Go.Ground.guard }], guard := some (3, false) }) (v := ?_) rfl (by kernel_rfl) (by kernel_rfl) (by kernel_rfl) (fun _ _ _ h => h) (Or.inl ⟨by rfl, ?_⟩) (by assumption) ?_
        rotate_left 1
        · (intro w hSw; (try dsimp only at hSw); go_simp); all_goals (with_reducible rfl)
        try simp only [Act.put, List.setIfInBounds_toArray, List.set_cons_zero, List.set_cons_succ]
        refine wpAnyH_ready (rs := [6]) (by kernel_rfl) (by simp) ?_
        refine AllReadyH.cons (o := { dst := some 40, op := Go.Op.call { callee := Go.Callee.value (Go.Operand.func 6), args := #[Go.Operand.tmp 38, Go.Operand.tmp 39], argTypes := #[25, 25] }, type := 25, pos := "laws.go:1785", after := #[{ on := 4, ground := Go.Ground.data }, { on := 5, ground := Go.Ground.data }, { on := 3, ground := Go.Ground.chain }, { on := 3, ground := Go.Ground.guard }], guard := some (3, false) }) rfl (fun K hK => ?_) AllReadyH.nil
        go_simp
        (go_at_call 6; (with_reducible refine (J1.out _).mono ?_); rintro e o2 ⟨rfl, hb2⟩; have M2 : Hid (LB w1 ka kb kx d p v W C b d2 p2 v2 W2 C2 b2 x0 x1 x2 x3 x4 x5 o2 ∧ SB o2 kn (-1) 0 (-1) E E 0) := ⟨M1.out.1.on hb2, M1.out.2.on hb2 M1.out.2.lt⟩; obtain ⟨a20, a21, a22, a23, a24, a25, _⟩ := M2.out.1.a.cells; obtain ⟨c20, c21, c22, c23, c24, c25, _⟩ := M2.out.1.b'.cells; obtain ⟨f20, f21, f22, f23, f24, f25, _⟩ := M2.out.1.x.cells; obtain ⟨k20, k21, k22, k23, k24, k25, _⟩ := M2.out.2.cells; clear hb2)
        go_wp2_with fail
        refine hK.out _ _ (by (try dsimp only); go_keep) (fun hHeld2 => ?_)
        clear hK K hHeld
        have hHeld := hHeld2
        clear hHeld2
        try simp only [Act.put, List.setIfInBounds_toArray, List.set_cons_zero, List.set_cons_succ]
        refine wpAnyH_take (i := 8) (oi := { dst := some 42, op := Go.Op.binOp Go.BinOp.neq 25 (Go.Operand.tmp 40) (Go.Operand.tmp 41) 25, type := 4, pos := "laws.go:1785", after := #[{ on := 6, ground := Go.Ground.data }, { on := 7, ground := Go.Ground.data }, { on := 3, ground := Go.Ground.guard }], guard := some (3, false) }) (v := ?_) rfl (by kernel_rfl) (by kernel_rfl) (by kernel_rfl) (fun _ _ _ h => h) (Or.inl ⟨by rfl, ?_⟩) (by assumption) ?_
        rotate_left 1
        · (intro w hSw; (try dsimp only at hSw); go_simp); all_goals (with_reducible rfl)
        try simp only [Act.put, List.setIfInBounds_toArray, List.set_cons_zero, List.set_cons_succ]
        refine wpAnyH_take (i := 9) (oi := { dst := some 43, op := Go.Op.pick (Go.Operand.tmp 37) (Go.Operand.const (Go.Value.bool true)) (Go.Operand.tmp 42), type := 4, pos := "laws.go:1785", after := #[{ on := 3, ground := Go.Ground.data }, { on := 8, ground := Go.Ground.data }], guard := none }) (v := ?_) rfl (by kernel_rfl) (by kernel_rfl) (by kernel_rfl) (fun _ _ _ h => h) (Or.inl ⟨by rfl, ?_⟩) (by assumption) ?_
        rotate_left 1
        · (intro w hSw; (try dsimp only at hSw); go_simp); all_goals (with_reducible rfl)
        try simp only [Act.put, List.setIfInBounds_toArray, List.set_cons_zero, List.set_cons_succ]
        refine wpAnyH_take (i := 10) (oi := { dst := some 44, op := Go.Op.move (Go.Operand.tmp 43), type := 4, pos := "laws.go:1785", after := #[{ on := 9, ground := Go.Ground.data }, { on := 6, ground := Go.Ground.chain }], guard := none }) (v := ?_) rfl (by kernel_rfl) (by kernel_rfl) (by kernel_rfl) (fun _ _ _ h => h) (Or.inl ⟨by rfl, ?_⟩) (by assumption) ?_
        rotate_left 1
        · (intro w hSw; (try dsimp only at hSw); go_simp); all_goals (with_reducible rfl)
        try simp only [Act.put, List.setIfInBounds_toArray, List.set_cons_zero, List.set_cons_succ]
        refine wpAnyH_take (i := 11) (oi := { dst := some 45, op := Go.Op.load 25 (Go.Operand.tmp 3), type := 25, pos := "laws.go:1785", after := #[{ on := 10, ground := Go.Ground.guard }], guard := some (10, false) }) (v := ?_) rfl (by kernel_rfl) (by kernel_rfl) (by kernel_rfl) (fun _ _ _ h => h) (Or.inl ⟨by rfl, ?_⟩) (by assumption) ?_
        rotate_left 1
        · (intro w hSw; (try dsimp only at hSw); go_simp); all_goals (with_reducible rfl)
        try simp only [Act.put, List.setIfInBounds_toArray, List.set_cons_zero, List.set_cons_succ]
        refine wpAnyH_take (i := 12) (oi := { dst := some 46, op := Go.Op.load 25 (Go.Operand.tmp 6), type := 25, pos := "laws.go:1785", after := #[{ on := 10, ground := Go.Ground.guard }], guard := some (10, false) }) (v := ?_) rfl (by kernel_rfl) (by kernel_rfl) (by kernel_rfl) (fun _ _ _ h => h) (Or.inl ⟨by rfl, ?_⟩) (by assumption) ?_
        rotate_left 1
        · (intro w hSw; (try dsimp only at hSw); go_simp); all_goals (with_reducible rfl)
        try simp only [Act.put, List.setIfInBounds_toArray, List.set_cons_zero, List.set_cons_succ]
        refine wpAnyH_take (i := 14) (oi := { dst := some 48, op := Go.Op.load 25 (Go.Operand.tmp 3), type := 25, pos := "laws.go:1785", after := #[{ on := 10, ground := Go.Ground.guard }], guard := some (10, false) }) (v := ?_) rfl (by kernel_rfl) (by kernel_rfl) (by kernel_rfl) (fun _ _ _ h => h) (Or.inl ⟨by rfl, ?_⟩) (by assumption) ?_
        rotate_left 1
        · (intro w hSw; (try dsimp only at hSw); go_simp); all_goals (with_reducible rfl)
        try simp only [Act.put, List.setIfInBounds_toArray, List.set_cons_zero, List.set_cons_succ]
        refine wpAnyH_ready (rs := [13]) (by kernel_rfl) (by simp) ?_
        refine AllReadyH.cons (o := { dst := some 47, op := Go.Op.call { callee := Go.Callee.value (Go.Operand.func 6), args := #[Go.Operand.tmp 45, Go.Operand.tmp 46], argTypes := #[25, 25] }, type := 25, pos := "laws.go:1785", after := #[{ on := 11, ground := Go.Ground.data }, { on := 12, ground := Go.Ground.data }, { on := 10, ground := Go.Ground.chain }, { on := 10, ground := Go.Ground.guard }], guard := some (10, false) }) rfl (fun K hK => ?_) AllReadyH.nil
        go_simp
        (go_at_call 6; (with_reducible refine (J2.out _).mono ?_); rintro e o3 ⟨rfl, hb3⟩; have M3 : Hid (LB w1 ka kb kx d p v W C b d2 p2 v2 W2 C2 b2 x0 x1 x2 x3 x4 x5 o3 ∧ SB o3 kn (-1) 0 (-1) E E 0) := ⟨M2.out.1.on hb3, M2.out.2.on hb3 M2.out.2.lt⟩; obtain ⟨a30, a31, a32, a33, a34, a35, _⟩ := M3.out.1.a.cells; obtain ⟨c30, c31, c32, c33, c34, c35, _⟩ := M3.out.1.b'.cells; obtain ⟨f30, f31, f32, f33, f34, f35, _⟩ := M3.out.1.x.cells; obtain ⟨k30, k31, k32, k33, k34, k35, _⟩ := M3.out.2.cells; clear hb3)
        go_wp2_with fail
        refine hK.out _ _ (by (try dsimp only); go_keep) (fun hHeld2 => ?_)
        clear hK K hHeld
        have hHeld := hHeld2
        clear hHeld2
        try simp only [Act.put, List.setIfInBounds_toArray, List.set_cons_zero, List.set_cons_succ]
        refine wpAnyH_take (i := 15) (oi := { dst := some 49, op := Go.Op.binOp Go.BinOp.neq 25 (Go.Operand.tmp 47) (Go.Operand.tmp 48) 25, type := 4, pos := "laws.go:1785", after := #[{ on := 13, ground := Go.Ground.data }, { on := 14, ground := Go.Ground.data }, { on := 10, ground := Go.Ground.guard }], guard := some (10, false) }) (v := ?_) rfl (by kernel_rfl) (by kernel_rfl) (by kernel_rfl) (fun _ _ _ h => h) (Or.inl ⟨by rfl, ?_⟩) (by assumption) ?_
        rotate_left 1
        · (intro w hSw; (try dsimp only at hSw); go_simp); all_goals (with_reducible rfl)
        try simp only [Act.put, List.setIfInBounds_toArray, List.set_cons_zero, List.set_cons_succ]
        refine wpAnyH_take (i := 16) (oi := { dst := some 50, op := Go.Op.pick (Go.Operand.tmp 44) (Go.Operand.const (Go.Value.bool true)) (Go.Operand.tmp 49), type := 4, pos := "laws.go:1785", after := #[{ on := 10, ground := Go.Ground.data }, { on := 15, ground := Go.Ground.data }], guard := none }) (v := ?_) rfl (by kernel_rfl) (by kernel_rfl) (by kernel_rfl) (fun _ _ _ h => h) (Or.inl ⟨by rfl, ?_⟩) (by assumption) ?_
        rotate_left 1
        · (intro w hSw; (try dsimp only at hSw); go_simp); all_goals (with_reducible rfl)
        try simp only [Act.put, List.setIfInBounds_toArray, List.set_cons_zero, List.set_cons_succ]
        refine wpAnyH_take (i := 17) (oi := { dst := some 51, op := Go.Op.move (Go.Operand.tmp 50), type := 4, pos := "laws.go:1785", after := #[{ on := 16, ground := Go.Ground.data }, { on := 13, ground := Go.Ground.chain }], guard := none }) (v := ?_) rfl (by kernel_rfl) (by kernel_rfl) (by kernel_rfl) (fun _ _ _ h => h) (Or.inl ⟨by rfl, ?_⟩) (by assumption) ?_
        rotate_left 1
        · (intro w hSw; (try dsimp only at hSw); go_simp); all_goals (with_reducible rfl)
        try simp only [Act.put, List.setIfInBounds_toArray, List.set_cons_zero, List.set_cons_succ]
        refine wpAnyH_take (i := 18) (oi := { dst := some 52, op := Go.Op.load 25 (Go.Operand.tmp 6), type := 25, pos := "laws.go:1785", after := #[{ on := 17, ground := Go.Ground.guard }], guard := some (17, false) }) (v := ?_) rfl (by kernel_rfl) (by kernel_rfl) (by kernel_rfl) (fun _ _ _ h => h) (Or.inl ⟨by rfl, ?_⟩) (by assumption) ?_
        rotate_left 1
        · (intro w hSw; (try dsimp only at hSw); go_simp); all_goals (with_reducible rfl)
        try simp only [Act.put, List.setIfInBounds_toArray, List.set_cons_zero, List.set_cons_succ]
        refine wpAnyH_take (i := 19) (oi := { dst := some 53, op := Go.Op.load 25 (Go.Operand.tmp 3), type := 25, pos := "laws.go:1785", after := #[{ on := 17, ground := Go.Ground.guard }], guard := some (17, false) }) (v := ?_) rfl (by kernel_rfl) (by kernel_rfl) (by kernel_rfl) (fun _ _ _ h => h) (Or.inl ⟨by rfl, ?_⟩) (by assumption) ?_
        rotate_left 1
        · (intro w hSw; (try dsimp only at hSw); go_simp); all_goals (with_reducible rfl)
        try simp only [Act.put, List.setIfInBounds_toArray, List.set_cons_zero, List.set_cons_succ]
        refine wpAnyH_take (i := 21) (oi := { dst := some 55, op := Go.Op.load 25 (Go.Operand.tmp 3), type := 25, pos := "laws.go:1785", after := #[{ on := 17, ground := Go.Ground.guard }], guard := some (17, false) }) (v := ?_) rfl (by kernel_rfl) (by kernel_rfl) (by kernel_rfl) (fun _ _ _ h => h) (Or.inl ⟨by rfl, ?_⟩) (by assumption) ?_
        rotate_left 1
        · (intro w hSw; (try dsimp only at hSw); go_simp); all_goals (with_reducible rfl)
        try simp only [Act.put, List.setIfInBounds_toArray, List.set_cons_zero, List.set_cons_succ]
        refine wpAnyH_ready (rs := [20]) (by kernel_rfl) (by simp) ?_
        refine AllReadyH.cons (o := { dst := some 54, op := Go.Op.call { callee := Go.Callee.value (Go.Operand.func 6), args := #[Go.Operand.tmp 52, Go.Operand.tmp 53], argTypes := #[25, 25] }, type := 25, pos := "laws.go:1785", after := #[{ on := 18, ground := Go.Ground.data }, { on := 19, ground := Go.Ground.data }, { on := 17, ground := Go.Ground.chain }, { on := 17, ground := Go.Ground.guard }], guard := some (17, false) }) rfl (fun K hK => ?_) AllReadyH.nil
        go_simp
        (go_at_call 6; (with_reducible refine (J3.out _).mono ?_); rintro e o4 ⟨rfl, hb4⟩; have M4 : Hid (LB w1 ka kb kx d p v W C b d2 p2 v2 W2 C2 b2 x0 x1 x2 x3 x4 x5 o4 ∧ SB o4 kn (-1) 0 (-1) E E 0) := ⟨M3.out.1.on hb4, M3.out.2.on hb4 M3.out.2.lt⟩; obtain ⟨a40, a41, a42, a43, a44, a45, _⟩ := M4.out.1.a.cells; obtain ⟨c40, c41, c42, c43, c44, c45, _⟩ := M4.out.1.b'.cells; obtain ⟨f40, f41, f42, f43, f44, f45, _⟩ := M4.out.1.x.cells; obtain ⟨k40, k41, k42, k43, k44, k45, _⟩ := M4.out.2.cells; clear hb4)
        go_wp2_with fail
        refine hK.out _ _ (by (try dsimp only); go_keep) (fun hHeld2 => ?_)
        clear hK K hHeld
        have hHeld := hHeld2
        clear hHeld2
        try simp only [Act.put, List.setIfInBounds_toArray, List.set_cons_zero, List.set_cons_succ]
        refine wpAnyH_take (i := 22) (oi := { dst := some 56, op := Go.Op.binOp Go.BinOp.neq 25 (Go.Operand.tmp 54) (Go.Operand.tmp 55) 25, type := 4, pos := "laws.go:1785", after := #[{ on := 20, ground := Go.Ground.data }, { on := 21, ground := Go.Ground.data }, { on := 17, ground := Go.Ground.guard }], guard := some (17, false) }) (v := ?_) rfl (by kernel_rfl) (by kernel_rfl) (by kernel_rfl) (fun _ _ _ h => h) (Or.inl ⟨by rfl, ?_⟩) (by assumption) ?_
        rotate_left 1
        · (intro w hSw; (try dsimp only at hSw); go_simp); all_goals (with_reducible rfl)
        try simp only [Act.put, List.setIfInBounds_toArray, List.set_cons_zero, List.set_cons_succ]
        refine wpAnyH_take (i := 23) (oi := { dst := some 57, op := Go.Op.pick (Go.Operand.tmp 51) (Go.Operand.const (Go.Value.bool true)) (Go.Operand.tmp 56), type := 4, pos := "laws.go:1785", after := #[{ on := 17, ground := Go.Ground.data }, { on := 22, ground := Go.Ground.data }], guard := none }) (v := ?_) rfl (by kernel_rfl) (by kernel_rfl) (by kernel_rfl) (fun _ _ _ h => h) (Or.inl ⟨by rfl, ?_⟩) (by assumption) ?_
        rotate_left 1
        · (intro w hSw; (try dsimp only at hSw); go_simp); all_goals (with_reducible rfl)
        try simp only [Act.put, List.setIfInBounds_toArray, List.set_cons_zero, List.set_cons_succ]
        refine wpAnyH_take (i := 24) (oi := { dst := some 58, op := Go.Op.move (Go.Operand.tmp 57), type := 4, pos := "laws.go:1785", after := #[{ on := 23, ground := Go.Ground.data }, { on := 20, ground := Go.Ground.chain }], guard := none }) (v := ?_) rfl (by kernel_rfl) (by kernel_rfl) (by kernel_rfl) (fun _ _ _ h => h) (Or.inl ⟨by rfl, ?_⟩) (by assumption) ?_
        rotate_left 1
        · (intro w hSw; (try dsimp only at hSw); go_simp); all_goals (with_reducible rfl)
        try simp only [Act.put, List.setIfInBounds_toArray, List.set_cons_zero, List.set_cons_succ]
        refine wpAnyH_take (i := 25) (oi := { dst := some 59, op := Go.Op.load 25 (Go.Operand.tmp 4), type := 25, pos := "laws.go:1785", after := #[{ on := 24, ground := Go.Ground.guard }], guard := some (24, false) }) (v := ?_) rfl (by kernel_rfl) (by kernel_rfl) (by kernel_rfl) (fun _ _ _ h => h) (Or.inl ⟨by rfl, ?_⟩) (by assumption) ?_
        rotate_left 1
        · (intro w hSw; (try dsimp only at hSw); go_simp); all_goals (with_reducible rfl)
        try simp only [Act.put, List.setIfInBounds_toArray, List.set_cons_zero, List.set_cons_succ]
        refine wpAnyH_take (i := 26) (oi := { dst := some 60, op := Go.Op.load 25 (Go.Operand.tmp 5), type := 25, pos := "laws.go:1785", after := #[{ on := 24, ground := Go.Ground.guard }], guard := some (24, false) }) (v := ?_) rfl (by kernel_rfl) (by kernel_rfl) (by kernel_rfl) (fun _ _ _ h => h) (Or.inl ⟨by rfl, ?_⟩) (by assumption) ?_
        rotate_left 1
        · (intro w hSw; (try dsimp only at hSw); go_simp); all_goals (with_reducible rfl)
        try simp only [Act.put, List.setIfInBounds_toArray, List.set_cons_zero, List.set_cons_succ]
        refine wpAnyH_take (i := 28) (oi := { dst := some 62, op := Go.Op.load 25 (Go.Operand.tmp 5), type := 25, pos := "laws.go:1785", after := #[{ on := 24, ground := Go.Ground.guard }], guard := some (24, false) }) (v := ?_) rfl (by kernel_rfl) (by kernel_rfl) (by kernel_rfl) (fun _ _ _ h => h) (Or.inl ⟨by rfl, ?_⟩) (by assumption) ?_
        rotate_left 1
        · (intro w hSw; (try dsimp only at hSw); go_simp); all_goals (with_reducible rfl)
        try simp only [Act.put, List.setIfInBounds_toArray, List.set_cons_zero, List.set_cons_succ]
        refine wpAnyH_ready (rs := [27]) (by kernel_rfl) (by simp) ?_
        refine AllReadyH.cons (o := { dst := some 61, op := Go.Op.call { callee := Go.Callee.value (Go.Operand.func 6), args := #[Go.Operand.tmp 59, Go.Operand.tmp 60], argTypes := #[25, 25] }, type := 25, pos := "laws.go:1785", after := #[{ on := 25, ground := Go.Ground.data }, { on := 26, ground := Go.Ground.data }, { on := 24, ground := Go.Ground.chain }, { on := 24, ground := Go.Ground.guard }], guard := some (24, false) }) rfl (fun K hK => ?_) AllReadyH.nil
        go_simp
        (go_at_call 6; (with_reducible refine (J4.out _).mono ?_); rintro e o5 ⟨rfl, hb5⟩; have Q5 : Hid (LB w1 ka kb kx d p v W C b d2 p2 v2 W2 C2 b2 x0 x1 x2 x3 x4 x5 o5 ∧ SB o5 kn (-1) 0 (-1) E E 0) := ⟨M4.out.1.on hb5, M4.out.2.on hb5 M4.out.2.lt⟩; obtain ⟨a50, a51, a52, a53, a54, a55, _⟩ := Q5.out.1.a.cells; obtain ⟨c50, c51, c52, c53, c54, c55, _⟩ := Q5.out.1.b'.cells; obtain ⟨f50, f51, f52, f53, f54, f55, _⟩ := Q5.out.1.x.cells; obtain ⟨k50, k51, k52, k53, k54, k55, _⟩ := Q5.out.2.cells; clear hb5)
        go_wp2_with fail
        refine hK.out _ _ (by (try dsimp only); go_keep) (fun hHeld2 => ?_)
        clear hK K hHeld
        have hHeld := hHeld2
        clear hHeld2
        try simp only [Act.put, List.setIfInBounds_toArray, List.set_cons_zero, List.set_cons_succ]
        refine wpAnyH_take (i := 29) (oi := { dst := some 63, op := Go.Op.binOp Go.BinOp.neq 25 (Go.Operand.tmp 61) (Go.Operand.tmp 62) 25, type := 4, pos := "laws.go:1785", after := #[{ on := 27, ground := Go.Ground.data }, { on := 28, ground := Go.Ground.data }, { on := 24, ground := Go.Ground.guard }], guard := some (24, false) }) (v := ?_) rfl (by kernel_rfl) (by kernel_rfl) (by kernel_rfl) (fun _ _ _ h => h) (Or.inl ⟨by rfl, ?_⟩) (by assumption) ?_
        rotate_left 1
        · (intro w hSw; (try dsimp only at hSw); go_simp); all_goals (with_reducible rfl)
        try simp only [Act.put, List.setIfInBounds_toArray, List.set_cons_zero, List.set_cons_succ]
        refine wpAnyH_take (i := 30) (oi := { dst := some 64, op := Go.Op.move (Go.Operand.tmp 63), type := 4, pos := "laws.go:1785", after := #[{ on := 29, ground := Go.Ground.data }, { on := 27, ground := Go.Ground.chain }, { on := 24, ground := Go.Ground.guard }], guard := some (24, false) }) (v := ?_) rfl (by kernel_rfl) (by kernel_rfl) (by kernel_rfl) (fun _ _ _ h => h) (Or.inl ⟨by rfl, ?_⟩) (by assumption) ?_
        rotate_left 1
        · (intro w hSw; (try dsimp only at hSw); go_simp); all_goals (with_reducible rfl)
        try simp only [Act.put, List.setIfInBounds_toArray, List.set_cons_zero, List.set_cons_succ]
        refine wpAnyH_take (i := 31) (oi := { dst := some 65, op := Go.Op.fieldAddr 25 (Go.Operand.tmp 5) 0, type := 0, pos := "laws.go:1785", after := #[{ on := 30, ground := Go.Ground.guard }], guard := some (30, true) }) (v := ?_) rfl (by kernel_rfl) (by kernel_rfl) (by kernel_rfl) (fun _ _ _ h => h) (Or.inl ⟨by rfl, ?_⟩) (by assumption) ?_
        rotate_left 1
        · (intro w hSw; (try dsimp only at hSw); go_simp); all_goals (with_reducible rfl)
        try simp only [Act.put, List.setIfInBounds_toArray, List.set_cons_zero, List.set_cons_succ]
        refine wpAnyH_take (i := 32) (oi := { dst := some 66, op := Go.Op.load 2 (Go.Operand.tmp 65), type := 2, pos := "laws.go:1785", after := #[{ on := 31, ground := Go.Ground.data }, { on := 30, ground := Go.Ground.guard }], guard := some (30, true) }) (v := ?_) rfl (by kernel_rfl) (by kernel_rfl) (by kernel_rfl) (fun _ _ _ h => h) (Or.inl ⟨by rfl, ?_⟩) (by assumption) ?_
        rotate_left 1
        · (intro w hSw; (try dsimp only at hSw); go_simp); all_goals (with_reducible rfl)
        try simp only [Act.put, List.setIfInBounds_toArray, List.set_cons_zero, List.set_cons_succ]
        refine wpAnyH_take (i := 33) (oi := { dst := some 67, op := Go.Op.binOp Go.BinOp.neq 2 (Go.Operand.tmp 66) (Go.Operand.const (Go.Value.int Go.IntKind.i64 (-1))) 2, type := 4, pos := "laws.go:1785", after := #[{ on := 32, ground := Go.Ground.data }, { on := 30, ground := Go.Ground.guard }], guard := some (30, true) }) (v := ?_) rfl (by kernel_rfl) (by kernel_rfl) (by kernel_rfl) (fun _ _ _ h => h) (Or.inl ⟨by rfl, ?_⟩) (by assumption) ?_
        rotate_left 1
        · (intro w hSw; (try dsimp only at hSw); go_simp); all_goals (with_reducible rfl)
        try simp only [Act.put, List.setIfInBounds_toArray, List.set_cons_zero, List.set_cons_succ]
        refine wpAnyH_take (i := 34) (oi := { dst := some 68, op := Go.Op.pick (Go.Operand.tmp 64) (Go.Operand.tmp 67) (Go.Operand.const (Go.Value.bool false)), type := 4, pos := "laws.go:1785", after := #[{ on := 30, ground := Go.Ground.data }, { on := 33, ground := Go.Ground.data }, { on := 24, ground := Go.Ground.guard }], guard := some (24, false) }) (v := ?_) rfl (by kernel_rfl) (by kernel_rfl) (by kernel_rfl) (fun _ _ _ h => h) (Or.inl ⟨by rfl, ?_⟩) (by assumption) ?_
        rotate_left 1
        · (intro w hSw; (try dsimp only at hSw); go_simp); all_goals (with_reducible rfl)
        try simp only [Act.put, List.setIfInBounds_toArray, List.set_cons_zero, List.set_cons_succ]
        refine wpAnyH_take (i := 35) (oi := { dst := some 69, op := Go.Op.move (Go.Operand.tmp 68), type := 4, pos := "laws.go:1785", after := #[{ on := 34, ground := Go.Ground.data }, { on := 30, ground := Go.Ground.chain }, { on := 24, ground := Go.Ground.guard }], guard := some (24, false) }) (v := ?_) rfl (by kernel_rfl) (by kernel_rfl) (by kernel_rfl) (fun _ _ _ h => h) (Or.inl ⟨by rfl, ?_⟩) (by assumption) ?_
        rotate_left 1
        · (intro w hSw; (try dsimp only at hSw); go_simp); all_goals (with_reducible rfl)
        try simp only [Act.put, List.setIfInBounds_toArray, List.set_cons_zero, List.set_cons_succ]
        refine wpAnyH_take (i := 36) (oi := { dst := some 70, op := Go.Op.fieldAddr 25 (Go.Operand.tmp 5) 2, type := 0, pos := "laws.go:1785", after := #[{ on := 35, ground := Go.Ground.guard }], guard := some (35, true) }) (v := undef) rfl (by kernel_rfl) (by kernel_rfl) (by kernel_rfl) (fun _ _ _ h => h) (Or.inr ⟨by rfl, rfl⟩) (by assumption) ?_
        try simp only [Act.put, List.setIfInBounds_toArray, List.set_cons_zero, List.set_cons_succ]
        refine wpAnyH_take (i := 37) (oi := { dst := some 71, op := Go.Op.load 2 (Go.Operand.tmp 70), type := 2, pos := "laws.go:1785", after := #[{ on := 36, ground := Go.Ground.data }, { on := 35, ground := Go.Ground.guard }], guard := some (35, true) }) (v := undef) rfl (by kernel_rfl) (by kernel_rfl) (by kernel_rfl) (fun _ _ _ h => h) (Or.inr ⟨by rfl, rfl⟩) (by assumption) ?_
        try simp only [Act.put, List.setIfInBounds_toArray, List.set_cons_zero, List.set_cons_succ]
        refine wpAnyH_take (i := 38) (oi := { dst := some 72, op := Go.Op.binOp Go.BinOp.neq 2 (Go.Operand.tmp 71) (Go.Operand.const (Go.Value.int Go.IntKind.i64 (-1))) 2, type := 4, pos := "laws.go:1785", after := #[{ on := 37, ground := Go.Ground.data }, { on := 35, ground := Go.Ground.guard }], guard := some (35, true) }) (v := undef) rfl (by kernel_rfl) (by kernel_rfl) (by kernel_rfl) (fun _ _ _ h => h) (Or.inr ⟨by rfl, rfl⟩) (by assumption) ?_
        try simp only [Act.put, List.setIfInBounds_toArray, List.set_cons_zero, List.set_cons_succ]
        refine wpAnyH_take (i := 39) (oi := { dst := some 73, op := Go.Op.pick (Go.Operand.tmp 69) (Go.Operand.tmp 72) (Go.Operand.const (Go.Value.bool false)), type := 4, pos := "laws.go:1785", after := #[{ on := 35, ground := Go.Ground.data }, { on := 38, ground := Go.Ground.data }, { on := 24, ground := Go.Ground.guard }], guard := some (24, false) }) (v := ?_) rfl (by kernel_rfl) (by kernel_rfl) (by kernel_rfl) (fun _ _ _ h => h) (Or.inl ⟨by rfl, ?_⟩) (by assumption) ?_
        rotate_left 1
        · (intro w hSw; (try dsimp only at hSw); go_simp); all_goals (with_reducible rfl)
        try simp only [Act.put, List.setIfInBounds_toArray, List.set_cons_zero, List.set_cons_succ]
        refine wpAnyH_take (i := 40) (oi := { dst := some 74, op := Go.Op.move (Go.Operand.tmp 73), type := 4, pos := "laws.go:1785", after := #[{ on := 39, ground := Go.Ground.data }, { on := 35, ground := Go.Ground.chain }, { on := 24, ground := Go.Ground.guard }], guard := some (24, false) }) (v := ?_) rfl (by kernel_rfl) (by kernel_rfl) (by kernel_rfl) (fun _ _ _ h => h) (Or.inl ⟨by rfl, ?_⟩) (by assumption) ?_
        rotate_left 1
        · (intro w hSw; (try dsimp only at hSw); go_simp); all_goals (with_reducible rfl)
        try simp only [Act.put, List.setIfInBounds_toArray, List.set_cons_zero, List.set_cons_succ]
        refine wpAnyH_take (i := 41) (oi := { dst := some 75, op := Go.Op.fieldAddr 25 (Go.Operand.tmp 5) 3, type := 0, pos := "laws.go:1785", after := #[{ on := 40, ground := Go.Ground.guard }], guard := some (40, true) }) (v := undef) rfl (by kernel_rfl) (by kernel_rfl) (by kernel_rfl) (fun _ _ _ h => h) (Or.inr ⟨by rfl, rfl⟩) (by assumption) ?_
        try simp only [Act.put, List.setIfInBounds_toArray, List.set_cons_zero, List.set_cons_succ]
        refine wpAnyH_take (i := 42) (oi := { dst := some 76, op := Go.Op.load 9 (Go.Operand.tmp 75), type := 9, pos := "laws.go:1785", after := #[{ on := 41, ground := Go.Ground.data }, { on := 40, ground := Go.Ground.guard }], guard := some (40, true) }) (v := undef) rfl (by kernel_rfl) (by kernel_rfl) (by kernel_rfl) (fun _ _ _ h => h) (Or.inr ⟨by rfl, rfl⟩) (by assumption) ?_
        try simp only [Act.put, List.setIfInBounds_toArray, List.set_cons_zero, List.set_cons_succ]
        refine wpAnyH_take (i := 43) (oi := { dst := some 77, op := Go.Op.binOp Go.BinOp.neq 9 (Go.Operand.tmp 76) (Go.Operand.const (Go.Value.string { data := #[] })) 9, type := 4, pos := "laws.go:1785", after := #[{ on := 42, ground := Go.Ground.data }, { on := 40, ground := Go.Ground.guard }], guard := some (40, true) }) (v := undef) rfl (by kernel_rfl) (by kernel_rfl) (by kernel_rfl) (fun _ _ _ h => h) (Or.inr ⟨by rfl, rfl⟩) (by assumption) ?_
        try simp only [Act.put, List.setIfInBounds_toArray, List.set_cons_zero, List.set_cons_succ]
        refine wpAnyH_take (i := 44) (oi := { dst := some 78, op := Go.Op.pick (Go.Operand.tmp 74) (Go.Operand.tmp 77) (Go.Operand.const (Go.Value.bool false)), type := 4, pos := "laws.go:1785", after := #[{ on := 40, ground := Go.Ground.data }, { on := 43, ground := Go.Ground.data }, { on := 24, ground := Go.Ground.guard }], guard := some (24, false) }) (v := ?_) rfl (by kernel_rfl) (by kernel_rfl) (by kernel_rfl) (fun _ _ _ h => h) (Or.inl ⟨by rfl, ?_⟩) (by assumption) ?_
        rotate_left 1
        · (intro w hSw; (try dsimp only at hSw); go_simp); all_goals (with_reducible rfl)
        try simp only [Act.put, List.setIfInBounds_toArray, List.set_cons_zero, List.set_cons_succ]
        refine wpAnyH_take (i := 45) (oi := { dst := some 79, op := Go.Op.move (Go.Operand.tmp 78), type := 4, pos := "laws.go:1785", after := #[{ on := 44, ground := Go.Ground.data }, { on := 40, ground := Go.Ground.chain }, { on := 24, ground := Go.Ground.guard }], guard := some (24, false) }) (v := ?_) rfl (by kernel_rfl) (by kernel_rfl) (by kernel_rfl) (fun _ _ _ h => h) (Or.inl ⟨by rfl, ?_⟩) (by assumption) ?_
        rotate_left 1
        · (intro w hSw; (try dsimp only at hSw); go_simp); all_goals (with_reducible rfl)
        try simp only [Act.put, List.setIfInBounds_toArray, List.set_cons_zero, List.set_cons_succ]
        refine wpAnyH_take (i := 46) (oi := { dst := some 80, op := Go.Op.fieldAddr 25 (Go.Operand.tmp 5) 4, type := 0, pos := "laws.go:1785", after := #[{ on := 45, ground := Go.Ground.guard }], guard := some (45, true) }) (v := undef) rfl (by kernel_rfl) (by kernel_rfl) (by kernel_rfl) (fun _ _ _ h => h) (Or.inr ⟨by rfl, rfl⟩) (by assumption) ?_
        try simp only [Act.put, List.setIfInBounds_toArray, List.set_cons_zero, List.set_cons_succ]
        refine wpAnyH_take (i := 47) (oi := { dst := some 81, op := Go.Op.load 9 (Go.Operand.tmp 80), type := 9, pos := "laws.go:1785", after := #[{ on := 46, ground := Go.Ground.data }, { on := 45, ground := Go.Ground.guard }], guard := some (45, true) }) (v := undef) rfl (by kernel_rfl) (by kernel_rfl) (by kernel_rfl) (fun _ _ _ h => h) (Or.inr ⟨by rfl, rfl⟩) (by assumption) ?_
        try simp only [Act.put, List.setIfInBounds_toArray, List.set_cons_zero, List.set_cons_succ]
        refine wpAnyH_take (i := 48) (oi := { dst := some 82, op := Go.Op.binOp Go.BinOp.neq 9 (Go.Operand.tmp 81) (Go.Operand.const (Go.Value.string { data := #[] })) 9, type := 4, pos := "laws.go:1785", after := #[{ on := 47, ground := Go.Ground.data }, { on := 45, ground := Go.Ground.guard }], guard := some (45, true) }) (v := undef) rfl (by kernel_rfl) (by kernel_rfl) (by kernel_rfl) (fun _ _ _ h => h) (Or.inr ⟨by rfl, rfl⟩) (by assumption) ?_
        try simp only [Act.put, List.setIfInBounds_toArray, List.set_cons_zero, List.set_cons_succ]
        refine wpAnyH_take (i := 49) (oi := { dst := some 83, op := Go.Op.pick (Go.Operand.tmp 79) (Go.Operand.tmp 82) (Go.Operand.const (Go.Value.bool false)), type := 4, pos := "laws.go:1785", after := #[{ on := 45, ground := Go.Ground.data }, { on := 48, ground := Go.Ground.data }, { on := 24, ground := Go.Ground.guard }], guard := some (24, false) }) (v := ?_) rfl (by kernel_rfl) (by kernel_rfl) (by kernel_rfl) (fun _ _ _ h => h) (Or.inl ⟨by rfl, ?_⟩) (by assumption) ?_
        rotate_left 1
        · (intro w hSw; (try dsimp only at hSw); go_simp); all_goals (with_reducible rfl)
        try simp only [Act.put, List.setIfInBounds_toArray, List.set_cons_zero, List.set_cons_succ]
        refine wpAnyH_take (i := 50) (oi := { dst := some 84, op := Go.Op.pick (Go.Operand.tmp 58) (Go.Operand.const (Go.Value.bool true)) (Go.Operand.tmp 83), type := 4, pos := "laws.go:1785", after := #[{ on := 24, ground := Go.Ground.data }, { on := 49, ground := Go.Ground.data }], guard := none }) (v := ?_) rfl (by kernel_rfl) (by kernel_rfl) (by kernel_rfl) (fun _ _ _ h => h) (Or.inl ⟨by rfl, ?_⟩) (by assumption) ?_
        rotate_left 1
        · (intro w hSw; (try dsimp only at hSw); go_simp); all_goals (with_reducible rfl)
        try simp only [Act.put, List.setIfInBounds_toArray, List.set_cons_zero, List.set_cons_succ]
        refine wpAnyH_done (by kernel_rfl) ?_ _
        go_wp2_with fail
        go_meet
        exact ⟨rfl, Q5.out.1⟩
    case rest =>
      obtain ⟨wf, hq⟩ : ∃ q : World, q = wc := ⟨_, rfl⟩
      subst hq
      obtain ⟨rfl, L6⟩ := hcut
      clear L5 J0 J1 J2 J3 J4 N1 N2 N3 N4 M5
      have HL2 := HL.out
      simp only [lay, Prod.mk.injEq] at HL2
      obtain ⟨e0, e1, e2, e3, e4, e5⟩ := HL2
      have G0 : Hid ((d2 == -1) = false → x0 = d2 ∧ x1 = p2) := fun h => (by rw [h] at e0 e1; exact ⟨e0, e1⟩)
      have G2 : Hid ((v2 == -1) = false → x2 = v2) := fun h => (by rw [h] at e2; exact e2)
      have G3 : Hid ((W2.toList == []) = false → x3 = W2) := fun h => (by rw [h] at e3; exact e3)
      have G4 : Hid ((C2.toList == []) = false → x4 = C2 ∧ x5 = b2) := fun h => (by rw [h] at e4 e5; exact ⟨e4, e5⟩)
      have BL : Hid (Below w1.heap.size w1 wf) := L6.out.bl
      obtain ⟨c0, c1, c2, c3, c4, c5, _⟩ := L6.out.b'.cells
      obtain ⟨f0, f1, f2, f3, f4, f5, _⟩ := L6.out.x.cells
      clear HL e0 e1 e2 e3 e4 e5 L6
      have hii : ∀ z : Int, (z == z) = true := fun z => by simp
      have hll : ∀ l : List UInt8, (l == l) = true := fun l => by simp
      cases hd : (d2 == -1)
      · obtain ⟨g0, g1⟩ := G0.out hd
        rw [g0] at f0
        rw [g1] at f1
        clear G0 g0 g1
        cases hv : (v2 == -1)
        · rw [G2.out hv] at f2
          clear G2
          cases hw : (W2.toList == [])
          · rw [G3.out hw] at f3
            have hw2 : W2.toList.isEmpty = false := by simpa using hw
            clear G3
            cases hc : (C2.toList == [])
            · obtain ⟨g0, g1⟩ := G4.out hc
              rw [g0] at f4
              rw [g1] at f5
              have hc2 : C2.toList.isEmpty = false := by simpa using hc
              clear G4 g0 g1
              go_wp2_with fail
              go_ret
              exact ⟨rfl, BL.out⟩
            · have hc2 : C2.toList.isEmpty = true := by simpa using hc
              clear G4
              go_wp2_with fail
              go_ret
              exact ⟨rfl, BL.out⟩
          · have hw2 : W2.toList.isEmpty = true := by simpa using hw
            clear G3
            cases hc : (C2.toList == [])
            · obtain ⟨g0, g1⟩ := G4.out hc
              rw [g0] at f4
              rw [g1] at f5
              have hc2 : C2.toList.isEmpty = false := by simpa using hc
              clear G4 g0 g1
              go_wp2_with fail
              go_ret
              exact ⟨rfl, BL.out⟩
            · have hc2 : C2.toList.isEmpty = true := by simpa using hc
              clear G4
              go_wp2_with fail
              go_ret
              exact ⟨rfl, BL.out⟩
        · clear G2
          cases hw : (W2.toList == [])
          · rw [G3.out hw] at f3
            have hw2 : W2.toList.isEmpty = false := by simpa using hw
            clear G3
            cases hc : (C2.toList == [])
            · obtain ⟨g0, g1⟩ := G4.out hc
              rw [g0] at f4
              rw [g1] at f5
              have hc2 : C2.toList.isEmpty = false := by simpa using hc
              clear G4 g0 g1
              go_wp2_with fail
              go_ret
              exact ⟨rfl, BL.out⟩
            · have hc2 : C2.toList.isEmpty = true := by simpa using hc
              clear G4
              go_wp2_with fail
              go_ret
              exact ⟨rfl, BL.out⟩
          · have hw2 : W2.toList.isEmpty = true := by simpa using hw
            clear G3
            cases hc : (C2.toList == [])
            · obtain ⟨g0, g1⟩ := G4.out hc
              rw [g0] at f4
              rw [g1] at f5
              have hc2 : C2.toList.isEmpty = false := by simpa using hc
              clear G4 g0 g1
              go_wp2_with fail
              go_ret
              exact ⟨rfl, BL.out⟩
            · have hc2 : C2.toList.isEmpty = true := by simpa using hc
              clear G4
              go_wp2_with fail
              go_ret
              exact ⟨rfl, BL.out⟩
      · clear G0
        cases hv : (v2 == -1)
        · rw [G2.out hv] at f2
          clear G2
          cases hw : (W2.toList == [])
          · rw [G3.out hw] at f3
            have hw2 : W2.toList.isEmpty = false := by simpa using hw
            clear G3
            cases hc : (C2.toList == [])
            · obtain ⟨g0, g1⟩ := G4.out hc
              rw [g0] at f4
              rw [g1] at f5
              have hc2 : C2.toList.isEmpty = false := by simpa using hc
              clear G4 g0 g1
              go_wp2_with fail
              go_ret
              exact ⟨rfl, BL.out⟩
            · have hc2 : C2.toList.isEmpty = true := by simpa using hc
              clear G4
              go_wp2_with fail
              go_ret
              exact ⟨rfl, BL.out⟩
          · have hw2 : W2.toList.isEmpty = true := by simpa using hw
            clear G3
            cases hc : (C2.toList == [])
            · obtain ⟨g0, g1⟩ := G4.out hc
              rw [g0] at f4
              rw [g1] at f5
              have hc2 : C2.toList.isEmpty = false := by simpa using hc
              clear G4 g0 g1
              go_wp2_with fail
              go_ret
              exact ⟨rfl, BL.out⟩
            · have hc2 : C2.toList.isEmpty = true := by simpa using hc
              clear G4
              go_wp2_with fail
              go_ret
              exact ⟨rfl, BL.out⟩
        · clear G2
          cases hw : (W2.toList == [])
          · rw [G3.out hw] at f3
            have hw2 : W2.toList.isEmpty = false := by simpa using hw
            clear G3
            cases hc : (C2.toList == [])
            · obtain ⟨g0, g1⟩ := G4.out hc
              rw [g0] at f4
              rw [g1] at f5
              have hc2 : C2.toList.isEmpty = false := by simpa using hc
              clear G4 g0 g1
              go_wp2_with fail
              go_ret
              exact ⟨rfl, BL.out⟩
            · have hc2 : C2.toList.isEmpty = true := by simpa using hc
              clear G4
              go_wp2_with fail
              go_ret
              exact ⟨rfl, BL.out⟩
          · have hw2 : W2.toList.isEmpty = true := by simpa using hw
            clear G3
            cases hc : (C2.toList == [])
            · obtain ⟨g0, g1⟩ := G4.out hc
              rw [g0] at f4
              rw [g1] at f5
              have hc2 : C2.toList.isEmpty = false := by simpa using hc
              clear G4 g0 g1
              go_wp2_with fail
              go_ret
              exact ⟨rfl, BL.out⟩
            · have hc2 : C2.toList.isEmpty = true := by simpa using hc
              clear G4
              go_wp2_with fail
              go_ret
              exact ⟨rfl, BL.out⟩
end Go.Proofs.Ytgfcimbhfbgnfaa.Sk
