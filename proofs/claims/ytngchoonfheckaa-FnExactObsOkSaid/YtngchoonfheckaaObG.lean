/- Whether a report is right: the model. -/
import Derived.Test.YtngchoonfheckaaObF
namespace Go.Proofs.Ytngchoonfheckaa.Flt
open Go.ChangeShapes Go.WideShapes Go.ChangeAt Go.RowKit
attribute [local go_sem] run_store_float

def svis (v : Nat) : Bool := nan v || (iz v 0 99990 && ((if iz v 0 99990 then (nr v).1 else 0).tmod 10 == 0))
def sall (s : Int) (t d p : Nat) (di : Int) (sp _v r : Nat) (_we _cl : Int) (SK : Bool) : Bool := inB s 1 99999 && ((nan t || tn t (-999) 999) && ((nan d || tn d (-999) 999) && ((nan p || tn p (5000) 14999) && (swd di sp && ((nan r || tn r (0) 9999) && SK)))))
def skyB (we cl : Int) : Bool := ((we == -1) && (cl == -1)) || (inB we 0 99 && inB cl 0 8)
theorem self_eq (x : Nat) : (FloatKind.f64.format.order x x == some .eq) = !nan x := by
  have := self_ne x
  have : (FloatKind.f64.format.order x x != some .eq) = nan x := this
  rw [← this]
  simp [bne]

set_option maxHeartbeats 4000000 in
theorem sobs (s : Int) (t d p : Nat) (di : Int) (sp v r : Nat) (we cl : Int) (w : World) (b1 : t < 18446744073709551616) (b2 : d < 18446744073709551616) (b3 : p < 18446744073709551616) (b5 : sp < 18446744073709551616) (b6 : v < 18446744073709551616) (b7 : r < 18446744073709551616) : Calls Try.prog 7 #[ob s t d p di sp v r we cl] w fun e w' => e = .returned (.bool (svis v && sall s t d p di sp v r we cl (skyB we cl))) ∧ Below w.heap.size w w' := by
  have BD : Hid (t < 18446744073709551616 ∧ d < 18446744073709551616 ∧ p < 18446744073709551616 ∧ sp < 18446744073709551616 ∧ v < 18446744073709551616 ∧ r < 18446744073709551616) := ⟨b1, b2, b3, b5, b6, b7⟩
  clear b1 b2 b3 b5 b6 b7
  have HV : Hid (svis v = (nan v || (iz v 0 99990 && ((if iz v 0 99990 then (nr v).1 else 0).tmod 10 == 0)))) := rfl
  obtain ⟨SK, hSK⟩ : ∃ SK, skyB we cl = SK := ⟨_, rfl⟩
  have HSK : Hid (SK = (((we == -1) && (cl == -1)) || (inB we 0 99 && inB cl 0 8))) := hSK.symm
  rw [hSK]
  have HA : Hid (sall s t d p di sp v r we cl SK = (inB s 1 99999 && ((nan t || tn t (-999) 999) && ((nan d || tn d (-999) 999) && ((nan p || tn p (5000) 14999) && (swd di sp && ((nan r || tn r (0) 9999) && SK))))))) := rfl
  generalize sall s t d p di sp v r we cl SK = RA at *
  obtain ⟨V, hV⟩ : ∃ V, svis v = V := ⟨_, rfl⟩
  rw [hV] at HV ⊢
  obtain ⟨n, hn⟩ : ∃ n, (if iz v 0 99990 then (nr v).1 else 0) = n := ⟨_, rfl⟩
  have HN : Hid ((if iz v 0 99990 then (nr v).1 else 0) = n) := hn
  rw [hn] at HV
  have se := self_eq v
  clear hSK hV hn
  go_enter Try.func7, Try.ntmps7
  go_wp2_with fail
  refine (sis _ _ _ _ BD.out.2.2.2.2.1).mono ?_
  rintro e w1 ⟨rfl, bb⟩
  rw [HN.out]
  have OB1 : Hid (Ob w1 w.heap.size s t d p di sp v r we cl) := (Ob.new w s t d p di sp v r we cl 28).on bb
  have B1 : Hid (Below w.heap.size w w1) := ((Below.refl _ _).alloc (Nat.le_refl _) _).trans (bb.mono (by simp))
  clear bb
  cases nv : nan v
  · rw [nv] at se HV
    cases kz : iz v 0 99990
    · have EV : Hid (V = false) := (by show _ = _; rw [HV.out, kz]; rfl)
      obtain ⟨hh, c0, c1, c2, c3, c4, c5, c6, c7, c8, c9⟩ := OB1.out
      go_wp2_with fail
      go_ret
      exact ⟨by rw [EV.out]; rfl, B1.out⟩
    · cases km : (n.tmod 10 == 0)
      · have EV : Hid (V = false) := (by show _ = _; rw [HV.out, kz, km]; rfl)
        have kn : (n.tmod 10 != 0) = true := (by unfold bne; rw [km]; rfl)
        obtain ⟨hh, c0, c1, c2, c3, c4, c5, c6, c7, c8, c9⟩ := OB1.out
        go_wp2_with fail
        go_ret
        exact ⟨by rw [EV.out]; rfl, B1.out⟩
      · have EV : Hid (V = true) := (by show _ = _; rw [HV.out, kz, km]; rfl)
        have kn : (n.tmod 10 != 0) = false := (by unfold bne; rw [km]; rfl)
        obtain ⟨hh, c0, c1, c2, c3, c4, c5, c6, c7, c8, c9⟩ := OB1.out
        go_upto_region 4 with fail
        go_cut [5] (fun k wx => k = .bool SK ∧ wx = w1)
        case first =>
          cases s1 : (we == -1)
          · cases s3 : inB we 0 99
            · skip
              go_wp2_with (go_at_call 13; refine (in_any _ _ _ _).mono ?_; rintro e w2 ⟨rfl, hw2⟩; subst hw2; first | rw [s3])
              go_meet
              exact ⟨by rw [HSK.out, s1, s3]; rfl, rfl⟩
            · cases s4 : inB cl 0 8
              · skip
                go_wp2_with (go_at_call 13; refine (in_any _ _ _ _).mono ?_; rintro e w2 ⟨rfl, hw2⟩; subst hw2; first | rw [s3] | rw [s4])
                go_meet
                exact ⟨by rw [HSK.out, s1, s3, s4]; rfl, rfl⟩
              · skip
                go_wp2_with (go_at_call 13; refine (in_any _ _ _ _).mono ?_; rintro e w2 ⟨rfl, hw2⟩; subst hw2; first | rw [s3] | rw [s4])
                go_meet
                exact ⟨by rw [HSK.out, s1, s3, s4]; rfl, rfl⟩
          · cases s2 : (cl == -1)
            · cases s3 : inB we 0 99
              · skip
                go_wp2_with (go_at_call 13; refine (in_any _ _ _ _).mono ?_; rintro e w2 ⟨rfl, hw2⟩; subst hw2; first | rw [s3])
                go_meet
                exact ⟨by rw [HSK.out, s1, s2, s3]; rfl, rfl⟩
              · cases s4 : inB cl 0 8
                · skip
                  go_wp2_with (go_at_call 13; refine (in_any _ _ _ _).mono ?_; rintro e w2 ⟨rfl, hw2⟩; subst hw2; first | rw [s3] | rw [s4])
                  go_meet
                  exact ⟨by rw [HSK.out, s1, s2, s3, s4]; rfl, rfl⟩
                · skip
                  go_wp2_with (go_at_call 13; refine (in_any _ _ _ _).mono ?_; rintro e w2 ⟨rfl, hw2⟩; subst hw2; first | rw [s3] | rw [s4])
                  go_meet
                  exact ⟨by rw [HSK.out, s1, s2, s3, s4]; rfl, rfl⟩
            · go_wp2_with fail
              go_meet
              exact ⟨by rw [HSK.out, s1, s2]; rfl, rfl⟩
        case rest =>
          obtain ⟨rfl, rfl⟩ := hcut
          have HR : Hid ((V && RA) = (inB s 1 99999 && ((nan t || tn t (-999) 999) && ((nan d || tn d (-999) 999) && ((nan p || tn p (5000) 14999) && (swd di sp && ((nan r || tn r (0) 9999) && SK))))))) := (by show _ = _; rw [EV.out, HA.out]; rfl)
          clear hh c0 c1 c2 c3 c4 c5 c6 c7 c8 c9 HSK
          obtain ⟨hh, c0, c1, c2, c3, c4, c5, c6, c7, c8, c9⟩ := OB1.out
          go_wp2_with fail
          refine (in_any _ _ _ _).mono ?_
          rintro e w2 ⟨rfl, hw⟩
          clear hh c0 c1 c2 c3 c4 c5 c6 c7 c8 c9
          have OB2 : Hid (Ob w2 w.heap.size s t d p di sp v r we cl) := (by show Ob _ _ _ _ _ _ _ _ _ _ _ _; rw [hw]; exact OB1.out)
          have B2 : Hid (Below w.heap.size w w2) := (by show Below _ _ _; rw [hw]; exact B1.out)
          clear hw
          cases k1 : inB s 1 99999
          · skip
            obtain ⟨hh, c0, c1, c2, c3, c4, c5, c6, c7, c8, c9⟩ := OB2.out
            go_wp2_with fail
            go_ret
            exact ⟨by rw [HR.out, k1]; first | rfl | simp, B2.out⟩
          obtain ⟨hh, c0, c1, c2, c3, c4, c5, c6, c7, c8, c9⟩ := OB2.out
          go_wp2_with fail
          refine (spart _ _ _ _ BD.out.1).mono ?_
          rintro e w3 ⟨rfl, bb⟩
          clear hh c0 c1 c2 c3 c4 c5 c6 c7 c8 c9
          have OB3 : Hid (Ob w3 w.heap.size s t d p di sp v r we cl) := OB2.out.on bb
          have B3 : Hid (Below w.heap.size w w3) := B2.out.trans (bb.mono B2.out.size)
          clear bb
          cases k2 : (nan t || tn t (-999) 999)
          · skip
            obtain ⟨hh, c0, c1, c2, c3, c4, c5, c6, c7, c8, c9⟩ := OB3.out
            go_wp2_with fail
            go_ret
            exact ⟨by rw [HR.out, k1, k2]; first | rfl | simp, B3.out⟩
          obtain ⟨hh, c0, c1, c2, c3, c4, c5, c6, c7, c8, c9⟩ := OB3.out
          go_wp2_with fail
          refine (spart _ _ _ _ BD.out.2.1).mono ?_
          rintro e w4 ⟨rfl, bb⟩
          clear hh c0 c1 c2 c3 c4 c5 c6 c7 c8 c9
          have OB4 : Hid (Ob w4 w.heap.size s t d p di sp v r we cl) := OB3.out.on bb
          have B4 : Hid (Below w.heap.size w w4) := B3.out.trans (bb.mono B3.out.size)
          clear bb
          cases k3 : (nan d || tn d (-999) 999)
          · skip
            obtain ⟨hh, c0, c1, c2, c3, c4, c5, c6, c7, c8, c9⟩ := OB4.out
            go_wp2_with fail
            go_ret
            exact ⟨by rw [HR.out, k1, k2, k3]; first | rfl | simp, B4.out⟩
          obtain ⟨hh, c0, c1, c2, c3, c4, c5, c6, c7, c8, c9⟩ := OB4.out
          go_wp2_with fail
          refine (spart _ _ _ _ BD.out.2.2.1).mono ?_
          rintro e w5 ⟨rfl, bb⟩
          clear hh c0 c1 c2 c3 c4 c5 c6 c7 c8 c9
          have OB5 : Hid (Ob w5 w.heap.size s t d p di sp v r we cl) := OB4.out.on bb
          have B5 : Hid (Below w.heap.size w w5) := B4.out.trans (bb.mono B4.out.size)
          clear bb
          cases k4 : (nan p || tn p (5000) 14999)
          · skip
            obtain ⟨hh, c0, c1, c2, c3, c4, c5, c6, c7, c8, c9⟩ := OB5.out
            go_wp2_with fail
            go_ret
            exact ⟨by rw [HR.out, k1, k2, k3, k4]; first | rfl | simp, B5.out⟩
          obtain ⟨hh, c0, c1, c2, c3, c4, c5, c6, c7, c8, c9⟩ := OB5.out
          go_wp2_with fail
          refine (swind_any _ _ _ _ _ _ _ _ _ _ _ BD.out.2.2.2.1).mono ?_
          rintro e w6 ⟨rfl, bb⟩
          clear hh c0 c1 c2 c3 c4 c5 c6 c7 c8 c9
          have OB6 : Hid (Ob w6 w.heap.size s t d p di sp v r we cl) := OB5.out.on bb
          have B6 : Hid (Below w.heap.size w w6) := B5.out.trans (bb.mono B5.out.size)
          clear bb
          cases k5 : swd di sp
          · skip
            obtain ⟨hh, c0, c1, c2, c3, c4, c5, c6, c7, c8, c9⟩ := OB6.out
            go_wp2_with fail
            go_ret
            exact ⟨by rw [HR.out, k1, k2, k3, k4, k5]; first | rfl | simp, B6.out⟩
          obtain ⟨hh, c0, c1, c2, c3, c4, c5, c6, c7, c8, c9⟩ := OB6.out
          go_wp2_with fail
          refine (spart _ _ _ _ BD.out.2.2.2.2.2).mono ?_
          rintro e w7 ⟨rfl, bb⟩
          clear hh c0 c1 c2 c3 c4 c5 c6 c7 c8 c9
          have OB7 : Hid (Ob w7 w.heap.size s t d p di sp v r we cl) := OB6.out.on bb
          have B7 : Hid (Below w.heap.size w w7) := B6.out.trans (bb.mono B6.out.size)
          clear bb
          cases k6 : (nan r || tn r (0) 9999)
          · skip
            obtain ⟨hh, c0, c1, c2, c3, c4, c5, c6, c7, c8, c9⟩ := OB7.out
            go_wp2_with fail
            go_ret
            exact ⟨by rw [HR.out, k1, k2, k3, k4, k5, k6]; first | rfl | simp, B7.out⟩
          obtain ⟨hh, c0, c1, c2, c3, c4, c5, c6, c7, c8, c9⟩ := OB7.out
          go_wp2_with fail
          go_ret
          exact ⟨by rw [HR.out, k1, k2, k3, k4, k5, k6]; first | rfl | simp, B7.out⟩
  · rw [nv] at se HV
    have EV : Hid (V = true) := (by show _ = _; rw [HV.out]; rfl)
    obtain ⟨hh, c0, c1, c2, c3, c4, c5, c6, c7, c8, c9⟩ := OB1.out
    go_upto_region 4 with fail
    go_cut [5] (fun k wx => k = .bool SK ∧ wx = w1)
    case first =>
      cases s1 : (we == -1)
      · cases s3 : inB we 0 99
        · skip
          go_wp2_with (go_at_call 13; refine (in_any _ _ _ _).mono ?_; rintro e w2 ⟨rfl, hw2⟩; subst hw2; first | rw [s3])
          go_meet
          exact ⟨by rw [HSK.out, s1, s3]; rfl, rfl⟩
        · cases s4 : inB cl 0 8
          · skip
            go_wp2_with (go_at_call 13; refine (in_any _ _ _ _).mono ?_; rintro e w2 ⟨rfl, hw2⟩; subst hw2; first | rw [s3] | rw [s4])
            go_meet
            exact ⟨by rw [HSK.out, s1, s3, s4]; rfl, rfl⟩
          · skip
            go_wp2_with (go_at_call 13; refine (in_any _ _ _ _).mono ?_; rintro e w2 ⟨rfl, hw2⟩; subst hw2; first | rw [s3] | rw [s4])
            go_meet
            exact ⟨by rw [HSK.out, s1, s3, s4]; rfl, rfl⟩
      · cases s2 : (cl == -1)
        · cases s3 : inB we 0 99
          · skip
            go_wp2_with (go_at_call 13; refine (in_any _ _ _ _).mono ?_; rintro e w2 ⟨rfl, hw2⟩; subst hw2; first | rw [s3])
            go_meet
            exact ⟨by rw [HSK.out, s1, s2, s3]; rfl, rfl⟩
          · cases s4 : inB cl 0 8
            · skip
              go_wp2_with (go_at_call 13; refine (in_any _ _ _ _).mono ?_; rintro e w2 ⟨rfl, hw2⟩; subst hw2; first | rw [s3] | rw [s4])
              go_meet
              exact ⟨by rw [HSK.out, s1, s2, s3, s4]; rfl, rfl⟩
            · skip
              go_wp2_with (go_at_call 13; refine (in_any _ _ _ _).mono ?_; rintro e w2 ⟨rfl, hw2⟩; subst hw2; first | rw [s3] | rw [s4])
              go_meet
              exact ⟨by rw [HSK.out, s1, s2, s3, s4]; rfl, rfl⟩
        · go_wp2_with fail
          go_meet
          exact ⟨by rw [HSK.out, s1, s2]; rfl, rfl⟩
    case rest =>
      obtain ⟨rfl, rfl⟩ := hcut
      have HR : Hid ((V && RA) = (inB s 1 99999 && ((nan t || tn t (-999) 999) && ((nan d || tn d (-999) 999) && ((nan p || tn p (5000) 14999) && (swd di sp && ((nan r || tn r (0) 9999) && SK))))))) := (by show _ = _; rw [EV.out, HA.out]; rfl)
      clear hh c0 c1 c2 c3 c4 c5 c6 c7 c8 c9 HSK
      obtain ⟨hh, c0, c1, c2, c3, c4, c5, c6, c7, c8, c9⟩ := OB1.out
      go_wp2_with fail
      refine (in_any _ _ _ _).mono ?_
      rintro e w2 ⟨rfl, hw⟩
      clear hh c0 c1 c2 c3 c4 c5 c6 c7 c8 c9
      have OB2 : Hid (Ob w2 w.heap.size s t d p di sp v r we cl) := (by show Ob _ _ _ _ _ _ _ _ _ _ _ _; rw [hw]; exact OB1.out)
      have B2 : Hid (Below w.heap.size w w2) := (by show Below _ _ _; rw [hw]; exact B1.out)
      clear hw
      cases k1 : inB s 1 99999
      · skip
        obtain ⟨hh, c0, c1, c2, c3, c4, c5, c6, c7, c8, c9⟩ := OB2.out
        go_wp2_with fail
        go_ret
        exact ⟨by rw [HR.out, k1]; first | rfl | simp, B2.out⟩
      obtain ⟨hh, c0, c1, c2, c3, c4, c5, c6, c7, c8, c9⟩ := OB2.out
      go_wp2_with fail
      refine (spart _ _ _ _ BD.out.1).mono ?_
      rintro e w3 ⟨rfl, bb⟩
      clear hh c0 c1 c2 c3 c4 c5 c6 c7 c8 c9
      have OB3 : Hid (Ob w3 w.heap.size s t d p di sp v r we cl) := OB2.out.on bb
      have B3 : Hid (Below w.heap.size w w3) := B2.out.trans (bb.mono B2.out.size)
      clear bb
      cases k2 : (nan t || tn t (-999) 999)
      · skip
        obtain ⟨hh, c0, c1, c2, c3, c4, c5, c6, c7, c8, c9⟩ := OB3.out
        go_wp2_with fail
        go_ret
        exact ⟨by rw [HR.out, k1, k2]; first | rfl | simp, B3.out⟩
      obtain ⟨hh, c0, c1, c2, c3, c4, c5, c6, c7, c8, c9⟩ := OB3.out
      go_wp2_with fail
      refine (spart _ _ _ _ BD.out.2.1).mono ?_
      rintro e w4 ⟨rfl, bb⟩
      clear hh c0 c1 c2 c3 c4 c5 c6 c7 c8 c9
      have OB4 : Hid (Ob w4 w.heap.size s t d p di sp v r we cl) := OB3.out.on bb
      have B4 : Hid (Below w.heap.size w w4) := B3.out.trans (bb.mono B3.out.size)
      clear bb
      cases k3 : (nan d || tn d (-999) 999)
      · skip
        obtain ⟨hh, c0, c1, c2, c3, c4, c5, c6, c7, c8, c9⟩ := OB4.out
        go_wp2_with fail
        go_ret
        exact ⟨by rw [HR.out, k1, k2, k3]; first | rfl | simp, B4.out⟩
      obtain ⟨hh, c0, c1, c2, c3, c4, c5, c6, c7, c8, c9⟩ := OB4.out
      go_wp2_with fail
      refine (spart _ _ _ _ BD.out.2.2.1).mono ?_
      rintro e w5 ⟨rfl, bb⟩
      clear hh c0 c1 c2 c3 c4 c5 c6 c7 c8 c9
      have OB5 : Hid (Ob w5 w.heap.size s t d p di sp v r we cl) := OB4.out.on bb
      have B5 : Hid (Below w.heap.size w w5) := B4.out.trans (bb.mono B4.out.size)
      clear bb
      cases k4 : (nan p || tn p (5000) 14999)
      · skip
        obtain ⟨hh, c0, c1, c2, c3, c4, c5, c6, c7, c8, c9⟩ := OB5.out
        go_wp2_with fail
        go_ret
        exact ⟨by rw [HR.out, k1, k2, k3, k4]; first | rfl | simp, B5.out⟩
      obtain ⟨hh, c0, c1, c2, c3, c4, c5, c6, c7, c8, c9⟩ := OB5.out
      go_wp2_with fail
      refine (swind_any _ _ _ _ _ _ _ _ _ _ _ BD.out.2.2.2.1).mono ?_
      rintro e w6 ⟨rfl, bb⟩
      clear hh c0 c1 c2 c3 c4 c5 c6 c7 c8 c9
      have OB6 : Hid (Ob w6 w.heap.size s t d p di sp v r we cl) := OB5.out.on bb
      have B6 : Hid (Below w.heap.size w w6) := B5.out.trans (bb.mono B5.out.size)
      clear bb
      cases k5 : swd di sp
      · skip
        obtain ⟨hh, c0, c1, c2, c3, c4, c5, c6, c7, c8, c9⟩ := OB6.out
        go_wp2_with fail
        go_ret
        exact ⟨by rw [HR.out, k1, k2, k3, k4, k5]; first | rfl | simp, B6.out⟩
      obtain ⟨hh, c0, c1, c2, c3, c4, c5, c6, c7, c8, c9⟩ := OB6.out
      go_wp2_with fail
      refine (spart _ _ _ _ BD.out.2.2.2.2.2).mono ?_
      rintro e w7 ⟨rfl, bb⟩
      clear hh c0 c1 c2 c3 c4 c5 c6 c7 c8 c9
      have OB7 : Hid (Ob w7 w.heap.size s t d p di sp v r we cl) := OB6.out.on bb
      have B7 : Hid (Below w.heap.size w w7) := B6.out.trans (bb.mono B6.out.size)
      clear bb
      cases k6 : (nan r || tn r (0) 9999)
      · skip
        obtain ⟨hh, c0, c1, c2, c3, c4, c5, c6, c7, c8, c9⟩ := OB7.out
        go_wp2_with fail
        go_ret
        exact ⟨by rw [HR.out, k1, k2, k3, k4, k5, k6]; first | rfl | simp, B7.out⟩
      obtain ⟨hh, c0, c1, c2, c3, c4, c5, c6, c7, c8, c9⟩ := OB7.out
      go_wp2_with fail
      go_ret
      exact ⟨by rw [HR.out, k1, k2, k3, k4, k5, k6]; first | rfl | simp, B7.out⟩
end Go.Proofs.Ytngchoonfheckaa.Flt
