/- Whether a report is right: the program. -/
import Derived.Test.YtngchoonfheckaaObE
namespace Go.Proofs.Ytngchoonfheckaa.Flt
open Go.ChangeShapes Go.WideShapes Go.ChangeAt Go.RowKit
attribute [local go_sem] run_store_float

def iall (s : Int) (t d p : Nat) (di : Int) (sp v r : Nat) (we cl : Int) : Bool := inB s 1 99999 && ((nan t || sw t 1 (-999) 999) && ((nan d || sw d 1 (-999) 999) && ((nan p || sw p 1 (5000) 14999) && ((nan v || sw v 100 (0) 9999) && ((nan r || sw r 1 (0) 9999) && ((((di == -1) && nan sp) || (sw sp 10 0 99 && wok di sp)) && (((we == -1) && (cl == -1)) || (inB we 0 99 && inB cl 0 8))))))))

set_option maxHeartbeats 4000000 in
theorem iobs (s : Int) (t d p : Nat) (di : Int) (sp v r : Nat) (we cl : Int) (w : World) (b1 : t < 18446744073709551616) (b2 : d < 18446744073709551616) (b3 : p < 18446744073709551616) (b5 : sp < 18446744073709551616) (b6 : v < 18446744073709551616) (b7 : r < 18446744073709551616) : Calls Try.prog 9 #[ob s t d p di sp v r we cl] w fun e w' => e = .returned (.bool (iall s t d p di sp v r we cl)) ∧ Below w.heap.size w w' := by
  have BD : Hid (t < 18446744073709551616 ∧ d < 18446744073709551616 ∧ p < 18446744073709551616 ∧ sp < 18446744073709551616 ∧ v < 18446744073709551616 ∧ r < 18446744073709551616) := ⟨b1, b2, b3, b5, b6, b7⟩
  clear b1 b2 b3 b5 b6 b7
  have HR : Hid (iall s t d p di sp v r we cl = (inB s 1 99999 && ((nan t || sw t 1 (-999) 999) && ((nan d || sw d 1 (-999) 999) && ((nan p || sw p 1 (5000) 14999) && ((nan v || sw v 100 (0) 9999) && ((nan r || sw r 1 (0) 9999) && ((((di == -1) && nan sp) || (sw sp 10 0 99 && wok di sp)) && (((we == -1) && (cl == -1)) || (inB we 0 99 && inB cl 0 8)))))))))) := rfl
  generalize iall s t d p di sp v r we cl = R at *
  have OB1 : Hid (Ob (w.alloc (.cells #[.int .i64 s, .float .f64 t, .float .f64 d, .float .f64 p, .int .i64 di, .float .f64 sp, .float .f64 v, .float .f64 r, .int .i64 we, .int .i64 cl] 28)) w.heap.size s t d p di sp v r we cl) := Ob.new w s t d p di sp v r we cl 28
  have B1 : Hid (Below w.heap.size w (w.alloc (.cells #[.int .i64 s, .float .f64 t, .float .f64 d, .float .f64 p, .int .i64 di, .float .f64 sp, .float .f64 v, .float .f64 r, .int .i64 we, .int .i64 cl] 28))) := (Below.refl _ _).alloc (Nat.le_refl _) _
  go_enter Try.func9, Try.ntmps9
  obtain ⟨hh, c0, c1, c2, c3, c4, c5, c6, c7, c8, c9⟩ := OB1.out
  go_wp2_with fail
  refine (within_any _ _ _ _).mono ?_
  rintro e w2 ⟨rfl, hw⟩
  clear hh c0 c1 c2 c3 c4 c5 c6 c7 c8 c9
  have OB2 : Hid (Ob w2 w.heap.size s t d p di sp v r we cl) := (by show Ob _ _ _ _ _ _ _ _ _ _ _ _; rw [hw]; exact OB1.out)
  have B2 : Hid (Below w.heap.size w w2) := (by show Below _ _ _; rw [hw]; exact B1.out)
  clear hw
  cases k1 : inB s 1 99999
  · skip
    obtain ⟨hh, c0, c1, c2, c3, c4, c5, c6, c7, c8, c9⟩ := OB2.out
    go_wp2_with fail
    go_ret
    exact ⟨by rw [HR.out, k1]; first | rfl | simp, B2.out⟩
  obtain ⟨hh, c0, c1, c2, c3, c4, c5, c6, c7, c8, c9⟩ := OB2.out
  go_wp2_with fail
  refine (missIn_any _ _ _ _ _ BD.out.1 (by decide)).mono ?_
  rintro e w3 ⟨rfl, bb⟩
  clear hh c0 c1 c2 c3 c4 c5 c6 c7 c8 c9
  have OB3 : Hid (Ob w3 w.heap.size s t d p di sp v r we cl) := OB2.out.on bb
  have B3 : Hid (Below w.heap.size w w3) := B2.out.trans (bb.mono B2.out.size)
  clear bb
  cases k2 : (nan t || sw t 1 (-999) 999)
  · skip
    obtain ⟨hh, c0, c1, c2, c3, c4, c5, c6, c7, c8, c9⟩ := OB3.out
    go_wp2_with fail
    go_ret
    exact ⟨by rw [HR.out, k1, k2]; first | rfl | simp, B3.out⟩
  obtain ⟨hh, c0, c1, c2, c3, c4, c5, c6, c7, c8, c9⟩ := OB3.out
  go_wp2_with fail
  refine (missIn_any _ _ _ _ _ BD.out.2.1 (by decide)).mono ?_
  rintro e w4 ⟨rfl, bb⟩
  clear hh c0 c1 c2 c3 c4 c5 c6 c7 c8 c9
  have OB4 : Hid (Ob w4 w.heap.size s t d p di sp v r we cl) := OB3.out.on bb
  have B4 : Hid (Below w.heap.size w w4) := B3.out.trans (bb.mono B3.out.size)
  clear bb
  cases k3 : (nan d || sw d 1 (-999) 999)
  · skip
    obtain ⟨hh, c0, c1, c2, c3, c4, c5, c6, c7, c8, c9⟩ := OB4.out
    go_wp2_with fail
    go_ret
    exact ⟨by rw [HR.out, k1, k2, k3]; first | rfl | simp, B4.out⟩
  obtain ⟨hh, c0, c1, c2, c3, c4, c5, c6, c7, c8, c9⟩ := OB4.out
  go_wp2_with fail
  refine (missIn_any _ _ _ _ _ BD.out.2.2.1 (by decide)).mono ?_
  rintro e w5 ⟨rfl, bb⟩
  clear hh c0 c1 c2 c3 c4 c5 c6 c7 c8 c9
  have OB5 : Hid (Ob w5 w.heap.size s t d p di sp v r we cl) := OB4.out.on bb
  have B5 : Hid (Below w.heap.size w w5) := B4.out.trans (bb.mono B4.out.size)
  clear bb
  cases k4 : (nan p || sw p 1 (5000) 14999)
  · skip
    obtain ⟨hh, c0, c1, c2, c3, c4, c5, c6, c7, c8, c9⟩ := OB5.out
    go_wp2_with fail
    go_ret
    exact ⟨by rw [HR.out, k1, k2, k3, k4]; first | rfl | simp, B5.out⟩
  obtain ⟨hh, c0, c1, c2, c3, c4, c5, c6, c7, c8, c9⟩ := OB5.out
  go_wp2_with fail
  refine (missIn_any _ _ _ _ _ BD.out.2.2.2.2.1 (by decide)).mono ?_
  rintro e w6 ⟨rfl, bb⟩
  clear hh c0 c1 c2 c3 c4 c5 c6 c7 c8 c9
  have OB6 : Hid (Ob w6 w.heap.size s t d p di sp v r we cl) := OB5.out.on bb
  have B6 : Hid (Below w.heap.size w w6) := B5.out.trans (bb.mono B5.out.size)
  clear bb
  cases k5 : (nan v || sw v 100 (0) 9999)
  · skip
    obtain ⟨hh, c0, c1, c2, c3, c4, c5, c6, c7, c8, c9⟩ := OB6.out
    go_wp2_with fail
    go_ret
    exact ⟨by rw [HR.out, k1, k2, k3, k4, k5]; first | rfl | simp, B6.out⟩
  obtain ⟨hh, c0, c1, c2, c3, c4, c5, c6, c7, c8, c9⟩ := OB6.out
  go_wp2_with fail
  refine (missIn_any _ _ _ _ _ BD.out.2.2.2.2.2 (by decide)).mono ?_
  rintro e w7 ⟨rfl, bb⟩
  clear hh c0 c1 c2 c3 c4 c5 c6 c7 c8 c9
  have OB7 : Hid (Ob w7 w.heap.size s t d p di sp v r we cl) := OB6.out.on bb
  have B7 : Hid (Below w.heap.size w w7) := B6.out.trans (bb.mono B6.out.size)
  clear bb
  cases k6 : (nan r || sw r 1 (0) 9999)
  · skip
    obtain ⟨hh, c0, c1, c2, c3, c4, c5, c6, c7, c8, c9⟩ := OB7.out
    go_wp2_with fail
    go_ret
    exact ⟨by rw [HR.out, k1, k2, k3, k4, k5, k6]; first | rfl | simp, B7.out⟩
  obtain ⟨hh, c0, c1, c2, c3, c4, c5, c6, c7, c8, c9⟩ := OB7.out
  go_wp2_with fail
  refine (windMiss _ _ _ _ _ _ _ _ _ _ _).mono ?_
  rintro e w8 ⟨rfl, bb⟩
  clear hh c0 c1 c2 c3 c4 c5 c6 c7 c8 c9
  have OB8 : Hid (Ob w8 w.heap.size s t d p di sp v r we cl) := OB7.out.on bb
  have B8 : Hid (Below w.heap.size w w8) := B7.out.trans (bb.mono B7.out.size)
  clear bb
  cases k7 : ((di == -1) && nan sp)
  · skip
    obtain ⟨hh, c0, c1, c2, c3, c4, c5, c6, c7, c8, c9⟩ := OB8.out
    go_wp2_with fail
    refine (blowRight _ _ _ BD.out.2.2.2.1).mono ?_
    rintro e w9 ⟨rfl, bb⟩
    clear hh c0 c1 c2 c3 c4 c5 c6 c7 c8 c9
    have OB9 : Hid (Ob w9 w.heap.size s t d p di sp v r we cl) := OB8.out.on bb
    have B9 : Hid (Below w.heap.size w w9) := B8.out.trans (bb.mono B8.out.size)
    clear bb
    cases m7 : (sw sp 10 0 99 && wok di sp)
    · skip
      obtain ⟨hh, c0, c1, c2, c3, c4, c5, c6, c7, c8, c9⟩ := OB9.out
      go_wp2_with fail
      go_ret
      exact ⟨by rw [HR.out, k1, k2, k3, k4, k5, k6, k7, m7]; first | rfl | simp, B9.out⟩
    obtain ⟨hh, c0, c1, c2, c3, c4, c5, c6, c7, c8, c9⟩ := OB9.out
    go_wp2_with fail
    refine (skyMiss _ _ _ _ _ _ _ _ _ _ _).mono ?_
    rintro e w10 ⟨rfl, bb⟩
    clear hh c0 c1 c2 c3 c4 c5 c6 c7 c8 c9
    have OB10 : Hid (Ob w10 w.heap.size s t d p di sp v r we cl) := OB9.out.on bb
    have B10 : Hid (Below w.heap.size w w10) := B9.out.trans (bb.mono B9.out.size)
    clear bb
    cases k9 : ((we == -1) && (cl == -1))
    · skip
      obtain ⟨hh, c0, c1, c2, c3, c4, c5, c6, c7, c8, c9⟩ := OB10.out
      go_wp2_with fail
      refine (skyRight _ _ _).mono ?_
      rintro e w11 ⟨rfl, bb⟩
      clear hh c0 c1 c2 c3 c4 c5 c6 c7 c8 c9
      have OB11 : Hid (Ob w11 w.heap.size s t d p di sp v r we cl) := OB10.out.on bb
      have B11 : Hid (Below w.heap.size w w11) := B10.out.trans (bb.mono B10.out.size)
      clear bb
      cases m9 : (inB we 0 99 && inB cl 0 8)
      · skip
        obtain ⟨hh, c0, c1, c2, c3, c4, c5, c6, c7, c8, c9⟩ := OB11.out
        go_wp2_with fail
        go_ret
        exact ⟨by rw [HR.out, k1, k2, k3, k4, k5, k6, k7, m7, k9, m9]; first | rfl | simp, B11.out⟩
      obtain ⟨hh, c0, c1, c2, c3, c4, c5, c6, c7, c8, c9⟩ := OB11.out
      go_wp2_with fail
      go_ret
      exact ⟨by rw [HR.out, k1, k2, k3, k4, k5, k6, k7, m7, k9, m9]; first | rfl | simp, B11.out⟩
    obtain ⟨hh, c0, c1, c2, c3, c4, c5, c6, c7, c8, c9⟩ := OB10.out
    go_wp2_with fail
    go_ret
    exact ⟨by rw [HR.out, k1, k2, k3, k4, k5, k6, k7, m7, k9]; first | rfl | simp, B10.out⟩
  obtain ⟨hh, c0, c1, c2, c3, c4, c5, c6, c7, c8, c9⟩ := OB8.out
  go_wp2_with fail
  refine (skyMiss _ _ _ _ _ _ _ _ _ _ _).mono ?_
  rintro e w9 ⟨rfl, bb⟩
  clear hh c0 c1 c2 c3 c4 c5 c6 c7 c8 c9
  have OB9 : Hid (Ob w9 w.heap.size s t d p di sp v r we cl) := OB8.out.on bb
  have B9 : Hid (Below w.heap.size w w9) := B8.out.trans (bb.mono B8.out.size)
  clear bb
  cases k8 : ((we == -1) && (cl == -1))
  · skip
    obtain ⟨hh, c0, c1, c2, c3, c4, c5, c6, c7, c8, c9⟩ := OB9.out
    go_wp2_with fail
    refine (skyRight _ _ _).mono ?_
    rintro e w10 ⟨rfl, bb⟩
    clear hh c0 c1 c2 c3 c4 c5 c6 c7 c8 c9
    have OB10 : Hid (Ob w10 w.heap.size s t d p di sp v r we cl) := OB9.out.on bb
    have B10 : Hid (Below w.heap.size w w10) := B9.out.trans (bb.mono B9.out.size)
    clear bb
    cases m8 : (inB we 0 99 && inB cl 0 8)
    · skip
      obtain ⟨hh, c0, c1, c2, c3, c4, c5, c6, c7, c8, c9⟩ := OB10.out
      go_wp2_with fail
      go_ret
      exact ⟨by rw [HR.out, k1, k2, k3, k4, k5, k6, k7, k8, m8]; first | rfl | simp, B10.out⟩
    obtain ⟨hh, c0, c1, c2, c3, c4, c5, c6, c7, c8, c9⟩ := OB10.out
    go_wp2_with fail
    go_ret
    exact ⟨by rw [HR.out, k1, k2, k3, k4, k5, k6, k7, k8, m8]; first | rfl | simp, B10.out⟩
  obtain ⟨hh, c0, c1, c2, c3, c4, c5, c6, c7, c8, c9⟩ := OB9.out
  go_wp2_with fail
  go_ret
  exact ⟨by rw [HR.out, k1, k2, k3, k4, k5, k6, k7, k8]; first | rfl | simp, B9.out⟩
end Go.Proofs.Ytngchoonfheckaa.Flt
