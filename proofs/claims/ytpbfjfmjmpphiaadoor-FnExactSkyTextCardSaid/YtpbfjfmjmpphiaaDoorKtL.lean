/- A sky's text: the law, walked. -/
import Derived.Test.YtpbfjfmjmpphiaaDoorKtS
import Derived.Test.YtpbfjfmjmpphiaaDoorKtI
import Derived.Lib.LaidTab
import Derived.ChangeVars
namespace Go.Proofs.YtpbfjfmjmpphiaaDoor.Kt
open Go.ChangeShapes Go.WideShapes Go.ChangeAt Go.RowKit
open Go.Proofs.YtpbfjfmjmpphiaaDoor.Dec Go.Proofs.YtpbfjfmjmpphiaaDoor.Sk Go.Proofs.YtpbfjfmjmpphiaaDoor.Al
def Tb (w : World) : Prop := Lib.TabIs Tryd.prog w "internal/strconv.uint64pow10" .u64 Lib.pow10Tab ∧ 0 < w.heap.size
theorem gP : Tryd.prog.globalNamed "internal/strconv.uint64pow10" = some 0 := by kernel_rfl
theorem Tb.keep {w w' : World} (h : Tb w) (hb : Below w.heap.size w w') : Tb w' := ⟨var?_below hb gP h.2 h.1, Nat.lt_of_lt_of_le h.2 hb.size⟩
theorem lib : LibC Tb := libC Tb (fun _ _ h hb => h.keep hb) (fun _ h => h.1)
theorem both (d p v : Int) (W C : ByteArray) (b : Int) : ∃ t : ByteArray, (∀ w, Calls Tryd.prog 5 #[sk d p v W C b] w fun e w' => e = .returned (.string t) ∧ Below w.heap.size w w') ∧ ∀ w, Tb w → Calls Tryd.prog 7 #[sk d p v W C b] w fun e w' => e = .returned (.string t) ∧ Below w.heap.size w w' := by
  cases h : ok d p v W C b
  · exact ⟨_, fun w => ssky_no d p v W C b w h, fun w _ => isky_no d p v W C b w h⟩
  · exact ⟨_, fun w => ssky_yes d p v W C b w h, fun w hT => isky_yes lib d p v W C b w hT h⟩
set_option maxHeartbeats 1000000 in
theorem skyLaw (d p v : Int) (W C : ByteArray) (b : Int) (w : World) (hT : Tb w) (hW : W.size < 9223372036854775808) (hC : C.size < 9223372036854775808) : Calls Tryd.prog 3 #[sk d p v W C b] w fun e w' => e = .returned (.bool true) ∧ Below w.heap.size w w' := by
  obtain ⟨t, h1, h2⟩ := both d p v W C b
  have SZ : Hid (∀ w, Calls Tryd.prog 4 #[sk d p v W C b, .int .i64 1048576] w fun e w' => (∃ r : Int, e = .returned (.int .i64 r)) ∧ Below w.heap.size w w') := fun w => (sz_any d p v W C b 1048576 w (by omega) (by omega) hW hC).mono (by
    rintro e w' ⟨⟨r, rfl, _⟩, hb⟩
    exact ⟨⟨r, rfl⟩, hb⟩)
  have TS : Hid (∀ w, Calls Tryd.prog 6 #[sk d p v W C b] w fun e w' => e = .returned (sk d p v W C b) ∧ Below w.heap.size w w') := fun w => to_any d p v W C b w
  have H1 : Hid (∀ w, Calls Tryd.prog 5 #[sk d p v W C b] w fun e w' => e = .returned (.string t) ∧ Below w.heap.size w w') := h1
  have H2 : Hid (∀ u, Below w.heap.size w u → Calls Tryd.prog 7 #[sk d p v W C b] u fun e w' => e = .returned (.string t) ∧ Below u.heap.size u w') := fun u hu => h2 u (hT.keep hu)
  clear h1 h2 hT hW hC
  have ne : (t.toList != t.toList) = false := by simp
  obtain ⟨w0, hw0⟩ : ∃ w0, w0 = w.alloc (Obj.cells #[.int .i64 d, .int .i64 p, .int .i64 v, .string W, .string C, .int .i64 b] 23) := ⟨_, rfl⟩
  have HW0 : Hid (w0 = w.alloc (Obj.cells #[.int .i64 d, .int .i64 p, .int .i64 v, .string W, .string C, .int .i64 b] 23)) := hw0
  have B0 : Hid (Below w.heap.size w w0) := (by show Below _ _ _; rw [hw0]; exact (Below.refl _ _).alloc (Nat.le_refl _) _)
  have X0 : Hid (Bx w.heap.size d p v W C b w0 ∧ w.heap.size < w0.heap.size) := (by show _ ∧ _; rw [hw0]; unfold Bx; simp [go_sem])
  clear hw0
  go_enter Tryd.func3, Tryd.ntmps3
  go_wp2_with fail
  rw [← HW0.out]
  refine (SZ.out w0).mono ?_
  rintro e w1 ⟨⟨r, rfl⟩, b1⟩
  have B1 : Hid (Below w.heap.size w w1) := B0.out.trans (b1.mono B0.out.size)
  have X1 : Hid (Bx w.heap.size d p v W C b w1 ∧ w.heap.size < w1.heap.size) := ⟨X0.out.1.block (b1.block _ X0.out.2), Nat.lt_of_lt_of_le X0.out.2 b1.size⟩
  clear b1 X0 B0 HW0
  obtain ⟨k0, k1, k2, k3, k4, k5⟩ := X1.out.1
  by_cases hr : r < 0
  · go_wp2_with fail
    go_ret
    exact ⟨rfl, B1.out⟩
  · go_wp2_with fail
    clear k0 k1 k2 k3 k4 k5
    refine (TS.out w1).mono ?_
    rintro e w2 ⟨rfl, b1⟩
    have B2 : Hid (Below w.heap.size w w2) := B1.out.trans (b1.mono B1.out.size)
    have X2 : Hid (Bx w.heap.size d p v W C b w2 ∧ w.heap.size < w2.heap.size) := ⟨X1.out.1.block (b1.block _ X1.out.2), Nat.lt_of_lt_of_le X1.out.2 b1.size⟩
    clear b1 X1 B1
    go_wp2_with fail
    refine (H1.out w2).mono ?_
    rintro e w3 ⟨rfl, b1⟩
    have B3 : Hid (Below w.heap.size w w3) := B2.out.trans (b1.mono B2.out.size)
    have X3 : Hid (Bx w.heap.size d p v W C b w3 ∧ w.heap.size < w3.heap.size) := ⟨X2.out.1.block (b1.block _ X2.out.2), Nat.lt_of_lt_of_le X2.out.2 b1.size⟩
    clear b1 X2 B2
    obtain ⟨k0, k1, k2, k3, k4, k5⟩ := X3.out.1
    go_wp2_with fail
    clear k0 k1 k2 k3 k4 k5
    refine (TS.out w3).mono ?_
    rintro e w4 ⟨rfl, b1⟩
    have B4 : Hid (Below w.heap.size w w4) := B3.out.trans (b1.mono B3.out.size)
    clear b1 X3 B3
    go_wp2_with fail
    refine (H2.out w4 B4.out).mono ?_
    rintro e w5 ⟨rfl, b1⟩
    have B5 : Hid (Below w.heap.size w w5) := B4.out.trans (b1.mono B4.out.size)
    clear b1 B4
    go_wp2_with fail
    go_ret
    exact ⟨rfl, B5.out⟩
end Go.Proofs.YtpbfjfmjmpphiaaDoor.Kt
