/- What a Packed unpacks to, as the program tells it. -/
import Derived.Test.YtgajajpcjbpalaaXoW
namespace Go.Proofs.Ytgajajpcjbpalaa.Pkd
open Go.ChangeShapes Go.WideShapes Go.ChangeAt Go.RowKit
open Go.Proofs.Ytgajajpcjbpalaa.Lists Go.Proofs.Ytgajajpcjbpalaa.Flt Go.Proofs.Ytgajajpcjbpalaa.Fls

theorem run_store_float {P : Program} (w : World) (a : Addr) (m : Mode) (k : FloatKind) (b : Nat) : (store a (.float k b) m).run P w = stored P w a (.float k b) m := run_store P w a _ m rfl
attribute [local go_sem] run_store_float
theorem Try.info40 : (Try.prog.info? 40).map (fun i => (i.zero, i.size, i.bytes)) = some (some (.float .f64 0), 1, 8) := by kernel_rfl

theorem cell_far (w : World) (a p : Addr) (v : Value) (h : p.block ≠ a.block) : (w.setCell a v).cell? p = w.cell? p := World.cell?_of_block (Below.heap_setCell w a v p.block h)

set_option maxHeartbeats 1000000 in
theorem iup_no (p : Pk) (tv cv : Value) (w : World) (hT : Bytes.Reads w tv p.th) (hC : Lists.Reads w cv p.cd) (l1 : p.th.length ≤ 1048576) (l2 : p.cd.length ≤ 1048576) (ho : okI p = false) :
    Calls Try.prog 16 #[pkv p tv cv] w fun e w' => e = .returned (.tuple #[.slice none 0 0, .bool false]) ∧ Below w.heap.size w w' := by
  obtain ⟨w1, hw1⟩ : ∃ w1, w1 = w.alloc (Obj.cells #[.int .i64 p.cnt, .int .i64 p.dec, .int .i64 p.ref, .int .i64 p.exp, .int .i64 p.bits, tv, cv] 26) := ⟨_, rfl⟩
  have B1 : Hid (Below w.heap.size w w1) := (by show Below _ _ _; rw [hw1]; exact (Below.refl _ _).alloc (Nat.le_refl _) _)
  have HP : Hid (Calls Try.prog 37 #[pkv p tv cv] w1 fun e w' => e = .returned (.bool false) ∧ Below w1.heap.size w1 w') := (by show Calls _ _ _ _ _; rw [← ho]; exact ipok_any p tv cv w1 (hT.on B1.out) (hC.on B1.out) l1 l2)
  have HW1 : Hid (w1 = w.alloc (Obj.cells #[.int .i64 p.cnt, .int .i64 p.dec, .int .i64 p.ref, .int .i64 p.exp, .int .i64 p.bits, tv, cv] 26)) := hw1
  clear hw1 ho hT hC
  unfold pkv at HP ⊢
  go_enter Try.func16, Try.ntmps16
  go_wp2_with fail
  rw [← HW1.out]
  refine HP.out.mono ?_
  rintro e w2 ⟨rfl, b2⟩
  have B2 : Hid (Below w.heap.size w w2) := B1.out.trans (b2.mono B1.out.size)
  clear b2 HW1 HP
  go_wp2_with fail
  go_ret2
  exact ⟨rfl, B2.out⟩

end Go.Proofs.Ytgajajpcjbpalaa.Pkd
