/- How often a byte stands in a row of bytes. -/
import Derived.Test.YtgajajpcjbpalaaXoP
import Derived.Shelf.Bytes.SlCountOne
namespace Go.Proofs.Ytgajajpcjbpalaa.Pkd
open Go.ChangeShapes Go.WideShapes Go.ChangeAt Go.RowKit
open Go.Proofs.Ytgajajpcjbpalaa.Lists

set_option maxHeartbeats 1000000 in
theorem count_any (w : World) (tv : Value) (L : List Int) (hR : Bytes.Reads w tv L) (b2 d : Nat) (cv : Int) (hc2 : w.cell? ⟨b2, 0, none⟩ = some (.int .u8 cv)) :
    Calls Try.prog 63 #[tv, .slice (some ⟨b2, 0, none⟩) 1 d] w fun e w' => e = .returned (.int .i64 (Lib.countByte (Lib.bytesOf L) cv.toNat.toUInt8)) ∧ w' = w := by
  have HK : Hid ((Extern.BytealgCount.count #[tv, .int .u8 cv]).run Try.prog w = .ok (.int .i64 (Lib.countByte (Lib.bytesOf L) cv.toNat.toUInt8)) w) := by
    rcases hR with ⟨rfl, a, cap, rfl⟩ | ⟨b, o, cap, rfl, h1, h2, h3, h4⟩
    · cases a with
      | none => exact Lib.run_countNil w 0 cap cv
      | some a => exact Lib.run_countAt w a 0 cap [] rfl (fun i hi => absurd hi (by omega)) cv
    · exact Lib.run_countSlice w b o L.length cap L rfl h4 cv
  obtain ⟨a, cap, rfl⟩ := hR.form
  clear hR
  go_enter Try.func63, Try.ntmps63
  go_wp2
  rw [run_callFunc_extern Try.func70 (by kernel_rfl) (by kernel_rfl) (by kernel_rfl) (e := Extern.BytealgCount.count) (by kernel_rfl), HK.out]
  simp only [Result.andThen]
  rw [Oper.upon_value]
  go_wp2
  go_ret
  exact ⟨rfl, rfl⟩
end Go.Proofs.Ytgajajpcjbpalaa.Pkd
