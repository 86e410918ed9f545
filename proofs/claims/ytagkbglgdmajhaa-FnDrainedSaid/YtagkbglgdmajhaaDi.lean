/- Drain of the program, walked. -/
import Derived.Test.YtagkbglgdmajhaaDm
import Derived.Test.YtagkbglgdmajhaaBxI
import Derived.Deep.LoopGhost
import Derived.Deep.Cut
import Derived.Deep.DeepCutAuto
namespace Go.Proofs.Ytagkbglgdmajhaa.Hm
open Go.ChangeShapes Go.WideShapes Go.ChangeAt Go.RowKit
open Go.Proofs.Ytagkbglgdmajhaa.Lists Go.Proofs.Ytagkbglgdmajhaa.Dp Go.Proofs.Ytagkbglgdmajhaa.Hp Go.Proofs.Ytagkbglgdmajhaa.Gd

/-- what Drain answers of a right box -/
def DRes (r c : Int) (L : List Int) (s : S3) : Prop := ∃ k, Rch r c L k s ∧ Dp.Fin L.length s
def DPo (r c : Int) (L : List Int) (w : World) (e : Ending) (w' : World) : Prop := ∃ (v1 v2 : Value) (s : S3), e = .returned (.tuple #[v1, v2]) ∧ DRes r c L s ∧ w'.ownsRow w.heap.size 2 1 v1 L.length (ints s.F) ∧ w'.ownsRow w.heap.size 2 1 v2 L.length (ints s.N) ∧ (∀ b, v1.ownBlock = some b → v2.ownBlock ≠ some b) ∧ Below w.heap.size w w'
theorem reads_at2 {w : World} {v : Value} {L : List Int} (hL : Lists.Reads w v L) (h0 : 0 < L.length) : ∃ b o c, v = .slice (some ⟨b, o, none⟩) L.length c ∧ b < w.heap.size ∧ ∀ i, i < L.length → w.cell? ⟨b, o + i, none⟩ = some (.int .i64 (L.getD i 0)) := by
  rcases hL with ⟨h, _⟩ | ⟨b, o, c, e, _, _, x, y⟩
  · simp [h] at h0
  · exact ⟨b, o, c, e, x, y⟩
theorem size_of {r c : Int} {L : List Int} (h : Bx.okB r c L = true) : (1 ≤ r ∧ r ≤ 24) ∧ (1 ≤ c ∧ c ≤ 24) ∧ (L.length : Int) = r * c := by
  unfold Bx.okB Bx.heads at h
  simp only [Bool.and_eq_true, decide_eq_true_eq, Bx.inn_iff] at h
  exact ⟨h.1.1, h.1.2.1, h.1.2.2⟩

set_option maxRecDepth 20000 in
set_option maxHeartbeats 1000000 in
theorem idrain_no (r c : Int) (v : Value) (L : List Int) (w : World) (hL : Lists.Reads w v L) (hf : L.length < 9223372036854775808) (hq : Bx.okB r c L = false) :
    Calls Try.prog 8 #[Bx.sv r c v] w fun e w' => e = .returned (.tuple #[.slice none 0 0, .slice none 0 0]) ∧ Below w.heap.size w w' := by
  have B0 : Below w.heap.size w (w.alloc (Obj.cells #[.int .i64 r, .int .i64 c, v] 28)) := (Below.refl _ _).alloc (Nat.le_refl _) _
  obtain ⟨w0, hw0⟩ : ∃ w0, w0 = w.alloc (Obj.cells #[.int .i64 r, .int .i64 c, v] 28) := ⟨_, rfl⟩
  have HW : Hid (w0 = w.alloc (Obj.cells #[.int .i64 r, .int .i64 c, v] 28)) := hw0
  rw [← hw0] at B0
  have CO := Bx.iok_any r c L v w0 (hL.on B0) hf
  rw [hq] at CO
  have CC : Hid (Calls Try.prog 23 #[Bx.sv r c v] w0 fun e w' => e = .returned (.bool false) ∧ Below w0.heap.size w0 w') := CO.mono (by
    rintro e w' ⟨h1, h2⟩
    exact ⟨h1, by first | exact h2 | (subst h2; exact Below.refl _ _) | (obtain ⟨m, h2⟩ := h2; rw [h2]; exact Bx.below_drewN (Below.refl _ _) m)⟩)
  have B0' : Hid (Below w.heap.size w w0) := B0
  clear hw0 CO B0 hL hq hf
  go_enter Try.func8, Try.ntmps8
  go_wp2_with fail
  rw [← HW.out]
  refine CC.out.mono ?_
  rintro e w1 ⟨rfl, b⟩
  have B1 : Hid (Below w.heap.size w w1) := B0'.out.trans (b.mono B0'.out.size)
  clear b CC HW
  go_wp2_with fail
  exact bodyPost_ret (v := .tuple #[.slice none 0 0, .slice none 0 0]) (by simp [results, Try.results8, go_sem]) rfl ⟨rfl, B1.out⟩
end Go.Proofs.Ytagkbglgdmajhaa.Hm
