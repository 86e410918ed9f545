/- Rounding through a method value that is caught: the program. -/
import Derived.Test.YtgajajpcjbpalaaYe
import Derived.Defers
import Derived.Recover
namespace Go.Proofs.Ytgajajpcjbpalaa.Pkd
open Go.ChangeShapes Go.WideShapes Go.ChangeAt Go.RowKit
open Go.Proofs.Ytgajajpcjbpalaa.Lists Go.Proofs.Ytgajajpcjbpalaa.Flt Go.Proofs.Ytgajajpcjbpalaa.Fls


theorem row_form2 {w : World} {base n : Nat} {v : Value} {xs : List Value} (h : w.ownsRow base 2 1 v n xs) : ∃ a cap, v = .slice a n cap := row_form h
theorem row_later {e : TypeId} {w w' : World} {base B n : Nat} {v : Value} {xs : List Value} (h : w.ownsRow base e 1 v n xs) (hb : Below B w w') (hB : w.heap.size ≤ B) : w'.ownsRow base e 1 v n xs := by
  refine h.kept (row := none) ⟨hb.os, hb.tape, hb.output, hb.size, fun k hk _ => hb.block k (by omega)⟩ ?_
  cases e : v.ownBlock with
  | none => exact .inl rfl
  | some k => exact .inr (by simp)
theorem zbox (w : World) : Box7 (w.alloc (.cells #[.int .i64 0, .int .i64 0, .int .i64 0, .int .i64 0, .int .i64 0, .slice none 0 0, .slice none 0 0] 26)) w.heap.size (.int .i64 0) (.int .i64 0) (.int .i64 0) (.int .i64 0) (.int .i64 0) (.slice none 0 0) (.slice none 0 0) := by
  unfold Box7; simp [go_sem]

theorem catch_p (p : Addr) (w : World) :
    CallsD Try.prog 68 #[.pointer (some p)] .returning w fun e u' w' => e = .returned (.tuple #[]) ∧ u' = .returning ∧ w' = w := by
  refine callsD_of_wpS Try.func68 rfl fun c₀ cs hu => ?_
  apply wpS_seq
  apply wpS_region
  simp [wpOpsS, go_sem, recoverD, hu, Try.ntmps68, Exit.thenS]
  have hne : ∀ w, (binOp .neq 20 .nilIface .nilIface).run Try.prog w = .ok (.bool false) w := fun _ => by kernel_rfl
  apply wpS_seq
  apply wpS_region
  simp [wpOpsS, go_sem, Exit.thenS, hne]
  refine wpS_cond (t := false) (by simp [Act.eval, Array.replicate]) ?_
  simp only [Bool.false_eq_true, if_false]
  refine wpS_of_wp (wp_skip ?_)
  cases c₀
  simp_all [bodyPostS, results, Try.results68]

set_option maxHeartbeats 1000000 in
theorem clo_p (w : World) (p q : Nat) (b : Int) (v : Value) (W : List Int) (hR : Lists.Reads w v W) (hl : W.length ≤ 4096) (b1 : 1 ≤ b) (b2 : b ≤ 24) (hf : W.all fit = true)
    (hp : w.cell? ⟨p, 0, none⟩ = some (.func (.method "loop.example/g00051/impl.pack") #[.iface 52 (.agg #[.int .i64 b])] #[])) (hq : w.cell? ⟨q, 0, none⟩ = some v) (hpl : p < w.heap.size) (hql : q < w.heap.size) :
    Calls Try.prog 61 #[.pointer (some ⟨p, 0, none⟩), .pointer (some ⟨q, 0, none⟩)] w fun x w' => ∃ r e cd cv, IsPk W b r e cd ∧ x = .returned (pkv ⟨0, 0, r, e, b, [], cd⟩ (.slice none 0 0) cv) ∧ w'.ownsRow w.heap.size 2 1 cv cd.length (ints cd) ∧ Below w.heap.size w w' := by
  obtain ⟨w1, hw1⟩ : ∃ w1, w1 = w.alloc (.cells #[.int .i64 0, .int .i64 0, .int .i64 0, .int .i64 0, .int .i64 0, .slice none 0 0, .slice none 0 0] 26) := ⟨_, rfl⟩
  have HW : Hid (w1 = w.alloc (.cells #[.int .i64 0, .int .i64 0, .int .i64 0, .int .i64 0, .int .i64 0, .slice none 0 0, .slice none 0 0] 26)) := hw1
  have B1 : Hid (Below w.heap.size w w1) := (by show Below _ _ _; rw [hw1]; exact (Below.refl _ _).alloc (Nat.le_refl _) _)
  have Z1 : Hid (Box7 w1 w.heap.size (.int .i64 0) (.int .i64 0) (.int .i64 0) (.int .i64 0) (.int .i64 0) (.slice none 0 0) (.slice none 0 0)) := (by show Box7 _ _ _ _ _ _ _ _ _; rw [hw1]; exact zbox w)
  have hM : ∀ w, (method 217 52 (.agg #[.int .i64 b]) "loop.example/g00051/impl.pack").run Try.prog w = .ok (96, .agg #[.int .i64 b]) w := fun _ => by kernel_rfl
  have S1 : Hid (w1.heap.size = w.heap.size + 1) := (by show _ = _; rw [hw1]; simp)
  have F1 : Hid (∀ j, w1.frozen? ⟨w.heap.size, j, none⟩ = false) := fun j => (by rw [hw1]; simp [go_sem])
  have HP : Hid (Calls Try.prog 96 #[.agg #[.int .i64 b], v] w1 fun x w' => ∃ r e cd cv, IsPk W b r e cd ∧ x = .returned (pkv ⟨0, 0, r, e, b, [], cd⟩ (.slice none 0 0) cv) ∧ w'.ownsRow w1.heap.size 2 1 cv cd.length (ints cd) ∧ Below w1.heap.size w1 w') := pack_any v W b w1 (hR.on B1.out) hl b1 b2 hf
  have hp1 : w1.cell? ⟨p, 0, none⟩ = some (.func (.method "loop.example/g00051/impl.pack") #[.iface 52 (.agg #[.int .i64 b])] #[]) := by rw [hw1, World.cell?_alloc_lt _ _ _ hpl]; exact hp
  have hq1 : w1.cell? ⟨q, 0, none⟩ = some v := by rw [hw1, World.cell?_alloc_lt _ _ _ hql]; exact hq
  clear hw1 hp hq hR
  go_enter Try.func61, Try.ntmps61
  go_upto_region 1 with fail
  rw [← HW.out]
  go_wp2_with fail
  refine HP.out.mono ?_
  rintro x w' ⟨r, e, cd, cv, hk, rfl, o1, bl⟩
  obtain ⟨va, vc, ev⟩ := row_form2 o1
  subst ev
  have HK : Hid (IsPk W b r e cd) := hk
  have s1 := S1.out
  have z2 : w.heap.size < w'.heap.size := by have := bl.size; omega
  have Z2 := Z1.out.on bl (by omega)
  have BB : Below w.heap.size w w' := B1.out.trans (bl.mono (by omega))
  have F2 : ∀ j, w'.frozen? ⟨w.heap.size, j, none⟩ = false := fun j => (bl.frozen (p := ⟨w.heap.size, j, none⟩) (by show w.heap.size < _; omega)).trans (F1.out j)
  obtain ⟨y0, y1, y2, y3, y4, y5, y6⟩ := Z2
  have FX : Hid (Box7 (((((((w'.setCell ⟨w.heap.size, 0, none⟩ (.int .i64 0)).setCell ⟨w.heap.size, 1, none⟩ (.int .i64 0)).setCell ⟨w.heap.size, 2, none⟩ (.int .i64 r)).setCell ⟨w.heap.size, 3, none⟩ (.int .i64 (e : Int))).setCell ⟨w.heap.size, 4, none⟩ (.int .i64 b)).setCell ⟨w.heap.size, 5, none⟩ (.slice none 0 0)).setCell ⟨w.heap.size, 6, none⟩ (.slice va cd.length vc)) w.heap.size (.int .i64 0) (.int .i64 0) (.int .i64 r) (.int .i64 (e : Int)) (.int .i64 b) (.slice none 0 0) (.slice va cd.length vc)) := put7_box _ _ _ _ _ _ _ ⟨y0, y1, y2, y3, y4, y5, y6⟩
  have FO : Hid ((((((((w'.setCell ⟨w.heap.size, 0, none⟩ (.int .i64 0)).setCell ⟨w.heap.size, 1, none⟩ (.int .i64 0)).setCell ⟨w.heap.size, 2, none⟩ (.int .i64 r)).setCell ⟨w.heap.size, 3, none⟩ (.int .i64 (e : Int))).setCell ⟨w.heap.size, 4, none⟩ (.int .i64 b)).setCell ⟨w.heap.size, 5, none⟩ (.slice none 0 0)).setCell ⟨w.heap.size, 6, none⟩ (.slice va cd.length vc)).ownsRow w.heap.size 2 1 (.slice va cd.length vc) cd.length (ints cd)) := down_row (put7_row _ _ _ _ _ _ _ o1 (by omega)) (by omega)
  have FL : Hid (Below w.heap.size w (((((((w'.setCell ⟨w.heap.size, 0, none⟩ (.int .i64 0)).setCell ⟨w.heap.size, 1, none⟩ (.int .i64 0)).setCell ⟨w.heap.size, 2, none⟩ (.int .i64 r)).setCell ⟨w.heap.size, 3, none⟩ (.int .i64 (e : Int))).setCell ⟨w.heap.size, 4, none⟩ (.int .i64 b)).setCell ⟨w.heap.size, 5, none⟩ (.slice none 0 0)).setCell ⟨w.heap.size, 6, none⟩ (.slice va cd.length vc))) := put7_below _ _ _ _ _ _ _ BB (Nat.le_refl _)
  clear hk o1 bl BB HP S1 s1
  unfold pkv
  go_wp2_with fail
  generalize World.setCell _ _ _ = wz at FX FO FL ⊢
  obtain ⟨z0, z1, z2, z3, z4, z5, z6⟩ := FX.out
  refine bodyPost_ret (v := pkv ⟨0, 0, r, e, b, [], cd⟩ (.slice none 0 0) (.slice va cd.length vc)) (by simp [results, Try.results61, go_sem, pkv, z0, z1, z2, z3, z4, z5, z6]) rfl ⟨r, e, cd, _, HK.out, rfl, FO.out, FL.out⟩

end Go.Proofs.Ytgajajpcjbpalaa.Pkd
