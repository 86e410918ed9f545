/- Rounding, tried: the program. -/
import Derived.Test.YtgajajpcjbpalaaYf
namespace Go.Proofs.Ytgajajpcjbpalaa.Pkd
open Go.ChangeShapes Go.WideShapes Go.ChangeAt Go.RowKit
open Go.Proofs.Ytgajajpcjbpalaa.Lists Go.Proofs.Ytgajajpcjbpalaa.Flt Go.Proofs.Ytgajajpcjbpalaa.Fls


set_option maxHeartbeats 1000000 in
theorem caught_p (w : World) (p q : Nat) (b : Int) (v : Value) (W : List Int) (hR : Lists.Reads w v W) (hl : W.length ≤ 4096) (b1 : 1 ≤ b) (b2 : b ≤ 24) (hf : W.all fit = true)
    (hp : w.cell? ⟨p, 0, none⟩ = some (.func (.method "loop.example/g00051/impl.pack") #[.iface 52 (.agg #[.int .i64 b])] #[])) (hq : w.cell? ⟨q, 0, none⟩ = some v) (hpl : p < w.heap.size) (hql : q < w.heap.size) :
    Calls Try.prog 60 #[.func (.func 61) #[] #[.pointer (some ⟨p, 0, none⟩), .pointer (some ⟨q, 0, none⟩)]] w fun x w' => ∃ r e cd cv, IsPk W b r e cd ∧ x = .returned (.tuple #[pkv ⟨0, 0, r, e, b, [], cd⟩ (.slice none 0 0) cv, .int .i64 0]) ∧ w'.ownsRow w.heap.size 2 1 cv cd.length (ints cd) ∧ Below w.heap.size w w' := by
  obtain ⟨w2, hw2⟩ : ∃ w2, w2 = (w.alloc (.cells #[.int .i64 0, .int .i64 0, .int .i64 0, .int .i64 0, .int .i64 0, .slice none 0 0, .slice none 0 0] 26)).alloc (.cells #[.int .i64 0] 2) := ⟨_, rfl⟩
  have HW : Hid (w2 = (w.alloc (.cells #[.int .i64 0, .int .i64 0, .int .i64 0, .int .i64 0, .int .i64 0, .slice none 0 0, .slice none 0 0] 26)).alloc (.cells #[.int .i64 0] 2)) := hw2
  have B1 : Hid (Below w.heap.size w w2) := (by show Below _ _ _; rw [hw2]; exact ((Below.refl _ _).alloc (Nat.le_refl _) _).alloc (by simp) _)
  have Z1 : Hid (Box7 w2 w.heap.size (.int .i64 0) (.int .i64 0) (.int .i64 0) (.int .i64 0) (.int .i64 0) (.slice none 0 0) (.slice none 0 0)) := (by show Box7 _ _ _ _ _ _ _ _ _; rw [hw2]; exact (zbox w).alloc)
  have S1 : Hid (w2.heap.size = w.heap.size + 2) := (by show _ = _; rw [hw2]; simp)
  have F1 : Hid (∀ j, w2.frozen? ⟨w.heap.size, j, none⟩ = false) := fun j => (by rw [hw2]; simp [go_sem])
  have G1 : Hid (w2.cell? ⟨w.heap.size + 1, 0, none⟩ = some (.int .i64 0)) := (by show _ = _; rw [hw2]; simp [go_sem])
  have G2 : Hid (w2.frozen? ⟨w.heap.size + 1, 0, none⟩ = false) := (by show _ = _; rw [hw2]; simp [go_sem])
  have s1 := S1.out
  have HP : Hid (Calls Try.prog 61 #[.pointer (some ⟨p, 0, none⟩), .pointer (some ⟨q, 0, none⟩)] w2 fun x w' => ∃ r e cd cv, IsPk W b r e cd ∧ x = .returned (pkv ⟨0, 0, r, e, b, [], cd⟩ (.slice none 0 0) cv) ∧ w'.ownsRow w2.heap.size 2 1 cv cd.length (ints cd) ∧ Below w2.heap.size w2 w') := (clo_p w2 p q b v W (hR.on B1.out) hl b1 b2 hf (by rw [B1.out.cell (p := ⟨p, 0, none⟩) hpl]; exact hp) (by rw [B1.out.cell (p := ⟨q, 0, none⟩) hql]; exact hq) (by omega) (by omega))
  have hmf : ∀ (fn : Fn) (first cap : Array Value) (w : World), (Instr.makeFunc fn first cap).run Try.prog w = .ok (.func fn first cap) w := fun _ _ _ _ => rfl
  clear hw2 hp hq hR s1
  go_enter_defers Try.func60, Try.ntmps60
  go_upto_region 1 with fail
  rw [← HW.out]
  go_wp2_with fail
  refine HP.out.mono ?_
  rintro x w1 ⟨r, e, cd, cv, hk, rfl, o1, bl⟩
  obtain ⟨va, vc, ev⟩ := row_form2 o1
  subst ev
  have HK : Hid (IsPk W b r e cd) := hk
  have s1 := S1.out
  have z2 : w.heap.size + 2 ≤ w1.heap.size := by have := bl.size; omega
  have Z2 := Z1.out.on bl (by omega)
  have BB : Below w.heap.size w w1 := B1.out.trans (bl.mono (by omega))
  have F2 : ∀ j, w1.frozen? ⟨w.heap.size, j, none⟩ = false := fun j => (bl.frozen (p := ⟨w.heap.size, j, none⟩) (by show w.heap.size < _; omega)).trans (F1.out j)
  have c2 : w1.cell? ⟨w.heap.size + 1, 0, none⟩ = some (.int .i64 0) := (bl.cell (p := ⟨w.heap.size + 1, 0, none⟩) (by show w.heap.size + 1 < _; omega)).trans G1.out
  have g2 : w1.frozen? ⟨w.heap.size + 1, 0, none⟩ = false := (bl.frozen (p := ⟨w.heap.size + 1, 0, none⟩) (by show w.heap.size + 1 < _; omega)).trans G2.out
  obtain ⟨y0, y1, y2, y3, y4, y5, y6⟩ := Z2
  have FX : Hid (Box7 ((((((((w1.setCell ⟨w.heap.size, 0, none⟩ (.int .i64 0)).setCell ⟨w.heap.size, 1, none⟩ (.int .i64 0)).setCell ⟨w.heap.size, 2, none⟩ (.int .i64 r)).setCell ⟨w.heap.size, 3, none⟩ (.int .i64 (e : Int))).setCell ⟨w.heap.size, 4, none⟩ (.int .i64 b)).setCell ⟨w.heap.size, 5, none⟩ (.slice none 0 0)).setCell ⟨w.heap.size, 6, none⟩ (.slice va cd.length vc)).setCell ⟨w.heap.size + 1, 0, none⟩ (.int .i64 0)) w.heap.size (.int .i64 0) (.int .i64 0) (.int .i64 r) (.int .i64 (e : Int)) (.int .i64 b) (.slice none 0 0) (.slice va cd.length vc)) := (put7_box _ _ _ _ _ _ _ ⟨y0, y1, y2, y3, y4, y5, y6⟩).far (by omega)
  have FO : Hid (((((((((w1.setCell ⟨w.heap.size, 0, none⟩ (.int .i64 0)).setCell ⟨w.heap.size, 1, none⟩ (.int .i64 0)).setCell ⟨w.heap.size, 2, none⟩ (.int .i64 r)).setCell ⟨w.heap.size, 3, none⟩ (.int .i64 (e : Int))).setCell ⟨w.heap.size, 4, none⟩ (.int .i64 b)).setCell ⟨w.heap.size, 5, none⟩ (.slice none 0 0)).setCell ⟨w.heap.size, 6, none⟩ (.slice va cd.length vc)).setCell ⟨w.heap.size + 1, 0, none⟩ (.int .i64 0)).ownsRow w.heap.size 2 1 (.slice va cd.length vc) cd.length (ints cd)) := down_row (set_row (put7_row _ _ _ _ _ _ _ o1 (by omega)) _ _ _ (by omega)) (by omega)
  have FL : Hid (Below w.heap.size w ((((((((w1.setCell ⟨w.heap.size, 0, none⟩ (.int .i64 0)).setCell ⟨w.heap.size, 1, none⟩ (.int .i64 0)).setCell ⟨w.heap.size, 2, none⟩ (.int .i64 r)).setCell ⟨w.heap.size, 3, none⟩ (.int .i64 (e : Int))).setCell ⟨w.heap.size, 4, none⟩ (.int .i64 b)).setCell ⟨w.heap.size, 5, none⟩ (.slice none 0 0)).setCell ⟨w.heap.size, 6, none⟩ (.slice va cd.length vc)).setCell ⟨w.heap.size + 1, 0, none⟩ (.int .i64 0))) := (put7_below _ _ _ _ _ _ _ BB (Nat.le_refl _)).setCell (p := ⟨w.heap.size + 1, 0, none⟩) (by show w.heap.size ≤ w.heap.size + 1; omega) _
  have FC : Hid (((((((((w1.setCell ⟨w.heap.size, 0, none⟩ (.int .i64 0)).setCell ⟨w.heap.size, 1, none⟩ (.int .i64 0)).setCell ⟨w.heap.size, 2, none⟩ (.int .i64 r)).setCell ⟨w.heap.size, 3, none⟩ (.int .i64 (e : Int))).setCell ⟨w.heap.size, 4, none⟩ (.int .i64 b)).setCell ⟨w.heap.size, 5, none⟩ (.slice none 0 0)).setCell ⟨w.heap.size, 6, none⟩ (.slice va cd.length vc)).setCell ⟨w.heap.size + 1, 0, none⟩ (.int .i64 0)).cell? ⟨w.heap.size + 1, 0, none⟩ = some (.int .i64 0)) := (by show _ = _; simp [go_sem, c2])
  clear hk o1 bl BB HP S1 s1
  unfold pkv
  go_wp2_with fail
  generalize World.setCell _ _ _ = wz at FX FO FL FC ⊢
  obtain ⟨z0, z1, z2, z3, z4, z5, z6⟩ := FX.out
  have zc := FC.out
  refine leaves_cons (f := 68) (args := #[.pointer (some ⟨w.heap.size + 1, 0, none⟩)]) (by simp) (by simp [go_sem]) ?_
  refine (catch_p ⟨w.heap.size + 1, 0, none⟩ _).mono ?_
  rintro e u' w'' ⟨rfl, rfl, hw⟩
  subst hw
  simp only [Leaves, settle, results, Try.results60]
  simp [go_sem, z0, z1, z2, z3, z4, z5, z6, zc]
  exact ⟨r, _, cd, HK.out, _, rfl, FO.out, FL.out⟩

end Go.Proofs.Ytgajajpcjbpalaa.Pkd
