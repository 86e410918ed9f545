/- The law FnExactBetween walked. -/
import Derived.Test.YtpcgnahjibfphaaBet
namespace Go.Proofs.Ytpcgnahjibfphaa.Flt
open Go.ChangeShapes Go.WideShapes Go.ChangeAt Go.RowKit
attribute [local go_sem] run_store_float

/-- A block with two cells that may be written. -/
def Bx (w : World) (k : Nat) (x y : Value) : Prop := w.cell? ⟨k, 0, none⟩ = some x ∧ w.cell? ⟨k, 1, none⟩ = some y ∧ w.frozen? ⟨k, 0, none⟩ = false ∧ w.frozen? ⟨k, 1, none⟩ = false ∧ k < w.heap.size
theorem Bx.below {w w' : World} {k B : Nat} {x y : Value} (h : Bx w k x y) (hb : Below B w w') (hB : k < B) : Bx w' k x y :=
  ⟨(hb.cell (p := ⟨k, 0, none⟩) hB).trans h.1, (hb.cell (p := ⟨k, 1, none⟩) hB).trans h.2.1, (hb.frozen (p := ⟨k, 0, none⟩) hB).trans h.2.2.1, (hb.frozen (p := ⟨k, 1, none⟩) hB).trans h.2.2.2.1, Nat.lt_of_lt_of_le h.2.2.2.2 hb.size⟩
theorem Bx.on {w w' : World} {k : Nat} {x y : Value} (h : Bx w k x y) (hb : Below w.heap.size w w') : Bx w' k x y := h.below hb h.2.2.2.2
theorem Bx.drewN {w : World} {k : Nat} {x y : Value} (h : Bx w k x y) (n : Nat) : Bx (w.drewN n) k x y := h.on (below_drewN (Below.refl _ _) n)
theorem Bx.alloc {w : World} {k : Nat} {x y : Value} (h : Bx w k x y) (o : Obj) : Bx (w.alloc o) k x y := h.on ((Below.refl _ _).alloc (Nat.le_refl _) o)
theorem Bx.new (w : World) (x y : Value) (t : TypeId) : Bx (w.alloc (.cells #[x, y] t)) w.heap.size x y := by
  refine ⟨?_, ?_, ?_, ?_, ?_⟩ <;> simp [go_sem]

set_option maxHeartbeats 1000000 in
theorem toLevel_any (p : Int) (t : Nat) (w : World) : Calls Try.prog 14 #[lv p t] w fun e w' => e = .returned (lv p t) ∧ Below w.heap.size w w' := by
  go_enter Try.func14, Try.ntmps14
  go_wp2
  refine bodyPost_ret (v := lv p t) (by simp [results, Try.results14, go_sem]) rfl ⟨rfl, ?_⟩
  exact (((Below.refl _ _).alloc (Nat.le_refl _) _).alloc (by simp) _).alloc (by simp; omega) _

set_option maxHeartbeats 1000000 in
theorem betLaw (a : Int) (s : Nat) (b : Int) (t : Nat) (p : Int) (w : World) : Calls Try.prog 4 #[lv a s, lv b t, .int .i64 p] w fun e w' => e = .returned (.bool true) ∧ Below w.heap.size w w' := by
  go_enter Try.func4, Try.ntmps4
  obtain ⟨W, hW⟩ : ∃ W, W = (w.alloc (.cells #[.int .i64 a, .float .f64 s] 31)).alloc (.cells #[.int .i64 b, .float .f64 t] 31) := ⟨_, rfl⟩
  have P0 : Hid (Bx W w.heap.size (.int .i64 a) (.float .f64 s)) := (by show Bx _ _ _ _; rw [hW]; exact (Bx.new w _ _ 31).alloc _)
  have Q0 : Hid (Bx W (w.heap.size + 1) (.int .i64 b) (.float .f64 t)) := (by show Bx _ _ _ _; rw [hW]; have := Bx.new (w.alloc (.cells #[.int .i64 a, .float .f64 s] 31)) (.int .i64 b) (.float .f64 t) 31; simpa using this)
  have B0 : Hid (Below w.heap.size w W) := (by show Below _ _ _; rw [hW]; exact ((Below.refl _ _).alloc (Nat.le_refl _) _).alloc (by simp) _)
  obtain ⟨p0, p1, p2, p3, p4⟩ := id P0.out
  obtain ⟨q0, q1, q2, q3, q4⟩ := id Q0.out
  go_upto_region 1 with fail
  rw [← hW]
  clear hW
  go_region_held3 (fun w' => w'.cell? ⟨w.heap.size, 0, none⟩ = some (.int .i64 a) ∧ w'.cell? ⟨w.heap.size, 1, none⟩ = some (.float .f64 s) ∧ w'.cell? ⟨w.heap.size + 1, 0, none⟩ = some (.int .i64 b) ∧ w'.cell? ⟨w.heap.size + 1, 1, none⟩ = some (.float .f64 t)) (go_keep)
    (first
    | (go_at_call_of 14 (Value.agg #[Value.int IntKind.i64 a, Value.float FloatKind.f64 s]); refine (toLevel_any _ _ _).mono ?_; rintro e w1 ⟨rfl, hb1⟩; have P1 := (P0.out.drewN 1).on hb1; have Q1 := (Q0.out.drewN 1).on hb1; have B1 := B0.out.drew.trans (hb1.mono B0.out.size); obtain ⟨x10, x11, x12, x13, x14⟩ := id P1; obtain ⟨y10, y11, y12, y13, y14⟩ := id Q1)
    | (go_at_call_of 14 (Value.agg #[Value.int IntKind.i64 b, Value.float FloatKind.f64 t]); refine (toLevel_any _ _ _).mono ?_; rintro e w2 ⟨rfl, hb2⟩; have P2 := P1.on hb2; have Q2 := Q1.on hb2; have B2 := B1.trans (hb2.mono B1.size); obtain ⟨x20, x21, x22, x23, x24⟩ := id P2; obtain ⟨y20, y21, y22, y23, y24⟩ := id Q2)
    | (go_at_call 13; refine (sbet _ _ _ _ _ _).mono ?_; rintro e w3 ⟨g, rfl, hg, hb3⟩; have P3 := P2.on hb3; have Q3 := Q2.on hb3; have B3 := B2.trans (hb3.mono B2.size); obtain ⟨x30, x31, x32, x33, x34⟩ := id P3; obtain ⟨y30, y31, y32, y33, y34⟩ := id Q3))
  have HG : Hid (cn g = bet a s b t p) := hg
  have P : Hid (Bx w3 w.heap.size (.int .i64 a) (.float .f64 s)) := P3
  have Q : Hid (Bx w3 (w.heap.size + 1) (.int .i64 b) (.float .f64 t)) := Q3
  have B : Hid (Below w.heap.size w w3) := B3
  clear hg P1 Q1 B1 P2 Q2 B2 P3 Q3 B3 hb1 hb2 hb3 P0 Q0 B0 p0 p1 p2 p3 p4 q0 q1 q2 q3 q4 x10 x11 x12 x13 x14 y10 y11 y12 y13 y14 x20 x21 x22 x23 x24 y20 y21 y22 y23 y24
  go_upto_region 2 with fail
  go_region_held3 (fun w' => w'.cell? ⟨w.heap.size, 0, none⟩ = some (.int .i64 a) ∧ w'.cell? ⟨w.heap.size, 1, none⟩ = some (.float .f64 s) ∧ w'.cell? ⟨w.heap.size + 1, 0, none⟩ = some (.int .i64 b) ∧ w'.cell? ⟨w.heap.size + 1, 1, none⟩ = some (.float .f64 t)) (go_keep)
    (first
    | (go_at_call_of 14 (Value.agg #[Value.int IntKind.i64 a, Value.float FloatKind.f64 s]); refine (toLevel_any _ _ _).mono ?_; rintro e w4 ⟨rfl, hb4⟩; have P4 := (P.out.drewN 1).on hb4; have Q4 := (Q.out.drewN 1).on hb4; have B4 := B.out.drew.trans (hb4.mono B.out.size); obtain ⟨x40, x41, x42, x43, x44⟩ := id P4; obtain ⟨y40, y41, y42, y43, y44⟩ := id Q4)
    | (go_at_call_of 14 (Value.agg #[Value.int IntKind.i64 b, Value.float FloatKind.f64 t]); refine (toLevel_any _ _ _).mono ?_; rintro e w5 ⟨rfl, hb5⟩; have P5 := P4.on hb5; have Q5 := Q4.on hb5; have B5 := B4.trans (hb5.mono B4.size); obtain ⟨x50, x51, x52, x53, x54⟩ := id P5; obtain ⟨y50, y51, y52, y53, y54⟩ := id Q5)
    | (go_at_call 15; refine (ibet _ _ _ _ _ _).mono ?_; rintro e w6 ⟨f, rfl, hf, hb6⟩; have P6 := P5.on hb6; have Q6 := Q5.on hb6; have B6 := B5.trans (hb6.mono B5.size); obtain ⟨x60, x61, x62, x63, x64⟩ := id P6; obtain ⟨y60, y61, y62, y63, y64⟩ := id Q6))
  have HF : Hid (cn f = cn g) := hf.trans HG.out.symm
  have BB : Hid (Below w.heap.size w w6) := B6
  clear hf P4 Q4 B4 P5 Q5 B5 P6 Q6 B6 hb4 hb5 hb6 P Q B
  go_wp2_with fail
  refine (sf_cn _ _ _ HF.out).mono ?_
  rintro e w7 ⟨rfl, rfl⟩
  go_wp2_with fail
  go_ret
  exact ⟨rfl, BB.out⟩
end Go.Proofs.Ytpcgnahjibfphaa.Flt
