/- Changes: which are right, in the model and in the program. -/
import Derived.Test.YtoaabdmbgemkjaaGreatDoorTo
import Derived.Deep.RegionWith
import Derived.Deep.RegionHeldLaw
namespace Go.Proofs.YtoaabdmbgemkjaaGreatDoor.To
open Go.ChangeShapes Go.WideShapes Go.ChangeAt Go.RowKit
open Go.Proofs.YtoaabdmbgemkjaaGreatDoor.Al

theorem held32 : Tryz.prog.stoodInHeld 32 = false := by kernel_rfl
theorem under32 : Tryz.prog.underlying 32 = some (.struct (Tryz.prog.fieldsOf 32)) := by kernel_rfl
theorem guard32 : Tryz.prog.eqGuardType Tryz.prog.depth 32 = false := by kernel_rfl
theorem eqlU (d p v : Int) (W C : ByteArray) (b : Int) (w : World) : (binOp .eql 32 (Sk.sk d p v W C b) (Sk.sk (-1) 0 (-1) Sk.E Sk.E 0)).run Tryz.prog w = .ok (.bool (uns d p v W C b)) w := by
  rw [run_eql_struct, run_equalIn_struct w 9999 32 _ _ under32 held32]
  simp only [Program.fieldsOf, Tryz.underlying32]
  simp [go_sem, Op.eqFields, part]
  unfold uns
  by_cases h1 : d = -1 <;> by_cases h2 : p = 0 <;> by_cases h3 : v = -1 <;> by_cases h4 : W.toList = [] <;> by_cases h5 : C.toList = [] <;> by_cases h6 : b = 0 <;> simp [h1, h2, h3, h4, h5, h6]
theorem neqU (d p v : Int) (W C : ByteArray) (b : Int) (w : World) : (binOp .neq 32 (Sk.sk d p v W C b) (Sk.sk (-1) 0 (-1) Sk.E Sk.E 0)).run Tryz.prog w = .ok (.bool (!uns d p v W C b)) w := by
  rw [run_neq_struct, run_equalIn_struct w 9999 32 _ _ under32 held32]
  simp only [Program.fieldsOf, Tryz.underlying32]
  simp [go_sem, Op.eqFields, part]
  unfold uns
  by_cases h1 : d = -1 <;> by_cases h2 : p = 0 <;> by_cases h3 : v = -1 <;> by_cases h4 : W.toList = [] <;> by_cases h5 : C.toList = [] <;> by_cases h6 : b = 0 <;> simp [h1, h2, h3, h4, h5, h6]
theorem ful_not {d p v : Int} {W C : ByteArray} {b : Int} (h : ful d p v W C b = true) : Sk.ok d p v W C b = true ∧ uns d p v W C b = false := by
  unfold ful at h
  simp only [Bool.and_eq_true] at h
  refine ⟨h.1, ?_⟩
  unfold uns
  have : (d == -1) = false := by simpa using h.2.1
  rw [this]
  rfl
abbrev cv (k x y d p v : Int) (W C : ByteArray) (b : Int) : Value := .agg #[.int .i64 k, .int .i64 x, .int .i64 y, .int .i64 d, .int .i64 p, .int .i64 v, .string W, .string C, .int .i64 b]
/-- a change within the span f .. t -/
def in1 (f t x y d p v : Int) (W C : ByteArray) (b : Int) : Bool := (y == 0) && (inn x f (t - 1) && ful d p v W C b)
def in2 (f t k x y : Int) : Bool := inn k 2 4 && (hr x && (hr y && (decide (f ≤ x) && (decide (x < y) && decide (y ≤ t)))))
def cok (f t : Int) (k x y d p v : Int) (W C : ByteArray) (b : Int) : Bool := Sk.ok d p v W C b && (!uns d p v W C b && (if (k == 1) = true then in1 f t x y d p v W C b else in2 f t k x y))

set_option maxRecDepth 20000 in
set_option maxHeartbeats 4000000 in
theorem schange_any (k x y d p v : Int) (W C : ByteArray) (b : Int) (E : ByteArray) (I f t d2 p2 v2 : Int) (W2 C2 : ByteArray) (b2 : Int) (u : Value) (hu : ∃ a n c, u = .slice a n c) (ht : 0 ≤ t ∧ t ≤ 52596000) (w : World) :
    Calls Tryz.prog 35 #[Tf.tv E I f t d2 p2 v2 W2 C2 b2 u, cv k x y d p v W C b] w fun e w' => e = .returned (.bool (cok f t k x y d p v W C b)) ∧ Below w.heap.size w w' := by
  obtain ⟨sa, sn, sc, hu⟩ := hu
  subst hu
  have C1 : Hid (∀ w, Calls Tryz.prog 38 #[Sk.sk d p v W C b] w fun e w' => e = .returned (.bool (Sk.ok d p v W C b)) ∧ Below w.heap.size w w') := fun w => Sk.sok_any d p v W C b w
  have C2' : Hid (∀ w, Calls Tryz.prog 57 #[] w fun e w' => e = .returned (Sk.sk (-1) 0 (-1) Sk.E Sk.E 0) ∧ Below w.heap.size w w') := fun w => sunsaid_any w
  have C3 : Hid (∀ w, Calls Tryz.prog 33 #[.int .i64 x, .int .i64 f, .int .i64 (t - 1)] w fun e w' => e = .returned (.bool (inn x f (t - 1))) ∧ w' = w) := fun w => s_in _ _ _ w
  have C4 : Hid (∀ w, Calls Tryz.prog 34 #[Sk.sk d p v W C b] w fun e w' => e = .returned (.bool (ful d p v W C b)) ∧ Below w.heap.size w w') := fun w => sfull_any d p v W C b w
  have C5 : Hid (∀ w, Calls Tryz.prog 33 #[.int .i64 k, .int .i64 2, .int .i64 4] w fun e w' => e = .returned (.bool (inn k 2 4)) ∧ w' = w) := fun w => s_in _ _ _ w
  have EU := eqlU d p v W C b
  have GU := guard32
  obtain ⟨q, hq⟩ : ∃ q, q = cok f t k x y d p v W C b := ⟨_, rfl⟩
  rw [← hq]
  unfold cok in1 in2 at hq
  have HQ : Hid (q = (Sk.ok d p v W C b && (!uns d p v W C b && (if (k == 1) = true then ((y == 0) && (inn x f (t - 1) && ful d p v W C b)) else (inn k 2 4 && (hr x && (hr y && (decide (f ≤ x) && (decide (x < y) && decide (y ≤ t)))))))))) := hq
  clear hq
  obtain ⟨wb, hwb⟩ : ∃ wb, wb = (w.alloc (.cells #[.string E, .int .i64 I, .int .i64 f, .int .i64 t, .int .i64 d2, .int .i64 p2, .int .i64 v2, .string W2, .string C2, .int .i64 b2, .slice sa sn sc] 35)).alloc (.cells #[.int .i64 k, .int .i64 x, .int .i64 y, .int .i64 d, .int .i64 p, .int .i64 v, .string W, .string C, .int .i64 b] 47) := ⟨_, rfl⟩
  have HW : Hid (wb = (w.alloc (.cells #[.string E, .int .i64 I, .int .i64 f, .int .i64 t, .int .i64 d2, .int .i64 p2, .int .i64 v2, .string W2, .string C2, .int .i64 b2, .slice sa sn sc] 35)).alloc (.cells #[.int .i64 k, .int .i64 x, .int .i64 y, .int .i64 d, .int .i64 p, .int .i64 v, .string W, .string C, .int .i64 b] 47)) := hwb
  have BW : Hid (Below w.heap.size w wb) := (by show Below _ _ _; rw [hwb]; exact ((Below.refl _ _).alloc (Nat.le_refl _) _).alloc (by simp) _)
  have ZW : Hid (wb.heap.size = w.heap.size + 2) := (by show _ = _; rw [hwb]; simp)
  have KT : Hid (Tf.TB wb w.heap.size E I f t d2 p2 v2 W2 C2 b2 (.slice sa sn sc)) := (by show Tf.TB _ _ _ _ _ _ _ _ _ _ _ _ _; rw [hwb]; exact (Tf.TB.new w E I f t d2 p2 v2 W2 C2 b2 (.slice sa sn sc)).on ((Below.refl _ _).alloc (Nat.le_refl _) _) (by simp))
  have KC : Hid (Ch.CB wb (w.heap.size + 1) k x y d p v W C b) := (by
    show Ch.CB _ _ _ _ _ _ _ _ _ _ _
    rw [hwb]
    have := Ch.CB.new (w.alloc (.cells #[.string E, .int .i64 I, .int .i64 f, .int .i64 t, .int .i64 d2, .int .i64 p2, .int .i64 v2, .string W2, .string C2, .int .i64 b2, .slice sa sn sc] 35)) k x y d p v W C b
    simpa using this)
  clear hwb
  have Q0 : Hid (Below wb.heap.size wb wb) := Below.refl _ _
  have Q0d : Hid (Below wb.heap.size wb wb.drew) := (Below.refl _ _).drew
  have CW : Hid (∀ w', Below wb.heap.size wb w' → Ch.CB w' (w.heap.size + 1) k x y d p v W C b ∧ Tf.TB w' w.heap.size E I f t d2 p2 v2 W2 C2 b2 (.slice sa sn sc) ∧ Below w.heap.size w w') := fun w' hb => ⟨KC.out.on hb (by rw [ZW.out]; omega), KT.out.on hb (by rw [ZW.out]; omega), BW.out.trans (hb.mono BW.out.size)⟩
  generalize Sk.ok d p v W C b = b1 at *
  generalize uns d p v W C b = b2' at *
  obtain ⟨c0, c1, c2, c3, c4, c5, c6, c7, c8, _⟩ := KC.out.cells
  cases b1
  · go_enter Tryz.func35, Tryz.ntmps35
    go_wp2_with fail
    rw [← HW.out]
    first
    | go_region_with (first
      | (go_at_call 38; refine (C1.out _).mono ?_; rintro e w1 ⟨rfl, hb⟩; have Q1 : Below wb.heap.size wb w1 := (by first | exact Q0d.out.trans (hb.mono Q0d.out.size) | exact Q0.out.trans (hb.mono Q0.out.size)); obtain ⟨m0, m1, m2⟩ := CW.out w1 Q1; have B1 : Hid (Below w.heap.size w w1) := m2; obtain ⟨g0, g1, g2, g3, g4, g5, g6, g7, g8, _⟩ := m0.cells; clear m0 m1 m2))
    | fail
    all_goals
      go_wp2_with fail
      go_ret
      exact ⟨by rw [HQ.out]; rfl, B1.out⟩
  go_enter Tryz.func35, Tryz.ntmps35
  go_upto_region 1 with fail
  rw [← HW.out]
  go_cut [14] (fun c wx => c = .bool b2' ∧ Hid (Below wb.heap.size wb wx))
  case first =>
    go_region_held3 (fun w' => w'.cell? ⟨w.heap.size + 1, 3, none⟩ = some (.int .i64 d) ∧ w'.cell? ⟨w.heap.size + 1, 4, none⟩ = some (.int .i64 p) ∧ w'.cell? ⟨w.heap.size + 1, 5, none⟩ = some (.int .i64 v) ∧ w'.cell? ⟨w.heap.size + 1, 6, none⟩ = some (.string W) ∧ w'.cell? ⟨w.heap.size + 1, 7, none⟩ = some (.string C) ∧ w'.cell? ⟨w.heap.size + 1, 8, none⟩ = some (.int .i64 b)) (go_keep)
      (first
      | (go_at_call 38; refine (C1.out _).mono ?_; rintro e w1 ⟨rfl, hb⟩; have Q1 : Below wb.heap.size wb w1 := (by first | exact Q0d.out.trans (hb.mono Q0d.out.size) | exact Q0.out.trans (hb.mono Q0.out.size)); obtain ⟨m0, m1, m2⟩ := CW.out w1 Q1; obtain ⟨g0, g1, g2, g3, g4, g5, g6, g7, g8, _⟩ := m0.cells; clear m0 m1 m2)
      | (go_at_call 57; refine (C2'.out _).mono ?_; rintro e w2 ⟨rfl, hb2⟩; have Q2 : Below wb.heap.size wb w2 := Q1.trans (hb2.mono Q1.size); obtain ⟨m0, m1, m2⟩ := CW.out w2 Q2; obtain ⟨e0, e1, e2, e3, e4, e5, e6, e7, e8, _⟩ := m0.cells; clear m0 m1 m2))
    all_goals
      go_wp2_with fail
      go_meet
      exact ⟨rfl, Q2⟩
  case rest =>
    obtain ⟨w2, hw2⟩ : ∃ x : World, x = wc := ⟨_, rfl⟩
    subst hw2
    obtain ⟨rfl, hcb⟩ := hcut
    obtain ⟨m0, m1, m2⟩ := CW.out w2 hcb.out
    have B2 : Hid (Below w.heap.size w w2) := m2
    have Q2 : Hid (Below wb.heap.size wb w2) := hcb
    clear c0 c1 c2 c3 c4 c5 c6 c7 c8 hcb
    obtain ⟨c0, c1, c2, c3, c4, c5, c6, c7, c8, _⟩ := m0.cells
    obtain ⟨t0, t1, t2, t3, t4, t5, t6, t7, t8, t9, t10, _⟩ := m1.cells
    clear m0 m1 m2 EU GU
    cases b2'
    rotate_left 1
    · go_wp2_with fail
      go_ret
      exact ⟨by rw [HQ.out]; rfl, B2.out⟩
    cases hk : (k == 1)
    · rw [hk] at HQ
      generalize inn k 2 4 = b5 at *
      have j0 : (k == 1) = false := hk
      clear hk
      go_wp2_with fail
      refine (C5.out _).mono ?_
      rintro e w3 ⟨rfl, hw⟩
      subst hw
      cases b5
      · go_wp2_with fail
        go_ret
        exact ⟨by rw [HQ.out]; rfl, B2.out⟩
      cases h1 : (x.tmod 60 == 0)
      · go_wp2_with fail
        go_ret
        exact ⟨by rw [HQ.out]; unfold hr; rw [h1]; rfl, B2.out⟩
      cases h2 : (y.tmod 60 == 0)
      · go_wp2_with fail
        go_ret
        exact ⟨by rw [HQ.out]; unfold hr; rw [h1, h2]; rfl, B2.out⟩
      by_cases h3 : f ≤ x
      · by_cases h4 : x < y
        · go_wp2_with fail
          go_ret
          exact ⟨by rw [HQ.out]; unfold hr; rw [h1, h2, decide_eq_true h3, decide_eq_true h4]; rfl, B2.out⟩
        · have h4' : decide (x < y) = false := decide_eq_false h4
          go_wp2_with fail
          go_ret
          exact ⟨by rw [HQ.out]; unfold hr; rw [h1, h2, decide_eq_true h3, h4']; rfl, B2.out⟩
      · have h3' : decide (f ≤ x) = false := decide_eq_false h3
        go_wp2_with fail
        go_ret
        exact ⟨by rw [HQ.out]; unfold hr; rw [h1, h2, h3']; rfl, B2.out⟩
    · rw [hk] at HQ
      have ek : k = 1 := eq_of_beq hk
      subst ek
      clear hk
      generalize inn x f (t - 1) = b6 at *
      generalize ful d p v W C b = b7 at *
      cases hy : (y == 0)
      · go_wp2_with fail
        go_ret
        exact ⟨by rw [HQ.out, hy]; rfl, B2.out⟩
      go_wp2_with fail
      refine (C3.out _).mono ?_
      rintro e w3 ⟨rfl, hw⟩
      subst hw
      cases b6
      · go_wp2_with fail
        go_ret
        exact ⟨by rw [HQ.out, hy]; rfl, B2.out⟩
      go_wp2_with fail
      refine (C4.out _).mono ?_
      rintro e w3 ⟨rfl, hb⟩
      have B3 : Hid (Below w.heap.size w w3) := B2.out.trans (hb.mono B2.out.size)
      clear hb
      go_wp2_with fail
      go_ret
      exact ⟨by rw [HQ.out, hy]; rfl, B3.out⟩
end Go.Proofs.YtoaabdmbgemkjaaGreatDoor.To
