/- A forecast told: the law, walked. -/
import Derived.Test.YtoaabdmbgemkjaaGreatDoorUb
import Derived.Lib.LaidTab
import Derived.ChangeVars
import Derived.Deep.RegionHeld3
namespace Go.Proofs.YtoaabdmbgemkjaaGreatDoor.Tx
open Go.ChangeShapes Go.WideShapes Go.ChangeAt Go.RowKit Dates Dec To
open Go.Proofs.YtoaabdmbgemkjaaGreatDoor.Al

/-- the tables: the days of the months, the powers of ten -/
def Tb (w : World) : Prop := Months w ∧ Lib.TabIs Tryz.prog w "internal/strconv.uint64pow10" .u64 Lib.pow10Tab ∧ 2 < w.heap.size
theorem gP : Tryz.prog.globalNamed "internal/strconv.uint64pow10" = some 2 := by kernel_rfl
theorem Tb.keep (w w' : World) (h : Tb w) (hb : Below w.heap.size w w') : Tb w' :=
  ⟨h.1.below hb (by have := h.2.2; omega), var?_below hb gP h.2.2 h.2.1, Nat.lt_of_lt_of_le h.2.2 hb.size⟩
theorem lib : LibC Tb := libC Tb Tb.keep (fun _ h => h.2.1)
theorem both (C : ByteArray) (I f t d p v : Int) (W O : ByteArray) (b : Int) (L : Ch.Ls) : ∃ B : ByteArray, (∀ w x, Ch.Reads w x L → Calls Tryz.prog 5 #[Tf.tv C I f t d p v W O b x] w fun e w' => e = .returned (.string B) ∧ Below w.heap.size w w') ∧ ∀ w x, Tb w → Ch.Reads w x L → Calls Tryz.prog 7 #[Tf.tv C I f t d p v W O b x] w fun e w' => e = .returned (.string B) ∧ Below w.heap.size w w' := by
  cases h : tok C I f t d p v W O b L
  · exact ⟨_, fun w x hx => stxt_no C I f t d p v W O b x L w hx h, fun w x _ hx => itxt_no C I f t d p v W O b x L w hx h⟩
  · obtain ⟨RI, RV, R, H⟩ := rt_any lib (fun w h => h.1) h
    exact ⟨_, fun w x hx => stxt_yes C I f t d p v W O b x L RI RV R w hx H, fun w x hT hx => itxt_yes lib C I f t d p v W O b x L RI RV R w hT hx H⟩

set_option maxRecDepth 20000 in
set_option maxHeartbeats 4000000 in
theorem tafTextAll (w : World) (hT : Tb w) (C : ByteArray) (I f t d p v : Int) (W O : ByteArray) (b : Int) (u : Value) (L : Ch.Ls) (hL : Ch.Reads w u L) (hF : Tf.FitC L) (hC : C.size < 9223372036854775808) (hW : W.size < 9223372036854775808) (hO : O.size < 9223372036854775808) :
    Calls Tryz.prog 3 #[Tf.tv C I f t d p v W O b u] w fun e w' => e = .returned (.bool true) ∧ Below w.heap.size w w' := by
  have TO : Hid (L.length ≤ 1048576 → ∀ w', Below w.heap.size w w' → Calls Tryz.prog 6 #[Tf.tv C I f t d p v W O b u] w' fun e w'' => ∃ u2, e = .returned (Tf.tv C I f t d p v W O b u2) ∧ Ch.Row w'' w'.heap.size u2 L ∧ Below w'.heap.size w' w'') := fun hl w' hb => Tf.to_any C I f t d p v W O b u L w' (hL.on hb) hl
  have SZ : Hid (∀ w', Below w.heap.size w w' → Calls Tryz.prog 4 #[Tf.tv C I f t d p v W O b u, .int .i64 1048576] w' fun e w'' => (∃ r : Int, e = .returned (.int .i64 r) ∧ (0 ≤ r → L.length ≤ 1048576) ∧ r ≤ 1048576) ∧ Below w'.heap.size w' w'') := fun w' hb => Tf.sz_any C I f t d p v W O b u L w' (hL.on hb) hF hC hW hO
  obtain ⟨B, h1, h2⟩ := both C I f t d p v W O b L
  have SA : Hid (∀ w' x, Ch.Reads w' x L → Calls Tryz.prog 5 #[Tf.tv C I f t d p v W O b x] w' fun e w'' => e = .returned (.string B) ∧ Below w'.heap.size w' w'') := h1
  have IA : Hid (∀ w' x, Below w.heap.size w w' → Ch.Reads w' x L → Calls Tryz.prog 7 #[Tf.tv C I f t d p v W O b x] w' fun e w'' => e = .returned (.string B) ∧ Below w'.heap.size w' w'') := fun w' x hb h => h2 w' x (hT.keep _ _ hb) h
  clear h1 h2 hT
  have EQ : Hid (∀ w' x y, Ch.Reads w' x L → Ch.Reads w' y L → Calls Tryz.prog 8 #[Tf.tv C I f t d p v W O b x, Tf.tv C I f t d p v W O b y] w' fun e w'' => e = .returned (.bool true) ∧ Below w'.heap.size w' w'') := fun w' x y h h' => Tf.eq_any C I f t d p v W O b x y L w' h h'
  obtain ⟨sa, sc, hu⟩ := hL.form
  subst hu
  obtain ⟨n, hn⟩ : ∃ n, n = L.length := ⟨_, rfl⟩
  rw [← hn] at TO SZ ⊢
  have HN : Hid (n = L.length) := hn
  clear hn hF hC hW hO hL
  obtain ⟨wb, hwb⟩ : ∃ wb, wb = w.alloc (.cells #[.string C, .int .i64 I, .int .i64 f, .int .i64 t, .int .i64 d, .int .i64 p, .int .i64 v, .string W, .string O, .int .i64 b, (.slice sa n sc)] 28) := ⟨_, rfl⟩
  have HW : Hid (wb = w.alloc (.cells #[.string C, .int .i64 I, .int .i64 f, .int .i64 t, .int .i64 d, .int .i64 p, .int .i64 v, .string W, .string O, .int .i64 b, (.slice sa n sc)] 28)) := hwb
  have BW : Hid (Below w.heap.size w wb) := (by show Below _ _ _; rw [hwb]; exact (Below.refl _ _).alloc (Nat.le_refl _) _)
  have KT : Hid (Tf.AB wb w.heap.size C I f t d p v W O b (.slice sa n sc)) := (by show Tf.AB _ _ _ _ _ _ _ _ _ _ _ _ _; rw [hwb]; exact Tf.AB.new w C I f t d p v W O b (.slice sa n sc))
  clear hwb
  have CW : Hid (∀ w', Below wb.heap.size wb w' → Tf.AB w' w.heap.size C I f t d p v W O b (.slice sa n sc) ∧ Below w.heap.size w w') := fun w' hb => ⟨KT.out.on hb KT.out.lt, BW.out.trans (hb.mono BW.out.size)⟩
  have ebo : (B.toList != B.toList) = false := by simp
  obtain ⟨c0, c1, c2, c3, c4, c5, c6, c7, c8, c9, c10, _⟩ := KT.out.cells
  go_enter Tryz.func3, Tryz.ntmps3
  go_wp2_with fail
  rw [← HW.out]
  refine (SZ.out wb BW.out).mono ?_
  rintro e w1 ⟨⟨z, rfl, y, l⟩, hb⟩
  have Q1 : Hid (Below wb.heap.size wb w1) := hb
  clear c0 c1 c2 c3 c4 c5 c6 c7 c8 c9 c10 hb HW SZ
  obtain ⟨m0, m1⟩ := CW.out w1 Q1.out
  have B1 : Hid (Below w.heap.size w w1) := m1
  obtain ⟨c0, c1, c2, c3, c4, c5, c6, c7, c8, c9, c10, _⟩ := m0.cells
  clear m0 m1
  by_cases hneg : z < 0
  · go_wp2_with fail
    go_ret
    exact ⟨rfl, B1.out⟩
  have HL : Hid (n ≤ 1048576) := y (by omega)
  clear y
  go_wp2_with fail
  refine (TO.out HL.out _ B1.out).mono ?_
  rintro e w2 ⟨up, rfl, r, hb⟩
  have R2 : Hid (Ch.Reads w2 up L) := r.reads
  have Q2 : Hid (Below wb.heap.size wb w2) := Q1.out.trans (hb.mono Q1.out.size)
  clear r hb c0 c1 c2 c3 c4 c5 c6 c7 c8 c9 c10
  go_wp2_with fail
  refine (SA.out _ _ R2.out).mono ?_
  rintro e w3 ⟨rfl, hb⟩
  have Q3 : Hid (Below wb.heap.size wb w3) := Q2.out.trans (hb.mono Q2.out.size)
  clear hb R2
  obtain ⟨m0, m1⟩ := CW.out w3 Q3.out
  have B3 : Hid (Below w.heap.size w w3) := m1
  obtain ⟨c0, c1, c2, c3, c4, c5, c6, c7, c8, c9, c10, _⟩ := m0.cells
  clear m0 m1
  go_wp2_with fail
  refine (TO.out HL.out _ B3.out).mono ?_
  rintro e w4 ⟨ux, rfl, r, hb⟩
  have R4 : Hid (Ch.Reads w4 ux L) := r.reads
  obtain ⟨xa, xc, hx⟩ := r.form
  rw [← HN.out] at hx
  subst hx
  have Q4 : Hid (Below wb.heap.size wb w4) := Q3.out.trans (hb.mono Q3.out.size)
  have B4 : Hid (Below w.heap.size w w4) := (CW.out w4 Q4.out).2
  clear r hb c0 c1 c2 c3 c4 c5 c6 c7 c8 c9 c10
  obtain ⟨wy, hwy⟩ : ∃ wy, wy = w4.alloc (.cells #[.string C, .int .i64 I, .int .i64 f, .int .i64 t, .int .i64 d, .int .i64 p, .int .i64 v, .string W, .string O, .int .i64 b, (.slice xa n xc)] 35) := ⟨_, rfl⟩
  have HY : Hid (wy = w4.alloc (.cells #[.string C, .int .i64 I, .int .i64 f, .int .i64 t, .int .i64 d, .int .i64 p, .int .i64 v, .string W, .string O, .int .i64 b, (.slice xa n xc)] 35)) := hwy
  have KY : Hid (Tf.TB wy w4.heap.size C I f t d p v W O b (.slice xa n xc)) := (by show Tf.TB _ _ _ _ _ _ _ _ _ _ _ _ _; rw [hwy]; exact Tf.TB.new w4 C I f t d p v W O b (.slice xa n xc))
  have QY : Hid (Below wb.heap.size wb wy) := (by show Below _ _ _; rw [hwy]; exact Q4.out.alloc Q4.out.size _)
  have RY : Hid (Ch.Reads wy (.slice xa n xc) L) := (by show Ch.Reads _ _ _; rw [hwy]; exact R4.out.on ((Below.refl _ _).alloc (Nat.le_refl _) _))
  clear hwy R4
  obtain ⟨c0, c1, c2, c3, c4, c5, c6, c7, c8, c9, c10, _⟩ := KY.out.cells
  go_upto_region 7 with fail
  rw [← HY.out]
  go_wp2_with fail
  refine (IA.out _ _ (CW.out _ QY.out).2 RY.out).mono ?_
  rintro e w5 ⟨rfl, hb⟩
  have Q5 : Hid (Below wb.heap.size wb w5) := QY.out.trans (hb.mono QY.out.size)
  have R5 : Hid (Ch.Reads w5 (.slice xa n xc) L) := RY.out.on hb
  have K5 : Hid (Tf.TB w5 w4.heap.size C I f t d p v W O b (.slice xa n xc)) := KY.out.on hb KY.out.lt
  clear c0 c1 c2 c3 c4 c5 c6 c7 c8 c9 c10 hb RY KY HY
  obtain ⟨c0, c1, c2, c3, c4, c5, c6, c7, c8, c9, c10, _⟩ := K5.out.cells
  obtain ⟨m0, m1⟩ := CW.out w5 Q5.out
  have B5 : Hid (Below w.heap.size w w5) := m1
  obtain ⟨d0, d1, d2, d3, d4, d5, d6, d7, d8, d9, d10, _⟩ := m0.cells
  clear m0 m1
  have Q5d : Hid (Below wb.heap.size wb w5.drew) := Q5.out.drew
  have B5d : Hid (Below w.heap.size w w5.drew) := B5.out.drew
  have K5d : Hid (Tf.TB w5.drew w4.heap.size C I f t d p v W O b (.slice xa n xc)) := K5.out.on (Below.refl _ _).drew K5.out.lt
  have R5d : Hid (Ch.Reads w5.drew (.slice xa n xc) L) := R5.out.on (Below.refl _ _).drew
  go_upto_region 10 with fail
  go_region_held3 (fun w' => w'.cell? ⟨w4.heap.size, 0, none⟩ = some (.string C) ∧ w'.cell? ⟨w4.heap.size, 1, none⟩ = some (.int .i64 I) ∧ w'.cell? ⟨w4.heap.size, 2, none⟩ = some (.int .i64 f) ∧ w'.cell? ⟨w4.heap.size, 3, none⟩ = some (.int .i64 t) ∧ w'.cell? ⟨w4.heap.size, 4, none⟩ = some (.int .i64 d) ∧ w'.cell? ⟨w4.heap.size, 5, none⟩ = some (.int .i64 p) ∧ w'.cell? ⟨w4.heap.size, 6, none⟩ = some (.int .i64 v) ∧ w'.cell? ⟨w4.heap.size, 7, none⟩ = some (.string W) ∧ w'.cell? ⟨w4.heap.size, 8, none⟩ = some (.string O) ∧ w'.cell? ⟨w4.heap.size, 9, none⟩ = some (.int .i64 b) ∧ w'.cell? ⟨w4.heap.size, 10, none⟩ = some (.slice xa n xc) ∧ w'.cell? ⟨w.heap.size, 0, none⟩ = some (.string C) ∧ w'.cell? ⟨w.heap.size, 1, none⟩ = some (.int .i64 I) ∧ w'.cell? ⟨w.heap.size, 2, none⟩ = some (.int .i64 f) ∧ w'.cell? ⟨w.heap.size, 3, none⟩ = some (.int .i64 t) ∧ w'.cell? ⟨w.heap.size, 4, none⟩ = some (.int .i64 d) ∧ w'.cell? ⟨w.heap.size, 5, none⟩ = some (.int .i64 p) ∧ w'.cell? ⟨w.heap.size, 6, none⟩ = some (.int .i64 v) ∧ w'.cell? ⟨w.heap.size, 7, none⟩ = some (.string W) ∧ w'.cell? ⟨w.heap.size, 8, none⟩ = some (.string O) ∧ w'.cell? ⟨w.heap.size, 9, none⟩ = some (.int .i64 b) ∧ w'.cell? ⟨w.heap.size, 10, none⟩ = some (.slice sa n sc)) (go_keep)
    (first
    | (go_at_call 6; refine (TO.out HL.out _ B5d.out).mono ?_; rintro e w6 ⟨uy, rfl, r, hb⟩; have Q6 : Hid (Below wb.heap.size wb w6) := Q5d.out.trans (hb.mono Q5d.out.size); have R6 : Hid (Ch.Reads w6 (.slice xa n xc) L) := R5d.out.on hb; have S6 : Hid (Ch.Reads w6 uy L) := r.reads; have K6 : Hid (Tf.TB w6 w4.heap.size C I f t d p v W O b (.slice xa n xc)) := K5d.out.on hb K5d.out.lt; obtain ⟨e0, e1, e2, e3, e4, e5, e6, e7, e8, e9, e10, _⟩ := K6.out.cells; obtain ⟨m0, m1⟩ := CW.out w6 Q6.out; obtain ⟨ff0, ff1, ff2, ff3, ff4, ff5, ff6, ff7, ff8, ff9, ff10, _⟩ := m0.cells; clear m0 m1 r hb)
    | (go_at_call 8; refine (EQ.out _ _ _ R6.out S6.out).mono ?_; rintro e w7 ⟨rfl, hb⟩; have Q7 : Hid (Below wb.heap.size wb w7) := Q6.out.trans (hb.mono Q6.out.size); obtain ⟨m0, m1⟩ := CW.out w7 Q7.out; have B7 : Hid (Below w.heap.size w w7) := m1; obtain ⟨gg0, gg1, gg2, gg3, gg4, gg5, gg6, gg7, gg8, gg9, gg10, _⟩ := m0.cells; have K7 := (K6.out.on hb K6.out.lt); obtain ⟨hh0, hh1, hh2, hh3, hh4, hh5, hh6, hh7, hh8, hh9, hh10, _⟩ := K7.cells; clear m0 m1 hb))
  all_goals
    go_wp2_with fail
    go_ret
    exact ⟨rfl, B7.out⟩
end Go.Proofs.YtoaabdmbgemkjaaGreatDoor.Tx
