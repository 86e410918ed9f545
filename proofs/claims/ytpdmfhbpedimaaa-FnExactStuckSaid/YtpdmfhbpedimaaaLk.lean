/- Stuck: the law. -/
import Derived.Test.YtpdmfhbpedimaaaLt
import Derived.Test.YtpdmfhbpedimaaaMk
import Derived.Deep.RegionHeld3
namespace Go.Proofs.Ytpdmfhbpedimaaa.Ty
open Go.ChangeShapes Go.WideShapes Go.ChangeAt Go.RowKit
open Go.Proofs.Ytpdmfhbpedimaaa.Lists Go.Proofs.Ytpdmfhbpedimaaa.Tm Go.Proofs.Ytpdmfhbpedimaaa.Rk Go.Proofs.Ytpdmfhbpedimaaa.Ru Go.Proofs.Ytpdmfhbpedimaaa.Al

theorem stuck_both (R : Tk.Ls) (X : List Int) (now : Int) (J : Jb.Ls) : ∃ (AL : List Int), AL.length ≤ 1048576 ∧
    (∀ w' r x j, RR w' r x j R X J → Calls Try.prog 24 #[rv r x now j] w' fun e w'' => ∃ la lc, e = .returned (.slice la AL.length lc) ∧ Lists.Reads w'' (.slice la AL.length lc) AL ∧ Below w'.heap.size w' w'') ∧
    (∀ w' r x j, RR w' r x j R X J → Calls Try.prog 25 #[rv r x now j] w' fun e w'' => ∃ la lc, e = .returned (.slice la AL.length lc) ∧ w''.ownsRow w'.heap.size 2 1 (.slice la AL.length lc) AL.length (ints AL) ∧ Below w'.heap.size w' w'') := by
  cases h : okR R X now J
  · refine ⟨[], by simp, fun w' r x j hh => ?_, fun w' r x j hh => ?_⟩
    · refine (sstuck_no R X now J r x j w' hh h).mono ?_
      rintro e w2 ⟨rfl, hb⟩
      exact ⟨_, _, rfl, Or.inl ⟨rfl, _, _, rfl⟩, hb⟩
    · refine (istuck_no R X now J r x j w' hh h).mono ?_
      rintro e w2 ⟨rfl, hb⟩
      exact ⟨none, 0, rfl, ⟨rfl, .inl ⟨rfl, rfl⟩⟩, hb⟩
  · obtain ⟨s1, s2, s3, s4⟩ := sm_ok h
    exact ⟨sl R J R.length, Nat.le_trans (sl_len _ _ _) s1, fun w' r x j hh => sstuck_yes R X now J r x j w' hh h, fun w' r x j hh => istuck_yes R X now J r x j w' hh h⟩

set_option maxRecDepth 20000 in
set_option maxHeartbeats 4000000 in
theorem stuckLaw (w : World) (vr vx vj : Value) (now : Int) (R : Tk.Ls) (X : List Int) (J : Jb.Ls) (hh : RR w vr vx vj R X J) :
    Calls Try.prog 7 #[rv vr vx now vj] w fun e w' => e = .returned (.bool true) ∧ Below w.heap.size w w' := by
  obtain ⟨sr, cr, er⟩ := hh.1.form
  obtain ⟨sx, cx, ex⟩ := hh.2.1.form
  obtain ⟨sj, cj, ej⟩ := hh.2.2.form
  subst er ex ej
  obtain ⟨w0, hw0⟩ : ∃ w0, w0 = w.alloc (Obj.cells #[.slice sr R.length cr, .slice sx X.length cx, .int .i64 now, .slice sj J.length cj] 28) := ⟨_, rfl⟩
  have HW0 : Hid (w0 = w.alloc (Obj.cells #[.slice sr R.length cr, .slice sx X.length cx, .int .i64 now, .slice sj J.length cj] 28)) := hw0
  have B0 : Hid (Below w.heap.size w w0) := (by show Below _ _ _; rw [hw0]; exact (Below.refl _ _).alloc (Nat.le_refl _) _)
  have Z0 : Hid (w0.heap.size = w.heap.size + 1) := (by show _ = _; rw [hw0]; simp)
  have K0 : Hid (Ru.Box w0 w.heap.size (.slice sr R.length cr) (.slice sx X.length cx) (.int .i64 now) (.slice sj J.length cj)) := (by show Ru.Box _ _ _ _ _ _; rw [hw0]; unfold Ru.Box; simp [go_sem])
  have SZ : Hid (∀ w', Below w.heap.size w w' → Calls Try.prog 8 #[rv (.slice sr R.length cr) (.slice sx X.length cx) now (.slice sj J.length cj), .int .i64 1048576] w' fun e w'' => (∃ z : Int, e = .returned (.int .i64 z) ∧ (0 ≤ z → Sm R X J)) ∧ Below w'.heap.size w' w'') := fun w' hb => szR_any R X now J _ _ _ w' (hh.on hb)
  have TO : Hid (Sm R X J → ∀ w', Below w.heap.size w w' → Calls Try.prog 10 #[rv (.slice sr R.length cr) (.slice sx X.length cx) now (.slice sj J.length cj)] w' fun e w'' => ∃ ra rc xa xc ja jc xs, e = .returned (rv (.slice ra R.length rc) (.slice xa X.length xc) now (.slice ja J.length jc)) ∧ RO w'' w'.heap.size (.slice ra R.length rc) (.slice xa X.length xc) (.slice ja J.length jc) xs R X J ∧ Below w'.heap.size w' w'') := fun hl w' hb => (toR_any R X now J _ _ _ w' (hh.on hb) hl).mono (by rintro e w2 ⟨ra, rc, xa, xc, ja, jc, rfl, ⟨xs, h1⟩, h2⟩; exact ⟨ra, rc, xa, xc, ja, jc, xs, rfl, h1, h2⟩)
  have ES : Hid (∀ w' r x j r2 x2 j2, RR w' r x j R X J → RR w' r2 x2 j2 R X J → Calls Try.prog 12 #[rv r x now j, rv r2 x2 now j2] w' fun e w'' => e = .returned (.bool true) ∧ Below w'.heap.size w' w'') := fun w' r x j r2 x2 j2 h h' => Ru.eq_any R X J now r r2 x x2 j j2 w' h h'
  have MS : Hid (Sm R X J → ∀ w' base r x j xs, RO w' base r x j xs R X J → Calls Try.prog 14 #[rv r x now j, .int .i64 1] w' fun e w'' => (∃ k : Int, e = .returned (.int .i64 k) ∧ 0 ≤ k) ∧ KB (RB r x j xs R.length) w' w'') := fun hl w' base r x j xs h => (Ru.markRun_any w' base r x j now xs R X J h (by have := tl_bound R hl.2.1 R.length (Nat.le_refl _); have := hl.1; omega) hl.2.1 hl.2.2.1 hl.2.2.2).mono (by rintro e w2 ⟨rfl, h1, _⟩; exact ⟨⟨_, rfl, by omega⟩, h1⟩)
  have BX : Hid (∀ w' base r x j xs g, RO w' base r x j xs R X J → RB r x j xs R.length g → base ≤ g ∧ g < w'.heap.size) := fun w' base r x j xs g h hg => h.bs g hg
  obtain ⟨AL, s5, SU0, IU0⟩ := stuck_both R X now J
  have SU : Hid (∀ w' r x j, RR w' r x j R X J → Calls Try.prog 24 #[rv r x now j] w' fun e w'' => ∃ la lc, e = .returned (.slice la AL.length lc) ∧ Lists.Reads w'' (.slice la AL.length lc) AL ∧ Below w'.heap.size w' w'') := SU0
  have IU : Hid (∀ w' r x j, RR w' r x j R X J → Calls Try.prog 25 #[rv r x now j] w' fun e w'' => ∃ la lc, e = .returned (.slice la AL.length lc) ∧ w''.ownsRow w'.heap.size 2 1 (.slice la AL.length lc) AL.length (ints AL) ∧ Below w'.heap.size w' w'') := IU0
  clear SU0 IU0
  have LR : Hid (∀ w' base v, w'.ownsRow base 2 1 v AL.length (ints AL) → Lists.Reads w' v AL) := fun w' base v h => Lists.reads_row h
  have EL : Hid (∀ w' v1 v2, Lists.Reads w' v1 AL → Lists.Reads w' v2 AL → Calls Try.prog 13 #[v1, v2] w' fun e w'' => e = .returned (.bool true) ∧ Below w'.heap.size w' w'') := fun w' v1 v2 h1 h2 => (Tk.eq_reads w' v1 v2 AL h1 h2).mono (by rintro e w2 ⟨rfl, m, rfl⟩; exact ⟨rfl, below_drewN (Below.refl _ _) m⟩)
  have ML : Hid (∀ w' base v, w'.ownsRow base 2 1 v AL.length (ints AL) → Calls Try.prog 15 #[v, .int .i64 1] w' fun e w'' => e = .returned (.int .i64 (1 + (AL.length : Int))) ∧ Lists.Reads w'' v (sq 1 AL.length) ∧ w'.grownBy w'' v.ownBlock) := fun w' base v h => (Lists.markW_any w' base v AL 1 (by omega) (by omega) (by omega) h).mono (by rintro e w2 ⟨rfl, h1, h2⟩; exact ⟨rfl, Lists.reads_row (base := base) (show w2.ownsRow base 2 1 v (sq 1 AL.length).length (ints (sq 1 AL.length)) by rw [sq_len]; exact h1), h2⟩)
  have HL : Hid (∀ w' v, Lists.Reads w' v (sq 1 AL.length) → Calls Try.prog 17 #[v, .int .i64 1] w' fun e w'' => e = .returned (.int .i64 (1 + (AL.length : Int))) ∧ Below w'.heap.size w' w'') := fun w' v h => (Lists.heldW_any w' v AL.length 1 (by omega) (by omega) (by omega) h).mono (by rintro e w2 ⟨rfl, m, rfl⟩; exact ⟨rfl, below_drewN (Below.refl _ _) m⟩)
  obtain ⟨KN, hKN⟩ : ∃ KN : Int, KN = 1 + (AL.length : Int) := ⟨_, rfl⟩
  have kn0 : ¬ KN < 0 := by omega
  rw [← hKN] at ML HL
  have hnn : (KN != KN) = false := by simp
  generalize sq 1 AL.length = MLS at *
  generalize AL.length = al at *
  clear hKN s5
  clear hh hw0
  generalize R.length = lr at *
  generalize X.length = lx at *
  generalize J.length = lj at *
  obtain ⟨k0, k1, k2, k3⟩ := K0.out
  go_enter Try.func7, Try.ntmps7
  go_wp2_with fail
  rw [← HW0.out]
  refine (SZ.out w0 B0.out).mono ?_
  rintro e w1 ⟨⟨z, rfl, y⟩, b⟩
  clear k0 k1 k2 k3
  have B1 : Hid (Below w.heap.size w w1) := B0.out.trans (b.mono B0.out.size)
  have S1 : Hid (w.heap.size < w1.heap.size) := (by have := Z0.out; have := b.size; show _ < _; omega)
  have K1 : Hid (Ru.Box w1 w.heap.size (.slice sr lr cr) (.slice sx lx cx) (.int .i64 now) (.slice sj lj cj)) := K0.out.on b (by have := Z0.out; omega)
  clear b HW0
  by_cases hneg : z < 0
  · go_wp2_with fail
    go_ret
    exact ⟨rfl, B1.out⟩
  have HLS := y (by omega)
  have TP := TO.out HLS
  have TPH : Hid (∀ w', Below w.heap.size w w' → Calls Try.prog 10 #[rv (.slice sr lr cr) (.slice sx lx cx) now (.slice sj lj cj)] w' fun e w'' => ∃ ra rc xa xc ja jc xs, e = .returned (rv (.slice ra lr rc) (.slice xa lx xc) now (.slice ja lj jc)) ∧ RO w'' w'.heap.size (.slice ra lr rc) (.slice xa lx xc) (.slice ja lj jc) xs R X J ∧ Below w'.heap.size w' w'') := TP
  have MT : Hid (∀ w' base r x j xs, RO w' base r x j xs R X J → Calls Try.prog 14 #[rv r x now j, .int .i64 1] w' fun e w'' => (∃ k : Int, e = .returned (.int .i64 k) ∧ 0 ≤ k) ∧ KB (RB r x j xs lr) w' w'') := MS.out HLS
  clear TO MS y HLS SZ TP
  obtain ⟨k0, k1, k2, k3⟩ := K1.out
  go_wp2_with fail
  refine (TPH.out w1 B1.out).mono ?_
  rintro e w2 ⟨ra2, rc2, xa2, xc2, ja2, jc2, xs2, rfl, p2, b⟩
  clear k0 k1 k2 k3
  have B2 : Hid (Below w.heap.size w w2) := B1.out.trans (b.mono B1.out.size)
  have K2 : Hid (Ru.Box w2 w.heap.size (.slice sr lr cr) (.slice sx lx cx) (.int .i64 now) (.slice sj lj cj)) := K1.out.on b S1.out
  have S2 : Hid (w.heap.size < w2.heap.size) := Nat.lt_of_lt_of_le S1.out b.size
  have P2 : Hid (RR w2 (.slice ra2 lr rc2) (.slice xa2 lx xc2) (.slice ja2 lj jc2) R X J) := p2.reads
  clear b p2
  go_wp2_with fail
  refine (SU.out w2 _ _ _ P2.out).mono ?_
  rintro e wa ⟨la, lc, rfl, q3, b⟩
  have B3 : Below w.heap.size w wa := B2.out.trans (b.mono B2.out.size)
  have K3 := K2.out.on b S2.out
  have S3 : w.heap.size < wa.heap.size := Nat.lt_of_lt_of_le S2.out b.size
  clear P2
  have OLD : Hid (∀ wi, Below wa.heap.size wa wi → Ru.Box wi w.heap.size (.slice sr lr cr) (.slice sx lx cx) (.int .i64 now) (.slice sj lj cj) ∧ Lists.Reads wi (.slice la al lc) AL ∧ Below w.heap.size w wi) := fun wi hb => (by
    exact ⟨K3.on hb S3, q3.on hb, B3.trans (hb.mono (by omega))⟩)
  have LA : Hid (w.heap.size < wa.heap.size) := S3
  clear b B3 K3 S3 q3
  have QA : Hid (Below wa.heap.size wa wa) := Below.refl _ _
  obtain ⟨⟨k0, k1, k2, k3⟩, _, BA⟩ := OLD.out wa QA.out
  have BAH : Hid (Below w.heap.size w wa) := BA
  clear BA
  go_wp2_with fail
  refine (TPH.out wa BAH.out).mono ?_
  rintro e w5 ⟨ra5, rc5, xa5, xc5, ja5, jc5, xs5, rfl, p5, b⟩
  clear k0 k1 k2 k3
  have Q5 : Below wa.heap.size wa w5 := b
  obtain ⟨w6, hw6⟩ : ∃ y, y = w5.alloc (Obj.cells #[.slice ra5 lr rc5, .slice xa5 lx xc5, .int .i64 now, .slice ja5 lj jc5] 35) := ⟨_, rfl⟩
  have HW6 : Hid (w6 = w5.alloc (Obj.cells #[.slice ra5 lr rc5, .slice xa5 lx xc5, .int .i64 now, .slice ja5 lj jc5] 35)) := hw6
  have b6 : Below w5.heap.size w5 w6 := by rw [hw6]; exact (Below.refl _ _).alloc (Nat.le_refl _) _
  obtain ⟨c6, hc6⟩ : ∃ c6, c6 = w5.heap.size := ⟨_, rfl⟩
  have HC6 : Hid (c6 = w5.heap.size) := hc6
  have Z6 : Hid (w6.heap.size = c6 + 1) := (by show _ = _; rw [hw6, hc6]; simp)
  have Q6 : Hid (Below wa.heap.size wa w6) := Q5.trans (b6.mono Q5.size)
  have J6 : Hid (Ru.Box w6 c6 (.slice ra5 lr rc5) (.slice xa5 lx xc5) (.int .i64 now) (.slice ja5 lj jc5)) := (by show Ru.Box _ _ _ _ _ _; rw [hw6, hc6]; unfold Ru.Box; simp [go_sem])
  have P6 : Hid (RO w6 wa.heap.size (.slice ra5 lr rc5) (.slice xa5 lx xc5) (.slice ja5 lj jc5) xs5 R X J) := p5.on b6
  have L6 : Hid (∀ g, RB (.slice ra5 lr rc5) (.slice xa5 lx xc5) (.slice ja5 lj jc5) xs5 lr g → wa.heap.size ≤ g ∧ g < c6) := fun g hg => (by rw [hc6]; exact BX.out w5 _ _ _ _ _ g p5 hg)
  have LAC : Hid (wa.heap.size ≤ c6) := (by rw [hc6]; exact Q5.size)
  clear hw6 b6 hc6 b p5 Q5
  obtain ⟨j0, j1, j2, j3⟩ := J6.out
  go_upto_region 7 with fail
  rw [← HW6.out, ← HC6.out]
  clear HW6
  go_wp2_with fail
  refine (IU.out w6 _ _ _ P6.out.reads).mono ?_
  rintro e w8 ⟨ka, kc, rfl, q8, b⟩
  clear j0 j1 j2 j3
  have Q8 : Hid (Below wa.heap.size wa w8) := Q6.out.trans (b.mono Q6.out.size)
  have J8 : Hid (Ru.Box w8 c6 (.slice ra5 lr rc5) (.slice xa5 lx xc5) (.int .i64 now) (.slice ja5 lj jc5)) := J6.out.on b (by have := Z6.out; omega)
  have P8 : Hid (RO w8 wa.heap.size (.slice ra5 lr rc5) (.slice xa5 lx xc5) (.slice ja5 lj jc5) xs5 R X J) := P6.out.on b
  have Z8 : Hid (c6 < w8.heap.size) := (by have := Z6.out; have := b.size; show _ < _; omega)
  have V8 : Hid (w8.ownsRow w6.heap.size 2 1 (.slice ka al kc) al (ints AL)) := q8
  have M8 : Hid (∀ g, (Value.slice ka al kc).ownBlock = some g → c6 + 1 ≤ g) := fun g hg => (by rw [← Z6.out]; exact (q8.lt g hg).1)
  have RH8 : Hid (Lists.Reads w8 (.slice la al lc) AL) := (OLD.out w8 Q8.out).2.1
  clear b q8
  go_wp2_with fail
  refine (EL.out w8 _ _ (LR.out _ _ _ V8.out) RH8.out).mono ?_
  rintro e w10 ⟨rfl, b⟩
  clear RH8
  have Q10 : Hid (Below wa.heap.size wa w10) := Q8.out.trans (b.mono Q8.out.size)
  have J10 : Hid (Ru.Box w10 c6 (.slice ra5 lr rc5) (.slice xa5 lx xc5) (.int .i64 now) (.slice ja5 lj jc5)) := J8.out.on b Z8.out
  have P10 : Hid (RO w10 wa.heap.size (.slice ra5 lr rc5) (.slice xa5 lx xc5) (.slice ja5 lj jc5) xs5 R X J) := P8.out.on b
  have Z10 : Hid (c6 < w10.heap.size) := Nat.lt_of_lt_of_le Z8.out b.size
  have V10 : Hid (w10.ownsRow w6.heap.size 2 1 (.slice ka al kc) al (ints AL)) := Tk1.row_on V8.out b
  clear b J8 P8 V8
  obtain ⟨⟨k0, k1, k2, k3⟩, _, m1⟩ := OLD.out w10 Q10.out
  have BD : Hid (Below w.heap.size w w10.drew) := m1.drew
  have QD : Hid (Below wa.heap.size wa w10.drew) := Q10.out.drew
  have PD : Hid (RO w10.drew wa.heap.size (.slice ra5 lr rc5) (.slice xa5 lx xc5) (.slice ja5 lj jc5) xs5 R X J) := P10.out.on (Below.refl _ _).drew
  have JD : Hid (Ru.Box w10.drew c6 (.slice ra5 lr rc5) (.slice xa5 lx xc5) (.int .i64 now) (.slice ja5 lj jc5)) := J10.out
  have LD : Hid (c6 < w10.drew.heap.size) := Z10.out
  have VD : Hid (w10.drew.ownsRow w6.heap.size 2 1 (.slice ka al kc) al (ints AL)) := V10.out
  obtain ⟨j0, j1, j2, j3⟩ := J10.out
  clear m1
  go_upto_region 10 with fail
  go_region_held3 (fun w' => (w'.cell? ⟨w.heap.size, 0, none⟩ = some (.slice sr lr cr) ∧ w'.cell? ⟨w.heap.size, 1, none⟩ = some (.slice sx lx cx) ∧ w'.cell? ⟨w.heap.size, 2, none⟩ = some (.int .i64 now) ∧ w'.cell? ⟨w.heap.size, 3, none⟩ = some (.slice sj lj cj)) ∧ w'.cell? ⟨c6, 0, none⟩ = some (.slice ra5 lr rc5) ∧ w'.cell? ⟨c6, 1, none⟩ = some (.slice xa5 lx xc5) ∧ w'.cell? ⟨c6, 2, none⟩ = some (.int .i64 now) ∧ w'.cell? ⟨c6, 3, none⟩ = some (.slice ja5 lj jc5)) (first | (exact ⟨⟨k0, k1, k2, k3⟩, j0, j1, j2, j3⟩) | (exact H11) | (exact H12) | go_keep)
    (first
    | (go_at_call 10; refine (TPH.out _ BD.out).mono ?_; rintro e w11 ⟨ra11, rc11, xa11, xc11, ja11, jc11, xs11, rfl, p11, b⟩; have Q11 : Hid (Below wa.heap.size wa w11) := QD.out.trans (b.mono QD.out.size); have P11 : Hid (RO w11 wa.heap.size (.slice ra5 lr rc5) (.slice xa5 lx xc5) (.slice ja5 lj jc5) xs5 R X J) := PD.out.on b; have T11 : Hid (RR w11 (.slice ra11 lr rc11) (.slice xa11 lx xc11) (.slice ja11 lj jc11) R X J) := p11.reads; have J11 : Hid (Ru.Box w11 c6 (.slice ra5 lr rc5) (.slice xa5 lx xc5) (.int .i64 now) (.slice ja5 lj jc5)) := JD.out.on b LD.out; have L11 : Hid (c6 < w11.heap.size) := Nat.lt_of_lt_of_le LD.out b.size; have V11 : Hid (w11.ownsRow w6.heap.size 2 1 (.slice ka al kc) al (ints AL)) := Tk1.row_on VD.out b; have H11 : ((w11.cell? ⟨w.heap.size, 0, none⟩ = some (.slice sr lr cr) ∧ w11.cell? ⟨w.heap.size, 1, none⟩ = some (.slice sx lx cx) ∧ w11.cell? ⟨w.heap.size, 2, none⟩ = some (.int .i64 now) ∧ w11.cell? ⟨w.heap.size, 3, none⟩ = some (.slice sj lj cj)) ∧ w11.cell? ⟨c6, 0, none⟩ = some (.slice ra5 lr rc5) ∧ w11.cell? ⟨c6, 1, none⟩ = some (.slice xa5 lx xc5) ∧ w11.cell? ⟨c6, 2, none⟩ = some (.int .i64 now) ∧ w11.cell? ⟨c6, 3, none⟩ = some (.slice ja5 lj jc5)) := ⟨(OLD.out w11 Q11.out).1, J11.out⟩; clear b p11)
    | (go_at_call 12; refine (ES.out _ _ _ _ _ _ _ P11.out.reads T11.out).mono ?_; rintro e w12 ⟨rfl, b⟩; have Q12 : Hid (Below wa.heap.size wa w12) := Q11.out.trans (b.mono Q11.out.size); have P12 : Hid (RO w12 wa.heap.size (.slice ra5 lr rc5) (.slice xa5 lx xc5) (.slice ja5 lj jc5) xs5 R X J) := P11.out.on b; have J12 : Hid (Ru.Box w12 c6 (.slice ra5 lr rc5) (.slice xa5 lx xc5) (.int .i64 now) (.slice ja5 lj jc5)) := J11.out.on b L11.out; have V12 : Hid (w12.ownsRow w6.heap.size 2 1 (.slice ka al kc) al (ints AL)) := Tk1.row_on V11.out b; have H12 : ((w12.cell? ⟨w.heap.size, 0, none⟩ = some (.slice sr lr cr) ∧ w12.cell? ⟨w.heap.size, 1, none⟩ = some (.slice sx lx cx) ∧ w12.cell? ⟨w.heap.size, 2, none⟩ = some (.int .i64 now) ∧ w12.cell? ⟨w.heap.size, 3, none⟩ = some (.slice sj lj cj)) ∧ w12.cell? ⟨c6, 0, none⟩ = some (.slice ra5 lr rc5) ∧ w12.cell? ⟨c6, 1, none⟩ = some (.slice xa5 lx xc5) ∧ w12.cell? ⟨c6, 2, none⟩ = some (.int .i64 now) ∧ w12.cell? ⟨c6, 3, none⟩ = some (.slice ja5 lj jc5)) := ⟨(OLD.out w12 Q12.out).1, J12.out⟩; clear b))
  clear k0 k1 k2 k3 j0 j1 j2 j3 H11 H12
  obtain ⟨j0, j1, j2, j3⟩ := J12.out
  go_wp2_with fail
  refine (MT.out w12 _ _ _ _ _ P12.out).mono ?_
  rintro e w13 ⟨⟨kq, rfl, hkq⟩, kb⟩
  have kq0 : ¬ kq < 0 := by omega
  have Q13 : Hid (Below wa.heap.size wa w13) := Q12.out.trans (kb.below Q12.out.size (fun g hg => (L6.out g hg).1))
  have V13 : Hid (w13.ownsRow w6.heap.size 2 1 (.slice ka al kc) al (ints AL)) := row_kb V12.out kb (fun g hg hc => by have := M8.out g hg; have := (L6.out g hc).2; omega)
  have RH13 : Hid (Lists.Reads w13 (.slice la al lc) AL) := (OLD.out w13 Q13.out).2.1
  clear j0 j1 j2 j3 kb hkq
  go_wp2_with fail
  refine (EL.out w13 _ _ (LR.out _ _ _ V13.out) RH13.out).mono ?_
  rintro e w14 ⟨rfl, b⟩
  have Q14 : Hid (Below wa.heap.size wa w14) := Q13.out.trans (b.mono Q13.out.size)
  have V14 : Hid (w14.ownsRow w6.heap.size 2 1 (.slice ka al kc) al (ints AL)) := Tk1.row_on V13.out b
  clear b RH13
  go_wp2_with fail
  refine (ML.out w14 _ _ V14.out).mono ?_
  rintro e w15 ⟨rfl, rl, gr⟩
  have kb15 : KB (fun b => (Value.slice ka al kc).ownBlock = some b) w14 w15 := KB.of_grown gr (fun k hk => hk)
  have Q15 : Hid (Below wa.heap.size wa w15) := Q14.out.trans (kb15.below Q14.out.size (fun g hg => by have := M8.out g hg; have := LAC.out; omega))
  have W15 : Hid (Lists.Reads w15 (.slice ka al kc) MLS) := rl
  clear rl gr kb15
  go_wp2_with fail
  refine (HL.out w15 _ W15.out).mono ?_
  rintro e w16 ⟨rfl, b⟩
  have Q16 : Hid (Below wa.heap.size wa w16) := Q15.out.trans (b.mono Q15.out.size)
  have W16 : Hid (Lists.Reads w16 (.slice ka al kc) MLS) := W15.out.on b
  clear b
  obtain ⟨⟨k0, k1, k2, k3⟩, _, m1⟩ := OLD.out w16 Q16.out
  have B16 : Hid (Below w.heap.size w w16) := m1
  clear m1
  go_wp2_with fail
  refine (TPH.out w16 B16.out).mono ?_
  rintro e w17 ⟨ra17, rc17, xa17, xc17, ja17, jc17, xs17, rfl, p17, b⟩
  have Q17 : Hid (Below wa.heap.size wa w17) := Q16.out.trans (b.mono Q16.out.size)
  have T17 : Hid (RR w17 (.slice ra17 lr rc17) (.slice xa17 lx xc17) (.slice ja17 lj jc17) R X J) := p17.reads
  have W17 : Hid (Lists.Reads w17 (.slice ka al kc) MLS) := W16.out.on b
  clear b k0 k1 k2 k3 p17
  go_wp2_with fail
  refine (IU.out w17 _ _ _ T17.out).mono ?_
  rintro e w18 ⟨ya, yc, rfl, y18, b⟩
  have Q18 : Hid (Below wa.heap.size wa w18) := Q17.out.trans (b.mono Q17.out.size)
  have W18 : Hid (Lists.Reads w18 (.slice ka al kc) MLS) := W17.out.on b
  have Y18 : Hid (Lists.Reads w18 (.slice ya al yc) AL) := LR.out _ _ _ y18
  have RH18 : Hid (Lists.Reads w18 (.slice la al lc) AL) := (OLD.out w18 Q18.out).2.1
  clear b y18
  go_wp2_with fail
  refine (EL.out w18 _ _ Y18.out RH18.out).mono ?_
  rintro e w20 ⟨rfl, b⟩
  have Q20 : Hid (Below wa.heap.size wa w20) := Q18.out.trans (b.mono Q18.out.size)
  have W20 : Hid (Lists.Reads w20 (.slice ka al kc) MLS) := W18.out.on b
  clear b
  go_wp2_with fail
  refine (HL.out w20 _ W20.out).mono ?_
  rintro e w21 ⟨rfl, b⟩
  have Q21 : Hid (Below wa.heap.size wa w21) := Q20.out.trans (b.mono Q20.out.size)
  have B21 : Hid (Below w.heap.size w w21) := (OLD.out w21 Q21.out).2.2
  clear b
  go_wp2_with fail
  go_ret
  exact ⟨rfl, B21.out⟩
end Go.Proofs.Ytpdmfhbpedimaaa.Ty
