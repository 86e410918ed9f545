/- CrashRun: the law. -/
import Derived.Test.YtpdmfhbpedimaaaJt
import Derived.Test.YtpdmfhbpedimaaaMc
import Derived.Deep.RegionHeld3
namespace Go.Proofs.Ytpdmfhbpedimaaa.Ty
open Go.ChangeShapes Go.WideShapes Go.ChangeAt Go.RowKit
open Go.Proofs.Ytpdmfhbpedimaaa.Lists Go.Proofs.Ytpdmfhbpedimaaa.Tm Go.Proofs.Ytpdmfhbpedimaaa.Rk Go.Proofs.Ytpdmfhbpedimaaa.Ru Go.Proofs.Ytpdmfhbpedimaaa.Al

theorem tl_bound (R : Tk.Ls) (h : ∀ i, i < R.length → (Tk.cl R i).length ≤ 1048576) : ∀ k, k ≤ R.length → tl R k ≤ k * 1048579
  | 0, _ => by simp [tl]
  | k + 1, hk => by have := tl_bound R h k (by omega); have := h k (by omega); unfold tl; omega
theorem nil_rr (w : World) : RR w nilS nilS nilS [] [] [] := ⟨Or.inl ⟨rfl, none, 0, rfl⟩, Or.inl ⟨rfl, none, 0, rfl⟩, Or.inl ⟨rfl, none, 0, rfl⟩⟩
theorem nil_ro (w : World) (base : Nat) : RO w base nilS nilS nilS [] [] [] [] :=
  ⟨⟨⟨⟨rfl, Or.inl ⟨rfl, rfl⟩⟩, fun i hi => absurd hi (by simp), fun i j a _ hj => absurd hj (by simp)⟩, ⟨rfl, Or.inl ⟨rfl, rfl⟩⟩, fun i a hi => absurd hi (by simp)⟩, ⟨[], ⟨rfl, Or.inl ⟨rfl, rfl⟩⟩, fun i hi => absurd hi (by simp)⟩⟩
theorem sm_ok {R : Tk.Ls} {X : List Int} {now : Int} {J : Jb.Ls} (h : okR R X now J = true) : R.length ≤ 1048576 ∧ (∀ i, i < R.length → (Tk.cl R i).length ≤ 1048576) ∧ X.length ≤ 1048576 ∧ J.length ≤ 1048576 := by
  obtain ⟨o1, _, o3⟩ := okR_parts h
  have F := fit_of o1
  have := F.r60
  have := F.x6
  exact ⟨by omega, fun i hi => by have := F.len i hi; omega, by omega, by omega⟩

theorem crash_both (R : Tk.Ls) (X : List Int) (now : Int) (J : Jb.Ls) : ∃ (AR : Tk.Ls) (AX : List Int) (AJ : Jb.Ls) (anow : Int), AR.length ≤ 1048576 ∧ (∀ i, i < AR.length → (Tk.cl AR i).length ≤ 1048576) ∧ AX.length ≤ 1048576 ∧ AJ.length ≤ 1048576 ∧
    (∀ w' r x j, RR w' r x j R X J → Calls Try.prog 20 #[rv r x now j] w' fun e w'' => ∃ ra rc xa xc ja jc, e = .returned (rv (.slice ra AR.length rc) (.slice xa AX.length xc) anow (.slice ja AJ.length jc)) ∧ RR w'' (.slice ra AR.length rc) (.slice xa AX.length xc) (.slice ja AJ.length jc) AR AX AJ ∧ Below w'.heap.size w' w'') ∧
    (∀ w' r x j, RR w' r x j R X J → Calls Try.prog 21 #[rv r x now j] w' fun e w'' => ∃ ra rc xa xc ja jc xs, e = .returned (rv (.slice ra AR.length rc) (.slice xa AX.length xc) anow (.slice ja AJ.length jc)) ∧ RO w'' w'.heap.size (.slice ra AR.length rc) (.slice xa AX.length xc) (.slice ja AJ.length jc) xs AR AX AJ ∧ Below w'.heap.size w' w'') := by
  cases h : okR R X now J
  · refine ⟨[], [], [], 0, by simp, fun i hi => absurd hi (by simp), by simp, by simp, fun w' r x j hh => ?_, fun w' r x j hh => ?_⟩
    · refine (scrash_no R X now J r x j w' hh h).mono ?_
      rintro e w2 ⟨rfl, hb⟩
      exact ⟨none, 0, none, 0, none, 0, rfl, nil_rr _, hb⟩
    · refine (icrash_no R X now J r x j w' hh h).mono ?_
      rintro e w2 ⟨rfl, hb⟩
      exact ⟨none, 0, none, 0, none, 0, [], rfl, nil_ro _ _, hb⟩
  · obtain ⟨s1, s2, s3, s4⟩ := sm_ok h
    refine ⟨R, X, crs J J.length, now, s1, s2, s3, by rw [crs_len]; exact s4, fun w' r x j hh => ?_, fun w' r x j hh => ?_⟩
    · rw [crs_len]
      exact scrash_yes R X now J r x j w' hh h
    · rw [crs_len]
      refine (icrash_yes R X now J r x j w' hh h).mono ?_
      rintro e w2 ⟨ra, rc, xa, xc, ja, jc, rfl, ⟨xs, h1⟩, hb⟩
      exact ⟨ra, rc, xa, xc, ja, jc, xs, rfl, h1, hb⟩
set_option maxRecDepth 20000 in
set_option maxHeartbeats 4000000 in
theorem crashLaw (w : World) (vr vx vj : Value) (now : Int) (R : Tk.Ls) (X : List Int) (J : Jb.Ls) (hh : RR w vr vx vj R X J) :
    Calls Try.prog 5 #[rv vr vx now vj] w fun e w' => e = .returned (.bool true) ∧ Below w.heap.size w w' := by
  obtain ⟨sr, cr, er⟩ := hh.1.form
  obtain ⟨sx, cx, ex⟩ := hh.2.1.form
  obtain ⟨sj, cj, ej⟩ := hh.2.2.form
  subst er ex ej
  obtain ⟨w0, hw0⟩ : ∃ w0, w0 = w.alloc (Obj.cells #[.slice sr R.length cr, .slice sx X.length cx, .int .i64 now, .slice sj J.length cj] 28) := ⟨_, rfl⟩
  have HW0 : Hid (w0 = w.alloc (Obj.cells #[.slice sr R.length cr, .slice sx X.length cx, .int .i64 now, .slice sj J.length cj] 28)) := hw0
  have B0 : Hid (Below w.heap.size w w0) := (by show Below _ _ _; rw [hw0]; exact (Below.refl _ _).alloc (Nat.le_refl _) _)
  have Z0 : Hid (w0.heap.size = w.heap.size + 1) := (by show _ = _; rw [hw0]; simp)
  have K0 : Hid (Ru.Box w0 w.heap.size (.slice sr R.length cr) (.slice sx X.length cx) (.int .i64 now) (.slice sj J.length cj)) := (by show Ru.Box _ _ _ _ _ _; rw [hw0]; unfold Ru.Box; simp [go_sem])
  have SZ : Hid (∀ w', Below w.heap.size w w' → Calls Try.prog 8 #[rv (.slice sr R.length cr) (.slice sx X.length cx) now (.slice sj J.length cj), .int .i64 1048576] w' fun e w'' => (∃ z : Int, e = .returned (.int .i64 z) ∧ (0 ≤ z → Sm R X J)) ∧ Below w'.heap.size w' w'') := fun w' hb => szR_any R X now J _ _ _ w' (hh.on hb)
  have TO : Hid (Sm R X J → ∀ w', Below w.heap.size w w' → Calls Try.prog 10 #[rv (.slice sr R.length cr) (.slice sx X.length cx) now (.slice sj J.length cj)] w' fun e w'' => ∃ ra rc xa xc ja jc xs, e = .returned (rv (.slice ra R.length rc) (.slice xa X.length xc) now (.slice ja J.length jc)) ∧ RO w'' w'.heap.size (.slice ra R.length rc) (.slice xa X.length xc) (.slice ja J.length jc) xs R X J ∧ Below w'.heap.size w' w'') := fun hl w' hb => (toR_any R X now J _ _ _ w' (hh.on hb) hl).mono (by rintro e w2 ⟨ra, rc, xa, xc, ja, jc, rfl, ⟨xs, h1⟩, h2⟩; exact ⟨ra, rc, xa, xc, ja, jc, xs, rfl, h1, h2⟩)
  have ES : Hid (∀ w' r x j r2 x2 j2, RR w' r x j R X J → RR w' r2 x2 j2 R X J → Calls Try.prog 12 #[rv r x now j, rv r2 x2 now j2] w' fun e w'' => e = .returned (.bool true) ∧ Below w'.heap.size w' w'') := fun w' r x j r2 x2 j2 h h' => Ru.eq_any R X J now r r2 x x2 j j2 w' h h'
  have MS : Hid (Sm R X J → ∀ w' base r x j xs, RO w' base r x j xs R X J → Calls Try.prog 14 #[rv r x now j, .int .i64 1] w' fun e w'' => (∃ k : Int, e = .returned (.int .i64 k) ∧ 0 ≤ k) ∧ KB (RB r x j xs R.length) w' w'') := fun hl w' base r x j xs h => (Ru.markRun_any w' base r x j now xs R X J h (by have := tl_bound R hl.2.1 R.length (Nat.le_refl _); have := hl.1; omega) hl.2.1 hl.2.2.1 hl.2.2.2).mono (by rintro e w2 ⟨rfl, h1, _⟩; exact ⟨⟨_, rfl, by omega⟩, h1⟩)
  have BX : Hid (∀ w' base r x j xs g, RO w' base r x j xs R X J → RB r x j xs R.length g → base ≤ g ∧ g < w'.heap.size) := fun w' base r x j xs g h hg => h.bs g hg
  obtain ⟨AR, AX, AJ, anow, s1, s2, s3, s4, SU0, IU0⟩ := crash_both R X now J
  have SU : Hid (∀ w' r x j, RR w' r x j R X J → Calls Try.prog 20 #[rv r x now j] w' fun e w'' => ∃ ra rc xa xc ja jc, e = .returned (rv (.slice ra AR.length rc) (.slice xa AX.length xc) anow (.slice ja AJ.length jc)) ∧ RR w'' (.slice ra AR.length rc) (.slice xa AX.length xc) (.slice ja AJ.length jc) AR AX AJ ∧ Below w'.heap.size w' w'') := SU0
  have IU : Hid (∀ w' r x j, RR w' r x j R X J → Calls Try.prog 21 #[rv r x now j] w' fun e w'' => ∃ ra rc xa xc ja jc xs, e = .returned (rv (.slice ra AR.length rc) (.slice xa AX.length xc) anow (.slice ja AJ.length jc)) ∧ RO w'' w'.heap.size (.slice ra AR.length rc) (.slice xa AX.length xc) (.slice ja AJ.length jc) xs AR AX AJ ∧ Below w'.heap.size w' w'') := IU0
  clear SU0 IU0
  have EQ : Hid (∀ w' r x j r2 x2 j2, RR w' r x j AR AX AJ → RR w' r2 x2 j2 AR AX AJ → Calls Try.prog 12 #[rv r x anow j, rv r2 x2 anow j2] w' fun e w'' => e = .returned (.bool true) ∧ Below w'.heap.size w' w'') := fun w' r x j r2 x2 j2 h h' => Ru.eq_any AR AX AJ anow r r2 x x2 j j2 w' h h'
  have tb : 1 + (tl AR AR.length : Int) ≤ 2305843009213693952 := by have := tl_bound AR s2 AR.length (Nat.le_refl _); omega
  have MR : Hid (∀ w' base r x j xs, RO w' base r x j xs AR AX AJ → Calls Try.prog 14 #[rv r x anow j, .int .i64 1] w' fun e w'' => e = .returned (.int .i64 (1 + (tl AR AR.length : Int) + (AX.length : Int) + (AJ.length : Int) * 2)) ∧ KB (RB r x j xs AR.length) w' w'' ∧ RR w'' r x j (mix 1 AR AR.length) (sq (1 + (tl AR AR.length : Int)) AX.length) (Jb.mkw (1 + (tl AR AR.length : Int) + (AX.length : Int)) AJ.length)) := fun w' base r x j xs h => (Ru.markRun_any w' base r x j anow xs AR AX AJ h tb s2 s3 s4).mono (by rintro e w2 ⟨rfl, h1, ys, h2, _⟩; exact ⟨rfl, h1, h2.reads⟩)
  have HR : Hid (∀ w' r x j, RR w' r x j (mix 1 AR AR.length) (sq (1 + (tl AR AR.length : Int)) AX.length) (Jb.mkw (1 + (tl AR AR.length : Int) + (AX.length : Int)) AJ.length) → Calls Try.prog 16 #[rv r x anow j, .int .i64 1] w' fun e w'' => e = .returned (.int .i64 (1 + (tl AR AR.length : Int) + (AX.length : Int) + (AJ.length : Int) * 2)) ∧ Below w'.heap.size w' w'') := fun w' r x j h => Ru.heldRun_any w' r x j anow AR AX.length AJ.length h tb s2 s3 s4
  have BR : Hid (∀ w' base r x j xs g, RO w' base r x j xs AR AX AJ → RB r x j xs AR.length g → base ≤ g ∧ g < w'.heap.size) := fun w' base r x j xs g h hg => h.bs g hg
  have KR : Hid (∀ (S : Nat → Prop) w' w'' base r x j xs, RO w' base r x j xs AR AX AJ → KB S w' w'' → (∀ g, RB r x j xs AR.length g → ¬ S g) → RO w'' base r x j xs AR AX AJ) := fun S w' w'' base r x j xs h hb hn => h.kb hb hn
  obtain ⟨KM, hKM⟩ : ∃ KM : Int, KM = 1 + (tl AR AR.length : Int) + (AX.length : Int) + (AJ.length : Int) * 2 := ⟨_, rfl⟩
  have km0 : ¬ KM < 0 := by omega
  rw [← hKM] at MR HR
  clear hKM tb s1 s2 s3 s4
  generalize mix 1 AR AR.length = MRR at *
  generalize sq (1 + (tl AR AR.length : Int)) AX.length = MX at *
  generalize Jb.mkw (1 + (tl AR AR.length : Int) + (AX.length : Int)) AJ.length = MJ at *
  generalize AR.length = an at *
  generalize AX.length = am at *
  generalize AJ.length = aj at *
  have hkk : (KM != KM) = false := by simp
  clear hh hw0
  generalize R.length = lr at *
  generalize X.length = lx at *
  generalize J.length = lj at *
  obtain ⟨k0, k1, k2, k3⟩ := K0.out
  go_enter Try.func5, Try.ntmps5
  go_wp2_with fail
  rw [← HW0.out]
  refine (SZ.out w0 B0.out).mono ?_
  rintro e w1 ⟨⟨z, rfl, y⟩, b⟩
  clear k0 k1 k2 k3
  have B1 : Hid (Below w.heap.size w w1) := B0.out.trans (b.mono B0.out.size)
  have S1 : Hid (w.heap.size < w1.heap.size) := (by have := Z0.out; have := b.size; show _ < _; omega)
  have K1 : Hid (Ru.Box w1 w.heap.size (.slice sr lr cr) (.slice sx lx cx) (.int .i64 now) (.slice sj lj cj)) := K0.out.on b (by have := Z0.out; omega)
  clear b HW0
  by_cases hneg : z < 0
  · go_wp2_with fail
    go_ret
    exact ⟨rfl, B1.out⟩
  have HLS := y (by omega)
  have TP := TO.out HLS
  have TPH : Hid (∀ w', Below w.heap.size w w' → Calls Try.prog 10 #[rv (.slice sr lr cr) (.slice sx lx cx) now (.slice sj lj cj)] w' fun e w'' => ∃ ra rc xa xc ja jc xs, e = .returned (rv (.slice ra lr rc) (.slice xa lx xc) now (.slice ja lj jc)) ∧ RO w'' w'.heap.size (.slice ra lr rc) (.slice xa lx xc) (.slice ja lj jc) xs R X J ∧ Below w'.heap.size w' w'') := TP
  have MT : Hid (∀ w' base r x j xs, RO w' base r x j xs R X J → Calls Try.prog 14 #[rv r x now j, .int .i64 1] w' fun e w'' => (∃ k : Int, e = .returned (.int .i64 k) ∧ 0 ≤ k) ∧ KB (RB r x j xs lr) w' w'') := MS.out HLS
  clear TO MS y HLS SZ TP
  obtain ⟨k0, k1, k2, k3⟩ := K1.out
  go_wp2_with fail
  refine (TPH.out w1 B1.out).mono ?_
  rintro e w2 ⟨ra2, rc2, xa2, xc2, ja2, jc2, xs2, rfl, p2, b⟩
  clear k0 k1 k2 k3
  have B2 : Hid (Below w.heap.size w w2) := B1.out.trans (b.mono B1.out.size)
  have K2 : Hid (Ru.Box w2 w.heap.size (.slice sr lr cr) (.slice sx lx cx) (.int .i64 now) (.slice sj lj cj)) := K1.out.on b S1.out
  have S2 : Hid (w.heap.size < w2.heap.size) := Nat.lt_of_lt_of_le S1.out b.size
  have P2 : Hid (RR w2 (.slice ra2 lr rc2) (.slice xa2 lx xc2) (.slice ja2 lj jc2) R X J) := p2.reads
  clear b p2
  go_wp2_with fail
  refine (SU.out w2 _ _ _ P2.out).mono ?_
  rintro e w3 ⟨ra, rc, xa, xc, ja, jc, rfl, p3, b⟩
  have B3 : Below w.heap.size w w3 := B2.out.trans (b.mono B2.out.size)
  have K3 := K2.out.on b S2.out
  have S3 : w.heap.size < w3.heap.size := Nat.lt_of_lt_of_le S2.out b.size
  clear P2
  obtain ⟨wa, hwa⟩ : ∃ y, y = w3.alloc (Obj.cells #[.slice ra an rc, .slice xa am xc, .int .i64 anow, .slice ja aj jc] 35) := ⟨_, rfl⟩
  have HWA : Hid (wa = w3.alloc (Obj.cells #[.slice ra an rc, .slice xa am xc, .int .i64 anow, .slice ja aj jc] 35)) := hwa
  have bA : Below w3.heap.size w3 wa := by rw [hwa]; exact (Below.refl _ _).alloc (Nat.le_refl _) _
  obtain ⟨b4, hb4⟩ : ∃ b4, b4 = w3.heap.size := ⟨_, rfl⟩
  have HB4 : Hid (b4 = w3.heap.size) := hb4
  have ZA : Hid (wa.heap.size = b4 + 1) := (by show _ = _; rw [hwa, hb4]; simp)
  have SBX : Hid (Ru.Box wa b4 (.slice ra an rc) (.slice xa am xc) (.int .i64 anow) (.slice ja aj jc)) := (by show Ru.Box _ _ _ _ _ _; rw [hwa, hb4]; unfold Ru.Box; simp [go_sem])
  have OLD : Hid (∀ wi, Below wa.heap.size wa wi → Ru.Box wi w.heap.size (.slice sr lr cr) (.slice sx lx cx) (.int .i64 now) (.slice sj lj cj) ∧ Ru.Box wi b4 (.slice ra an rc) (.slice xa am xc) (.int .i64 anow) (.slice ja aj jc) ∧ RR wi (.slice ra an rc) (.slice xa am xc) (.slice ja aj jc) AR AX AJ ∧ Below w.heap.size w wi) := fun wi hb => (by
    have za := ZA.out
    exact ⟨(K3.on bA S3).on hb (by omega), SBX.out.on hb (by omega), (p3.on bA).on hb, (B3.trans (bA.mono (Nat.le_of_lt S3))).trans (hb.mono (by omega))⟩)
  have LA : Hid (w.heap.size < wa.heap.size) := (by show _ < _; have := ZA.out; omega)
  clear hwa bA hb4 b p3 B3 K3 S3
  have QA : Hid (Below wa.heap.size wa wa) := Below.refl _ _
  obtain ⟨⟨k0, k1, k2, k3⟩, _, _, BA⟩ := OLD.out wa QA.out
  have BAH : Hid (Below w.heap.size w wa) := BA
  clear BA
  go_upto_region 6 with fail
  rw [← HWA.out, ← HB4.out]
  clear HWA
  go_wp2_with fail
  refine (TPH.out wa BAH.out).mono ?_
  rintro e w5 ⟨ra5, rc5, xa5, xc5, ja5, jc5, xs5, rfl, p5, b⟩
  clear k0 k1 k2 k3
  have Q5 : Below wa.heap.size wa w5 := b
  obtain ⟨w6, hw6⟩ : ∃ y, y = w5.alloc (Obj.cells #[.slice ra5 lr rc5, .slice xa5 lx xc5, .int .i64 now, .slice ja5 lj jc5] 35) := ⟨_, rfl⟩
  have HW6 : Hid (w6 = w5.alloc (Obj.cells #[.slice ra5 lr rc5, .slice xa5 lx xc5, .int .i64 now, .slice ja5 lj jc5] 35)) := hw6
  have b6 : Below w5.heap.size w5 w6 := by rw [hw6]; exact (Below.refl _ _).alloc (Nat.le_refl _) _
  obtain ⟨c6, hc6⟩ : ∃ c6, c6 = w5.heap.size := ⟨_, rfl⟩
  have HC6 : Hid (c6 = w5.heap.size) := hc6
  have Z6 : Hid (w6.heap.size = c6 + 1) := (by show _ = _; rw [hw6, hc6]; simp)
  have Q6 : Hid (Below wa.heap.size wa w6) := Q5.trans (b6.mono Q5.size)
  have J6 : Hid (Ru.Box w6 c6 (.slice ra5 lr rc5) (.slice xa5 lx xc5) (.int .i64 now) (.slice ja5 lj jc5)) := (by show Ru.Box _ _ _ _ _ _; rw [hw6, hc6]; unfold Ru.Box; simp [go_sem])
  have P6 : Hid (RO w6 wa.heap.size (.slice ra5 lr rc5) (.slice xa5 lx xc5) (.slice ja5 lj jc5) xs5 R X J) := p5.on b6
  have L6 : Hid (∀ g, RB (.slice ra5 lr rc5) (.slice xa5 lx xc5) (.slice ja5 lj jc5) xs5 lr g → wa.heap.size ≤ g ∧ g < c6) := fun g hg => (by rw [hc6]; exact BX.out w5 _ _ _ _ _ g p5 hg)
  have LAC : Hid (wa.heap.size ≤ c6) := (by rw [hc6]; exact Q5.size)
  clear hw6 b6 hc6 b p5 Q5
  obtain ⟨j0, j1, j2, j3⟩ := J6.out
  go_upto_region 7 with fail
  rw [← HW6.out, ← HC6.out]
  clear HW6
  go_wp2_with fail
  refine (IU.out w6 _ _ _ P6.out.reads).mono ?_
  rintro e w8 ⟨ga, gc, ha, hc, ia, ic, xs8, rfl, p8, b⟩
  clear j0 j1 j2 j3
  have Q8 : Below wa.heap.size wa w8 := Q6.out.trans (b.mono Q6.out.size)
  have J8 := J6.out.on b (by have := Z6.out; omega)
  have P8 := P6.out.on b
  have z8 := b.size
  obtain ⟨w9, hw9⟩ : ∃ y, y = w8.alloc (Obj.cells #[.slice ga an gc, .slice ha am hc, .int .i64 anow, .slice ia aj ic] 35) := ⟨_, rfl⟩
  have HW9 : Hid (w9 = w8.alloc (Obj.cells #[.slice ga an gc, .slice ha am hc, .int .i64 anow, .slice ia aj ic] 35)) := hw9
  have b9 : Below w8.heap.size w8 w9 := by rw [hw9]; exact (Below.refl _ _).alloc (Nat.le_refl _) _
  obtain ⟨c7, hc7⟩ : ∃ c7, c7 = w8.heap.size := ⟨_, rfl⟩
  have HC7 : Hid (c7 = w8.heap.size) := hc7
  have Z9 : Hid (w9.heap.size = c7 + 1) := (by show _ = _; rw [hw9, hc7]; simp)
  have Q9 : Hid (Below wa.heap.size wa w9) := Q8.trans (b9.mono Q8.size)
  have J9 : Hid (Ru.Box w9 c6 (.slice ra5 lr rc5) (.slice xa5 lx xc5) (.int .i64 now) (.slice ja5 lj jc5)) := J8.on b9 (by have := Z6.out; omega)
  have P9 : Hid (RO w9 wa.heap.size (.slice ra5 lr rc5) (.slice xa5 lx xc5) (.slice ja5 lj jc5) xs5 R X J) := P8.on b9
  have G9 : Hid (Ru.Box w9 c7 (.slice ga an gc) (.slice ha am hc) (.int .i64 anow) (.slice ia aj ic)) := (by show Ru.Box _ _ _ _ _ _; rw [hw9, hc7]; unfold Ru.Box; simp [go_sem])
  have O9 : Hid (RO w9 w6.heap.size (.slice ga an gc) (.slice ha am hc) (.slice ia aj ic) xs8 AR AX AJ) := p8.on b9
  have L9 : Hid (∀ g, RB (.slice ga an gc) (.slice ha am hc) (.slice ia aj ic) xs8 an g → c6 + 1 ≤ g ∧ g < c7) := fun g hg => (by rw [hc7, ← Z6.out]; exact BR.out w8 _ _ _ _ _ g p8 hg)
  have LC : Hid (c6 < c7) := (by show _ < _; have := Z6.out; omega)
  clear hw9 b9 hc7 b p8 J8 P8 Q8 z8
  obtain ⟨_, ⟨s0, s1, s2, s3⟩, rs, _⟩ := OLD.out w9 Q9.out
  have RS9 : Hid (RR w9 (.slice ra an rc) (.slice xa am xc) (.slice ja aj jc) AR AX AJ) := rs
  obtain ⟨g0, g1, g2, g3⟩ := G9.out
  go_upto_region 8 with fail
  rw [← HW9.out, ← HC7.out]
  clear HW9 rs
  go_wp2_with fail
  refine (EQ.out w9 _ _ _ _ _ _ O9.out.reads RS9.out).mono ?_
  rintro e w10 ⟨rfl, b⟩
  clear s0 s1 s2 s3 g0 g1 g2 g3 RS9
  have Q10 : Hid (Below wa.heap.size wa w10) := Q9.out.trans (b.mono Q9.out.size)
  have J10 : Hid (Ru.Box w10 c6 (.slice ra5 lr rc5) (.slice xa5 lx xc5) (.int .i64 now) (.slice ja5 lj jc5)) := J9.out.on b (by have := Z9.out; have := LC.out; omega)
  have P10 : Hid (RO w10 wa.heap.size (.slice ra5 lr rc5) (.slice xa5 lx xc5) (.slice ja5 lj jc5) xs5 R X J) := P9.out.on b
  have G10 : Hid (Ru.Box w10 c7 (.slice ga an gc) (.slice ha am hc) (.int .i64 anow) (.slice ia aj ic)) := G9.out.on b (by have := Z9.out; omega)
  have O10 : Hid (RO w10 w6.heap.size (.slice ga an gc) (.slice ha am hc) (.slice ia aj ic) xs8 AR AX AJ) := O9.out.on b
  have Z10 : Hid (c7 < w10.heap.size) := (by show _ < _; have := Z9.out; have := b.size; omega)
  clear b J9 P9 G9 O9
  obtain ⟨⟨k0, k1, k2, k3⟩, _, _, m1⟩ := OLD.out w10 Q10.out
  have BD : Hid (Below w.heap.size w w10.drew) := m1.drew
  have QD : Hid (Below wa.heap.size wa w10.drew) := Q10.out.drew
  have PD : Hid (RO w10.drew wa.heap.size (.slice ra5 lr rc5) (.slice xa5 lx xc5) (.slice ja5 lj jc5) xs5 R X J) := P10.out.on (Below.refl _ _).drew
  have OD : Hid (RO w10.drew w6.heap.size (.slice ga an gc) (.slice ha am hc) (.slice ia aj ic) xs8 AR AX AJ) := O10.out.on (Below.refl _ _).drew
  have JD : Hid (Ru.Box w10.drew c6 (.slice ra5 lr rc5) (.slice xa5 lx xc5) (.int .i64 now) (.slice ja5 lj jc5)) := J10.out
  have GD : Hid (Ru.Box w10.drew c7 (.slice ga an gc) (.slice ha am hc) (.int .i64 anow) (.slice ia aj ic)) := G10.out
  have LD : Hid (c6 < w10.drew.heap.size ∧ c7 < w10.drew.heap.size) := (by have h1 := Z10.out; have h2 := LC.out; exact ⟨show c6 < w10.heap.size by omega, h1⟩)
  obtain ⟨j0, j1, j2, j3⟩ := J10.out
  clear m1
  go_upto_region 10 with fail
  go_region_held3 (fun w' => (w'.cell? ⟨w.heap.size, 0, none⟩ = some (.slice sr lr cr) ∧ w'.cell? ⟨w.heap.size, 1, none⟩ = some (.slice sx lx cx) ∧ w'.cell? ⟨w.heap.size, 2, none⟩ = some (.int .i64 now) ∧ w'.cell? ⟨w.heap.size, 3, none⟩ = some (.slice sj lj cj)) ∧ w'.cell? ⟨c6, 0, none⟩ = some (.slice ra5 lr rc5) ∧ w'.cell? ⟨c6, 1, none⟩ = some (.slice xa5 lx xc5) ∧ w'.cell? ⟨c6, 2, none⟩ = some (.int .i64 now) ∧ w'.cell? ⟨c6, 3, none⟩ = some (.slice ja5 lj jc5)) (first | (exact ⟨⟨k0, k1, k2, k3⟩, j0, j1, j2, j3⟩) | (exact H11) | (exact H12) | go_keep)
    (first
    | (go_at_call 10; refine (TPH.out _ BD.out).mono ?_; rintro e w11 ⟨ra11, rc11, xa11, xc11, ja11, jc11, xs11, rfl, p11, b⟩; have Q11 : Hid (Below wa.heap.size wa w11) := QD.out.trans (b.mono QD.out.size); have P11 : Hid (RO w11 wa.heap.size (.slice ra5 lr rc5) (.slice xa5 lx xc5) (.slice ja5 lj jc5) xs5 R X J) := PD.out.on b; have T11 : Hid (RR w11 (.slice ra11 lr rc11) (.slice xa11 lx xc11) (.slice ja11 lj jc11) R X J) := p11.reads; have O11 : Hid (RO w11 w6.heap.size (.slice ga an gc) (.slice ha am hc) (.slice ia aj ic) xs8 AR AX AJ) := OD.out.on b; have J11 : Hid (Ru.Box w11 c6 (.slice ra5 lr rc5) (.slice xa5 lx xc5) (.int .i64 now) (.slice ja5 lj jc5)) := JD.out.on b LD.out.1; have G11 : Hid (Ru.Box w11 c7 (.slice ga an gc) (.slice ha am hc) (.int .i64 anow) (.slice ia aj ic)) := GD.out.on b LD.out.2; have L11 : Hid (c6 < w11.heap.size ∧ c7 < w11.heap.size) := ⟨Nat.lt_of_lt_of_le LD.out.1 b.size, Nat.lt_of_lt_of_le LD.out.2 b.size⟩; have H11 : ((w11.cell? ⟨w.heap.size, 0, none⟩ = some (.slice sr lr cr) ∧ w11.cell? ⟨w.heap.size, 1, none⟩ = some (.slice sx lx cx) ∧ w11.cell? ⟨w.heap.size, 2, none⟩ = some (.int .i64 now) ∧ w11.cell? ⟨w.heap.size, 3, none⟩ = some (.slice sj lj cj)) ∧ w11.cell? ⟨c6, 0, none⟩ = some (.slice ra5 lr rc5) ∧ w11.cell? ⟨c6, 1, none⟩ = some (.slice xa5 lx xc5) ∧ w11.cell? ⟨c6, 2, none⟩ = some (.int .i64 now) ∧ w11.cell? ⟨c6, 3, none⟩ = some (.slice ja5 lj jc5)) := ⟨(OLD.out w11 Q11.out).1, J11.out⟩; clear b p11)
    | (go_at_call 12; refine (ES.out _ _ _ _ _ _ _ P11.out.reads T11.out).mono ?_; rintro e w12 ⟨rfl, b⟩; have Q12 : Hid (Below wa.heap.size wa w12) := Q11.out.trans (b.mono Q11.out.size); have P12 : Hid (RO w12 wa.heap.size (.slice ra5 lr rc5) (.slice xa5 lx xc5) (.slice ja5 lj jc5) xs5 R X J) := P11.out.on b; have O12 : Hid (RO w12 w6.heap.size (.slice ga an gc) (.slice ha am hc) (.slice ia aj ic) xs8 AR AX AJ) := O11.out.on b; have J12 : Hid (Ru.Box w12 c6 (.slice ra5 lr rc5) (.slice xa5 lx xc5) (.int .i64 now) (.slice ja5 lj jc5)) := J11.out.on b L11.out.1; have G12 : Hid (Ru.Box w12 c7 (.slice ga an gc) (.slice ha am hc) (.int .i64 anow) (.slice ia aj ic)) := G11.out.on b L11.out.2; have Z12 : Hid (c7 < w12.heap.size) := Nat.lt_of_lt_of_le L11.out.2 b.size; have H12 : ((w12.cell? ⟨w.heap.size, 0, none⟩ = some (.slice sr lr cr) ∧ w12.cell? ⟨w.heap.size, 1, none⟩ = some (.slice sx lx cx) ∧ w12.cell? ⟨w.heap.size, 2, none⟩ = some (.int .i64 now) ∧ w12.cell? ⟨w.heap.size, 3, none⟩ = some (.slice sj lj cj)) ∧ w12.cell? ⟨c6, 0, none⟩ = some (.slice ra5 lr rc5) ∧ w12.cell? ⟨c6, 1, none⟩ = some (.slice xa5 lx xc5) ∧ w12.cell? ⟨c6, 2, none⟩ = some (.int .i64 now) ∧ w12.cell? ⟨c6, 3, none⟩ = some (.slice ja5 lj jc5)) := ⟨(OLD.out w12 Q12.out).1, J12.out⟩; clear b))
  clear k0 k1 k2 k3 j0 j1 j2 j3 H11 H12
  obtain ⟨j0, j1, j2, j3⟩ := J12.out
  go_wp2_with fail
  refine (MT.out w12 _ _ _ _ _ P12.out).mono ?_
  rintro e w13 ⟨⟨kq, rfl, hkq⟩, kb⟩
  have kq0 : ¬ kq < 0 := by omega
  have b13 : Below wa.heap.size w12 w13 := kb.below Q12.out.size (fun g hg => (L6.out g hg).1)
  have Q13 : Hid (Below wa.heap.size wa w13) := Q12.out.trans b13
  have G13 : Hid (Ru.Box w13 c7 (.slice ga an gc) (.slice ha am hc) (.int .i64 anow) (.slice ia aj ic)) := G12.out.kb kb Z12.out (fun hg => by have := (L6.out c7 hg).2; have := LC.out; omega)
  have O13 : Hid (RO w13 w6.heap.size (.slice ga an gc) (.slice ha am hc) (.slice ia aj ic) xs8 AR AX AJ) := KR.out _ w12 w13 _ _ _ _ _ O12.out kb (fun g hg hc => by have := (L9.out g hg).1; have := (L6.out g hc).2; omega)
  have Z13 : Hid (c7 < w13.heap.size) := Nat.lt_of_lt_of_le Z12.out kb.size
  clear j0 j1 j2 j3 kb b13 hkq
  obtain ⟨_, ⟨s0, s1, s2, s3⟩, rs, _⟩ := OLD.out w13 Q13.out
  have RS13 : Hid (RR w13 (.slice ra an rc) (.slice xa am xc) (.slice ja aj jc) AR AX AJ) := rs
  obtain ⟨g0, g1, g2, g3⟩ := G13.out
  clear rs
  go_wp2_with fail
  refine (EQ.out w13 _ _ _ _ _ _ O13.out.reads RS13.out).mono ?_
  rintro e w14 ⟨rfl, b⟩
  clear s0 s1 s2 s3 g0 g1 g2 g3 RS13
  have Q14 : Hid (Below wa.heap.size wa w14) := Q13.out.trans (b.mono Q13.out.size)
  have G14 : Hid (Ru.Box w14 c7 (.slice ga an gc) (.slice ha am hc) (.int .i64 anow) (.slice ia aj ic)) := G13.out.on b Z13.out
  have O14 : Hid (RO w14 w6.heap.size (.slice ga an gc) (.slice ha am hc) (.slice ia aj ic) xs8 AR AX AJ) := O13.out.on b
  have Z14 : Hid (c7 < w14.heap.size) := Nat.lt_of_lt_of_le Z13.out b.size
  clear b
  obtain ⟨g0, g1, g2, g3⟩ := G14.out
  go_wp2_with fail
  refine (MR.out w14 _ _ _ _ _ O14.out).mono ?_
  rintro e w15 ⟨rfl, kb, rm⟩
  have b15 : Below wa.heap.size w14 w15 := kb.below Q14.out.size (fun g hg => by have := (L9.out g hg).1; have := LAC.out; omega)
  have Q15 : Hid (Below wa.heap.size wa w15) := Q14.out.trans b15
  have G15 : Hid (Ru.Box w15 c7 (.slice ga an gc) (.slice ha am hc) (.int .i64 anow) (.slice ia aj ic)) := G14.out.kb kb Z14.out (fun hg => by have := (L9.out c7 hg).2; omega)
  have M15 : Hid (RR w15 (.slice ga an gc) (.slice ha am hc) (.slice ia aj ic) MRR MX MJ) := rm
  have Z15 : Hid (c7 < w15.heap.size) := Nat.lt_of_lt_of_le Z14.out kb.size
  clear g0 g1 g2 g3 kb rm b15
  obtain ⟨g0, g1, g2, g3⟩ := G15.out
  go_wp2_with fail
  refine (HR.out w15 _ _ _ M15.out).mono ?_
  rintro e w16 ⟨rfl, b⟩
  have Q16 : Hid (Below wa.heap.size wa w16) := Q15.out.trans (b.mono Q15.out.size)
  have G16 : Hid (Ru.Box w16 c7 (.slice ga an gc) (.slice ha am hc) (.int .i64 anow) (.slice ia aj ic)) := G15.out.on b Z15.out
  have M16 : Hid (RR w16 (.slice ga an gc) (.slice ha am hc) (.slice ia aj ic) MRR MX MJ) := M15.out.on b
  have Z16 : Hid (c7 < w16.heap.size) := Nat.lt_of_lt_of_le Z15.out b.size
  clear b g0 g1 g2 g3
  obtain ⟨⟨k0, k1, k2, k3⟩, _, _, m1⟩ := OLD.out w16 Q16.out
  have B16 : Hid (Below w.heap.size w w16) := m1
  clear m1
  go_wp2_with fail
  refine (TPH.out w16 B16.out).mono ?_
  rintro e w17 ⟨ra17, rc17, xa17, xc17, ja17, jc17, xs17, rfl, p17, b⟩
  have Q17 : Hid (Below wa.heap.size wa w17) := Q16.out.trans (b.mono Q16.out.size)
  have G17 : Hid (Ru.Box w17 c7 (.slice ga an gc) (.slice ha am hc) (.int .i64 anow) (.slice ia aj ic)) := G16.out.on b Z16.out
  have M17 : Hid (RR w17 (.slice ga an gc) (.slice ha am hc) (.slice ia aj ic) MRR MX MJ) := M16.out.on b
  have Z17 : Hid (c7 < w17.heap.size) := Nat.lt_of_lt_of_le Z16.out b.size
  have T17 : Hid (RR w17 (.slice ra17 lr rc17) (.slice xa17 lx xc17) (.slice ja17 lj jc17) R X J) := p17.reads
  clear b k0 k1 k2 k3 p17
  go_wp2_with fail
  refine (IU.out w17 _ _ _ T17.out).mono ?_
  rintro e w18 ⟨qa, qc, ta, tc, va, vc, xs18, rfl, p18, b⟩
  have Q18 : Below wa.heap.size wa w18 := Q17.out.trans (b.mono Q17.out.size)
  have G18 := G17.out.on b Z17.out
  have M18 := M17.out.on b
  have Z18 : c7 < w18.heap.size := Nat.lt_of_lt_of_le Z17.out b.size
  obtain ⟨w19, hw19⟩ : ∃ y, y = w18.alloc (Obj.cells #[.slice qa an qc, .slice ta am tc, .int .i64 anow, .slice va aj vc] 35) := ⟨_, rfl⟩
  have HW19 : Hid (w19 = w18.alloc (Obj.cells #[.slice qa an qc, .slice ta am tc, .int .i64 anow, .slice va aj vc] 35)) := hw19
  have b19 : Below w18.heap.size w18 w19 := by rw [hw19]; exact (Below.refl _ _).alloc (Nat.le_refl _) _
  obtain ⟨c12, hc12⟩ : ∃ c12, c12 = w18.heap.size := ⟨_, rfl⟩
  have HC12 : Hid (c12 = w18.heap.size) := hc12
  have Q19 : Hid (Below wa.heap.size wa w19) := Q18.trans (b19.mono Q18.size)
  have G19 : Hid (Ru.Box w19 c7 (.slice ga an gc) (.slice ha am hc) (.int .i64 anow) (.slice ia aj ic)) := G18.on b19 Z18
  have M19 : Hid (RR w19 (.slice ga an gc) (.slice ha am hc) (.slice ia aj ic) MRR MX MJ) := M18.on b19
  have Z19 : Hid (c7 < w19.heap.size) := Nat.lt_of_lt_of_le Z18 b19.size
  have H19 : Hid (Ru.Box w19 c12 (.slice qa an qc) (.slice ta am tc) (.int .i64 anow) (.slice va aj vc)) := (by show Ru.Box _ _ _ _ _ _; rw [hw19, hc12]; unfold Ru.Box; simp [go_sem])
  have R19 : Hid (RR w19 (.slice qa an qc) (.slice ta am tc) (.slice va aj vc) AR AX AJ) := p18.reads.on b19
  clear hw19 b19 hc12 b p18 G18 M18 Z18 Q18
  obtain ⟨_, ⟨s0, s1, s2, s3⟩, rs, _⟩ := OLD.out w19 Q19.out
  have RS19 : Hid (RR w19 (.slice ra an rc) (.slice xa am xc) (.slice ja aj jc) AR AX AJ) := rs
  obtain ⟨h0, h1, h2, h3⟩ := H19.out
  clear rs
  go_upto_region 25 with fail
  rw [← HW19.out, ← HC12.out]
  clear HW19
  go_wp2_with fail
  refine (EQ.out w19 _ _ _ _ _ _ R19.out RS19.out).mono ?_
  rintro e w20 ⟨rfl, b⟩
  have Q20 : Hid (Below wa.heap.size wa w20) := Q19.out.trans (b.mono Q19.out.size)
  have G20 : Hid (Ru.Box w20 c7 (.slice ga an gc) (.slice ha am hc) (.int .i64 anow) (.slice ia aj ic)) := G19.out.on b Z19.out
  have M20 : Hid (RR w20 (.slice ga an gc) (.slice ha am hc) (.slice ia aj ic) MRR MX MJ) := M19.out.on b
  clear b s0 s1 s2 s3 h0 h1 h2 h3
  obtain ⟨g0, g1, g2, g3⟩ := G20.out
  go_wp2_with fail
  refine (HR.out w20 _ _ _ M20.out).mono ?_
  rintro e w21 ⟨rfl, b⟩
  have Q21 : Hid (Below wa.heap.size wa w21) := Q20.out.trans (b.mono Q20.out.size)
  have B21 : Hid (Below w.heap.size w w21) := (OLD.out w21 Q21.out).2.2.2
  clear b g0 g1 g2 g3
  go_wp2_with fail
  go_ret
  exact ⟨rfl, B21.out⟩
end Go.Proofs.Ytpdmfhbpedimaaa.Ty
