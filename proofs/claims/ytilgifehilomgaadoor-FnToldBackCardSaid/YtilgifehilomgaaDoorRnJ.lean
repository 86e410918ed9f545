/- The program's ReadNumber, walked. -/
import Derived.Test.YtilgifehilomgaaDoorRnI
namespace Go.Proofs.YtilgifehilomgaaDoor.Dec
open Go.ChangeShapes Go.WideShapes Go.ChangeAt Go.RowKit Flt

theorem belowN {B : Nat} {a w : World} (h : Below B a w) (n : Nat) : Below B a (w.drewN n) := ⟨h.os, h.tape, h.output, h.size, h.block⟩
theorem eq_bytes2 (l : List UInt8) (s : ByteArray) : (l == s.toList) = decide (l = s.data.toList) := by
  rw [Lib.toList_data]
  by_cases h : l = s.data.toList
  · rw [h]; simp
  · rw [decide_eq_false h]; simpa using h
theorem eq_bytes3 (l : List UInt8) (s : ByteArray) : (!(l == s.toList)) = !decide (l = s.data.toList) := by rw [eq_bytes2]

/-- what memory must hold beside: the two errors of the parser -/
structure Errs (T : World → Prop) : Prop where
  syn : ∀ w, T w → ∃ te pe, w.cell? ⟨2, 0, none⟩ = some (.iface te pe)
  rng : ∀ w, T w → ∃ te pe, w.cell? ⟨3, 0, none⟩ = some (.iface te pe)

/-- the parser at any text: its number, or an error -/
def Pint (l : List UInt8) (e : Ending) : Prop :=
  (∃ v, Lib.parseIntB 64 l = .ok v ∧ e = .returned (.tuple #[.int .i64 v, .nilIface])) ∨ ((∀ v, Lib.parseIntB 64 l ≠ .ok v) ∧ ∃ (v : Int) (x : Value), e = .returned (.tuple #[.int .i64 v, .iface 73 x]))

theorem pint {T : World → Prop} (E : Errs T) (l : List UInt8) (w : World) (hT : T w) (hl : l.length ≤ 4000000) :
    Calls Tryd.prog 27 #[.string ⟨l.toArray⟩, .int .i64 10, .int .i64 64] w fun e w' => Pint l e ∧ Below w.heap.size w w' := by
  have hs : (⟨l.toArray⟩ : ByteArray).size = l.length := by show l.toArray.size = _; simp
  have hd : (⟨l.toArray⟩ : ByteArray).data.toList = l := by simp
  obtain ⟨r, hr⟩ : ∃ r, Lib.parseIntB 64 l = r := ⟨_, rfl⟩
  cases r with
  | ok v =>
    refine (Tryd.strconv_ParseInt_10_at64_ok ⟨l.toArray⟩ (by omega) v (by rw [hd]; exact hr) w).mono ?_
    rintro e w' ⟨rfl, h⟩
    refine ⟨.inl ⟨v, hr, rfl⟩, ?_⟩
    rcases h with rfl | ⟨t, rfl⟩
    · exact Below.refl _ _
    · exact ⟨rfl, rfl, rfl, by rw [Lib.bytesWorld_size]; omega, fun k hk => Lib.bytesWorld_at_old _ _ _ k (by omega)⟩
  | «syntax» =>
    obtain ⟨te, pe, hc⟩ := E.syn w hT
    refine (Tryd.strconv_ParseInt_10_at64_syntax ⟨l.toArray⟩ (by omega) (by rw [hd]; exact hr) _ w hc (.inr ⟨te, pe, rfl⟩)).mono ?_
    rintro e w' ⟨N, rfl, _, _, hb⟩
    exact ⟨.inr ⟨fun v h => (by rw [hr] at h; cases h), 0, _, rfl⟩, hb⟩
  | range =>
    obtain ⟨te, pe, hc⟩ := E.rng w hT
    refine (Tryd.strconv_ParseInt_10_at64_range ⟨l.toArray⟩ (by omega) (by rw [hd]; exact hr) _ w hc (.inr ⟨te, pe, rfl⟩)).mono ?_
    rintro e w' ⟨N, rfl, _, _, hb⟩
    exact ⟨.inr ⟨fun v h => (by rw [hr] at h; cases h), _, _, rfl⟩, hb⟩

set_option maxHeartbeats 4000000 in
set_option maxRecDepth 100000 in
theorem iread_any {T : World → Prop} (X0 : LibC T) (E0 : Errs T) (s : ByteArray) (w : World) (hT : T w) (hs : s.size ≤ 1048576) (V : Nat) (B : Bool) (h1 : (s.toList == [47]) = false) (h2 : (s.toList == [104, 105, 103, 104]) = false) (h3 : (s.toList == [108, 111, 119]) = false) (A0 : Ans s.data.toList V B) :
    Calls Tryd.prog 8 #[.string s] w (fb V B w) := by
  have A : Hid (Ans s.data.toList V B) := A0
  have F0 : Hid (V = 0 ∧ B = false → ∀ w', Below w.heap.size w w' → fb V B w (.returned (.tuple #[.float .f64 0, .bool false])) w') := fun h w' hb => by
    obtain ⟨rfl, rfl⟩ := h
    exact ⟨⟨0, rfl, by decide +kernel⟩, hb⟩
  have CU := cut13 s w hs
  have CL := cut_len s.data.toList
  have CT : Hid (∀ (z : Int) (p : Nat), z.natAbs ≤ 1000000000000000 → tz z p = s.data.toList → (Lib.cut s.data.toList [46]).2.1.length = p ∧ Lib.parseIntB 64 ((Lib.cut s.data.toList [46]).1 ++ (Lib.cut s.data.toList [46]).2.1) = .ok z) := fun z p hz h => cut_tz hz h
  have K : Hid (∀ w w', T w → Below w.heap.size w w' → T w') := X0.keep
  have PI : Hid (∀ (l : List UInt8) (w : World), T w → l.length ≤ 4000000 → Calls Tryd.prog 27 #[.string ⟨l.toArray⟩, .int .i64 10, .int .i64 64] w fun e w' => Pint l e ∧ Below w.heap.size w w') := fun l w a b => pint E0 l w a b
  have J2 : Hid (∀ (a b : List UInt8) (w : World), a.length + b.length ≤ 4000000 → Calls Tryd.prog 28 #[.slice (some ⟨w.heap.size, 0, none⟩) 2 2] (w.alloc (.cells #[.string ⟨a.toArray⟩, .string ⟨b.toArray⟩] 9)) fun e w' => e = .returned (.string ⟨(a ++ b).toArray⟩) ∧ Below w.heap.size w w') := fun a b w h => join2 a b w h
  have WI : Hid (∀ (z a b : Int) (w : World), Calls Tryd.prog 18 #[.int .i64 z, .int .i64 a, .int .i64 b] w fun e w' => e = .returned (.bool (decide (a ≤ z) && decide (z ≤ b))) ∧ w' = w) := fun z a b w => within_any z a b w
  have SP : Hid (∀ (z : Int) (p : Nat) (w : World), T w → z.natAbs ≤ 1000000000000000 → p ≤ 6 → Calls Tryd.prog 23 #[.int .i64 z, .int .i64 p] w fun e w' => e = .returned (.string ⟨(tz z p).toArray⟩) ∧ Below w.heap.size w w') := fun z p w h a b => ip X0 z p w h a b
  have PW : Hid (∀ (p : Nat) (w : World), p ≤ 6 → Calls Tryd.prog 22 #[.int .i64 p] w fun e w' => e = .returned (.float .f64 (tenF p)) ∧ w' = w) := fun p w h => power_any p w h
  have HT : Hid (T w) := hT
  have sl : s.data.toList.length = s.size := by simp
  rw [sl] at CL
  clear A0 X0 E0 hT sl
  obtain ⟨Q, hQ⟩ : ∃ Q : Ending → World → Prop, Q = fb V B w := ⟨_, rfl⟩
  rw [← hQ] at F0 ⊢
  have HQ : Hid (Q = fb V B w) := hQ
  clear hQ
  generalize Lib.cut s.data.toList [46] = c at *
  obtain ⟨a, b, f⟩ := c
  obtain ⟨la, lb⟩ := CL
  replace la : a.length ≤ s.size := la
  replace lb : b.length ≤ s.size := lb
  have bs : (⟨b.toArray⟩ : ByteArray).size = b.length := by show b.toArray.size = _; simp
  go_enter Tryd.func8, Tryd.ntmps8
  go_wp2_with fail
  refine CU.mono ?_
  rintro e w1 ⟨rfl, m, hw1⟩
  have B1 : Hid (Below w.heap.size w w1) := by
    show Below _ _ _
    rw [hw1]; exact belowN (Below.refl _ _) _
  clear hw1 CU
  by_cases hb6 : 6 < b.length
  · have DE : Hid (V = 0 ∧ B = false) := A.out.no (fun z p hz hp h => by
      have := (CT.out z p hz h).1
      have e : b.length = p := this
      omega)
    have i6 : (6 : Int) < (b.length : Int) := by omega
    go_wp2_with fail
    exact F0.out DE.out _ B1.out
  · have i6 : ¬ (6 : Int) < (b.length : Int) := by omega
    go_wp2_with fail
    refine (J2.out a b _ (by omega)).mono ?_
    rintro e w2 ⟨rfl, hb2⟩
    have B2 : Hid (Below w.heap.size w w2) := B1.out.trans (hb2.mono B1.out.size)
    clear hb2
    go_wp2_with fail
    refine (PI.out (a ++ b) _ (K.out _ _ HT.out B2.out) (by simp; omega)).mono ?_
    rintro e w3 ⟨hp, hb3⟩
    have B3 : Hid (Below w.heap.size w w3) := B2.out.trans (hb3.mono B2.out.size)
    clear hb3
    rcases hp with ⟨v, hv, rfl⟩ | ⟨nv, v, x, rfl⟩
    · have HP : Hid (∀ (z : Int) (p : Nat), z.natAbs ≤ 1000000000000000 → tz z p = s.data.toList → b.length = p ∧ v = z) := fun z p hz h => by
        obtain ⟨e1, e2⟩ := CT.out z p hz h
        refine ⟨e1, ?_⟩
        have e3 : Lib.parseIntB 64 (a ++ b) = .ok z := e2
        rw [hv] at e3
        injection e3
      clear hv
      by_cases hr : v.natAbs ≤ 1000000000000000
      · have W1 : Hid (∀ w : World, Calls Tryd.prog 18 #[.int .i64 v, .int .i64 (-1000000000000000), .int .i64 1000000000000000] w fun e w' => e = .returned (.bool true) ∧ w' = w) := fun w => by
          have := WI.out v (-1000000000000000) 1000000000000000 w
          rw [decide_eq_true (by omega), decide_eq_true (by omega)] at this
          exact this
        go_wp2_with fail
        refine (W1.out _).mono ?_
        rintro e wz ⟨rfl, hw⟩
        have hw' := hw.symm
        subst hw'
        clear hw
        go_wp2_with fail
        refine (SP.out v b.length _ (K.out _ _ HT.out B3.out) hr (by omega)).mono ?_
        rintro e w4 ⟨rfl, hb4⟩
        have B4 : Hid (Below w.heap.size w w4) := B3.out.trans (hb4.mono B3.out.size)
        clear hb4
        have eb3 := eq_bytes2 (tz v b.length) s
        have eb4 := eq_bytes3 (tz v b.length) s
        by_cases hz : tz v b.length = s.data.toList
        · have HV : Hid (V = opF .quo (cn (floatOfInt .f64 v)) (cn (tenF b.length)) ∧ B = true) := A.out.yes v b.length hr (by omega) hz
          rw [decide_eq_true hz] at eb3 eb4
          have hqu : ∀ x y w, (binOp .quo 24 (.float .f64 x) (.float .f64 y)).run Tryd.prog w = .ok (.float .f64 (opB .quo x y w)) (w.drewN (opD .quo x y)) := fun x y w => run_op Tryd.prog .quo (.inr (.inr (.inr rfl))) 22 x y w
          clear hz
          generalize tz v b.length = T1 at *
          go_wp2_with fail
          refine (PW.out b.length _ (by omega)).mono ?_
          rintro e wz ⟨rfl, hw⟩
          have hw' := hw.symm
          subst hw'
          clear hw
          go_wp2_with fail
          rw [HQ.out]
          refine ⟨⟨?vx, ?va, ?vb⟩, belowN B4.out _⟩
          case va => rw [HV.out.2]; rfl
          case vb => rw [HV.out.1]; exact cn_op _ _ _ _
        · have DE : Hid (V = 0 ∧ B = false) := A.out.no (fun z p hz' hp h => by
            obtain ⟨x1, x2⟩ := HP.out z p hz' h
            rw [← x1, ← x2] at h
            exact hz h)
          rw [decide_eq_false hz] at eb3 eb4
          clear hz
          generalize tz v b.length = T1 at *
          go_wp2_with fail
          exact F0.out DE.out _ B4.out
      · have DE : Hid (V = 0 ∧ B = false) := A.out.no (fun z p hz' hp h => by
          obtain ⟨x1, x2⟩ := HP.out z p hz' h
          rw [x2] at hr
          exact hr hz')
        have W1 : Hid (∀ w : World, Calls Tryd.prog 18 #[.int .i64 v, .int .i64 (-1000000000000000), .int .i64 1000000000000000] w fun e w' => e = .returned (.bool false) ∧ w' = w) := fun w => by
          have := WI.out v (-1000000000000000) 1000000000000000 w
          have e : (decide (-1000000000000000 ≤ v) && decide (v ≤ 1000000000000000)) = false := by
            rw [Bool.and_eq_false_iff, decide_eq_false_iff_not, decide_eq_false_iff_not]; omega
          rw [e] at this
          exact this
        go_wp2_with fail
        refine (W1.out _).mono ?_
        rintro e wz ⟨rfl, hw⟩
        have hw' := hw.symm
        subst hw'
        clear hw
        go_wp2_with fail
        exact F0.out DE.out _ B3.out
    · have DE : Hid (V = 0 ∧ B = false) := A.out.no (fun z p hz hp h => nv z (CT.out z p hz h).2)
      clear nv
      go_wp2_with fail
      exact F0.out DE.out _ B3.out
end Go.Proofs.YtilgifehilomgaaDoor.Dec
