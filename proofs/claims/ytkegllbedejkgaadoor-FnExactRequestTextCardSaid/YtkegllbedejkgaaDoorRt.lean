/- A request copied. -/
import Derived.Test.YtkegllbedejkgaaDoorRe
namespace Go.Proofs.YtkegllbedejkgaaDoor.Ix
open Go.ChangeShapes Go.WideShapes Go.ChangeAt Go.RowKit
open Lists (ints)
theorem own_down {w : World} {B B' n k : Nat} {e : TypeId} {v : Value} {xs : List Value} (h : w.ownsRow B e k v n xs) (hb : B' ≤ B) : w.ownsRow B' e k v n xs := by
  refine ⟨h.1, ?_⟩
  rcases h.2 with h2 | ⟨g, cap, cur, h1, h2, h3⟩
  · exact .inl h2
  · exact .inr ⟨g, cap, cur, h1, Nat.le_trans hb h2, h3⟩
/-- the three boxes of toRequest -/
structure B3x (b : Nat) (w w' : World) (vP vT vS vL o0 o1 o2 o3 : Value) : Prop where
  a : Q4 w' b 25 vP vT vS vL
  r : Q4 w' (b + 1) 28 (.slice none 0 0) (.slice none 0 0) (.slice none 0 0) (.slice none 0 0)
  o : Q4 w' (b + 1 + 1) 28 o0 o1 o2 o3
  bl : Below b w w'
  z : b + 3 ≤ w'.heap.size
theorem B3x.on {b : Nat} {w w' w'' : World} {vP vT vS vL o0 o1 o2 o3 : Value} (h : B3x b w w' vP vT vS vL o0 o1 o2 o3) (hb : Below w'.heap.size w' w'') : B3x b w w'' vP vT vS vL o0 o1 o2 o3 :=
  ⟨h.a.on hb h.a.lt, h.r.on hb h.r.lt, h.o.on hb h.o.lt, h.bl.trans (hb.mono (by have := h.z; omega)), Nat.le_trans h.z hb.size⟩
theorem B3x.s0 {b : Nat} {w w' : World} {vP vT vS vL o0 o1 o2 o3 : Value} (h : B3x b w w' vP vT vS vL o0 o1 o2 o3) (u : Value) : B3x b w (w'.setCell ⟨b + 1 + 1, 0, none⟩ u) vP vT vS vL u o1 o2 o3 :=
  ⟨h.a.keep (by omega), h.r.keep (by omega), h.o.s0 u, h.bl.setCell (p := ⟨b + 1 + 1, 0, none⟩) (by show b ≤ b + 1 + 1; omega) _, by have := h.z; simpa using this⟩
theorem B3x.s1 {b : Nat} {w w' : World} {vP vT vS vL o0 o1 o2 o3 : Value} (h : B3x b w w' vP vT vS vL o0 o1 o2 o3) (u : Value) : B3x b w (w'.setCell ⟨b + 1 + 1, 1, none⟩ u) vP vT vS vL o0 u o2 o3 :=
  ⟨h.a.keep (by omega), h.r.keep (by omega), h.o.s1 u, h.bl.setCell (p := ⟨b + 1 + 1, 1, none⟩) (by show b ≤ b + 1 + 1; omega) _, by have := h.z; simpa using this⟩
theorem B3x.s2 {b : Nat} {w w' : World} {vP vT vS vL o0 o1 o2 o3 : Value} (h : B3x b w w' vP vT vS vL o0 o1 o2 o3) (u : Value) : B3x b w (w'.setCell ⟨b + 1 + 1, 2, none⟩ u) vP vT vS vL o0 o1 u o3 :=
  ⟨h.a.keep (by omega), h.r.keep (by omega), h.o.s2 u, h.bl.setCell (p := ⟨b + 1 + 1, 2, none⟩) (by show b ≤ b + 1 + 1; omega) _, by have := h.z; simpa using this⟩
theorem B3x.s3 {b : Nat} {w w' : World} {vP vT vS vL o0 o1 o2 o3 : Value} (h : B3x b w w' vP vT vS vL o0 o1 o2 o3) (u : Value) : B3x b w (w'.setCell ⟨b + 1 + 1, 3, none⟩ u) vP vT vS vL o0 o1 o2 u :=
  ⟨h.a.keep (by omega), h.r.keep (by omega), h.o.s3 u, h.bl.setCell (p := ⟨b + 1 + 1, 3, none⟩) (by show b ≤ b + 1 + 1; omega) _, by have := h.z; simpa using this⟩

set_option maxRecDepth 20000 in
set_option maxHeartbeats 1000000 in
theorem toR_any (R : Rq) (vP vT vS vL : Value) (w : World) (h : RqI w vP vT vS vL R) (hf : FineR R) :
    Calls Tryd.prog 6 #[.agg #[vP, vT, vS, vL]] w fun e w' => ∃ u1 u2 u3 u4, e = .returned (.agg #[u1, u2, u3, u4]) ∧ RqO w' w.heap.size u1 u2 u3 u4 R ∧ Below w.heap.size w w' := by
  obtain ⟨⟨l1, _⟩, l2, l3, l4⟩ := hf
  have HR : Hid (∀ w', Below w.heap.size w w' → RqI w' vP vT vS vL R) := fun w' hb => h.on hb
  have T1 : Hid (∀ w', Below w.heap.size w w' → Calls Tryd.prog 15 #[vP] w' fun e w'' => e = .returned (.slice (some ⟨w'.heap.size, 0, none⟩) R.1.length R.1.length) ∧ w''.ownsRow w'.heap.size 9 1 (.slice (some ⟨w'.heap.size, 0, none⟩) R.1.length R.1.length) R.1.length (strs R.1) ∧ Below w'.heap.size w' w'') := fun w' hb => toS_any w' vP R.1 (h.on hb).p l1
  have T2 : Hid (∀ w', Below w.heap.size w w' → Calls Tryd.prog 16 #[vT] w' fun e w'' => e = .returned (.slice (some ⟨w'.heap.size, 0, none⟩) R.2.1.length R.2.1.length) ∧ w''.ownsRow w'.heap.size 2 1 (.slice (some ⟨w'.heap.size, 0, none⟩) R.2.1.length R.2.1.length) R.2.1.length (ints R.2.1) ∧ Below w'.heap.size w' w'') := fun w' hb => Lists.to_any w' vT R.2.1 (h.on hb).t l2
  have T3 : Hid (∀ w', Below w.heap.size w w' → Calls Tryd.prog 16 #[vS] w' fun e w'' => e = .returned (.slice (some ⟨w'.heap.size, 0, none⟩) R.2.2.1.length R.2.2.1.length) ∧ w''.ownsRow w'.heap.size 2 1 (.slice (some ⟨w'.heap.size, 0, none⟩) R.2.2.1.length R.2.2.1.length) R.2.2.1.length (ints R.2.2.1) ∧ Below w'.heap.size w' w'') := fun w' hb => Lists.to_any w' vS R.2.2.1 (h.on hb).s l3
  have T4 : Hid (∀ w', Below w.heap.size w w' → Calls Tryd.prog 16 #[vL] w' fun e w'' => e = .returned (.slice (some ⟨w'.heap.size, 0, none⟩) R.2.2.2.length R.2.2.2.length) ∧ w''.ownsRow w'.heap.size 2 1 (.slice (some ⟨w'.heap.size, 0, none⟩) R.2.2.2.length R.2.2.2.length) R.2.2.2.length (ints R.2.2.2) ∧ Below w'.heap.size w' w'') := fun w' hb => Lists.to_any w' vL R.2.2.2 (h.on hb).l l4
  obtain ⟨b, hb⟩ : ∃ b, b = w.heap.size := ⟨_, rfl⟩
  have HBb : Hid (b = w.heap.size) := hb
  obtain ⟨w0, hw0⟩ : ∃ w0, w0 = ((w.alloc (.cells #[vP, vT, vS, vL] 25)).alloc (.cells #[.slice none 0 0, .slice none 0 0, .slice none 0 0, .slice none 0 0] 28)).alloc (.cells #[.slice none 0 0, .slice none 0 0, .slice none 0 0, .slice none 0 0] 28) := ⟨_, rfl⟩
  have HW : Hid (w0 = ((w.alloc (.cells #[vP, vT, vS, vL] 25)).alloc (.cells #[.slice none 0 0, .slice none 0 0, .slice none 0 0, .slice none 0 0] 28)).alloc (.cells #[.slice none 0 0, .slice none 0 0, .slice none 0 0, .slice none 0 0] 28)) := hw0
  have X0 : Hid (B3x b w w0 vP vT vS vL (.slice none 0 0) (.slice none 0 0) (.slice none 0 0) (.slice none 0 0)) := (by
    show B3x _ _ _ _ _ _ _ _ _ _ _
    rw [hw0, hb]
    refine ⟨((Q4.new w 25 vP vT vS vL).alloc _).alloc _, ?_, ?_, ?_, by simp⟩
    · have := (Q4.new (w.alloc (.cells #[vP, vT, vS, vL] 25)) 28 (.slice none 0 0) (.slice none 0 0) (.slice none 0 0) (.slice none 0 0)).alloc (.cells #[.slice none 0 0, .slice none 0 0, .slice none 0 0, .slice none 0 0] 28)
      simpa using this
    · have := Q4.new ((w.alloc (.cells #[vP, vT, vS, vL] 25)).alloc (.cells #[.slice none 0 0, .slice none 0 0, .slice none 0 0, .slice none 0 0] 28)) 28 (.slice none 0 0) (.slice none 0 0) (.slice none 0 0) (.slice none 0 0)
      simpa using this
    · exact (((Below.refl _ _).alloc (Nat.le_refl _) _).alloc (by simp) _).alloc (by simp; omega) _)
  obtain ⟨_, _, e0⟩ := h.p.form
  obtain ⟨_, _, e1⟩ := h.t.form
  obtain ⟨_, _, e2⟩ := h.s.form
  obtain ⟨_, _, e3⟩ := h.l.form
  rw [← hb] at T1 T2 T3 T4
  clear h hw0 HR hb
  generalize hn1 : R.1.length = n1 at *
  generalize hn2 : R.2.1.length = n2 at *
  generalize hn3 : R.2.2.1.length = n3 at *
  generalize hn4 : R.2.2.2.length = n4 at *
  have HN : Hid (R.1.length = n1 ∧ R.2.1.length = n2 ∧ R.2.2.1.length = n3 ∧ R.2.2.2.length = n4) := ⟨hn1, hn2, hn3, hn4⟩
  clear hn1 hn2 hn3 hn4
  subst e0 e1 e2 e3
  go_enter Tryd.func6, Tryd.ntmps6
  go_upto_region 2 with fail
  rw [← HW.out, ← HBb.out]
  obtain ⟨a0, a1, a2, a3, af⟩ := X0.out.a.cells
  clear af
  go_wp2_with fail
  clear a0 a1 a2 a3
  refine (T1.out w0 X0.out.bl).mono ?_
  rintro e w1 ⟨rfl, x1, b1⟩
  have Y1 : Hid (B3x b w w1 _ _ _ _ _ _ _ _) := X0.out.on b1
  obtain ⟨s1, hs1⟩ : ∃ s, s = w0.heap.size := ⟨_, rfl⟩
  rw [← hs1] at x1 ⊢
  have Lb1 : Hid (b + 3 ≤ s1) := (by show _ ≤ _; rw [hs1]; exact X0.out.z)
  have Lt1 : Hid (s1 < w1.heap.size) := (x1.lt s1 rfl).2
  have G1_1 : Hid (w1.ownsRow s1 9 1 (.slice (some ⟨s1, 0, none⟩) n1 n1) n1 (strs R.1)) := x1
  obtain ⟨q0, q1, q2, q3, qf⟩ := Y1.out.o.cells
  have qf0 := qf 0
  obtain ⟨v1, hv1⟩ : ∃ v, v = w1.setCell ⟨b + 1 + 1, 0, none⟩ (.slice (some ⟨s1, 0, none⟩) n1 n1) := ⟨_, rfl⟩
  have HV1 : Hid (v1 = w1.setCell ⟨b + 1 + 1, 0, none⟩ (.slice (some ⟨s1, 0, none⟩) n1 n1)) := hv1
  have X1 : Hid (B3x b w v1 _ _ _ _ _ _ _ _) := (by show B3x _ _ _ _ _ _ _ _ _ _ _; rw [hv1]; exact Y1.out.s0 _)
  have H1_1 : Hid (v1.ownsRow s1 9 1 (.slice (some ⟨s1, 0, none⟩) n1 n1) n1 (strs R.1)) := (by show World.ownsRow _ _ _ _ _ _ _; rw [hv1]; exact own_set G1_1.out _ _ _ (by have := Lb1.out; omega))
  have Zv1 : Hid (v1.heap.size = w1.heap.size) := (by show _ = _; rw [hv1]; simp)
  clear b1 x1 hv1 hs1 qf X0
  clear G1_1
  go_upto_region 3 with fail
  rw [← HV1.out]
  clear q0 q1 q2 q3 qf0 HV1 Y1
  obtain ⟨a0, a1, a2, a3, af⟩ := X1.out.a.cells
  clear af
  go_wp2_with fail
  clear a0 a1 a2 a3
  refine (T2.out v1 X1.out.bl).mono ?_
  rintro e w2 ⟨rfl, x2, b2⟩
  have Y2 : Hid (B3x b w w2 _ _ _ _ _ _ _ _) := X1.out.on b2
  obtain ⟨s2, hs2⟩ : ∃ s, s = v1.heap.size := ⟨_, rfl⟩
  rw [← hs2] at x2 ⊢
  have Lb2 : Hid (b + 3 ≤ s2) := (by show _ ≤ _; rw [hs2]; exact X1.out.z)
  have Lt2 : Hid (s2 < w2.heap.size) := (x2.lt s2 rfl).2
  have G2_2 : Hid (w2.ownsRow s2 2 1 (.slice (some ⟨s2, 0, none⟩) n2 n2) n2 (ints R.2.1)) := x2
  have G1_2 : Hid (w2.ownsRow s1 9 1 (.slice (some ⟨s1, 0, none⟩) n1 n1) n1 (strs R.1)) := En.row_below H1_1.out b2
  obtain ⟨q0, q1, q2, q3, qf⟩ := Y2.out.o.cells
  have qf1 := qf 1
  obtain ⟨v2, hv2⟩ : ∃ v, v = w2.setCell ⟨b + 1 + 1, 1, none⟩ (.slice (some ⟨s2, 0, none⟩) n2 n2) := ⟨_, rfl⟩
  have HV2 : Hid (v2 = w2.setCell ⟨b + 1 + 1, 1, none⟩ (.slice (some ⟨s2, 0, none⟩) n2 n2)) := hv2
  have X2 : Hid (B3x b w v2 _ _ _ _ _ _ _ _) := (by show B3x _ _ _ _ _ _ _ _ _ _ _; rw [hv2]; exact Y2.out.s1 _)
  have H1_2 : Hid (v2.ownsRow s1 9 1 (.slice (some ⟨s1, 0, none⟩) n1 n1) n1 (strs R.1)) := (by show World.ownsRow _ _ _ _ _ _ _; rw [hv2]; exact own_set G1_2.out _ _ _ (by have := Lb1.out; omega))
  have H2_2 : Hid (v2.ownsRow s2 2 1 (.slice (some ⟨s2, 0, none⟩) n2 n2) n2 (ints R.2.1)) := (by show World.ownsRow _ _ _ _ _ _ _; rw [hv2]; exact own_set G2_2.out _ _ _ (by have := Lb2.out; omega))
  have Zv2 : Hid (v2.heap.size = w2.heap.size) := (by show _ = _; rw [hv2]; simp)
  have Ls2 : Hid (s1 < s2) := (by show _ < _; rw [hs2, Zv1.out]; exact Lt1.out)
  clear b2 x2 hv2 hs2 qf X1
  clear G1_2 G2_2
  clear H1_1
  go_upto_region 4 with fail
  rw [← HV2.out]
  clear q0 q1 q2 q3 qf1 HV2 Y2
  obtain ⟨a0, a1, a2, a3, af⟩ := X2.out.a.cells
  clear af
  go_wp2_with fail
  clear a0 a1 a2 a3
  refine (T3.out v2 X2.out.bl).mono ?_
  rintro e w3 ⟨rfl, x3, b3⟩
  have Y3 : Hid (B3x b w w3 _ _ _ _ _ _ _ _) := X2.out.on b3
  obtain ⟨s3, hs3⟩ : ∃ s, s = v2.heap.size := ⟨_, rfl⟩
  rw [← hs3] at x3 ⊢
  have Lb3 : Hid (b + 3 ≤ s3) := (by show _ ≤ _; rw [hs3]; exact X2.out.z)
  have Lt3 : Hid (s3 < w3.heap.size) := (x3.lt s3 rfl).2
  have G3_3 : Hid (w3.ownsRow s3 2 1 (.slice (some ⟨s3, 0, none⟩) n3 n3) n3 (ints R.2.2.1)) := x3
  have G1_3 : Hid (w3.ownsRow s1 9 1 (.slice (some ⟨s1, 0, none⟩) n1 n1) n1 (strs R.1)) := En.row_below H1_2.out b3
  have G2_3 : Hid (w3.ownsRow s2 2 1 (.slice (some ⟨s2, 0, none⟩) n2 n2) n2 (ints R.2.1)) := En.row_below H2_2.out b3
  obtain ⟨q0, q1, q2, q3, qf⟩ := Y3.out.o.cells
  have qf2 := qf 2
  obtain ⟨v3, hv3⟩ : ∃ v, v = w3.setCell ⟨b + 1 + 1, 2, none⟩ (.slice (some ⟨s3, 0, none⟩) n3 n3) := ⟨_, rfl⟩
  have HV3 : Hid (v3 = w3.setCell ⟨b + 1 + 1, 2, none⟩ (.slice (some ⟨s3, 0, none⟩) n3 n3)) := hv3
  have X3 : Hid (B3x b w v3 _ _ _ _ _ _ _ _) := (by show B3x _ _ _ _ _ _ _ _ _ _ _; rw [hv3]; exact Y3.out.s2 _)
  have H1_3 : Hid (v3.ownsRow s1 9 1 (.slice (some ⟨s1, 0, none⟩) n1 n1) n1 (strs R.1)) := (by show World.ownsRow _ _ _ _ _ _ _; rw [hv3]; exact own_set G1_3.out _ _ _ (by have := Lb1.out; omega))
  have H2_3 : Hid (v3.ownsRow s2 2 1 (.slice (some ⟨s2, 0, none⟩) n2 n2) n2 (ints R.2.1)) := (by show World.ownsRow _ _ _ _ _ _ _; rw [hv3]; exact own_set G2_3.out _ _ _ (by have := Lb2.out; omega))
  have H3_3 : Hid (v3.ownsRow s3 2 1 (.slice (some ⟨s3, 0, none⟩) n3 n3) n3 (ints R.2.2.1)) := (by show World.ownsRow _ _ _ _ _ _ _; rw [hv3]; exact own_set G3_3.out _ _ _ (by have := Lb3.out; omega))
  have Zv3 : Hid (v3.heap.size = w3.heap.size) := (by show _ = _; rw [hv3]; simp)
  have Ls3 : Hid (s2 < s3) := (by show _ < _; rw [hs3, Zv2.out]; exact Lt2.out)
  clear b3 x3 hv3 hs3 qf X2
  clear G1_3 G2_3 G3_3
  clear H1_2 H2_2
  go_upto_region 5 with fail
  rw [← HV3.out]
  clear q0 q1 q2 q3 qf2 HV3 Y3
  obtain ⟨a0, a1, a2, a3, af⟩ := X3.out.a.cells
  clear af
  go_wp2_with fail
  clear a0 a1 a2 a3
  refine (T4.out v3 X3.out.bl).mono ?_
  rintro e w4 ⟨rfl, x4, b4⟩
  have Y4 : Hid (B3x b w w4 _ _ _ _ _ _ _ _) := X3.out.on b4
  obtain ⟨s4, hs4⟩ : ∃ s, s = v3.heap.size := ⟨_, rfl⟩
  rw [← hs4] at x4 ⊢
  have Lb4 : Hid (b + 3 ≤ s4) := (by show _ ≤ _; rw [hs4]; exact X3.out.z)
  have Lt4 : Hid (s4 < w4.heap.size) := (x4.lt s4 rfl).2
  have G4_4 : Hid (w4.ownsRow s4 2 1 (.slice (some ⟨s4, 0, none⟩) n4 n4) n4 (ints R.2.2.2)) := x4
  have G1_4 : Hid (w4.ownsRow s1 9 1 (.slice (some ⟨s1, 0, none⟩) n1 n1) n1 (strs R.1)) := En.row_below H1_3.out b4
  have G2_4 : Hid (w4.ownsRow s2 2 1 (.slice (some ⟨s2, 0, none⟩) n2 n2) n2 (ints R.2.1)) := En.row_below H2_3.out b4
  have G3_4 : Hid (w4.ownsRow s3 2 1 (.slice (some ⟨s3, 0, none⟩) n3 n3) n3 (ints R.2.2.1)) := En.row_below H3_3.out b4
  obtain ⟨q0, q1, q2, q3, qf⟩ := Y4.out.o.cells
  have qf3 := qf 3
  obtain ⟨v4, hv4⟩ : ∃ v, v = w4.setCell ⟨b + 1 + 1, 3, none⟩ (.slice (some ⟨s4, 0, none⟩) n4 n4) := ⟨_, rfl⟩
  have HV4 : Hid (v4 = w4.setCell ⟨b + 1 + 1, 3, none⟩ (.slice (some ⟨s4, 0, none⟩) n4 n4)) := hv4
  have X4 : Hid (B3x b w v4 _ _ _ _ _ _ _ _) := (by show B3x _ _ _ _ _ _ _ _ _ _ _; rw [hv4]; exact Y4.out.s3 _)
  have H1_4 : Hid (v4.ownsRow s1 9 1 (.slice (some ⟨s1, 0, none⟩) n1 n1) n1 (strs R.1)) := (by show World.ownsRow _ _ _ _ _ _ _; rw [hv4]; exact own_set G1_4.out _ _ _ (by have := Lb1.out; omega))
  have H2_4 : Hid (v4.ownsRow s2 2 1 (.slice (some ⟨s2, 0, none⟩) n2 n2) n2 (ints R.2.1)) := (by show World.ownsRow _ _ _ _ _ _ _; rw [hv4]; exact own_set G2_4.out _ _ _ (by have := Lb2.out; omega))
  have H3_4 : Hid (v4.ownsRow s3 2 1 (.slice (some ⟨s3, 0, none⟩) n3 n3) n3 (ints R.2.2.1)) := (by show World.ownsRow _ _ _ _ _ _ _; rw [hv4]; exact own_set G3_4.out _ _ _ (by have := Lb3.out; omega))
  have H4_4 : Hid (v4.ownsRow s4 2 1 (.slice (some ⟨s4, 0, none⟩) n4 n4) n4 (ints R.2.2.2)) := (by show World.ownsRow _ _ _ _ _ _ _; rw [hv4]; exact own_set G4_4.out _ _ _ (by have := Lb4.out; omega))
  have Zv4 : Hid (v4.heap.size = w4.heap.size) := (by show _ = _; rw [hv4]; simp)
  have Ls4 : Hid (s3 < s4) := (by show _ < _; rw [hs4, Zv3.out]; exact Lt3.out)
  clear b4 x4 hv4 hs4 qf X3
  clear G1_4 G2_4 G3_4 G4_4
  clear H1_3 H2_3 H3_3
  go_upto_region 6 with fail
  rw [← HV4.out]
  clear q0 q1 q2 q3 qf3 HV4 Y4
  obtain ⟨q0, q1, q2, q3, qf⟩ := X4.out.o.cells
  obtain ⟨r0, r1, r2, r3, rf⟩ := X4.out.r.cells
  have rf0 := rf 0
  have rf1 := rf 1
  have rf2 := rf 2
  have rf3 := rf 3
  clear qf rf
  go_wp2_with fail
  refine bodyPost_ret (v := .agg #[.slice (some ⟨s1, 0, none⟩) n1 n1, .slice (some ⟨s2, 0, none⟩) n2 n2, .slice (some ⟨s3, 0, none⟩) n3 n3, .slice (some ⟨s4, 0, none⟩) n4 n4]) (by simp [results, Tryd.results6, go_sem, r0, r1, r2, r3]) rfl ⟨_, _, _, _, rfl, ⟨?_, ?_, ?_, ?_, ?_, ?_, ?_⟩, ?_⟩
  · have l := Lb1.out
    rw [HN.out.1, ← HBb.out]
    refine own_down (B := s1) ?_ (by omega)
    exact own_set (own_set (own_set (own_set H1_4.out _ _ _ (by omega)) _ _ _ (by omega)) _ _ _ (by omega)) _ _ _ (by omega)
  · have l := Lb2.out
    rw [HN.out.2.1, ← HBb.out]
    refine own_down (B := s2) ?_ (by omega)
    exact own_set (own_set (own_set (own_set H2_4.out _ _ _ (by omega)) _ _ _ (by omega)) _ _ _ (by omega)) _ _ _ (by omega)
  · have l := Lb3.out
    rw [HN.out.2.2.1, ← HBb.out]
    refine own_down (B := s3) ?_ (by omega)
    exact own_set (own_set (own_set (own_set H3_4.out _ _ _ (by omega)) _ _ _ (by omega)) _ _ _ (by omega)) _ _ _ (by omega)
  · have l := Lb4.out
    rw [HN.out.2.2.2, ← HBb.out]
    refine own_down (B := s4) ?_ (by omega)
    exact own_set (own_set (own_set (own_set H4_4.out _ _ _ (by omega)) _ _ _ (by omega)) _ _ _ (by omega)) _ _ _ (by omega)
  · intro g hg
    have l2 := Ls2.out; have l3 := Ls3.out; have l4 := Ls4.out
    simp [Value.ownBlock] at hg ⊢
    omega
  · intro g hg
    have l2 := Ls2.out; have l3 := Ls3.out; have l4 := Ls4.out
    simp [Value.ownBlock] at hg ⊢
    omega
  · intro g hg
    have l2 := Ls2.out; have l3 := Ls3.out; have l4 := Ls4.out
    simp [Value.ownBlock] at hg ⊢
    omega
  · rw [← HBb.out]
    exact (((X4.out.bl.setCell (p := ⟨b + 1, 0, none⟩) (by show b ≤ b + 1; omega) _).setCell (p := ⟨b + 1, 1, none⟩) (by show b ≤ b + 1; omega) _).setCell (p := ⟨b + 1, 2, none⟩) (by show b ≤ b + 1; omega) _).setCell (p := ⟨b + 1, 3, none⟩) (by show b ≤ b + 1; omega) _
end Go.Proofs.YtkegllbedejkgaaDoor.Ix
