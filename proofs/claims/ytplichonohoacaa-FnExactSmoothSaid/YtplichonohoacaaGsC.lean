/- Grads: the model. -/
import Derived.Test.YtplichonohoacaaGrA
import Derived.Deep.AppendLies
import Derived.Maps.AppendAt
namespace Go.Proofs.Ytplichonohoacaa.Gd
open Go.ChangeShapes Go.WideShapes Go.ChangeAt Go.RowKit
open Go.Proofs.Ytplichonohoacaa.Flt
attribute [local go_sem] run_store_float

def gradS (r c : Int) (L : List Nat) (i j : Int) : Nat × Nat :=
  if nan (nearV r c L i (j + 1)) = false ∧ nan (nearV r c L i (j - 1)) = false ∧ nan (nearV r c L (i + 1) j) = false ∧ nan (nearV r c L (i - 1) j) = false then
    (opF .quo (opF .sub (nearV r c L i (j + 1)) (nearV r c L i (j - 1))) two, opF .quo (opF .sub (nearV r c L (i + 1) j) (nearV r c L (i - 1) j)) two)
  else (qn, qn)
theorem gradS_is (r c : Int) (L : List Nat) (i j : Int) : gradS r c L i j = gradL ((nb r c i j).map (vAt c L)) := by
  unfold gradS nearV gradL nb cands
  cases h1 : there r c (i + 1) j <;> cases h2 : there r c i (j + 1) <;> cases h3 : there r c (i - 1) j <;> cases h4 : there r c i (j - 1) <;> simp [h1, h2, h3, h4, nan_qn, nan_cn, vAt]
  cases nan (L[(i * c + (j + 1)).toNat]?.getD 0) <;> cases nan (L[(i * c + (j - 1)).toNat]?.getD 0) <;> cases nan (L[((i + 1) * c + j).toNat]?.getD 0) <;> cases nan (L[((i - 1) * c + j).toNat]?.getD 0) <;> simp
theorem self_eq (x : Nat) : (ord x x == some .eq) = !nan x := by
  have := self_ne x
  cases h : nan x
  · rw [h] at this; simpa using this
  · rw [h] at this; simpa using this

/-- What the model has made so far, and what lies. -/
def St (w : World) (r c s ws st : Int) (L : List Nat) (wr : World) (v : Value) (k : Nat) : Prop :=
  (∃ P xs, wr.ownsRow (w.heap.size + 1) 51 2 v P.length xs ∧ Pr.Good xs P P.length ∧ P.length = k ∧ ∀ m, m < P.length → (cn (Pr.c0 P m), cn (Pr.c1 P m)) = gradN r c L m) ∧ Gx wr w.heap.size r c s ws st ∧ Below w.heap.size w wr ∧ w.heap.size < wr.heap.size
theorem St.on {w : World} {r c s ws st : Int} {L : List Nat} {wr wr' : World} {v : Value} {k : Nat} (h : St w r c s ws st L wr v k) (hb : Below wr.heap.size wr wr') : St w r c s ws st L wr' v k := by
  obtain ⟨⟨P, xs, h1, h2, h3, h4⟩, h5, h6, h7⟩ := h
  exact ⟨⟨P, xs, Pr.row_below h1 hb, h2, h3, h4⟩, h5.on hb h7, h6.trans (hb.mono h6.size), Nat.lt_of_lt_of_le h7 hb.size⟩
theorem St.set {w : World} {r c s ws st : Int} {L : List Nat} {wr : World} {v : Value} {k : Nat} (h : St w r c s ws st L wr v k) (bp o : Nat) (u : Value) (hb : w.heap.size < bp) (hne : ∀ g, v.ownBlock = some g → g ≠ bp) : St w r c s ws st L (wr.setCell ⟨bp, o, none⟩ u) v k := by
  obtain ⟨⟨P, xs, h1, h2, h3, h4⟩, h5, h6, h7⟩ := h
  have far : ∀ kk, kk ≠ bp → (wr.setCell ⟨bp, o, none⟩ u).heap[kk]? = wr.heap[kk]? := fun kk hkk => Below.heap_setCell wr ⟨bp, o, none⟩ u kk (by simpa using hkk)
  refine ⟨⟨P, xs, ?_, h2, h3, h4⟩, ?_, h6.setCell (p := ⟨bp, o, none⟩) (Nat.le_of_lt hb) _, by simpa using h7⟩
  · refine h1.kept (row := some bp) (Pr.grown_setCell (w := wr) ⟨rfl, rfl, rfl, Nat.le_refl _, fun _ _ _ => rfl⟩ o u) ?_
    cases e : v.ownBlock with
    | none => exact Or.inl rfl
    | some g => exact Or.inr fun q => by cases q; exact hne _ e rfl
  · have e0 := far w.heap.size (by omega)
    exact ⟨(World.cell?_of_block e0).trans h5.1, (World.cell?_of_block e0).trans h5.2.1, (World.cell?_of_block e0).trans h5.2.2.1, (World.cell?_of_block e0).trans h5.2.2.2.1, (World.cell?_of_block e0).trans h5.2.2.2.2⟩

theorem row_put {wr : World} {B n : Nat} {v : Value} {xs : List Value} (h1 : wr.ownsRow B 51 2 v n xs) (bp o : Nat) (u : Value) (hne : ∀ g, v.ownBlock = some g → g ≠ bp) : (wr.setCell ⟨bp, o, none⟩ u).ownsRow B 51 2 v n xs := by
  refine h1.kept (row := some bp) (Pr.grown_setCell (w := wr) ⟨rfl, rfl, rfl, Nat.le_refl _, fun _ _ _ => rfl⟩ o u) ?_
  cases e : v.ownBlock with
  | none => exact Or.inl rfl
  | some g => exact Or.inr fun q => by cases q; exact hne _ e rfl
theorem Gx.put {wr : World} {b bp o : Nat} {u : Value} {r c s ws st : Int} (h : Gx wr b r c s ws st) (hb : b ≠ bp) : Gx (wr.setCell ⟨bp, o, none⟩ u) b r c s ws st := by
  have e0 := Below.heap_setCell wr ⟨bp, o, none⟩ u b (by simpa using hb)
  exact ⟨(World.cell?_of_block e0).trans h.1, (World.cell?_of_block e0).trans h.2.1, (World.cell?_of_block e0).trans h.2.2.1, (World.cell?_of_block e0).trans h.2.2.2.1, (World.cell?_of_block e0).trans h.2.2.2.2⟩
theorem St.push {w wa w5 : World} {r c s ws st : Int} {L : List Nat} {v v' : Value} {P : Pr.Ls} {xs : List Value} {x y : Nat} (h1 : wa.ownsRow (w.heap.size + 1) 51 2 v P.length xs) (h2 : Pr.Good xs P P.length) (h4 : ∀ m, m < P.length → (cn (Pr.c0 P m), cn (Pr.c1 P m)) = gradN r c L m) (hG : Gx wa w.heap.size r c s ws st) (hB : Below w.heap.size w wa) (hlt : w.heap.size < wa.heap.size)
    (hown : w5.ownsRow (w.heap.size + 1) 51 2 v' (P.length + 1) (xs ++ [.float .f64 x, .float .f64 y])) (hgrow : wa.grownBy w5 v.ownBlock) (hxy : (cn x, cn y) = gradN r c L P.length) : St w r c s ws st L w5 v' (P.length + 1) := by
  have hl := h1.1
  have e0 : w5.heap[w.heap.size]? = wa.heap[w.heap.size]? := hgrow.block _ hlt (fun e => by have := (h1.lt _ e.symm).1; omega)
  refine ⟨⟨P ++ [(x, y)], xs ++ [.float .f64 x, .float .f64 y], ?_, Pr.good_snoc h2 (by omega), by simp, fun m hm => grads_snoc h4 hxy m hm⟩, ⟨(World.cell?_of_block e0).trans hG.1, (World.cell?_of_block e0).trans hG.2.1, (World.cell?_of_block e0).trans hG.2.2.1, (World.cell?_of_block e0).trans hG.2.2.2.1, (World.cell?_of_block e0).trans hG.2.2.2.2⟩, hB.grown hgrow (Nat.le_of_lt hlt) (fun g hg => by have := (h1.lt g hg).1; omega), Nat.lt_of_lt_of_le hlt hgrow.size⟩
  rw [List.length_append, List.length_singleton]
  exact hown

set_option maxHeartbeats 1000000 in
theorem sgrads_no (r c s ws st : Int) (a : Option Addr) (n cap : Nat) (w : World) (h : right r c s ws st n = false) :
    Calls Try.prog 12 #[gv r c s ws st, .slice a n cap] w fun e w' => ∃ v', e = .returned v' ∧ Pr.Row w' w.heap.size v' [] ∧ Below w.heap.size w w' := by
  obtain ⟨w0, hw0⟩ : ∃ w0, w0 = (w.alloc (Obj.cells #[.int .i64 r, .int .i64 c, .int .i64 s, .int .i64 ws, .int .i64 st] 26)).alloc (Obj.cells #[] 51) := ⟨_, rfl⟩
  have HW : Hid (w0 = (w.alloc (Obj.cells #[.int .i64 r, .int .i64 c, .int .i64 s, .int .i64 ws, .int .i64 st] 26)).alloc (Obj.cells #[] 51)) := hw0
  have B0 : Hid (Below w.heap.size w w0) := (by show Below _ _ _; rw [hw0]; exact ((Below.refl _ _).alloc (Nat.le_refl _) _).alloc (by simp) _)
  have R0 : Hid (w0.ownsRow w.heap.size 51 2 (.slice (some ⟨w.heap.size + 1, 0, none⟩) 0 0) 0 []) := (by
    show World.ownsRow _ _ _ _ _ _ _
    rw [hw0]
    have := World.ownsRow_lit (e := 51) (w.alloc (Obj.cells #[.int .i64 r, .int .i64 c, .int .i64 s, .int .i64 ws, .int .i64 st] 26)) #[] 0 (size := 2) (base := w.heap.size) (by simp) (Nat.zero_le _) rfl
    simpa using this)
  have RI : Hid (∀ w, Calls Try.prog 17 #[gv r c s ws st, .int .i64 (n : Int)] w fun e w' => e = .returned (.bool false) ∧ Below w.heap.size w w') := fun w => by have := sright_any r c s ws st n w; rwa [h] at this
  clear h hw0
  go_enter Try.func12, Try.ntmps12
  go_wp2_with fail
  rw [← HW.out]
  refine (RI.out _).mono ?_
  rintro e w1 ⟨rfl, b1⟩
  have B1 : Hid (Below w.heap.size w w1) := B0.out.trans (b1.mono B0.out.size)
  have R1 : Hid (w1.ownsRow w.heap.size 51 2 (.slice (some ⟨w.heap.size + 1, 0, none⟩) 0 0) 0 []) := Pr.row_below R0.out b1
  clear b1 HW
  go_wp2_with fail
  go_ret
  exact ⟨_, rfl, ⟨[], R1.out, fun i hi => absurd hi (by simp)⟩, B1.out⟩

set_option maxRecDepth 20000 in
set_option maxHeartbeats 4000000 in
theorem sgrads_yes (r c s ws st : Int) (L : List Nat) (v : Value) (w : World) (hL : Fls.Reads w v L) (h : right r c s ws st L.length = true) :
    Calls Try.prog 12 #[gv r c s ws st, v] w fun e w' => ∃ v' P, e = .returned v' ∧ Pr.Row w' w.heap.size v' P ∧ P.length = L.length ∧ (∀ k, k < P.length → (cn (Pr.c0 P k), cn (Pr.c1 P k)) = gradN r c L k) ∧ Below w.heap.size w w' := by
  have hR2 : gok r c s ws st = true ∧ (L.length : Int) = r * c := by unfold right at h; simpa only [Bool.and_eq_true, decide_eq_true_eq] using h
  obtain ⟨hr, hc, _⟩ := gok_parts hR2.1
  have hn := hR2.2
  obtain ⟨w0, hw0⟩ : ∃ w0, w0 = (w.alloc (Obj.cells #[.int .i64 r, .int .i64 c, .int .i64 s, .int .i64 ws, .int .i64 st] 26)).alloc (Obj.cells #[] 51) := ⟨_, rfl⟩
  have HW : Hid (w0 = (w.alloc (Obj.cells #[.int .i64 r, .int .i64 c, .int .i64 s, .int .i64 ws, .int .i64 st] 26)).alloc (Obj.cells #[] 51)) := hw0
  have S0 : Hid (St w r c s ws st L w0 (.slice (some ⟨w.heap.size + 1, 0, none⟩) 0 0) 0) := (by
    show St _ _ _ _ _ _ _ _ _ _
    rw [hw0]
    have := World.ownsRow_lit (e := 51) (w.alloc (Obj.cells #[.int .i64 r, .int .i64 c, .int .i64 s, .int .i64 ws, .int .i64 st] 26)) #[] 0 (size := 2) (base := w.heap.size + 1) (by simp) (Nat.zero_le _) rfl
    refine ⟨⟨[], [], by simpa using this, fun i hi => absurd hi (by simp), rfl, fun m hm => absurd hm (by simp)⟩, ?_, ((Below.refl _ _).alloc (Nat.le_refl _) _).alloc (by simp) _, by simp; omega⟩
    unfold Gx
    simp [go_sem])
  have RI : Hid (∀ w, Calls Try.prog 17 #[gv r c s ws st, .int .i64 (L.length : Int)] w fun e w' => e = .returned (.bool true) ∧ Below w.heap.size w w') := fun w => by have := sright_any r c s ws st L.length w; rwa [h] at this
  have NE : Hid (∀ (i j : Int) (u : World), Below w.heap.size w u → Calls Try.prog 19 #[gv r c s ws st, v, .int .i64 i, .int .i64 j] u fun e w' => ∃ x, e = .returned (.float .f64 x) ∧ cn x = nearV r c L i j ∧ Below u.heap.size u w') := fun i j u hu => near_any r c s ws st L v i j u (hL.on hu) hr hc hn
  obtain ⟨R, rfl⟩ : ∃ R : Nat, r = (R : Int) := ⟨r.toNat, by omega⟩
  obtain ⟨C, rfl⟩ : ∃ C : Nat, c = (C : Int) := ⟨c.toNat, by omega⟩
  have GS : Hid (∀ I J : Nat, J < C → gradS R C L I J = gradN R C L (I * C + J)) := fun I J hJ => by
    rw [gradS_is]
    unfold gradN
    have e1 : ((I * C + J : Nat) : Int) / (C : Int) = (I : Int) := by
      rw [← Int.natCast_ediv, Nat.mul_comm, Nat.mul_add_div (by omega), Nat.div_eq_of_lt hJ, Nat.add_zero]
    have e2 : ((I * C + J : Nat) : Int) % (C : Int) = (J : Int) := by
      rw [← Int.natCast_emod, Nat.mul_comm, Nat.mul_add_mod, Nat.mod_eq_of_lt hJ]
    rw [e1, e2]
  have hnn : Hid (L.length = R * C) := (by show _ = _; rw [← Int.natCast_mul] at hn; exact Int.ofNat.inj hn)
  obtain ⟨a, cap, rfl⟩ := hL.form
  obtain ⟨n, hn1⟩ : ∃ n, n = L.length := ⟨_, rfl⟩
  rw [← hn1] at RI NE hnn ⊢
  have bR : R ≤ 64 := by omega
  have bC : C ≤ 64 := by omega
  clear hL h hR2 hn hn1 hw0 hr hc
  go_enter Try.func12, Try.ntmps12
  go_wp2_with fail
  rw [← HW.out]
  refine (RI.out _).mono ?_
  rintro e w1 ⟨rfl, b1⟩
  have S1 : Hid (St w R C s ws st L w1 (.slice (some ⟨w.heap.size + 1, 0, none⟩) 0 0) 0) := S0.out.on b1
  clear b1 HW S0 RI
  go_wp2_with fail
  go_loopw [5, 6] (fun v i wr => ∃ I : Nat, I ≤ R ∧ i = .int .i64 I ∧ Hid (St w R C s ws st L wr v (I * C))) (fun _ i _ => R - (intOf i).toNat)
  case atStart => exact ⟨0, Nat.zero_le _, rfl, (by show St _ _ _ _ _ _ _ _ _ _; rw [Nat.zero_mul]; exact S1.out)⟩
  case round =>
    obtain ⟨I, hI, rfl, SI⟩ := hrel
    clear S1
    obtain ⟨g0, g1, g2, g3, g4⟩ := SI.out.2.1
    by_cases hlt : I < R
    · have i3 : (I : Int) < (R : Int) := by omega
      go_wp2_with fail
      clear g0 g1 g2 g3 g4
      go_loopw [5, 7] (fun v j wr => ∃ J : Nat, J ≤ C ∧ j = .int .i64 J ∧ Hid (St w R C s ws st L wr v (I * C + J))) (fun _ j _ => C - (intOf j).toNat)
      case atStart => exact ⟨0, Nat.zero_le _, rfl, SI.out⟩
      case round =>
        obtain ⟨J, hJ, rfl, SJ⟩ := hrel
        clear SI
        obtain ⟨g0, g1, g2, g3, g4⟩ := SJ.out.2.1
        by_cases hltJ : J < C
        · have j3 : (J : Int) < (C : Int) := by omega
          have q1 : IntKind.i64.wrap ((J : Int) + 1) = (J : Int) + 1 := IntWalk.i64_in _ (by omega)
          have q2 : IntKind.i64.wrap ((J : Int) - 1) = (J : Int) - 1 := IntWalk.i64_in _ (by omega)
          have q3 : IntKind.i64.wrap ((I : Int) + 1) = (I : Int) + 1 := IntWalk.i64_in _ (by omega)
          have q4 : IntKind.i64.wrap ((I : Int) - 1) = (I : Int) - 1 := IntWalk.i64_in _ (by omega)
          go_wp2_with fail
          refine (NE.out (I) ((J : Int) + 1) wr SJ.out.2.2.1).mono ?_
          rintro e va ⟨x1, rfl, hx1, b1⟩
          have HX1 : Hid (cn x1 = nearV R C L (I) ((J : Int) + 1)) := hx1
          have Sva : Hid (St w R C s ws st L va u5 (I * C + J)) := SJ.out.on b1
          clear b1 hx1 g0 g1 g2 g3 g4 SJ
          obtain ⟨g0, g1, g2, g3, g4⟩ := Sva.out.2.1
          go_wp2_with fail
          refine (NE.out (I) ((J : Int) - 1) va Sva.out.2.2.1).mono ?_
          rintro e vb ⟨x2, rfl, hx2, b1⟩
          have HX2 : Hid (cn x2 = nearV R C L (I) ((J : Int) - 1)) := hx2
          have Svb : Hid (St w R C s ws st L vb u5 (I * C + J)) := Sva.out.on b1
          clear b1 hx2 g0 g1 g2 g3 g4 Sva
          obtain ⟨g0, g1, g2, g3, g4⟩ := Svb.out.2.1
          go_wp2_with fail
          refine (NE.out ((I : Int) + 1) (J) vb Svb.out.2.2.1).mono ?_
          rintro e vc ⟨x3, rfl, hx3, b1⟩
          have HX3 : Hid (cn x3 = nearV R C L ((I : Int) + 1) (J)) := hx3
          have Svc : Hid (St w R C s ws st L vc u5 (I * C + J)) := Svb.out.on b1
          clear b1 hx3 g0 g1 g2 g3 g4 Svb
          obtain ⟨g0, g1, g2, g3, g4⟩ := Svc.out.2.1
          go_wp2_with fail
          refine (NE.out ((I : Int) - 1) (J) vc Svc.out.2.2.1).mono ?_
          rintro e vd ⟨x4, rfl, hx4, b1⟩
          have HX4 : Hid (cn x4 = nearV R C L ((I : Int) - 1) (J)) := hx4
          have Svd : Hid (St w R C s ws st L vd u5 (I * C + J)) := Svc.out.on b1
          clear b1 hx4 g0 g1 g2 g3 g4 Svc
          obtain ⟨g0, g1, g2, g3, g4⟩ := Svd.out.2.1
          go_wp2_with fail
          refine (Flt.none_any vd).mono ?_
          rintro e ve ⟨z1, rfl, hz1, _, hw⟩
          have HZ1 : Hid (cn z1 = qn) := hz1
          have Sve : Hid (St w R C s ws st L ve u5 (I * C + J)) := Svd.out.on (by rw [hw]; exact (Below.refl _ _).drew)
          clear hw hz1 Svd g0 g1 g2 g3 g4
          obtain ⟨g0, g1, g2, g3, g4⟩ := Sve.out.2.1
          go_wp2_with fail
          refine (Flt.none_any ve).mono ?_
          rintro e vf ⟨z2, rfl, hz2, _, hw⟩
          have HZ2 : Hid (cn z2 = qn) := hz2
          have Svf : Hid (St w R C s ws st L vf u5 (I * C + J)) := Sve.out.on (by rw [hw]; exact (Below.refl _ _).drew)
          clear hw hz2 Sve g0 g1 g2 g3 g4
          obtain ⟨g0, g1, g2, g3, g4⟩ := Svf.out.2.1
          obtain ⟨⟨P, xs, h1, h2, h3, h4⟩, hG, hB, hlt2⟩ := Svf.out
          have H1 : Hid (vf.ownsRow (w.heap.size + 1) 51 2 u5 P.length xs) := h1
          have H2 : Hid (Pr.Good xs P P.length ∧ ∀ m, m < P.length → (cn (Pr.c0 P m), cn (Pr.c1 P m)) = gradN R C L m) := ⟨h2, h4⟩
          have H3 : Hid (Gx vf w.heap.size R C s ws st ∧ Below w.heap.size w vf ∧ w.heap.size < vf.heap.size) := ⟨hG, hB, hlt2⟩
          have HP : Hid (P.length = I * C + J) := h3
          have HK : Hid (gradN R C L P.length = gradS R C L I J) := (by show _ = _; rw [h3]; exact (GS.out I J hltJ).symm)
          have LP : P.length ≤ 5000 := (by rw [h3]; have := Nat.mul_le_mul (show I ≤ 64 by omega) (show C ≤ 64 by omega); omega)
          have zf : w.heap.size < vf.heap.size := hlt2
          have nlb : Hid (∀ g, u5.ownBlock = some g → g ≠ vf.heap.size) := fun g hg => by have := (h1.lt g hg).2; omega
          obtain ⟨i0, hi0, hz0, hz1, hz2⟩ := info_parts Try.info51
          have QB : Hid (∀ o : Obj, ((vf.alloc (Obj.cells #[.float .f64 z1, .float .f64 z2] 51)).alloc o).ownsRow (w.heap.size + 1) 51 2 u5 P.length xs) := fun o => Pr.row_below (Pr.row_below h1 ((Below.refl _ _).alloc (Nat.le_refl _) _)) ((Below.refl _ _).alloc (Nat.le_refl _) _)
          have QG : Hid (∀ o : Obj, Gx ((vf.alloc (Obj.cells #[.float .f64 z1, .float .f64 z2] 51)).alloc o) w.heap.size R C s ws st ∧ Below w.heap.size w ((vf.alloc (Obj.cells #[.float .f64 z1, .float .f64 z2] 51)).alloc o)) := fun o => ⟨(hG.on ((Below.refl _ _).alloc (Nat.le_refl _) _) hlt2).on ((Below.refl _ _).alloc (Nat.le_refl _) _) (by simp; omega), (hB.alloc hB.size _).alloc (by simp; omega) _⟩
          have QA : Hid (∀ (m : Nat) (X Y : Value) (o : Obj), (((((vf.alloc (Obj.cells #[.float .f64 z1, .float .f64 z2] 51)).drewN m).setCell ⟨vf.heap.size, 0, none⟩ X).setCell ⟨vf.heap.size, 1, none⟩ Y).alloc o).ownsRow (w.heap.size + 1) 51 2 u5 P.length xs) := fun m X Y o => Pr.row_below (row_put (row_put (wr := (vf.alloc (Obj.cells #[.float .f64 z1, .float .f64 z2] 51)).drewN m) (Pr.row_below h1 (below_drewN ((Below.refl _ _).alloc (Nat.le_refl _) _) m)) vf.heap.size 0 X nlb.out) vf.heap.size 1 Y nlb.out) ((Below.refl _ _).alloc (Nat.le_refl _) _)
          have QH : Hid (∀ (m : Nat) (X Y : Value) (o : Obj), Gx (((((vf.alloc (Obj.cells #[.float .f64 z1, .float .f64 z2] 51)).drewN m).setCell ⟨vf.heap.size, 0, none⟩ X).setCell ⟨vf.heap.size, 1, none⟩ Y).alloc o) w.heap.size R C s ws st ∧ Below w.heap.size w (((((vf.alloc (Obj.cells #[.float .f64 z1, .float .f64 z2] 51)).drewN m).setCell ⟨vf.heap.size, 0, none⟩ X).setCell ⟨vf.heap.size, 1, none⟩ Y).alloc o)) := fun m X Y o => ⟨(Gx.put (Gx.put (wr := (vf.alloc (Obj.cells #[.float .f64 z1, .float .f64 z2] 51)).drewN m) (hG.on (below_drewN ((Below.refl _ _).alloc (Nat.le_refl _) _) m) hlt2) (by omega)) (by omega)).on ((Below.refl _ _).alloc (Nat.le_refl _) _) (by simp; omega), (((below_drewN (hB.alloc hB.size _) m).setCell (p := ⟨vf.heap.size, 0, none⟩) (Nat.le_of_lt hlt2) _).setCell (p := ⟨vf.heap.size, 1, none⟩) (Nat.le_of_lt hlt2) _).alloc (by simp; omega) _⟩
          have CB : Hid (∀ j u, [Value.float .f64 z1, Value.float .f64 z2][j]? = some u → ((vf.alloc (Obj.cells #[.float .f64 z1, .float .f64 z2] 51)).alloc (Obj.cells #[.float .f64 z1, .float .f64 z2] 51)).cell? ((⟨vf.heap.size + 1, 0, none⟩ : Addr).add j) = some u) := (by
            have q := Pr.cell_news (vf.alloc (Obj.cells #[.float .f64 z1, .float .f64 z2] 51)) (.float .f64 z1) (.float .f64 z2) 51
            rw [World.size_alloc] at q
            exact q)
          have CA : Hid (∀ (m : Nat) (X Y : Value), ∀ j u, [X, Y][j]? = some u → (((((vf.alloc (Obj.cells #[.float .f64 z1, .float .f64 z2] 51)).drewN m).setCell ⟨vf.heap.size, 0, none⟩ X).setCell ⟨vf.heap.size, 1, none⟩ Y).alloc (Obj.cells #[X, Y] 51)).cell? ((⟨vf.heap.size + 1, 0, none⟩ : Addr).add j) = some u) := fun m X Y => by
            have q := Pr.cell_news ((((vf.alloc (Obj.cells #[.float .f64 z1, .float .f64 z2] 51)).drewN m).setCell ⟨vf.heap.size, 0, none⟩ X).setCell ⟨vf.heap.size, 1, none⟩ Y) X Y 51
            have e : ((((vf.alloc (Obj.cells #[.float .f64 z1, .float .f64 z2] 51)).drewN m).setCell ⟨vf.heap.size, 0, none⟩ X).setCell ⟨vf.heap.size, 1, none⟩ Y).heap.size = vf.heap.size + 1 := by simp
            rw [e] at q
            exact q
          have hS : ∀ x y w, (binOp .sub 37 (.float .f64 x) (.float .f64 y)).run Try.prog w = .ok (.float .f64 (opB .sub x y w)) (w.drewN (opD .sub x y)) := fun x y w => run_op Try.prog .sub arSub 37 x y w
          have hQ : ∀ x y w, (binOp .quo 37 (.float .f64 x) (.float .f64 y)).run Try.prog w = .ok (.float .f64 (opB .quo x y w)) (w.drewN (opD .quo x y)) := fun x y w => run_op Try.prog .quo arQuo 37 x y w
          have k1 := self_eq x1
          have k2 := self_eq x2
          have k3 := self_eq x3
          have k4 := self_eq x4
          have N1 : Hid (nan x1 = nan (nearV R C L I ((J : Int) + 1))) := (by show _ = _; rw [← HX1.out, nan_cn])
          have N2 : Hid (nan x2 = nan (nearV R C L I ((J : Int) - 1))) := (by show _ = _; rw [← HX2.out, nan_cn])
          have N3 : Hid (nan x3 = nan (nearV R C L ((I : Int) + 1) J)) := (by show _ = _; rw [← HX3.out, nan_cn])
          have N4 : Hid (nan x4 = nan (nearV R C L ((I : Int) - 1) J)) := (by show _ = _; rw [← HX4.out, nan_cn])
          clear h1 h2 h3 h4 hG hB hlt2 Svf
          cases n1 : nan x1
          rotate_left
          · have HT : Hid (gradN R C L P.length = (qn, qn)) := (by show _ = _; rw [HK.out]; unfold gradS; rw [if_neg]; rw [← N1.out, ← N2.out, ← N3.out, ← N4.out, n1]; simp)
            rw [n1] at k1
            clear n1
            go_wp2_with (at_builtin; refine wpList_append_lies _ rfl _ _ 32 rfl (w.heap.size + 1) 51 i0 (.agg #[.float .f64 0, .float .f64 0]) 2 16 Try.underlying32 hi0 hz0 hz1 hz2 rfl (by decide) _ _ _ rfl (QB.out _) ⟨vf.heap.size + 1, 0, none⟩ 1 1 [_, _] rfl rfl CB.out (by intro u hu; simp at hu; rcases hu with rfl | rfl <;> rfl) (by decide) (by unfold maxLen; omega) (by omega) (by simp; omega) (vf.heap.size + 1 + 1) (by simp) ?_; intro gq cap3 w5 hown hgrow hat hlt5)
            have SN : Hid (St w R C s ws st L w5 (.slice (some ⟨gq, 0, none⟩) (P.length + 1) cap3) (I * C + (J + 1))) := (by show St _ _ _ _ _ _ _ _ _ _; rw [show I * C + (J + 1) = P.length + 1 by have := HP.out; omega]; exact St.push (QB.out _) H2.out.1 H2.out.2 (QG.out _).1 (QG.out _).2 (by simp; omega) hown hgrow (by rw [HT.out, HZ1.out, HZ2.out]))
            clear hown hgrow hat QA QB QG QH
            go_wp2_with fail
            go_roundw
            case rel => exact ⟨J + 1, by omega, by go_num, SN⟩
            case measure => simp [intOf]; omega
          rw [n1] at k1
          cases n2 : nan x2
          rotate_left
          · have HT : Hid (gradN R C L P.length = (qn, qn)) := (by show _ = _; rw [HK.out]; unfold gradS; rw [if_neg]; rw [← N1.out, ← N2.out, ← N3.out, ← N4.out, n2]; simp)
            rw [n2] at k2
            clear n1 n2
            go_wp2_with (at_builtin; refine wpList_append_lies _ rfl _ _ 32 rfl (w.heap.size + 1) 51 i0 (.agg #[.float .f64 0, .float .f64 0]) 2 16 Try.underlying32 hi0 hz0 hz1 hz2 rfl (by decide) _ _ _ rfl (QB.out _) ⟨vf.heap.size + 1, 0, none⟩ 1 1 [_, _] rfl rfl CB.out (by intro u hu; simp at hu; rcases hu with rfl | rfl <;> rfl) (by decide) (by unfold maxLen; omega) (by omega) (by simp; omega) (vf.heap.size + 1 + 1) (by simp) ?_; intro gq cap3 w5 hown hgrow hat hlt5)
            have SN : Hid (St w R C s ws st L w5 (.slice (some ⟨gq, 0, none⟩) (P.length + 1) cap3) (I * C + (J + 1))) := (by show St _ _ _ _ _ _ _ _ _ _; rw [show I * C + (J + 1) = P.length + 1 by have := HP.out; omega]; exact St.push (QB.out _) H2.out.1 H2.out.2 (QG.out _).1 (QG.out _).2 (by simp; omega) hown hgrow (by rw [HT.out, HZ1.out, HZ2.out]))
            clear hown hgrow hat QA QB QG QH
            go_wp2_with fail
            go_roundw
            case rel => exact ⟨J + 1, by omega, by go_num, SN⟩
            case measure => simp [intOf]; omega
          rw [n2] at k2
          cases n3 : nan x3
          rotate_left
          · have HT : Hid (gradN R C L P.length = (qn, qn)) := (by show _ = _; rw [HK.out]; unfold gradS; rw [if_neg]; rw [← N1.out, ← N2.out, ← N3.out, ← N4.out, n3]; simp)
            rw [n3] at k3
            clear n1 n2 n3
            go_wp2_with (at_builtin; refine wpList_append_lies _ rfl _ _ 32 rfl (w.heap.size + 1) 51 i0 (.agg #[.float .f64 0, .float .f64 0]) 2 16 Try.underlying32 hi0 hz0 hz1 hz2 rfl (by decide) _ _ _ rfl (QB.out _) ⟨vf.heap.size + 1, 0, none⟩ 1 1 [_, _] rfl rfl CB.out (by intro u hu; simp at hu; rcases hu with rfl | rfl <;> rfl) (by decide) (by unfold maxLen; omega) (by omega) (by simp; omega) (vf.heap.size + 1 + 1) (by simp) ?_; intro gq cap3 w5 hown hgrow hat hlt5)
            have SN : Hid (St w R C s ws st L w5 (.slice (some ⟨gq, 0, none⟩) (P.length + 1) cap3) (I * C + (J + 1))) := (by show St _ _ _ _ _ _ _ _ _ _; rw [show I * C + (J + 1) = P.length + 1 by have := HP.out; omega]; exact St.push (QB.out _) H2.out.1 H2.out.2 (QG.out _).1 (QG.out _).2 (by simp; omega) hown hgrow (by rw [HT.out, HZ1.out, HZ2.out]))
            clear hown hgrow hat QA QB QG QH
            go_wp2_with fail
            go_roundw
            case rel => exact ⟨J + 1, by omega, by go_num, SN⟩
            case measure => simp [intOf]; omega
          rw [n3] at k3
          cases n4 : nan x4
          rotate_left
          · have HT : Hid (gradN R C L P.length = (qn, qn)) := (by show _ = _; rw [HK.out]; unfold gradS; rw [if_neg]; rw [← N1.out, ← N2.out, ← N3.out, ← N4.out, n4]; simp)
            rw [n4] at k4
            clear n1 n2 n3 n4
            go_wp2_with (at_builtin; refine wpList_append_lies _ rfl _ _ 32 rfl (w.heap.size + 1) 51 i0 (.agg #[.float .f64 0, .float .f64 0]) 2 16 Try.underlying32 hi0 hz0 hz1 hz2 rfl (by decide) _ _ _ rfl (QB.out _) ⟨vf.heap.size + 1, 0, none⟩ 1 1 [_, _] rfl rfl CB.out (by intro u hu; simp at hu; rcases hu with rfl | rfl <;> rfl) (by decide) (by unfold maxLen; omega) (by omega) (by simp; omega) (vf.heap.size + 1 + 1) (by simp) ?_; intro gq cap3 w5 hown hgrow hat hlt5)
            have SN : Hid (St w R C s ws st L w5 (.slice (some ⟨gq, 0, none⟩) (P.length + 1) cap3) (I * C + (J + 1))) := (by show St _ _ _ _ _ _ _ _ _ _; rw [show I * C + (J + 1) = P.length + 1 by have := HP.out; omega]; exact St.push (QB.out _) H2.out.1 H2.out.2 (QG.out _).1 (QG.out _).2 (by simp; omega) hown hgrow (by rw [HT.out, HZ1.out, HZ2.out]))
            clear hown hgrow hat QA QB QG QH
            go_wp2_with fail
            go_roundw
            case rel => exact ⟨J + 1, by omega, by go_num, SN⟩
            case measure => simp [intOf]; omega
          rw [n4] at k4
          have HT : Hid (gradN R C L P.length = (opF .quo (opF .sub (cn x1) (cn x2)) two, opF .quo (opF .sub (cn x3) (cn x4)) two)) := (by show _ = _; rw [HK.out]; unfold gradS; rw [if_pos ⟨by rw [← N1.out]; exact n1, by rw [← N2.out]; exact n2, by rw [← N3.out]; exact n3, by rw [← N4.out]; exact n4⟩, HX1.out, HX2.out, HX3.out, HX4.out])
          clear n1 n2 n3 n4
          go_wp2_with (at_builtin; refine wpList_append_lies _ rfl _ _ 32 rfl (w.heap.size + 1) 51 i0 (.agg #[.float .f64 0, .float .f64 0]) 2 16 Try.underlying32 hi0 hz0 hz1 hz2 rfl (by decide) _ _ _ rfl (QA.out _ _ _ _) ⟨vf.heap.size + 1, 0, none⟩ 1 1 [_, _] rfl rfl (CA.out _ _ _) (by intro u hu; simp at hu; rcases hu with rfl | rfl <;> rfl) (by decide) (by unfold maxLen; omega) (by omega) (by simp; omega) (vf.heap.size + 1 + 1) (by simp) ?_; intro gq cap3 w5 hown hgrow hat hlt5)
          have SN : Hid (St w R C s ws st L w5 (.slice (some ⟨gq, 0, none⟩) (P.length + 1) cap3) (I * C + (J + 1))) := (by show St _ _ _ _ _ _ _ _ _ _; rw [show I * C + (J + 1) = P.length + 1 by have := HP.out; omega]; exact St.push (QA.out _ _ _ _) H2.out.1 H2.out.2 (QH.out _ _ _ _).1 (QH.out _ _ _ _).2 (by simp; omega) hown hgrow (by rw [HT.out, cn_op, cn_op, cn_op, cn_op]; rfl))
          clear hown hgrow hat QA QB QG QH
          go_wp2_with fail
          go_roundw
          case rel => exact ⟨J + 1, by omega, by go_num, SN⟩
          case measure => simp [intOf]; omega
        · have j3 : ¬ (J : Int) < (C : Int) := by omega
          have SK : Hid (St w R C s ws st L wr u5 ((I + 1) * C)) := (by show St _ _ _ _ _ _ _ _ _ _; have := SJ.out; rw [show J = C by omega] at this; rw [Nat.succ_mul]; exact this)
          go_wp2_with fail
          go_roundw
          case rel => exact ⟨I + 1, by omega, by go_num, SK⟩
          case measure => simp [intOf]; omega
    · have i3 : ¬ (I : Int) < (R : Int) := by omega
      obtain rfl : I = R := by omega
      go_wp2_with fail
      go_ret
      obtain ⟨⟨P, xs, h1, h2, h3, h4⟩, -, h6, -⟩ := SI.out
      refine ⟨_, rfl, P, ⟨xs, ?_, h2⟩, by rw [h3, hnn.out], h4, h6⟩
      refine ⟨h1.1, ?_⟩
      rcases h1.2 with h | ⟨gx, cap, cur, q1, q2, q3⟩
      · exact .inl h
      · exact .inr ⟨gx, cap, cur, q1, by omega, q3⟩
end Go.Proofs.Ytplichonohoacaa.Gd
