/- Smooth: the model. -/
import Derived.Test.YtplichonohoacaaSmP
import Derived.Test.YtplichonohoacaaGsB
import Derived.Test.YtplichonohoacaaGoA
import Derived.Deep.AppendLies
import Derived.Maps.AppendAt
import Derived.Deep.RegionHeld3
import Derived.Deep.DeepCutAuto
import Derived.Deep.Cut
import Derived.Deep.DrawnRows
import Derived.Deep.DeepMust
import Derived.Deep.RegionWith
import Derived.Deep.RegionHeldLaw
namespace Go.Proofs.Ytplichonohoacaa.Gd
open Go.ChangeShapes Go.WideShapes Go.ChangeAt Go.RowKit
open Go.Proofs.Ytplichonohoacaa.Flt Go.Proofs.Ytplichonohoacaa.Fls
/-- What the model has smoothed so far, and what lies. -/
def SF (w : World) (r c s ws st : Int) (L : List Nat) (wr : World) (v : Value) (k : Nat) : Prop :=
  (∃ P : List Nat, wr.ownsRow (w.heap.size + 1) 37 1 v P.length (flts P) ∧ P.length = k ∧ ∀ m, m < P.length → cn (P.getD m 0) = smN r c L m) ∧ Gx wr w.heap.size r c s ws st ∧ Below w.heap.size w wr ∧ w.heap.size < wr.heap.size
theorem SF.on {w : World} {r c s ws st : Int} {L : List Nat} {wr wr' : World} {v : Value} {k : Nat} (h : SF w r c s ws st L wr v k) (hb : Below wr.heap.size wr wr') : SF w r c s ws st L wr' v k := by
  obtain ⟨⟨P, h1, h3, h4⟩, h5, h6, h7⟩ := h
  exact ⟨⟨P, Pr.row_below h1 hb, h3, h4⟩, h5.on hb h7, h6.trans (hb.mono h6.size), Nat.lt_of_lt_of_le h7 hb.size⟩
theorem SF.push {w wa w5 : World} {r c s ws st : Int} {L P : List Nat} {v v' : Value} {x : Nat} (h1 : wa.ownsRow (w.heap.size + 1) 37 1 v P.length (flts P)) (h4 : ∀ m, m < P.length → cn (P.getD m 0) = smN r c L m) (hG : Gx wa w.heap.size r c s ws st) (hB : Below w.heap.size w wa) (hlt : w.heap.size < wa.heap.size)
    (hown : w5.ownsRow (w.heap.size + 1) 37 1 v' (P.length + 1) (flts P ++ [.float .f64 x])) (hgrow : wa.grownBy w5 v.ownBlock) (hx : cn x = smN r c L P.length) : SF w r c s ws st L w5 v' (P.length + 1) := by
  have e0 : w5.heap[w.heap.size]? = wa.heap[w.heap.size]? := hgrow.block _ hlt (fun e => by have := (h1.lt _ e.symm).1; omega)
  refine ⟨⟨P ++ [x], ?_, by simp, fun m hm => ?_⟩, ⟨(World.cell?_of_block e0).trans hG.1, (World.cell?_of_block e0).trans hG.2.1, (World.cell?_of_block e0).trans hG.2.2.1, (World.cell?_of_block e0).trans hG.2.2.2.1, (World.cell?_of_block e0).trans hG.2.2.2.2⟩, hB.grown hgrow hB.size (fun g hg => by have := (h1.lt g hg).1; omega), Nat.lt_of_lt_of_le hlt hgrow.size⟩
  · rw [List.length_append, List.length_singleton]
    simpa [flts] using hown
  · by_cases e : m < P.length
    · rw [← h4 m e]
      simp [List.getD_eq_getElem?_getD, List.getElem?_append_left e]
    · have e' : m = P.length := by simp at hm; omega
      subst e'
      rw [← hx]
      simp [List.getD_eq_getElem?_getD]
theorem self_eq2 (x : Nat) : (ord x x == some .eq) = !nan x := by
  have := self_ne x
  cases h : nan x
  · rw [h] at this; simpa using this
  · rw [h] at this; simpa using this
theorem row_dn {w : World} {B B' n k : Nat} {e : TypeId} {v : Value} {xs : List Value} (h : w.ownsRow B e k v n xs) (hb : B' ≤ B) : w.ownsRow B' e k v n xs := by
  refine ⟨h.1, ?_⟩
  rcases h.2 with h2 | ⟨g, cap, cur, h1, h2, h3⟩
  · exact .inl h2
  · exact .inr ⟨g, cap, cur, h1, Nat.le_trans hb h2, h3⟩
theorem flt_one (w : World) (x : Nat) (t : TypeId) : ∀ j u, [Value.float .f64 x][j]? = some u → (w.alloc (Obj.cells #[.float .f64 x] t)).cell? ((⟨w.heap.size, 0, none⟩ : Addr).add j) = some u := by
  intro j u hj
  match j, hj with
  | 0, hj => simp at hj; subst hj; simp [Addr.add]
theorem five_reads (w : World) (a b c d e : Nat) : Fls.Reads (w.alloc (.cells #[.float .f64 a, .float .f64 b, .float .f64 c, .float .f64 d, .float .f64 e] 37)) (.slice (some ⟨w.heap.size, 0, none⟩) 5 5) [a, b, c, d, e] := by
  refine Or.inr ⟨w.heap.size, 0, 5, rfl, Nat.le_refl _, by unfold maxLen; omega, by simp, fun i hi => ?_⟩
  have h : i = 0 ∨ i = 1 ∨ i = 2 ∨ i = 3 ∨ i = 4 := by simp at hi; omega
  rcases h with rfl | rfl | rfl | rfl | rfl <;> simp [go_sem]

set_option maxRecDepth 20000 in
set_option maxHeartbeats 2000000 in
theorem ssmooth_yes (r c s ws st : Int) (L : List Nat) (v : Value) (w : World) (hL : Fls.Reads w v L) (h : right r c s ws st L.length = true) :
    Calls Try.prog 5 #[gv r c s ws st, v] w fun e w' => ∃ v' P, e = .returned v' ∧ w'.ownsRow w.heap.size 37 1 v' (List.length P) (flts P) ∧ P.length = L.length ∧ (∀ k, k < P.length → cn (P.getD k 0) = smN r c L k) ∧ Below w.heap.size w w' := by
  have hR2 : gok r c s ws st = true ∧ (L.length : Int) = r * c := by unfold right at h; simpa only [Bool.and_eq_true, decide_eq_true_eq] using h
  obtain ⟨hr, hc, _⟩ := gok_parts hR2.1
  have hn := hR2.2
  obtain ⟨w0, hw0⟩ : ∃ w0, w0 = (w.alloc (Obj.cells #[.int .i64 r, .int .i64 c, .int .i64 s, .int .i64 ws, .int .i64 st] 26)).alloc (Obj.cells #[] 37) := ⟨_, rfl⟩
  have HW : Hid (w0 = (w.alloc (Obj.cells #[.int .i64 r, .int .i64 c, .int .i64 s, .int .i64 ws, .int .i64 st] 26)).alloc (Obj.cells #[] 37)) := hw0
  have S0 : Hid (SF w r c s ws st L w0 (.slice (some ⟨w.heap.size + 1, 0, none⟩) 0 0) 0) := (by
    show SF _ _ _ _ _ _ _ _ _ _
    rw [hw0]
    have := World.ownsRow_lit (e := 37) (w.alloc (Obj.cells #[.int .i64 r, .int .i64 c, .int .i64 s, .int .i64 ws, .int .i64 st] 26)) #[] 0 (size := 1) (base := w.heap.size + 1) (by simp) (Nat.zero_le _) rfl
    refine ⟨⟨[], by simpa using this, rfl, fun m hm => absurd hm (by simp)⟩, ?_, ((Below.refl _ _).alloc (Nat.le_refl _) _).alloc (by simp) _, by simp; omega⟩
    unfold Gx
    simp [go_sem])
  have RI : Hid (∀ w, Calls Try.prog 17 #[gv r c s ws st, .int .i64 (L.length : Int)] w fun e w' => e = .returned (.bool true) ∧ Below w.heap.size w w') := fun w => by have := sright_any r c s ws st L.length w; rwa [h] at this
  have NE : Hid (∀ (i j : Int) (u : World), Below w.heap.size w u → Calls Try.prog 19 #[gv r c s ws st, v, .int .i64 i, .int .i64 j] u fun e w' => ∃ x, e = .returned (.float .f64 x) ∧ cn x = nearV r c L i j ∧ Below u.heap.size u w') := fun i j u hu => near_any r c s ws st L v i j u (hL.on hu) hr hc hn
  have RL : Hid (∀ wx, Below w.heap.size w wx → Fls.Reads wx v L) := fun wx hb => hL.on hb
  obtain ⟨R, rfl⟩ : ∃ R : Nat, r = (R : Int) := ⟨r.toNat, by omega⟩
  obtain ⟨C, rfl⟩ : ∃ C : Nat, c = (C : Int) := ⟨c.toNat, by omega⟩
  have GS : Hid (∀ I J : Nat, J < C → smV R C L I J = smN R C L (I * C + J)) := fun I J hJ => (by
    unfold smN
    have e1 : ((I * C + J : Nat) : Int) / (C : Int) = (I : Int) := by
      rw [← Int.natCast_ediv, Nat.mul_comm, Nat.mul_add_div (by omega), Nat.div_eq_of_lt hJ, Nat.add_zero]
    have e2 : ((I * C + J : Nat) : Int) % (C : Int) = (J : Int) := by
      rw [← Int.natCast_emod, Nat.mul_comm, Nat.mul_add_mod, Nat.mod_eq_of_lt hJ]
    rw [e1, e2])
  have hnn : Hid (L.length = R * C) := (by show _ = _; rw [← Int.natCast_mul] at hn; exact Int.ofNat.inj hn)
  obtain ⟨a, cap, rfl⟩ := hL.form
  obtain ⟨n, hn1⟩ : ∃ n, n = L.length := ⟨_, rfl⟩
  have HN : Hid (n = L.length) := hn1
  rw [← hn1] at RI NE hnn RL ⊢
  have bR : R ≤ 64 := by omega
  have bC : C ≤ 64 := by omega
  have c2 : 2 ≤ C := by omega
  clear hL h hR2 hn hn1 hw0 hr hc
  go_enter Try.func5, Try.ntmps5
  go_wp2_with fail
  rw [← HW.out]
  refine (RI.out _).mono ?_
  rintro e w1 ⟨rfl, b1⟩
  have S1 : Hid (SF w R C s ws st L w1 (.slice (some ⟨w.heap.size + 1, 0, none⟩) 0 0) 0) := S0.out.on b1
  clear b1 HW S0 RI
  obtain ⟨i0, hi0, hz0, hz1, hz2⟩ := info_parts Fls.Try.info37
  go_wp2_with fail
  go_loopw [5, 6] (fun v i wr => ∃ I : Nat, I ≤ R ∧ i = .int .i64 I ∧ Hid (SF w R C s ws st L wr v (I * C))) (fun _ i _ => R - (intOf i).toNat)
  case atStart => exact ⟨0, Nat.zero_le _, rfl, (by show SF _ _ _ _ _ _ _ _ _ _; rw [Nat.zero_mul]; exact S1.out)⟩
  case round =>
    obtain ⟨I, hI, rfl, SI⟩ := hrel
    clear S1
    obtain ⟨g0, g1, g2, g3, g4⟩ := SI.out.2.1
    by_cases hlt : I < R
    · have i3 : (I : Int) < (R : Int) := by omega
      go_wp2_with fail
      clear g0 g1 g2 g3 g4
      go_loopw [5, 7] (fun v j wr => ∃ J : Nat, J ≤ C ∧ j = .int .i64 J ∧ Hid (SF w R C s ws st L wr v (I * C + J))) (fun _ j _ => C - (intOf j).toNat)
      case atStart => exact ⟨0, Nat.zero_le _, rfl, SI⟩
      case round =>
        obtain ⟨J, hJ, rfl, SJ⟩ := hrel
        clear SI
        obtain ⟨g0, g1, g2, g3, g4⟩ := SJ.out.2.1
        by_cases hltJ : J < C
        · have j3 : (J : Int) < (C : Int) := by omega
          have mI : I * C ≤ 64 * 64 := Nat.mul_le_mul (by omega) (by omega)
          have lt0 : I * C + J < n := by
            rw [hnn.out]
            have : (I + 1) * C ≤ R * C := Nat.mul_le_mul_right C (by omega)
            rw [Nat.add_mul, Nat.one_mul] at this
            omega
          obtain ⟨t, ht⟩ : ∃ t : Nat, t = I * C + J := ⟨_, rfl⟩
          have q0 : IntKind.i64.wrap ((I : Int) * (C : Int)) = (I : Int) * (C : Int) := by rw [← Int.natCast_mul]; exact IntWalk.i64_in _ (by omega)
          have q00 : IntKind.i64.wrap ((I : Int) * (C : Int) + (J : Int)) = (t : Int) := by rw [ht, Int.natCast_add, Int.natCast_mul, ← Int.natCast_mul, ← Int.natCast_add]; exact IntWalk.i64_in _ (by omega)
          have q1 : IntKind.i64.wrap ((J : Int) + 1) = (J : Int) + 1 := IntWalk.i64_in _ (by omega)
          have q2 : IntKind.i64.wrap ((J : Int) - 1) = (J : Int) - 1 := IntWalk.i64_in _ (by omega)
          have q3 : IntKind.i64.wrap ((I : Int) + 1) = (I : Int) + 1 := IntWalk.i64_in _ (by omega)
          have q4 : IntKind.i64.wrap ((I : Int) - 1) = (I : Int) - 1 := IntWalk.i64_in _ (by omega)
          have tn0 : (0 : Int) ≤ (t : Int) := by omega
          have tn1 : (t : Int) < (n : Int) := by omega
          have HV : Hid (vAt C L ((I : Int), (J : Int)) = L.getD t 0) := (by
            show _ = _
            unfold vAt
            have : ((I : Int) * (C : Int) + (J : Int)).toNat = t := by rw [ht, ← Int.natCast_mul, ← Int.natCast_add]; rfl
            rw [this])
          have GT : Hid (smV R C L I J = smN R C L t) := (by show _ = _; rw [ht]; exact GS.out I J hltJ)
          have HTT : Hid (t = I * C + J) := ht
          obtain ⟨b, o', ha, cx⟩ : ∃ b o, a = some ⟨b, o, none⟩ ∧ wr.cell? ⟨b, o + t, none⟩ = some (.float .f64 (L.getD t 0)) := by
            have rr := RL.out wr SJ.out.2.2.1
            rw [HN.out] at rr
            rcases rr with ⟨e, _⟩ | ⟨b, o, cp, e, _, _, _, y⟩
            · have := HN.out; rw [e] at this; simp at this; omega
            · simp at e; exact ⟨b, o, e.1, y t (by rw [← HN.out]; omega)⟩
          subst ha
          generalize L.getD t 0 = x at *
          have kx := self_eq2 x
          rw [← ht] at SJ
          clear ht lt0
          cases hnx : nan x
          rotate_left
          · have HXV : Hid (cn x = smN R C L t) := (by
              show _ = _
              rw [← GT.out]
              unfold smV
              rw [HV.out, if_pos hnx]
              exact cn_nan hnx)
            rw [hnx] at kx
            have SZ : Hid (SF w R C s ws st L wr u5 t) := SJ
            clear SJ hnx
            obtain ⟨⟨P, h1, h3, h4⟩, hG, hB, hlt2⟩ := SZ.out
            have lP : P.length ≤ 5000 := by rw [h3]; have := HTT.out; omega
            have H1 : Hid ((wr.alloc (.cells #[.float .f64 x] 37)).ownsRow (w.heap.size + 1) 37 1 u5 P.length (flts P)) := Pr.row_below h1 ((Below.refl _ _).alloc (Nat.le_refl _) _)
            have H4 : Hid (∀ m, m < P.length → cn (P.getD m 0) = smN R C L m) := h4
            have HGG : Hid (Gx (wr.alloc (.cells #[.float .f64 x] 37)) w.heap.size R C s ws st ∧ Below w.heap.size w (wr.alloc (.cells #[.float .f64 x] 37)) ∧ w.heap.size < (wr.alloc (.cells #[.float .f64 x] 37)).heap.size) := ⟨hG.on ((Below.refl _ _).alloc (Nat.le_refl _) _) hlt2, hB.alloc hB.size _, by simp; omega⟩
            have HP : Hid (P.length = t) := h3
            have zz : w.heap.size < wr.heap.size := hlt2
            clear h1 h3 h4 hG hB hlt2 SZ
            go_wp2_with (at_builtin; refine wpList_append_lies _ rfl _ _ 24 rfl (w.heap.size + 1) 37 i0 (.float .f64 0) 1 8 Try.underlying24 hi0 hz0 hz1 hz2 rfl (by decide) _ _ _ rfl H1.out ⟨wr.heap.size, 0, none⟩ 1 1 [.float .f64 x] rfl rfl (flt_one wr x 37) (by intro u hu; simp at hu; subst hu; rfl) (by decide) (by unfold maxLen; omega) (by omega) (by simp; omega) (wr.heap.size + 1) (by simp) ?_)
            intro gq cq w9 hown hgrow hat _
            have SN : Hid (SF w R C s ws st L w9 (.slice (some ⟨gq, 0, none⟩) (P.length + 1) cq) (I * C + (J + 1))) := (by
              show SF _ _ _ _ _ _ _ _ _ _
              rw [show I * C + (J + 1) = P.length + 1 by have := HP.out; have := HTT.out; omega]
              exact SF.push H1.out H4.out HGG.out.1 HGG.out.2.1 HGG.out.2.2 hown hgrow (by rw [HP.out]; exact HXV.out))
            clear hown hgrow hat H1 H4 HGG
            go_wp2_with fail
            go_roundw
            case rel => exact ⟨J + 1, by omega, by go_num, SN⟩
            case measure => simp [intOf]; omega
          rw [hnx] at kx
          have HNX : Hid (nan x = false) := hnx
          have SD : Hid (SF w R C s ws st L wr.drew u5 t) := SJ.out.on ((Below.refl _ _).drew)
          clear hnx
          go_upto_region 12 with fail
          clear cx
          refine wp_region_held_drew (S := (fun w' => w'.cell? ⟨w.heap.size, 0, none⟩ = some (.int .i64 R) ∧ w'.cell? ⟨w.heap.size, 1, none⟩ = some (.int .i64 C) ∧ w'.cell? ⟨w.heap.size, 2, none⟩ = some (.int .i64 s) ∧ w'.cell? ⟨w.heap.size, 3, none⟩ = some (.int .i64 ws) ∧ w'.cell? ⟨w.heap.size, 4, none⟩ = some (.int .i64 st))) (by kernel_rfl) (by (try dsimp only); go_keep) (fun hHeld => ?_)
          refine wpAnyH_take (i := 0) (oi := { dst := some 40, op := Go.Op.move (Go.Operand.tmp 8), type := 37, pos := "l11_fields.go:66", after := #[], guard := none }) (v := ?_) rfl (by kernel_rfl) (by kernel_rfl) (by kernel_rfl) (fun _ _ _ h => h) (Or.inl ⟨by rfl, ?_⟩) (by assumption) ?_
          rotate_left 1
          · (intro w hSw; (try dsimp only at hSw); go_simp); all_goals (with_reducible rfl)
          try simp only [Act.put, List.setIfInBounds_toArray, List.set_cons_zero, List.set_cons_succ]
          refine wpAnyH_take (i := 1) (oi := { dst := some 41, op := Go.Op.load 26 (Go.Operand.tmp 2), type := 26, pos := "l11_fields.go:66", after := #[], guard := none }) (v := ?_) rfl (by kernel_rfl) (by kernel_rfl) (by kernel_rfl) (fun _ _ _ h => h) (Or.inl ⟨by rfl, ?_⟩) (by assumption) ?_
          rotate_left 1
          · (intro w hSw; (try dsimp only at hSw); go_simp); all_goals (with_reducible rfl)
          try simp only [Act.put, List.setIfInBounds_toArray, List.set_cons_zero, List.set_cons_succ]
          refine wpAnyH_take (i := 2) (oi := { dst := some 42, op := Go.Op.move (Go.Operand.tmp 1), type := 24, pos := "l11_fields.go:66", after := #[], guard := none }) (v := ?_) rfl (by kernel_rfl) (by kernel_rfl) (by kernel_rfl) (fun _ _ _ h => h) (Or.inl ⟨by rfl, ?_⟩) (by assumption) ?_
          rotate_left 1
          · (intro w hSw; (try dsimp only at hSw); go_simp); all_goals (with_reducible rfl)
          try simp only [Act.put, List.setIfInBounds_toArray, List.set_cons_zero, List.set_cons_succ]
          refine wpAnyH_take (i := 3) (oi := { dst := some 43, op := Go.Op.move (Go.Operand.tmp 6), type := 2, pos := "l11_fields.go:66", after := #[], guard := none }) (v := ?_) rfl (by kernel_rfl) (by kernel_rfl) (by kernel_rfl) (fun _ _ _ h => h) (Or.inl ⟨by rfl, ?_⟩) (by assumption) ?_
          rotate_left 1
          · (intro w hSw; (try dsimp only at hSw); go_simp); all_goals (with_reducible rfl)
          try simp only [Act.put, List.setIfInBounds_toArray, List.set_cons_zero, List.set_cons_succ]
          refine wpAnyH_take (i := 4) (oi := { dst := some 44, op := Go.Op.binOp Go.BinOp.add 2 (Go.Operand.tmp 43) (Go.Operand.const (Go.Value.int Go.IntKind.i64 1)) 2, type := 2, pos := "l11_fields.go:66", after := #[{ on := 3, ground := Go.Ground.data }], guard := none }) (v := ?_) rfl (by kernel_rfl) (by kernel_rfl) (by kernel_rfl) (fun _ _ _ h => h) (Or.inl ⟨by rfl, ?_⟩) (by assumption) ?_
          rotate_left 1
          · (intro w hSw; (try dsimp only at hSw); go_simp); all_goals (with_reducible rfl)
          try simp only [Act.put, List.setIfInBounds_toArray, List.set_cons_zero, List.set_cons_succ]
          refine wpAnyH_take (i := 5) (oi := { dst := some 45, op := Go.Op.move (Go.Operand.tmp 7), type := 2, pos := "l11_fields.go:66", after := #[], guard := none }) (v := ?_) rfl (by kernel_rfl) (by kernel_rfl) (by kernel_rfl) (fun _ _ _ h => h) (Or.inl ⟨by rfl, ?_⟩) (by assumption) ?_
          rotate_left 1
          · (intro w hSw; (try dsimp only at hSw); go_simp); all_goals (with_reducible rfl)
          try simp only [Act.put, List.setIfInBounds_toArray, List.set_cons_zero, List.set_cons_succ]
          refine wpAnyH_take (i := 7) (oi := { dst := some 47, op := Go.Op.load 26 (Go.Operand.tmp 2), type := 26, pos := "l11_fields.go:66", after := #[], guard := none }) (v := ?_) rfl (by kernel_rfl) (by kernel_rfl) (by kernel_rfl) (fun _ _ _ h => h) (Or.inl ⟨by rfl, ?_⟩) (by assumption) ?_
          rotate_left 1
          · (intro w hSw; (try dsimp only at hSw); go_simp); all_goals (with_reducible rfl)
          try simp only [Act.put, List.setIfInBounds_toArray, List.set_cons_zero, List.set_cons_succ]
          refine wpAnyH_take (i := 8) (oi := { dst := some 48, op := Go.Op.move (Go.Operand.tmp 1), type := 24, pos := "l11_fields.go:66", after := #[], guard := none }) (v := ?_) rfl (by kernel_rfl) (by kernel_rfl) (by kernel_rfl) (fun _ _ _ h => h) (Or.inl ⟨by rfl, ?_⟩) (by assumption) ?_
          rotate_left 1
          · (intro w hSw; (try dsimp only at hSw); go_simp); all_goals (with_reducible rfl)
          try simp only [Act.put, List.setIfInBounds_toArray, List.set_cons_zero, List.set_cons_succ]
          refine wpAnyH_take (i := 9) (oi := { dst := some 49, op := Go.Op.move (Go.Operand.tmp 6), type := 2, pos := "l11_fields.go:66", after := #[], guard := none }) (v := ?_) rfl (by kernel_rfl) (by kernel_rfl) (by kernel_rfl) (fun _ _ _ h => h) (Or.inl ⟨by rfl, ?_⟩) (by assumption) ?_
          rotate_left 1
          · (intro w hSw; (try dsimp only at hSw); go_simp); all_goals (with_reducible rfl)
          try simp only [Act.put, List.setIfInBounds_toArray, List.set_cons_zero, List.set_cons_succ]
          refine wpAnyH_take (i := 10) (oi := { dst := some 50, op := Go.Op.move (Go.Operand.tmp 7), type := 2, pos := "l11_fields.go:66", after := #[], guard := none }) (v := ?_) rfl (by kernel_rfl) (by kernel_rfl) (by kernel_rfl) (fun _ _ _ h => h) (Or.inl ⟨by rfl, ?_⟩) (by assumption) ?_
          rotate_left 1
          · (intro w hSw; (try dsimp only at hSw); go_simp); all_goals (with_reducible rfl)
          try simp only [Act.put, List.setIfInBounds_toArray, List.set_cons_zero, List.set_cons_succ]
          refine wpAnyH_take (i := 11) (oi := { dst := some 51, op := Go.Op.binOp Go.BinOp.add 2 (Go.Operand.tmp 50) (Go.Operand.const (Go.Value.int Go.IntKind.i64 1)) 2, type := 2, pos := "l11_fields.go:66", after := #[{ on := 10, ground := Go.Ground.data }], guard := none }) (v := ?_) rfl (by kernel_rfl) (by kernel_rfl) (by kernel_rfl) (fun _ _ _ h => h) (Or.inl ⟨by rfl, ?_⟩) (by assumption) ?_
          rotate_left 1
          · (intro w hSw; (try dsimp only at hSw); go_simp); all_goals (with_reducible rfl)
          try simp only [Act.put, List.setIfInBounds_toArray, List.set_cons_zero, List.set_cons_succ]
          refine wpAnyH_take (i := 13) (oi := { dst := some 53, op := Go.Op.load 26 (Go.Operand.tmp 2), type := 26, pos := "l11_fields.go:66", after := #[], guard := none }) (v := ?_) rfl (by kernel_rfl) (by kernel_rfl) (by kernel_rfl) (fun _ _ _ h => h) (Or.inl ⟨by rfl, ?_⟩) (by assumption) ?_
          rotate_left 1
          · (intro w hSw; (try dsimp only at hSw); go_simp); all_goals (with_reducible rfl)
          try simp only [Act.put, List.setIfInBounds_toArray, List.set_cons_zero, List.set_cons_succ]
          refine wpAnyH_take (i := 14) (oi := { dst := some 54, op := Go.Op.move (Go.Operand.tmp 1), type := 24, pos := "l11_fields.go:66", after := #[], guard := none }) (v := ?_) rfl (by kernel_rfl) (by kernel_rfl) (by kernel_rfl) (fun _ _ _ h => h) (Or.inl ⟨by rfl, ?_⟩) (by assumption) ?_
          rotate_left 1
          · (intro w hSw; (try dsimp only at hSw); go_simp); all_goals (with_reducible rfl)
          try simp only [Act.put, List.setIfInBounds_toArray, List.set_cons_zero, List.set_cons_succ]
          refine wpAnyH_take (i := 15) (oi := { dst := some 55, op := Go.Op.move (Go.Operand.tmp 6), type := 2, pos := "l11_fields.go:66", after := #[], guard := none }) (v := ?_) rfl (by kernel_rfl) (by kernel_rfl) (by kernel_rfl) (fun _ _ _ h => h) (Or.inl ⟨by rfl, ?_⟩) (by assumption) ?_
          rotate_left 1
          · (intro w hSw; (try dsimp only at hSw); go_simp); all_goals (with_reducible rfl)
          try simp only [Act.put, List.setIfInBounds_toArray, List.set_cons_zero, List.set_cons_succ]
          refine wpAnyH_take (i := 16) (oi := { dst := some 56, op := Go.Op.binOp Go.BinOp.sub 2 (Go.Operand.tmp 55) (Go.Operand.const (Go.Value.int Go.IntKind.i64 1)) 2, type := 2, pos := "l11_fields.go:66", after := #[{ on := 15, ground := Go.Ground.data }], guard := none }) (v := ?_) rfl (by kernel_rfl) (by kernel_rfl) (by kernel_rfl) (fun _ _ _ h => h) (Or.inl ⟨by rfl, ?_⟩) (by assumption) ?_
          rotate_left 1
          · (intro w hSw; (try dsimp only at hSw); go_simp); all_goals (with_reducible rfl)
          try simp only [Act.put, List.setIfInBounds_toArray, List.set_cons_zero, List.set_cons_succ]
          refine wpAnyH_take (i := 17) (oi := { dst := some 57, op := Go.Op.move (Go.Operand.tmp 7), type := 2, pos := "l11_fields.go:66", after := #[], guard := none }) (v := ?_) rfl (by kernel_rfl) (by kernel_rfl) (by kernel_rfl) (fun _ _ _ h => h) (Or.inl ⟨by rfl, ?_⟩) (by assumption) ?_
          rotate_left 1
          · (intro w hSw; (try dsimp only at hSw); go_simp); all_goals (with_reducible rfl)
          try simp only [Act.put, List.setIfInBounds_toArray, List.set_cons_zero, List.set_cons_succ]
          refine wpAnyH_take (i := 19) (oi := { dst := some 59, op := Go.Op.load 26 (Go.Operand.tmp 2), type := 26, pos := "l11_fields.go:66", after := #[], guard := none }) (v := ?_) rfl (by kernel_rfl) (by kernel_rfl) (by kernel_rfl) (fun _ _ _ h => h) (Or.inl ⟨by rfl, ?_⟩) (by assumption) ?_
          rotate_left 1
          · (intro w hSw; (try dsimp only at hSw); go_simp); all_goals (with_reducible rfl)
          try simp only [Act.put, List.setIfInBounds_toArray, List.set_cons_zero, List.set_cons_succ]
          refine wpAnyH_take (i := 20) (oi := { dst := some 60, op := Go.Op.move (Go.Operand.tmp 1), type := 24, pos := "l11_fields.go:66", after := #[], guard := none }) (v := ?_) rfl (by kernel_rfl) (by kernel_rfl) (by kernel_rfl) (fun _ _ _ h => h) (Or.inl ⟨by rfl, ?_⟩) (by assumption) ?_
          rotate_left 1
          · (intro w hSw; (try dsimp only at hSw); go_simp); all_goals (with_reducible rfl)
          try simp only [Act.put, List.setIfInBounds_toArray, List.set_cons_zero, List.set_cons_succ]
          refine wpAnyH_take (i := 21) (oi := { dst := some 61, op := Go.Op.move (Go.Operand.tmp 6), type := 2, pos := "l11_fields.go:66", after := #[], guard := none }) (v := ?_) rfl (by kernel_rfl) (by kernel_rfl) (by kernel_rfl) (fun _ _ _ h => h) (Or.inl ⟨by rfl, ?_⟩) (by assumption) ?_
          rotate_left 1
          · (intro w hSw; (try dsimp only at hSw); go_simp); all_goals (with_reducible rfl)
          try simp only [Act.put, List.setIfInBounds_toArray, List.set_cons_zero, List.set_cons_succ]
          refine wpAnyH_take (i := 22) (oi := { dst := some 62, op := Go.Op.move (Go.Operand.tmp 7), type := 2, pos := "l11_fields.go:66", after := #[], guard := none }) (v := ?_) rfl (by kernel_rfl) (by kernel_rfl) (by kernel_rfl) (fun _ _ _ h => h) (Or.inl ⟨by rfl, ?_⟩) (by assumption) ?_
          rotate_left 1
          · (intro w hSw; (try dsimp only at hSw); go_simp); all_goals (with_reducible rfl)
          try simp only [Act.put, List.setIfInBounds_toArray, List.set_cons_zero, List.set_cons_succ]
          refine wpAnyH_take (i := 23) (oi := { dst := some 63, op := Go.Op.binOp Go.BinOp.sub 2 (Go.Operand.tmp 62) (Go.Operand.const (Go.Value.int Go.IntKind.i64 1)) 2, type := 2, pos := "l11_fields.go:66", after := #[{ on := 22, ground := Go.Ground.data }], guard := none }) (v := ?_) rfl (by kernel_rfl) (by kernel_rfl) (by kernel_rfl) (fun _ _ _ h => h) (Or.inl ⟨by rfl, ?_⟩) (by assumption) ?_
          rotate_left 1
          · (intro w hSw; (try dsimp only at hSw); go_simp); all_goals (with_reducible rfl)
          try simp only [Act.put, List.setIfInBounds_toArray, List.set_cons_zero, List.set_cons_succ]
          refine wpAnyH_ready (rs := [6]) (by kernel_rfl) (by simp) ?_
          refine AllReadyH.cons (o := { dst := some 46, op := Go.Op.call { callee := Go.Callee.value (Go.Operand.func 19), args := #[Go.Operand.tmp 41, Go.Operand.tmp 42, Go.Operand.tmp 44, Go.Operand.tmp 45], argTypes := #[26, 24, 2, 2] }, type := 37, pos := "l11_fields.go:66", after := #[{ on := 1, ground := Go.Ground.data }, { on := 2, ground := Go.Ground.data }, { on := 4, ground := Go.Ground.data }, { on := 5, ground := Go.Ground.data }], guard := none }) rfl (fun K hK => ?_) AllReadyH.nil
          go_simp
          refine (NE.out ((I : Int) + 1) (J : Int) _ SD.out.2.2.1).mono ?_; rintro e w2 ⟨x2, rfl, hx2, bb⟩; have HX2 : Hid (cn x2 = nearV R C L ((I : Int) + 1) (J : Int)) := hx2; have S2 : Hid (SF w R C s ws st L w2 u5 t) := SD.out.on bb; obtain ⟨d0, d1, d2, d3, d4⟩ := S2.out.2.1; clear bb hx2
          go_wp2_with fail
          refine hK.out _ _ (by (try dsimp only); go_keep) (fun hHeld2 => ?_)
          clear hK K hHeld
          have hHeld := hHeld2
          clear hHeld2
          try simp only [Act.put, List.setIfInBounds_toArray, List.set_cons_zero, List.set_cons_succ]
          refine wpAnyH_ready (rs := [12]) (by kernel_rfl) (by simp) ?_
          refine AllReadyH.cons (o := { dst := some 52, op := Go.Op.call { callee := Go.Callee.value (Go.Operand.func 19), args := #[Go.Operand.tmp 47, Go.Operand.tmp 48, Go.Operand.tmp 49, Go.Operand.tmp 51], argTypes := #[26, 24, 2, 2] }, type := 37, pos := "l11_fields.go:66", after := #[{ on := 7, ground := Go.Ground.data }, { on := 8, ground := Go.Ground.data }, { on := 9, ground := Go.Ground.data }, { on := 11, ground := Go.Ground.data }, { on := 6, ground := Go.Ground.chain }], guard := none }) rfl (fun K hK => ?_) AllReadyH.nil
          go_simp
          refine (NE.out (I : Int) ((J : Int) + 1) _ S2.out.2.2.1).mono ?_; rintro e w3 ⟨x3, rfl, hx3, bb⟩; have HX3 : Hid (cn x3 = nearV R C L (I : Int) ((J : Int) + 1)) := hx3; have S3 : Hid (SF w R C s ws st L w3 u5 t) := S2.out.on bb; clear d0 d1 d2 d3 d4; obtain ⟨d0, d1, d2, d3, d4⟩ := S3.out.2.1; clear bb hx3
          go_wp2_with fail
          refine hK.out _ _ (by (try dsimp only); go_keep) (fun hHeld2 => ?_)
          clear hK K hHeld
          have hHeld := hHeld2
          clear hHeld2
          try simp only [Act.put, List.setIfInBounds_toArray, List.set_cons_zero, List.set_cons_succ]
          refine wpAnyH_ready (rs := [18]) (by kernel_rfl) (by simp) ?_
          refine AllReadyH.cons (o := { dst := some 58, op := Go.Op.call { callee := Go.Callee.value (Go.Operand.func 19), args := #[Go.Operand.tmp 53, Go.Operand.tmp 54, Go.Operand.tmp 56, Go.Operand.tmp 57], argTypes := #[26, 24, 2, 2] }, type := 37, pos := "l11_fields.go:66", after := #[{ on := 13, ground := Go.Ground.data }, { on := 14, ground := Go.Ground.data }, { on := 16, ground := Go.Ground.data }, { on := 17, ground := Go.Ground.data }, { on := 12, ground := Go.Ground.chain }], guard := none }) rfl (fun K hK => ?_) AllReadyH.nil
          go_simp
          refine (NE.out ((I : Int) - 1) (J : Int) _ S3.out.2.2.1).mono ?_; rintro e w4 ⟨x4, rfl, hx4, bb⟩; have HX4 : Hid (cn x4 = nearV R C L ((I : Int) - 1) (J : Int)) := hx4; have S4 : Hid (SF w R C s ws st L w4 u5 t) := S3.out.on bb; clear d0 d1 d2 d3 d4; obtain ⟨d0, d1, d2, d3, d4⟩ := S4.out.2.1; clear bb hx4
          go_wp2_with fail
          refine hK.out _ _ (by (try dsimp only); go_keep) (fun hHeld2 => ?_)
          clear hK K hHeld
          have hHeld := hHeld2
          clear hHeld2
          try simp only [Act.put, List.setIfInBounds_toArray, List.set_cons_zero, List.set_cons_succ]
          refine wpAnyH_ready (rs := [24]) (by kernel_rfl) (by simp) ?_
          refine AllReadyH.cons (o := { dst := some 64, op := Go.Op.call { callee := Go.Callee.value (Go.Operand.func 19), args := #[Go.Operand.tmp 59, Go.Operand.tmp 60, Go.Operand.tmp 61, Go.Operand.tmp 63], argTypes := #[26, 24, 2, 2] }, type := 37, pos := "l11_fields.go:66", after := #[{ on := 19, ground := Go.Ground.data }, { on := 20, ground := Go.Ground.data }, { on := 21, ground := Go.Ground.data }, { on := 23, ground := Go.Ground.data }, { on := 18, ground := Go.Ground.chain }], guard := none }) rfl (fun K hK => ?_) AllReadyH.nil
          go_simp
          refine (NE.out (I : Int) ((J : Int) - 1) _ S4.out.2.2.1).mono ?_; rintro e w5 ⟨x5, rfl, hx5, bb⟩; have HX5 : Hid (cn x5 = nearV R C L (I : Int) ((J : Int) - 1)) := hx5; have S5 : Hid (SF w R C s ws st L w5 u5 t) := S4.out.on bb; clear d0 d1 d2 d3 d4; obtain ⟨d0, d1, d2, d3, d4⟩ := S5.out.2.1; clear bb hx5
          go_wp2_with fail
          refine hK.out _ _ (by (try dsimp only); go_keep) (fun hHeld2 => ?_)
          clear hK K hHeld
          have hHeld := hHeld2
          clear hHeld2
          try simp only [Act.put, List.setIfInBounds_toArray, List.set_cons_zero, List.set_cons_succ]
          refine wpAnyH_ready (rs := [25]) (by kernel_rfl) (by simp) ?_
          refine AllReadyH.cons (o := { dst := some 65, op := Go.Op.buildSlice 24 5 #[(0, Go.Operand.tmp 40), (1, Go.Operand.tmp 46), (2, Go.Operand.tmp 52), (3, Go.Operand.tmp 58), (4, Go.Operand.tmp 64)], type := 24, pos := "l11_fields.go:66", after := #[{ on := 0, ground := Go.Ground.data }, { on := 6, ground := Go.Ground.data }, { on := 12, ground := Go.Ground.data }, { on := 18, ground := Go.Ground.data }, { on := 24, ground := Go.Ground.data }], guard := none }) rfl (fun K hK => ?_) AllReadyH.nil
          go_simp
          refine hK.out _ _ (by (try dsimp only); go_keep) (fun hHeld2 => ?_)
          clear hK K hHeld
          have hHeld := hHeld2
          clear hHeld2
          try simp only [Act.put, List.setIfInBounds_toArray, List.set_cons_zero, List.set_cons_succ]
          refine wpAnyH_ready (rs := [26]) (by kernel_rfl) (by simp) ?_
          refine AllReadyH.cons (o := { dst := some 66, op := Go.Op.call { callee := Go.Callee.value (Go.Operand.func 18), args := #[Go.Operand.tmp 65], argTypes := #[24] }, type := 37, pos := "l11_fields.go:66", after := #[{ on := 25, ground := Go.Ground.data }, { on := 24, ground := Go.Ground.chain }], guard := none }) rfl (fun K hK => ?_) AllReadyH.nil
          go_simp
          refine (Smm.smean _ _ [x, x2, x3, x4, x5] (five_reads w5 x x2 x3 x4 x5)).mono ?_; rintro e w6 ⟨b6, m6, rfl, hmn, hw⟩; have HXV : Hid (cn b6 = smN R C L t) := (by show _ = _; rw [← GT.out]; unfold smV; rw [HV.out, if_neg (by rw [HNX.out]; simp), ← HV.out, ← five_mean (x := x) (by rw [HV.out]) HX2.out HX3.out HX4.out HX5.out]; exact mn_is (by simp) hmn); have SZ : Hid (SF w R C s ws st L w6 u5 t) := S5.out.on (by rw [hw]; exact ((Below.refl _ _).alloc (Nat.le_refl _) _).trans ⟨rfl, rfl, rfl, Nat.le_refl _, fun _ _ => rfl⟩); clear d0 d1 d2 d3 d4; obtain ⟨d0, d1, d2, d3, d4⟩ := SZ.out.2.1; clear hmn hw
          go_wp2_with fail
          refine hK.out _ _ (by (try dsimp only); go_keep) (fun hHeld2 => ?_)
          clear hK K hHeld
          have hHeld := hHeld2
          clear hHeld2
          try simp only [Act.put, List.setIfInBounds_toArray, List.set_cons_zero, List.set_cons_succ]
          refine wpAnyH_take (i := 27) (oi := { dst := some 8, op := Go.Op.assign (Go.Operand.tmp 66), type := 37, pos := "l11_fields.go:66", after := #[{ on := 26, ground := Go.Ground.data }, { on := 26, ground := Go.Ground.chain }, { on := 0, ground := Go.Ground.phase }, { on := 1, ground := Go.Ground.phase }, { on := 2, ground := Go.Ground.phase }, { on := 3, ground := Go.Ground.phase }, { on := 4, ground := Go.Ground.phase }, { on := 5, ground := Go.Ground.phase }, { on := 6, ground := Go.Ground.phase }, { on := 7, ground := Go.Ground.phase }, { on := 8, ground := Go.Ground.phase }, { on := 9, ground := Go.Ground.phase }, { on := 10, ground := Go.Ground.phase }, { on := 11, ground := Go.Ground.phase }, { on := 12, ground := Go.Ground.phase }, { on := 13, ground := Go.Ground.phase }, { on := 14, ground := Go.Ground.phase }, { on := 15, ground := Go.Ground.phase }, { on := 16, ground := Go.Ground.phase }, { on := 17, ground := Go.Ground.phase }, { on := 18, ground := Go.Ground.phase }, { on := 19, ground := Go.Ground.phase }, { on := 20, ground := Go.Ground.phase }, { on := 21, ground := Go.Ground.phase }, { on := 22, ground := Go.Ground.phase }, { on := 23, ground := Go.Ground.phase }, { on := 24, ground := Go.Ground.phase }, { on := 25, ground := Go.Ground.phase }, { on := 26, ground := Go.Ground.phase }], guard := none }) (v := ?_) rfl (by kernel_rfl) (by kernel_rfl) (by kernel_rfl) (fun _ _ _ h => h) (Or.inl ⟨by rfl, ?_⟩) (by assumption) ?_
          rotate_left 1
          · (intro w hSw; (try dsimp only at hSw); go_simp); all_goals (with_reducible rfl)
          try simp only [Act.put, List.setIfInBounds_toArray, List.set_cons_zero, List.set_cons_succ]
          refine wpAnyH_done (by kernel_rfl) ?_ _
          clear g0 g1 g2 g3 g4 d0 d1 d2 d3 d4 hHeld
          obtain ⟨⟨P, h1, h3, h4⟩, hG, hB, hlt2⟩ := SZ.out
          have lP : P.length ≤ 5000 := by rw [h3]; have := HTT.out; omega
          have H1 : Hid ((w6.alloc (.cells #[.float .f64 b6] 37)).ownsRow (w.heap.size + 1) 37 1 u5 P.length (flts P)) := Pr.row_below h1 ((Below.refl _ _).alloc (Nat.le_refl _) _)
          have H4 : Hid (∀ m, m < P.length → cn (P.getD m 0) = smN R C L m) := h4
          have HGG : Hid (Gx (w6.alloc (.cells #[.float .f64 b6] 37)) w.heap.size R C s ws st ∧ Below w.heap.size w (w6.alloc (.cells #[.float .f64 b6] 37)) ∧ w.heap.size < (w6.alloc (.cells #[.float .f64 b6] 37)).heap.size) := ⟨hG.on ((Below.refl _ _).alloc (Nat.le_refl _) _) hlt2, hB.alloc hB.size _, by simp; omega⟩
          have HP : Hid (P.length = t) := h3
          have zz : w.heap.size < w6.heap.size := hlt2
          clear h1 h3 h4 hG hB hlt2 SZ
          go_wp2_with (at_builtin; refine wpList_append_lies _ rfl _ _ 24 rfl (w.heap.size + 1) 37 i0 (.float .f64 0) 1 8 Try.underlying24 hi0 hz0 hz1 hz2 rfl (by decide) _ _ _ rfl H1.out ⟨w6.heap.size, 0, none⟩ 1 1 [.float .f64 b6] rfl rfl (flt_one w6 b6 37) (by intro u hu; simp at hu; subst hu; rfl) (by decide) (by unfold maxLen; omega) (by omega) (by simp; omega) (w6.heap.size + 1) (by simp) ?_)
          intro gq cq w9 hown hgrow hat _
          have SN : Hid (SF w R C s ws st L w9 (.slice (some ⟨gq, 0, none⟩) (P.length + 1) cq) (I * C + (J + 1))) := (by
            show SF _ _ _ _ _ _ _ _ _ _
            rw [show I * C + (J + 1) = P.length + 1 by have := HP.out; have := HTT.out; omega]
            exact SF.push H1.out H4.out HGG.out.1 HGG.out.2.1 HGG.out.2.2 hown hgrow (by rw [HP.out]; exact HXV.out))
          clear hown hgrow hat H1 H4 HGG
          go_wp2_with fail
          go_roundw
          case rel => exact ⟨J + 1, by omega, by go_num, SN⟩
          case measure => simp [intOf]; omega
        · have hJC : J = C := by omega
          subst hJC
          have j1 : ¬ (J : Int) < (J : Int) := by omega
          have SX : Hid (SF w R J s ws st L wr u5 ((I + 1) * J)) := (by show SF _ _ _ _ _ _ _ _ _ _; rw [Nat.add_mul, Nat.one_mul]; exact SJ.out)
          clear SJ
          go_wp2_with fail
          go_roundw
          case rel => exact ⟨I + 1, by omega, by go_num, SX⟩
          case measure => simp [intOf]; omega
    · have hIR : I = R := by omega
      subst hIR
      have j1 : ¬ (I : Int) < (I : Int) := by omega
      obtain ⟨⟨P, h1, h3, h4⟩, hG, hB, hlt2⟩ := SI.out
      have HF : Hid (wr.ownsRow w.heap.size 37 1 u5 (List.length P) (flts P) ∧ List.length P = n ∧ (∀ k, k < List.length P → cn (P.getD k 0) = smN I C L k) ∧ Below w.heap.size w wr) := ⟨row_dn h1 (by omega), by rw [h3, hnn.out], h4, hB⟩
      obtain ⟨fa, fc, hv⟩ := (Fls.reads_row h1).form
      subst hv
      clear h1 h3 h4 hG hB hlt2 SI
      go_wp2_with fail
      go_ret
      exact ⟨_, rfl, P, HF.out.1, HF.out.2.1, HF.out.2.2.1, HF.out.2.2.2⟩
end Go.Proofs.Ytplichonohoacaa.Gd
