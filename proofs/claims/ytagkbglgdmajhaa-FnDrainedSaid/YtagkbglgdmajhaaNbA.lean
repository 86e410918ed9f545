/- A point's neighbours, handed out one by one: the program. -/
import Derived.Test.YtagkbglgdmajhaaBxI
import Derived.Test.YtagkbglgdmajhaaRf
import Derived.RangeFuncNested
import Derived.RangeFuncBound
import Derived.RangeFuncCalls
import Derived.RangeFuncLeaves
import Derived.Shelf.Abstract
import Derived.Shelf.RegionOpen
import Derived.WalkKit
import Derived.OwnWalkIn
import Derived.TacticsInMore
import Derived.LoopNIn
import Derived.LoopIn
namespace Go.Proofs.Ytagkbglgdmajhaa.Gd
open Go.ChangeShapes Go.WideShapes Go.ChangeAt Go.RowKit
open Go.Proofs.Ytagkbglgdmajhaa.Bx (inn inn_iff i_in)
attribute [local go_sem] Oper.semAt_some

abbrev gv (r c s ws st : Int) : Value := .agg #[.int .i64 r, .int .i64 c, .int .i64 s, .int .i64 ws, .int .i64 st]
def Gx (w : World) (b : Nat) (r c s ws st : Int) : Prop := w.cell? ⟨b, 0, none⟩ = some (.int .i64 r) ∧ w.cell? ⟨b, 1, none⟩ = some (.int .i64 c) ∧ w.cell? ⟨b, 2, none⟩ = some (.int .i64 s) ∧ w.cell? ⟨b, 3, none⟩ = some (.int .i64 ws) ∧ w.cell? ⟨b, 4, none⟩ = some (.int .i64 st)
theorem Gx.on {w w' : World} {B b : Nat} {r c s ws st : Int} (h : Gx w b r c s ws st) (hb : Below B w w') (hl : b < B) : Gx w' b r c s ws st :=
  ⟨(hb.cell (p := ⟨b, 0, none⟩) hl).trans h.1, (hb.cell (p := ⟨b, 1, none⟩) hl).trans h.2.1, (hb.cell (p := ⟨b, 2, none⟩) hl).trans h.2.2.1, (hb.cell (p := ⟨b, 3, none⟩) hl).trans h.2.2.2.1, (hb.cell (p := ⟨b, 4, none⟩) hl).trans h.2.2.2.2⟩
def there (r c i j : Int) : Bool := inn i 0 (r - 1) && inn j 0 (c - 1)
abbrev nd (i j : Int) : Value := .agg #[.int .i64 i, .int .i64 j]
abbrev enc2 (e : Int × Int) : Array Value := #[nd e.1 e.2]
def cands (i j : Int) : List (Int × Int) := [(i + 1, j), (i, j + 1), (i - 1, j), (i, j - 1)]
def nb (r c i j : Int) : List (Int × Int) := (cands i j).filter fun e => there r c e.1 e.2
theorem filt_on {α : Type} {p : α → Bool} {L A B : List α} {x : α} (h : L = A ++ x :: B) (hp : p x = true) : A.filter p ++ [x] <+: L.filter p := by
  rw [h, List.filter_append, List.filter_cons_of_pos hp]
  exact ⟨B.filter p, by simp⟩
def Pt (w : World) (b : Nat) (i j : Int) : Prop := w.cell? ⟨b, 0, none⟩ = some (.int .i64 i) ∧ w.cell? ⟨b, 1, none⟩ = some (.int .i64 j)
theorem Pt.on {w w' : World} {B b : Nat} {i j : Int} (h : Pt w b i j) (hb : Below B w w') (hl : b < B) : Pt w' b i j := ⟨(hb.cell (p := ⟨b, 0, none⟩) hl).trans h.1, (hb.cell (p := ⟨b, 1, none⟩) hl).trans h.2⟩
theorem Gx.but {X : Nat → Prop} {w w' : World} {b : Nat} {r c s ws st : Int} (h : Gx w b r c s ws st) (hb : Rf.But X w w') (hl : b < w.heap.size) (hx : ¬ X b) : Gx w' b r c s ws st :=
  ⟨(hb.cell (p := ⟨b, 0, none⟩) hl hx).trans h.1, (hb.cell (p := ⟨b, 1, none⟩) hl hx).trans h.2.1, (hb.cell (p := ⟨b, 2, none⟩) hl hx).trans h.2.2.1, (hb.cell (p := ⟨b, 3, none⟩) hl hx).trans h.2.2.2.1, (hb.cell (p := ⟨b, 4, none⟩) hl hx).trans h.2.2.2.2⟩
theorem i_in41 (n a b : Int) (w : World) : Calls Try.prog 33 #[.int .i64 n, .int .i64 a, .int .i64 b] w fun e w' => e = .returned (.bool (inn n a b)) ∧ w' = w := i_in n a b w

set_option maxHeartbeats 1000000 in
theorem nbs_in (r c s ws st i j : Int) (w : World) : CallsIn Fence.wide 4 Try.prog 36 #[gv r c s ws st, nd i j] w fun e w' => e = .returned (.func (.func 40) #[] #[.pointer (some ⟨w.heap.size + 1, 0, none⟩), .pointer (some ⟨w.heap.size, 0, none⟩)]) ∧ w' = (w.alloc (Obj.cells #[.int .i64 r, .int .i64 c, .int .i64 s, .int .i64 ws, .int .i64 st] 67)).alloc (Obj.cells #[.int .i64 i, .int .i64 j] 69) := by
  refine callsIn_of_wp Try.func36 rfl trivial ?_ rfl
  simp only [Try.ntmps36, List.size_toArray, List.length_cons, List.length_nil, Nat.reduceAdd, Nat.reduceSub, Array.replicate_succ, Array.replicate_zero, List.push_toArray, List.append_toArray, List.nil_append, List.cons_append]
  gi_wp2
  go_ret
  exact ⟨rfl, rfl⟩

set_option maxRecDepth 20000 in
set_option maxHeartbeats 4000000 in
theorem nb_seq (r c s ws st i j : Int) (hr : 1 ≤ r ∧ r ≤ 64) (hc : 1 ≤ c ∧ c ≤ 64) (hi : 0 ≤ i ∧ i < r) (hj : 0 ≤ j ∧ j < c) (bg ba : Nat) (w : World) (hg : Gx w bg r c s ws st) (ha : Pt w ba i j) (lg : bg < w.heap.size) (la : ba < w.heap.size) (Y : Nat → Prop) (hY : ¬ Y bg) :
    Rf.SeqG Fence.wide 4 Try.prog 40 #[.pointer (some ⟨ba, 0, none⟩), .pointer (some ⟨bg, 0, none⟩)] enc2 (fun l k => Y k ∨ k = l) (nb r c i j) w := by
  intro l J W hl hlW hbW hJ hR h0
  refine callsIn_of_wp Try.func40 rfl trivial ?_ rfl
  simp only [Try.ntmps40, List.size_toArray, List.length_cons, List.length_nil, Nat.reduceAdd, Nat.reduceSub, Array.replicate_succ, Array.replicate_zero, List.push_toArray, List.append_toArray, List.nil_append, List.cons_append]
  obtain ⟨a0, a1⟩ := ha.on hbW la
  have G0 : Hid (Gx W bg r c s ws st) := hg.on hbW lg
  have LG : Hid (bg < w.heap.size ∧ w.heap.size ≤ W.heap.size ∧ w.heap.size ≤ l) := ⟨lg, hbW.size, hl⟩
  have HJ : Hid (∀ (s : List (Int × Int)) (A C : World), J s A → Below A.heap.size A C → J s C) := hJ
  have HR : Hid (∀ (pre : List (Int × Int)) (e : Int × Int) (W1 : World), J pre W1 → pre ++ [e] <+: nb r c i j → YieldAt Fence.wide 3 Try.prog l (enc2 e) W1 fun e' W' => e' = .returned (.bool true) ∧ J (pre ++ [e]) W' ∧ Rf.But (fun k => Y k ∨ k = l) W1 W') := hR
  have J0 : Hid (J [] W) := h0
  have NX : Hid (¬ (Y bg ∨ bg = l)) := fun h => by rcases h with h | h; exact hY h; omega
  have h41 : Fence.wide.fn 33 := trivial
  clear hJ hR h0 hg ha hY hbW
  gi_wp2
  clear a0 a1
  gi_loopw [32] (fun u wr => ∃ k : Nat, k ≤ 4 ∧ u = .int .i64 k ∧ Hid (J (((cands i j).take k).filter fun e => there r c e.1 e.2) wr ∧ Gx wr bg r c s ws st ∧ bg < wr.heap.size)) (fun u _ => 4 - (intOf u).toNat)
  case atStart => exact ⟨0, by omega, rfl, J0.out, G0.out, by have := LG.out; omega⟩
  case round =>
    obtain ⟨k, hk, rfl, IV⟩ := hrel
    clear J0 G0
    have hk5 : k = 0 ∨ k = 1 ∨ k = 2 ∨ k = 3 ∨ k = 4 := by omega
    rcases hk5 with rfl | rfl | rfl | rfl | rfl
    · have IJ : Hid (J ([].filter fun e => there r c e.1 e.2) wr) := IV.out.1
      have GI : Hid (Gx wr bg r c s ws st ∧ bg < wr.heap.size) := IV.out.2
      have NE : Hid (there r c (i + 1) j = false → ([(i + 1, j)].filter fun e => there r c e.1 e.2) = [].filter fun e => there r c e.1 e.2) := fun h => by simp only [List.filter_cons, List.filter_nil, h]; simp
      have NP : Hid (there r c (i + 1) j = true → ([].filter fun e => there r c e.1 e.2) ++ [(i + 1, j)] <+: nb r c i j) := fun h => filt_on (p := fun e : Int × Int => there r c e.1 e.2) (B := [(i, j + 1), (i - 1, j), (i, j - 1)]) rfl h
      have NQ : Hid (there r c (i + 1) j = true → ([].filter fun e => there r c e.1 e.2) ++ [(i + 1, j)] = [(i + 1, j)].filter fun e => there r c e.1 e.2) := fun h => by simp only [List.filter_cons, List.filter_nil, h]; cases there r c (i + 1) j <;> cases there r c i (j + 1) <;> cases there r c (i - 1) j <;> simp_all
      clear IV
      have T1 : Hid (∀ w, Calls Try.prog 33 #[.int .i64 (i + 1), .int .i64 0, .int .i64 (r - 1)] w fun e w' => e = .returned (.bool (inn (i + 1) 0 (r - 1))) ∧ w' = w) := fun w => i_in41 _ _ _ w
      have T2 : Hid (∀ w, Calls Try.prog 33 #[.int .i64 (j), .int .i64 0, .int .i64 (c - 1)] w fun e w' => e = .returned (.bool (inn (j) 0 (c - 1))) ∧ w' = w) := fun w => i_in41 _ _ _ w
      obtain ⟨wa, hwa⟩ : ∃ wa, wa = wr.alloc (Obj.cells #[.int .i64 (i + 1), .int .i64 (j)] 69) := ⟨_, rfl⟩
      have HWA : Hid (wa = wr.alloc (Obj.cells #[.int .i64 (i + 1), .int .i64 (j)] 69)) := hwa
      have ba : Hid (Below wr.heap.size wr wa) := (by show Below _ _ _; rw [hwa]; exact (Below.refl _ _).alloc (Nat.le_refl _) _)
      have e0 : wa.cell? ⟨wr.heap.size, 0, none⟩ = some (.int .i64 (i + 1)) := by rw [hwa]; simp [go_sem]
      have e1 : wa.cell? ⟨wr.heap.size, 1, none⟩ = some (.int .i64 (j)) := by rw [hwa]; simp [go_sem]
      obtain ⟨g0, g1, g2, g3, g4⟩ := GI.out.1.on ba.out GI.out.2
      have JA : Hid (J ([].filter fun e => there r c e.1 e.2) wa) := HJ.out _ _ _ IJ.out ba.out
      have GA : Hid (Gx wa bg r c s ws st ∧ bg < wa.heap.size) := ⟨⟨g0, g1, g2, g3, g4⟩, Nat.lt_of_lt_of_le GI.out.2 ba.out.size⟩
      clear hwa
      have hix : ∀ w : World, (Instr.index 79 (.agg #[.int .i64 (i + 1), .int .i64 j, .int .i64 i, .int .i64 (j + 1), .int .i64 (i - 1), .int .i64 j, .int .i64 i, .int .i64 (j - 1)]) (.int .i64 0)).run Try.prog w = .ok (.agg #[.int .i64 (i + 1), .int .i64 (j)]) w := fun _ => by kernel_rfl
      rw [HWA.out] at e0 e1 g0 g1 g2 g3 g4
      gi_wp2_with fail
      rw [← HWA.out]
      rw [← HWA.out] at e0 e1 g0 g1 g2 g3 g4
      refine (callsIn_wide.2 (T1.out _)).mono ?_
      rintro e w1 ⟨rfl, hw⟩
      have hw' := hw.symm
      subst hw'
      clear hix
      cases t1 : inn (i + 1) 0 (r - 1)
      · have NT : Hid (([(i + 1, j)].filter fun e => there r c e.1 e.2) = [].filter fun e => there r c e.1 e.2) := NE.out (by unfold there; rw [t1]; rfl)
        clear NE NP NQ HR
        gi_wp2_with fail
        refine ⟨fun _ h => (by cases h), ?_⟩
        gi_wp2_with fail
        go_roundw
        case rel => exact ⟨1, by omega, by go_num, ⟨(by show J _ _; exact (congrArg (fun q => J q wa) NT.out).mpr JA.out), GA.out.1, GA.out.2⟩⟩
        case measure => simp [intOf]
      · gi_wp2_with fail
        refine (callsIn_wide.2 (T2.out _)).mono ?_
        rintro e w2 ⟨rfl, hw⟩
        have hw2 := hw.symm
        subst hw2
        cases t2 : inn (j) 0 (c - 1)
        · have NT : Hid (([(i + 1, j)].filter fun e => there r c e.1 e.2) = [].filter fun e => there r c e.1 e.2) := NE.out (by unfold there; rw [t1, t2]; rfl)
          clear NE NP NQ HR
          gi_wp2_with fail
          refine ⟨fun _ h => (by cases h), ?_⟩
          gi_wp2_with fail
          go_roundw
          case rel => exact ⟨1, by omega, by go_num, ⟨(by show J _ _; exact (congrArg (fun q => J q wa) NT.out).mpr JA.out), GA.out.1, GA.out.2⟩⟩
          case measure => simp [intOf]
        · have ht : there r c (i + 1) j = true := by unfold there; rw [t1, t2]; rfl
          have NT : Hid (([].filter fun e => there r c e.1 e.2) ++ [(i + 1, j)] = [(i + 1, j)].filter fun e => there r c e.1 e.2) := NQ.out ht
          obtain ⟨fn, tmps, assign, body, hy, hR⟩ := HR.out _ (i + 1, j) wa JA.out (NP.out ht)
          simp only [enc2, nd] at hy
          clear NE NP NQ HR ht t1 t2
          gi_wp2_with fail
          refine hR.mono ?_
          clear hR hy
          rintro e W3 ⟨rfl, hJ3, hk3⟩
          have G3 : Hid (Gx W3 bg r c s ws st ∧ bg < W3.heap.size) := ⟨GA.out.1.but hk3 GA.out.2 NX.out, Nat.lt_of_lt_of_le GA.out.2 hk3.size⟩
          have J3 : Hid (J ([(i + 1, j)].filter fun e => there r c e.1 e.2) W3) := (by show J _ _; rw [← NT.out]; exact hJ3)
          clear hJ3 hk3 e0 e1 g0 g1 g2 g3 g4
          gi_wp2_with fail
          go_roundw
          case rel => exact ⟨1, by omega, by go_num, ⟨J3.out, G3.out.1, G3.out.2⟩⟩
          case measure => simp [intOf]
    · have IJ : Hid (J ([(i + 1, j)].filter fun e => there r c e.1 e.2) wr) := IV.out.1
      have GI : Hid (Gx wr bg r c s ws st ∧ bg < wr.heap.size) := IV.out.2
      have NE : Hid (there r c i (j + 1) = false → ([(i + 1, j), (i, j + 1)].filter fun e => there r c e.1 e.2) = [(i + 1, j)].filter fun e => there r c e.1 e.2) := fun h => by simp only [List.filter_cons, List.filter_nil, h]; simp
      have NP : Hid (there r c i (j + 1) = true → ([(i + 1, j)].filter fun e => there r c e.1 e.2) ++ [(i, j + 1)] <+: nb r c i j) := fun h => filt_on (p := fun e : Int × Int => there r c e.1 e.2) (B := [(i - 1, j), (i, j - 1)]) rfl h
      have NQ : Hid (there r c i (j + 1) = true → ([(i + 1, j)].filter fun e => there r c e.1 e.2) ++ [(i, j + 1)] = [(i + 1, j), (i, j + 1)].filter fun e => there r c e.1 e.2) := fun h => by simp only [List.filter_cons, List.filter_nil, h]; cases there r c (i + 1) j <;> cases there r c i (j + 1) <;> cases there r c (i - 1) j <;> simp_all
      clear IV
      have T1 : Hid (∀ w, Calls Try.prog 33 #[.int .i64 (i), .int .i64 0, .int .i64 (r - 1)] w fun e w' => e = .returned (.bool (inn (i) 0 (r - 1))) ∧ w' = w) := fun w => i_in41 _ _ _ w
      have T2 : Hid (∀ w, Calls Try.prog 33 #[.int .i64 (j + 1), .int .i64 0, .int .i64 (c - 1)] w fun e w' => e = .returned (.bool (inn (j + 1) 0 (c - 1))) ∧ w' = w) := fun w => i_in41 _ _ _ w
      obtain ⟨wa, hwa⟩ : ∃ wa, wa = wr.alloc (Obj.cells #[.int .i64 (i), .int .i64 (j + 1)] 69) := ⟨_, rfl⟩
      have HWA : Hid (wa = wr.alloc (Obj.cells #[.int .i64 (i), .int .i64 (j + 1)] 69)) := hwa
      have ba : Hid (Below wr.heap.size wr wa) := (by show Below _ _ _; rw [hwa]; exact (Below.refl _ _).alloc (Nat.le_refl _) _)
      have e0 : wa.cell? ⟨wr.heap.size, 0, none⟩ = some (.int .i64 (i)) := by rw [hwa]; simp [go_sem]
      have e1 : wa.cell? ⟨wr.heap.size, 1, none⟩ = some (.int .i64 (j + 1)) := by rw [hwa]; simp [go_sem]
      obtain ⟨g0, g1, g2, g3, g4⟩ := GI.out.1.on ba.out GI.out.2
      have JA : Hid (J ([(i + 1, j)].filter fun e => there r c e.1 e.2) wa) := HJ.out _ _ _ IJ.out ba.out
      have GA : Hid (Gx wa bg r c s ws st ∧ bg < wa.heap.size) := ⟨⟨g0, g1, g2, g3, g4⟩, Nat.lt_of_lt_of_le GI.out.2 ba.out.size⟩
      clear hwa
      have hix : ∀ w : World, (Instr.index 79 (.agg #[.int .i64 (i + 1), .int .i64 j, .int .i64 i, .int .i64 (j + 1), .int .i64 (i - 1), .int .i64 j, .int .i64 i, .int .i64 (j - 1)]) (.int .i64 1)).run Try.prog w = .ok (.agg #[.int .i64 (i), .int .i64 (j + 1)]) w := fun _ => by kernel_rfl
      rw [HWA.out] at e0 e1 g0 g1 g2 g3 g4
      gi_wp2_with fail
      rw [← HWA.out]
      rw [← HWA.out] at e0 e1 g0 g1 g2 g3 g4
      refine (callsIn_wide.2 (T1.out _)).mono ?_
      rintro e w1 ⟨rfl, hw⟩
      have hw' := hw.symm
      subst hw'
      clear hix
      cases t1 : inn (i) 0 (r - 1)
      · have NT : Hid (([(i + 1, j), (i, j + 1)].filter fun e => there r c e.1 e.2) = [(i + 1, j)].filter fun e => there r c e.1 e.2) := NE.out (by unfold there; rw [t1]; rfl)
        clear NE NP NQ HR
        gi_wp2_with fail
        refine ⟨fun _ h => (by cases h), ?_⟩
        gi_wp2_with fail
        go_roundw
        case rel => exact ⟨2, by omega, by go_num, ⟨(by show J _ _; exact (congrArg (fun q => J q wa) NT.out).mpr JA.out), GA.out.1, GA.out.2⟩⟩
        case measure => simp [intOf]
      · gi_wp2_with fail
        refine (callsIn_wide.2 (T2.out _)).mono ?_
        rintro e w2 ⟨rfl, hw⟩
        have hw2 := hw.symm
        subst hw2
        cases t2 : inn (j + 1) 0 (c - 1)
        · have NT : Hid (([(i + 1, j), (i, j + 1)].filter fun e => there r c e.1 e.2) = [(i + 1, j)].filter fun e => there r c e.1 e.2) := NE.out (by unfold there; rw [t1, t2]; rfl)
          clear NE NP NQ HR
          gi_wp2_with fail
          refine ⟨fun _ h => (by cases h), ?_⟩
          gi_wp2_with fail
          go_roundw
          case rel => exact ⟨2, by omega, by go_num, ⟨(by show J _ _; exact (congrArg (fun q => J q wa) NT.out).mpr JA.out), GA.out.1, GA.out.2⟩⟩
          case measure => simp [intOf]
        · have ht : there r c i (j + 1) = true := by unfold there; rw [t1, t2]; rfl
          have NT : Hid (([(i + 1, j)].filter fun e => there r c e.1 e.2) ++ [(i, j + 1)] = [(i + 1, j), (i, j + 1)].filter fun e => there r c e.1 e.2) := NQ.out ht
          obtain ⟨fn, tmps, assign, body, hy, hR⟩ := HR.out _ (i, j + 1) wa JA.out (NP.out ht)
          simp only [enc2, nd] at hy
          clear NE NP NQ HR ht t1 t2
          gi_wp2_with fail
          refine hR.mono ?_
          clear hR hy
          rintro e W3 ⟨rfl, hJ3, hk3⟩
          have G3 : Hid (Gx W3 bg r c s ws st ∧ bg < W3.heap.size) := ⟨GA.out.1.but hk3 GA.out.2 NX.out, Nat.lt_of_lt_of_le GA.out.2 hk3.size⟩
          have J3 : Hid (J ([(i + 1, j), (i, j + 1)].filter fun e => there r c e.1 e.2) W3) := (by show J _ _; rw [← NT.out]; exact hJ3)
          clear hJ3 hk3 e0 e1 g0 g1 g2 g3 g4
          gi_wp2_with fail
          go_roundw
          case rel => exact ⟨2, by omega, by go_num, ⟨J3.out, G3.out.1, G3.out.2⟩⟩
          case measure => simp [intOf]
    · have IJ : Hid (J ([(i + 1, j), (i, j + 1)].filter fun e => there r c e.1 e.2) wr) := IV.out.1
      have GI : Hid (Gx wr bg r c s ws st ∧ bg < wr.heap.size) := IV.out.2
      have NE : Hid (there r c (i - 1) j = false → ([(i + 1, j), (i, j + 1), (i - 1, j)].filter fun e => there r c e.1 e.2) = [(i + 1, j), (i, j + 1)].filter fun e => there r c e.1 e.2) := fun h => by simp only [List.filter_cons, List.filter_nil, h]; simp
      have NP : Hid (there r c (i - 1) j = true → ([(i + 1, j), (i, j + 1)].filter fun e => there r c e.1 e.2) ++ [(i - 1, j)] <+: nb r c i j) := fun h => filt_on (p := fun e : Int × Int => there r c e.1 e.2) (B := [(i, j - 1)]) rfl h
      have NQ : Hid (there r c (i - 1) j = true → ([(i + 1, j), (i, j + 1)].filter fun e => there r c e.1 e.2) ++ [(i - 1, j)] = [(i + 1, j), (i, j + 1), (i - 1, j)].filter fun e => there r c e.1 e.2) := fun h => by simp only [List.filter_cons, List.filter_nil, h]; cases there r c (i + 1) j <;> cases there r c i (j + 1) <;> cases there r c (i - 1) j <;> simp_all
      clear IV
      have T1 : Hid (∀ w, Calls Try.prog 33 #[.int .i64 (i - 1), .int .i64 0, .int .i64 (r - 1)] w fun e w' => e = .returned (.bool (inn (i - 1) 0 (r - 1))) ∧ w' = w) := fun w => i_in41 _ _ _ w
      have T2 : Hid (∀ w, Calls Try.prog 33 #[.int .i64 (j), .int .i64 0, .int .i64 (c - 1)] w fun e w' => e = .returned (.bool (inn (j) 0 (c - 1))) ∧ w' = w) := fun w => i_in41 _ _ _ w
      obtain ⟨wa, hwa⟩ : ∃ wa, wa = wr.alloc (Obj.cells #[.int .i64 (i - 1), .int .i64 (j)] 69) := ⟨_, rfl⟩
      have HWA : Hid (wa = wr.alloc (Obj.cells #[.int .i64 (i - 1), .int .i64 (j)] 69)) := hwa
      have ba : Hid (Below wr.heap.size wr wa) := (by show Below _ _ _; rw [hwa]; exact (Below.refl _ _).alloc (Nat.le_refl _) _)
      have e0 : wa.cell? ⟨wr.heap.size, 0, none⟩ = some (.int .i64 (i - 1)) := by rw [hwa]; simp [go_sem]
      have e1 : wa.cell? ⟨wr.heap.size, 1, none⟩ = some (.int .i64 (j)) := by rw [hwa]; simp [go_sem]
      obtain ⟨g0, g1, g2, g3, g4⟩ := GI.out.1.on ba.out GI.out.2
      have JA : Hid (J ([(i + 1, j), (i, j + 1)].filter fun e => there r c e.1 e.2) wa) := HJ.out _ _ _ IJ.out ba.out
      have GA : Hid (Gx wa bg r c s ws st ∧ bg < wa.heap.size) := ⟨⟨g0, g1, g2, g3, g4⟩, Nat.lt_of_lt_of_le GI.out.2 ba.out.size⟩
      clear hwa
      have hix : ∀ w : World, (Instr.index 79 (.agg #[.int .i64 (i + 1), .int .i64 j, .int .i64 i, .int .i64 (j + 1), .int .i64 (i - 1), .int .i64 j, .int .i64 i, .int .i64 (j - 1)]) (.int .i64 2)).run Try.prog w = .ok (.agg #[.int .i64 (i - 1), .int .i64 (j)]) w := fun _ => by kernel_rfl
      rw [HWA.out] at e0 e1 g0 g1 g2 g3 g4
      gi_wp2_with fail
      rw [← HWA.out]
      rw [← HWA.out] at e0 e1 g0 g1 g2 g3 g4
      refine (callsIn_wide.2 (T1.out _)).mono ?_
      rintro e w1 ⟨rfl, hw⟩
      have hw' := hw.symm
      subst hw'
      clear hix
      cases t1 : inn (i - 1) 0 (r - 1)
      · have NT : Hid (([(i + 1, j), (i, j + 1), (i - 1, j)].filter fun e => there r c e.1 e.2) = [(i + 1, j), (i, j + 1)].filter fun e => there r c e.1 e.2) := NE.out (by unfold there; rw [t1]; rfl)
        clear NE NP NQ HR
        gi_wp2_with fail
        refine ⟨fun _ h => (by cases h), ?_⟩
        gi_wp2_with fail
        go_roundw
        case rel => exact ⟨3, by omega, by go_num, ⟨(by show J _ _; exact (congrArg (fun q => J q wa) NT.out).mpr JA.out), GA.out.1, GA.out.2⟩⟩
        case measure => simp [intOf]
      · gi_wp2_with fail
        refine (callsIn_wide.2 (T2.out _)).mono ?_
        rintro e w2 ⟨rfl, hw⟩
        have hw2 := hw.symm
        subst hw2
        cases t2 : inn (j) 0 (c - 1)
        · have NT : Hid (([(i + 1, j), (i, j + 1), (i - 1, j)].filter fun e => there r c e.1 e.2) = [(i + 1, j), (i, j + 1)].filter fun e => there r c e.1 e.2) := NE.out (by unfold there; rw [t1, t2]; rfl)
          clear NE NP NQ HR
          gi_wp2_with fail
          refine ⟨fun _ h => (by cases h), ?_⟩
          gi_wp2_with fail
          go_roundw
          case rel => exact ⟨3, by omega, by go_num, ⟨(by show J _ _; exact (congrArg (fun q => J q wa) NT.out).mpr JA.out), GA.out.1, GA.out.2⟩⟩
          case measure => simp [intOf]
        · have ht : there r c (i - 1) j = true := by unfold there; rw [t1, t2]; rfl
          have NT : Hid (([(i + 1, j), (i, j + 1)].filter fun e => there r c e.1 e.2) ++ [(i - 1, j)] = [(i + 1, j), (i, j + 1), (i - 1, j)].filter fun e => there r c e.1 e.2) := NQ.out ht
          obtain ⟨fn, tmps, assign, body, hy, hR⟩ := HR.out _ (i - 1, j) wa JA.out (NP.out ht)
          simp only [enc2, nd] at hy
          clear NE NP NQ HR ht t1 t2
          gi_wp2_with fail
          refine hR.mono ?_
          clear hR hy
          rintro e W3 ⟨rfl, hJ3, hk3⟩
          have G3 : Hid (Gx W3 bg r c s ws st ∧ bg < W3.heap.size) := ⟨GA.out.1.but hk3 GA.out.2 NX.out, Nat.lt_of_lt_of_le GA.out.2 hk3.size⟩
          have J3 : Hid (J ([(i + 1, j), (i, j + 1), (i - 1, j)].filter fun e => there r c e.1 e.2) W3) := (by show J _ _; rw [← NT.out]; exact hJ3)
          clear hJ3 hk3 e0 e1 g0 g1 g2 g3 g4
          gi_wp2_with fail
          go_roundw
          case rel => exact ⟨3, by omega, by go_num, ⟨J3.out, G3.out.1, G3.out.2⟩⟩
          case measure => simp [intOf]
    · have IJ : Hid (J ([(i + 1, j), (i, j + 1), (i - 1, j)].filter fun e => there r c e.1 e.2) wr) := IV.out.1
      have GI : Hid (Gx wr bg r c s ws st ∧ bg < wr.heap.size) := IV.out.2
      have NE : Hid (there r c i (j - 1) = false → ([(i + 1, j), (i, j + 1), (i - 1, j), (i, j - 1)].filter fun e => there r c e.1 e.2) = [(i + 1, j), (i, j + 1), (i - 1, j)].filter fun e => there r c e.1 e.2) := fun h => by simp only [List.filter_cons, List.filter_nil, h]; simp
      have NP : Hid (there r c i (j - 1) = true → ([(i + 1, j), (i, j + 1), (i - 1, j)].filter fun e => there r c e.1 e.2) ++ [(i, j - 1)] <+: nb r c i j) := fun h => filt_on (p := fun e : Int × Int => there r c e.1 e.2) (B := []) rfl h
      have NQ : Hid (there r c i (j - 1) = true → ([(i + 1, j), (i, j + 1), (i - 1, j)].filter fun e => there r c e.1 e.2) ++ [(i, j - 1)] = [(i + 1, j), (i, j + 1), (i - 1, j), (i, j - 1)].filter fun e => there r c e.1 e.2) := fun h => by simp only [List.filter_cons, List.filter_nil, h]; cases there r c (i + 1) j <;> cases there r c i (j + 1) <;> cases there r c (i - 1) j <;> simp_all
      clear IV
      have T1 : Hid (∀ w, Calls Try.prog 33 #[.int .i64 (i), .int .i64 0, .int .i64 (r - 1)] w fun e w' => e = .returned (.bool (inn (i) 0 (r - 1))) ∧ w' = w) := fun w => i_in41 _ _ _ w
      have T2 : Hid (∀ w, Calls Try.prog 33 #[.int .i64 (j - 1), .int .i64 0, .int .i64 (c - 1)] w fun e w' => e = .returned (.bool (inn (j - 1) 0 (c - 1))) ∧ w' = w) := fun w => i_in41 _ _ _ w
      obtain ⟨wa, hwa⟩ : ∃ wa, wa = wr.alloc (Obj.cells #[.int .i64 (i), .int .i64 (j - 1)] 69) := ⟨_, rfl⟩
      have HWA : Hid (wa = wr.alloc (Obj.cells #[.int .i64 (i), .int .i64 (j - 1)] 69)) := hwa
      have ba : Hid (Below wr.heap.size wr wa) := (by show Below _ _ _; rw [hwa]; exact (Below.refl _ _).alloc (Nat.le_refl _) _)
      have e0 : wa.cell? ⟨wr.heap.size, 0, none⟩ = some (.int .i64 (i)) := by rw [hwa]; simp [go_sem]
      have e1 : wa.cell? ⟨wr.heap.size, 1, none⟩ = some (.int .i64 (j - 1)) := by rw [hwa]; simp [go_sem]
      obtain ⟨g0, g1, g2, g3, g4⟩ := GI.out.1.on ba.out GI.out.2
      have JA : Hid (J ([(i + 1, j), (i, j + 1), (i - 1, j)].filter fun e => there r c e.1 e.2) wa) := HJ.out _ _ _ IJ.out ba.out
      have GA : Hid (Gx wa bg r c s ws st ∧ bg < wa.heap.size) := ⟨⟨g0, g1, g2, g3, g4⟩, Nat.lt_of_lt_of_le GI.out.2 ba.out.size⟩
      clear hwa
      have hix : ∀ w : World, (Instr.index 79 (.agg #[.int .i64 (i + 1), .int .i64 j, .int .i64 i, .int .i64 (j + 1), .int .i64 (i - 1), .int .i64 j, .int .i64 i, .int .i64 (j - 1)]) (.int .i64 3)).run Try.prog w = .ok (.agg #[.int .i64 (i), .int .i64 (j - 1)]) w := fun _ => by kernel_rfl
      rw [HWA.out] at e0 e1 g0 g1 g2 g3 g4
      gi_wp2_with fail
      rw [← HWA.out]
      rw [← HWA.out] at e0 e1 g0 g1 g2 g3 g4
      refine (callsIn_wide.2 (T1.out _)).mono ?_
      rintro e w1 ⟨rfl, hw⟩
      have hw' := hw.symm
      subst hw'
      clear hix
      cases t1 : inn (i) 0 (r - 1)
      · have NT : Hid (([(i + 1, j), (i, j + 1), (i - 1, j), (i, j - 1)].filter fun e => there r c e.1 e.2) = [(i + 1, j), (i, j + 1), (i - 1, j)].filter fun e => there r c e.1 e.2) := NE.out (by unfold there; rw [t1]; rfl)
        clear NE NP NQ HR
        gi_wp2_with fail
        refine ⟨fun _ h => (by cases h), ?_⟩
        gi_wp2_with fail
        go_roundw
        case rel => exact ⟨4, by omega, by go_num, ⟨(by show J _ _; exact (congrArg (fun q => J q wa) NT.out).mpr JA.out), GA.out.1, GA.out.2⟩⟩
        case measure => simp [intOf]
      · gi_wp2_with fail
        refine (callsIn_wide.2 (T2.out _)).mono ?_
        rintro e w2 ⟨rfl, hw⟩
        have hw2 := hw.symm
        subst hw2
        cases t2 : inn (j - 1) 0 (c - 1)
        · have NT : Hid (([(i + 1, j), (i, j + 1), (i - 1, j), (i, j - 1)].filter fun e => there r c e.1 e.2) = [(i + 1, j), (i, j + 1), (i - 1, j)].filter fun e => there r c e.1 e.2) := NE.out (by unfold there; rw [t1, t2]; rfl)
          clear NE NP NQ HR
          gi_wp2_with fail
          refine ⟨fun _ h => (by cases h), ?_⟩
          gi_wp2_with fail
          go_roundw
          case rel => exact ⟨4, by omega, by go_num, ⟨(by show J _ _; exact (congrArg (fun q => J q wa) NT.out).mpr JA.out), GA.out.1, GA.out.2⟩⟩
          case measure => simp [intOf]
        · have ht : there r c i (j - 1) = true := by unfold there; rw [t1, t2]; rfl
          have NT : Hid (([(i + 1, j), (i, j + 1), (i - 1, j)].filter fun e => there r c e.1 e.2) ++ [(i, j - 1)] = [(i + 1, j), (i, j + 1), (i - 1, j), (i, j - 1)].filter fun e => there r c e.1 e.2) := NQ.out ht
          obtain ⟨fn, tmps, assign, body, hy, hR⟩ := HR.out _ (i, j - 1) wa JA.out (NP.out ht)
          simp only [enc2, nd] at hy
          clear NE NP NQ HR ht t1 t2
          gi_wp2_with fail
          refine hR.mono ?_
          clear hR hy
          rintro e W3 ⟨rfl, hJ3, hk3⟩
          have G3 : Hid (Gx W3 bg r c s ws st ∧ bg < W3.heap.size) := ⟨GA.out.1.but hk3 GA.out.2 NX.out, Nat.lt_of_lt_of_le GA.out.2 hk3.size⟩
          have J3 : Hid (J ([(i + 1, j), (i, j + 1), (i - 1, j), (i, j - 1)].filter fun e => there r c e.1 e.2) W3) := (by show J _ _; rw [← NT.out]; exact hJ3)
          clear hJ3 hk3 e0 e1 g0 g1 g2 g3 g4
          gi_wp2_with fail
          go_roundw
          case rel => exact ⟨4, by omega, by go_num, ⟨J3.out, G3.out.1, G3.out.2⟩⟩
          case measure => simp [intOf]
    · have IJ : Hid (J (nb r c i j) wr) := IV.out.1
      gi_wp2
      go_end0
      exact ⟨⟨_, rfl⟩, IJ.out⟩
end Go.Proofs.Ytagkbglgdmajhaa.Gd
