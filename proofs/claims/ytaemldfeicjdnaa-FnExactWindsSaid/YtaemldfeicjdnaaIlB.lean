/- The sides along a loop, handed out one by one: the program. -/
import Derived.Test.YtaemldfeicjdnaaIlA
import Derived.Test.YtaemldfeicjdnaaRf
import Derived.RangeFuncNested
import Derived.RangeFuncBound
import Derived.RangeFuncCalls
import Derived.RangeFuncLeaves
import Derived.Shelf.Abstract
import Derived.Shelf.RegionOpen
import Derived.WalkKit
import Derived.OwnWalkIn
import Derived.TacticsInMore
import Derived.LoopNIn
import Derived.LoopIn
namespace Go.Proofs.Ytaemldfeicjdnaa.Lp
open Go.ChangeShapes Go.WideShapes Go.ChangeAt Go.RowKit
open Go.Proofs.Ytaemldfeicjdnaa.Lists
attribute [local go_sem] Oper.semAt_some

abbrev enc1 (e : Int × Int × Int) : Array Value := #[.agg #[.int .i64 e.1, .int .i64 e.2.1, .int .i64 e.2.2]]

set_option maxHeartbeats 1000000 in
theorem along_in (x y : Int) (a : Option Addr) (n cap : Nat) (w : World) : CallsIn Fence.wide 4 Try.prog 32 #[sv x y (.slice a n cap)] w fun e w' => e = .returned (.func (.func 36) #[] #[.pointer (some ⟨w.heap.size, 0, none⟩)]) ∧ w' = w.alloc (Obj.cells #[.int .i64 x, .int .i64 y, .slice a n cap] 41) := by
  refine callsIn_of_wp Try.func32 rfl trivial ?_ rfl
  simp only [Try.ntmps32, List.size_toArray, List.length_cons, List.length_nil, Nat.reduceAdd, Nat.reduceSub, Array.replicate_succ, Array.replicate_zero, List.push_toArray, List.append_toArray, List.nil_append, List.cons_append]
  gi_wp2
  go_ret
  exact ⟨rfl, rfl⟩

set_option maxHeartbeats 1000000 in
theorem sides_seq (x y : Int) (L : List Int) (hok : okL x y L = true) (a : Option Addr) (cap : Nat) (w0 : World) (hL : Lists.Reads w0 (.slice a L.length cap) L) (Bl : Nat) (w : World) (hw : Below w0.heap.size w0 w) (hBl : Bl < w.heap.size)
    (hbox : Box3 w Bl (.int .i64 x) (.int .i64 y) (.slice a L.length cap)) (Y : Nat → Prop) (hY : ∀ k, Y k → w0.heap.size ≤ k ∧ k < w.heap.size) :
    Rf.SeqB Fence.wide 4 Try.prog 36 #[.pointer (some ⟨Bl, 0, none⟩)] enc1 (fun l k => Y k ∨ k = l) (way x y L L.length) w := by
  intro l J W hl hlW hbW hJ hR h0
  refine callsIn_of_wp Try.func36 rfl trivial ?_ rfl
  simp only [Try.ntmps36, List.size_toArray, List.length_cons, List.length_nil, Nat.reduceAdd, Nat.reduceSub, Array.replicate_succ, Array.replicate_zero, List.push_toArray, List.append_toArray, List.nil_append, List.cons_append]
  obtain ⟨c0, c1, c2⟩ := hbox.on hbW hBl
  obtain ⟨b, o, hcel, hv⟩ := reads_at hL
  obtain ⟨l1, hx, hy, hd⟩ := ok_parts hok
  obtain ⟨A0, hA0⟩ : ∃ A0, A0 = W.alloc (Obj.cells #[.int .i64 x, .int .i64 y] 60) := ⟨_, rfl⟩
  have bA : Below W.heap.size W A0 := by rw [hA0]; exact (Below.refl _ _).alloc (Nat.le_refl _) _
  have sw := hbW.size
  have sw0 := hw.size
  have c3 : A0.cell? ⟨Bl, 2, none⟩ = some (.slice a L.length cap) := (bA.cell (p := ⟨Bl, 2, none⟩) (by show Bl < _; omega)).trans c2
  have q0 : A0.cell? ⟨W.heap.size, 0, none⟩ = some (.int .i64 (px x L 0)) := by rw [hA0]; simp [go_sem, px]
  have q1 : A0.cell? ⟨W.heap.size, 1, none⟩ = some (.int .i64 (py y L 0)) := by rw [hA0]; simp [go_sem, py]
  have z0 : A0.frozen? ⟨W.heap.size, 0, none⟩ = false := by rw [hA0]; simp [go_sem]
  have z1 : A0.frozen? ⟨W.heap.size, 1, none⟩ = false := by rw [hA0]; simp [go_sem]
  have sA : W.heap.size < A0.heap.size := by rw [hA0]; simp
  have HC : Hid (∀ i, i < L.length → b < w0.heap.size ∧ a = some ⟨b, o, none⟩ ∧ A0.cell? ⟨b, o + i, none⟩ = some (.int .i64 (L.getD i 0))) := fun i hi => by
    obtain ⟨hb, c, hs⟩ := hv (by omega)
    simp at hs
    have s0 := hw.size
    exact ⟨hb, hs.1, (bA.cell (p := ⟨b, o + i, none⟩) (by show b < _; omega)).trans ((hbW.cell (p := ⟨b, o + i, none⟩) (by show b < _; omega)).trans ((hw.cell (p := ⟨b, o + i, none⟩) hb).trans (hcel i hi)))⟩
  have HJ : Hid (∀ (s : List (Int × Int × Int)) (A C : World), J s A → Below W.heap.size A C → J s C) := hJ
  have HR : Hid (∀ (pre : List (Int × Int × Int)) (e : Int × Int × Int) (W1 : World), J pre W1 → pre ++ [e] <+: way x y L L.length → YieldAt Fence.wide 3 Try.prog l (enc1 e) W1 fun e' W' => e' = .returned (.bool true) ∧ J (pre ++ [e]) W' ∧ Rf.But (fun k => Y k ∨ k = l) W1 W') := hR
  have J0 : Hid (J [] A0) := hJ _ _ _ h0 bA
  have HY : Hid (∀ k, Y k → w0.heap.size ≤ k ∧ k < w.heap.size) := hY
  have HD : Hid (∀ i, i < L.length → 0 ≤ L.getD i 0 ∧ L.getD i 0 ≤ 3) := hd
  have HX : Hid (∀ k, k ≤ L.length → -1002000 ≤ px x L k ∧ px x L k ≤ 1002000 ∧ -1002000 ≤ py y L k ∧ py y L k ≤ 1002000) := fun k hk => by
    have := px_le x L k hx
    have := py_le y L k hy
    omega
  have HP : Hid (∀ k, k < L.length → way x y L k ++ [(px x L k, py y L k, L.getD k 0)] <+: way x y L L.length) := fun k hk => by
    rw [← way_next]
    unfold way
    obtain ⟨m, hm⟩ : ∃ m, L.length = k + 1 + m := ⟨L.length - (k + 1), by omega⟩
    exact ⟨List.map (fun i => (px x L i, py y L i, L.getD i 0)) (List.map (fun i => (k + 1) + i) (List.range m)), by rw [← List.map_append, ← List.range_add, hm]⟩
  obtain ⟨n, hn⟩ : ∃ n, n = L.length := ⟨_, rfl⟩
  have HN : Hid (n = L.length) := hn
  rw [← hn] at l1 c2 c3
  clear hL hok hv hcel hd hJ hR h0 hbox hY hx hy hw hbW hn
  rw [hA0] at c3
  gi_wp2
  rw [← hA0]
  rw [← hA0] at c3
  clear hA0 c0 c1 c2 bA c3
  gi_loopw [15] (fun i wr => ∃ k : Nat, k ≤ n ∧ i = .int .i64 k ∧ Hid (J (way x y L k) wr ∧ (∀ j, j < L.length → wr.cell? ⟨b, o + j, none⟩ = some (.int .i64 (L.getD j 0))) ∧ W.heap.size < wr.heap.size
      ∧ wr.cell? ⟨W.heap.size, 0, none⟩ = some (.int .i64 (px x L k)) ∧ wr.cell? ⟨W.heap.size, 1, none⟩ = some (.int .i64 (py y L k)) ∧ wr.frozen? ⟨W.heap.size, 0, none⟩ = false ∧ wr.frozen? ⟨W.heap.size, 1, none⟩ = false)) (fun i _ => n - (intOf i).toNat)
  case atStart => exact ⟨0, Nat.zero_le _, rfl, J0.out, fun j hj => (HC.out j hj).2.2, sA, q0, q1, z0, z1⟩
  case round =>
    obtain ⟨k, hk, rfl, IV⟩ := hrel
    clear q0 q1 z0 z1 sA J0
    by_cases hlt : k < n
    · have hkl : k < L.length := by have := HN.out; omega
      obtain ⟨hb, ha, -⟩ := HC.out k hkl
      subst ha
      have hc := IV.out.2.1 k hkl
      have q0 := IV.out.2.2.2.1
      have q1 := IV.out.2.2.2.2.1
      have i2 : (0 : Int) ≤ (k : Int) := by omega
      have i3 : (k : Int) < (n : Int) := by omega
      obtain ⟨wa, hwa⟩ : ∃ wa, wa = wr.alloc (Obj.cells #[.int .i64 (px x L k), .int .i64 (py y L k), .int .i64 (L.getD k 0)] 62) := ⟨_, rfl⟩
      have HWA : Hid (wa = wr.alloc (Obj.cells #[.int .i64 (px x L k), .int .i64 (py y L k), .int .i64 (L.getD k 0)] 62)) := hwa
      have ba : Hid (Below wr.heap.size wr wa) := (by show Below _ _ _; rw [hwa]; exact (Below.refl _ _).alloc (Nat.le_refl _) _)
      have sa : Hid (wr.heap.size < wa.heap.size) := (by show _ < _; rw [hwa]; simp)
      have e0 : wa.cell? ⟨wr.heap.size, 0, none⟩ = some (.int .i64 (px x L k)) := by rw [hwa]; simp [go_sem]
      have e1 : wa.cell? ⟨wr.heap.size, 1, none⟩ = some (.int .i64 (py y L k)) := by rw [hwa]; simp [go_sem]
      have e2 : wa.cell? ⟨wr.heap.size, 2, none⟩ = some (.int .i64 (L.getD k 0)) := by rw [hwa]; simp [go_sem]
      have JA : Hid (J (way x y L k) wa) := HJ.out _ _ _ IV.out.1 (ba.out.mono (Nat.le_of_lt IV.out.2.2.1))
      obtain ⟨fn, tmps, assign, body, hy, hR⟩ := HR.out (way x y L k) (px x L k, py y L k, L.getD k 0) wa JA.out (HP.out k hkl)
      simp only [enc1] at hy
      clear hwa
      generalize hgx : px x L k = gx at *
      generalize hgy : py y L k = gy at *
      generalize hgd : L.getD k 0 = gd at *
      rw [HWA.out] at hy e0 e1 e2
      gi_wp2
      rw [← HWA.out]
      rw [← HWA.out] at e0 e1 e2
      clear hy q0 q1 HWA
      refine hR.mono ?_
      clear hR
      rintro e W3 ⟨rfl, hJ3, hk3⟩
      obtain ⟨-, IC, is, p0, p1, f0, f1⟩ := IV.out
      have nY : ∀ j, ¬ (j < w.heap.size) → j ≠ l → ¬ (Y j ∨ j = l) := fun j h1 h2 h => by
        rcases h with h | h
        · exact h1 (HY.out j h).2
        · exact h2 h
      have n1 := nY wr.heap.size (by omega) (by omega)
      have n2 := nY W.heap.size (by omega) (by omega)
      have n3 : ¬ (Y b ∨ b = l) := fun h => by
        rcases h with h | h
        · have := (HY.out b h).1; omega
        · omega
      have s3 := ba.out.size
      have s4 := sa.out
      have s5 := hk3.size
      have t0 := (hk3.cell (p := ⟨wr.heap.size, 0, none⟩) s4 n1).trans e0
      have t1 := (hk3.cell (p := ⟨wr.heap.size, 1, none⟩) s4 n1).trans e1
      have t2 := (hk3.cell (p := ⟨wr.heap.size, 2, none⟩) s4 n1).trans e2
      have u0 := (hk3.cell (p := ⟨W.heap.size, 0, none⟩) (by show W.heap.size < _; omega) n2).trans ((ba.out.cell (p := ⟨W.heap.size, 0, none⟩) is).trans p0)
      have u1 := (hk3.cell (p := ⟨W.heap.size, 1, none⟩) (by show W.heap.size < _; omega) n2).trans ((ba.out.cell (p := ⟨W.heap.size, 1, none⟩) is).trans p1)
      have g0 : W3.frozen? ⟨W.heap.size, 0, none⟩ = false := (hk3.frozen (p := ⟨W.heap.size, 0, none⟩) (by show W.heap.size < _; omega) n2).trans ((World.frozen?_of_block (ba.out.block _ is)).trans f0)
      have g1 : W3.frozen? ⟨W.heap.size, 1, none⟩ = false := (hk3.frozen (p := ⟨W.heap.size, 1, none⟩) (by show W.heap.size < _; omega) n2).trans ((World.frozen?_of_block (ba.out.block _ is)).trans f1)
      have LC : Hid (∀ j, j < L.length → W3.cell? ⟨b, o + j, none⟩ = some (.int .i64 (L.getD j 0))) := fun j hj => (hk3.cell (p := ⟨b, o + j, none⟩) (by show b < _; omega) n3).trans ((ba.out.cell (p := ⟨b, o + j, none⟩) (by show b < _; omega)).trans (IC j hj))
      have J3 : Hid (J (way x y L (k + 1)) W3) := (by show J _ _; rw [way_next, hgx, hgy, hgd]; exact hJ3)
      have EN : Hid (∀ w, Calls Try.prog 33 #[.agg #[.int .i64 gx, .int .i64 gy, .int .i64 gd]] w fun e w' => e = .returned (.agg #[.int .i64 (px x L (k + 1)), .int .i64 (py y L (k + 1))]) ∧ Below w.heap.size w w') := fun w => by
        have h1 := HX.out k (by omega)
        have h2 := HD.out k hkl
        rw [hgx, hgy] at h1
        rw [hgd] at h2
        have := end_any gx gy gd w h2.1 h2.2 (by omega) (by omega)
        rw [px, py, hgx, hgy, hgd]
        exact this
      have sb : W.heap.size < W3.heap.size := by omega
      clear hJ3 hk3 IC p0 p1 f0 f1 e0 e1 e2 nY n1 n2 n3 s3 s4 s5 IV JA
      gi_wp2_with fail
      refine ⟨trivial, (callsIn_wide.2 (EN.out W3)).mono ?_⟩
      rintro e w4 ⟨rfl, b4⟩
      have v0 := (b4.cell (p := ⟨W.heap.size, 0, none⟩) sb).trans u0
      have v1 := (b4.cell (p := ⟨W.heap.size, 1, none⟩) sb).trans u1
      have r0 := (World.frozen?_of_block (b4.block _ sb)).trans g0
      have r1 := (World.frozen?_of_block (b4.block _ sb)).trans g1
      have LC4 : Hid (∀ j, j < L.length → w4.cell? ⟨b, o + j, none⟩ = some (.int .i64 (L.getD j 0))) := fun j hj => (b4.cell (p := ⟨b, o + j, none⟩) (by show b < _; omega)).trans (LC.out j hj)
      have J4 : Hid (J (way x y L (k + 1)) w4) := HJ.out _ _ _ J3.out (b4.mono (Nat.le_of_lt sb))
      have sc : W.heap.size < w4.heap.size := Nat.lt_of_lt_of_le sb b4.size
      clear b4 t0 t1 t2 u0 u1 g0 g1 LC J3 EN
      gi_wp2_with fail
      have BV : Below W.heap.size w4 ((w4.setCell ⟨W.heap.size, 0, none⟩ (.int .i64 (px x L (k + 1)))).setCell ⟨W.heap.size, 1, none⟩ (.int .i64 (py y L (k + 1)))) :=
        ((Below.refl _ _).setCell (p := ⟨W.heap.size, 0, none⟩) (Nat.le_refl _) _).setCell (p := ⟨W.heap.size, 1, none⟩) (Nat.le_refl _) _
      refine ⟨⟨k + 1, by omega, by go_num, HJ.out _ _ _ J4.out BV, fun j hj => (BV.cell (p := ⟨b, o + j, none⟩) (by show b < _; omega)).trans (LC4.out j hj), Nat.lt_of_lt_of_le sc BV.size, ?_, ?_, ?_, ?_⟩, by simp [intOf]; omega⟩
      · simp [go_sem, v0]
      · simp [go_sem, v1]
      · simp [go_sem, r0]
      · simp [go_sem, r1]
    · gi_wp2
      go_end0
      refine ⟨⟨_, rfl⟩, ?_⟩
      obtain rfl : k = L.length := by have := HN.out; omega
      exact IV.out.1
/-- A side that a round is handed lies in a block of its own. -/
def Side (e : Int × Int × Int) (b : Nat) (W : World) : Prop := b < W.heap.size ∧ W.cell? ⟨b, 0, none⟩ = some (.int .i64 e.1) ∧ W.cell? ⟨b, 1, none⟩ = some (.int .i64 e.2.1) ∧ W.cell? ⟨b, 2, none⟩ = some (.int .i64 e.2.2)
theorem Side.but {e : Int × Int × Int} {b l : Nat} {A C : World} (h : Side e b A) (hl : l < b) (hb : Rf.But (fun k => k = l) A C) : Side e b C := by
  obtain ⟨h0, h1, h2, h3⟩ := h
  have n : ¬ (b = l) := by omega
  exact ⟨Nat.lt_of_lt_of_le h0 hb.size, (hb.cell (p := ⟨b, 0, none⟩) h0 n).trans h1, (hb.cell (p := ⟨b, 1, none⟩) h0 n).trans h2, (hb.cell (p := ⟨b, 2, none⟩) h0 n).trans h3⟩
theorem Side.new (e : Int × Int × Int) (W : World) : Side e W.heap.size (W.alloc (Obj.cells #[.int .i64 e.1, .int .i64 e.2.1, .int .i64 e.2.2] 62)) := by
  unfold Side
  simp [go_sem]
theorem way_at {x y : Int} {L : List Int} {n : Nat} {pre : List (Int × Int × Int)} {e : Int × Int × Int} (h : pre ++ [e] <+: way x y L n) : pre.length < n ∧ e = (px x L pre.length, py y L pre.length, L.getD pre.length 0) := by
  have hl := h.length_le
  rw [way_len] at hl
  simp at hl
  refine ⟨hl, ?_⟩
  obtain ⟨t, ht⟩ := h
  have : (way x y L n)[pre.length]? = some e := by rw [← ht]; simp
  unfold way at this
  rw [List.getElem?_map, List.getElem?_range hl, Option.map_some] at this
  exact (Option.some.inj this).symm
end Go.Proofs.Ytaemldfeicjdnaa.Lp
