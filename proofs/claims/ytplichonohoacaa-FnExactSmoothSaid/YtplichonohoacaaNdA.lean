/- All points of a grid with their values, handed out one by one: the program. -/
import Derived.Test.YtplichonohoacaaNbA
import Derived.RangeFuncNested
import Derived.RangeFuncBound
import Derived.RangeFuncCalls
import Derived.RangeFuncLeaves
import Derived.Shelf.Abstract
import Derived.Shelf.RegionOpen
import Derived.WalkKit
import Derived.OwnWalkIn
import Derived.TacticsInMore
import Derived.LoopNIn
import Derived.LoopIn
namespace Go.Proofs.Ytplichonohoacaa.Gd
open Go.ChangeShapes Go.WideShapes Go.ChangeAt Go.RowKit
open Go.Proofs.Ytplichonohoacaa.Flt
attribute [local go_sem] Oper.semAt_some

abbrev Nd := (Int × Int) × Nat
abbrev enc3 (e : Nd) : Array Value := #[nd e.1.1 e.1.2, .float .f64 e.2]
def nodeAt (c : Int) (L : List Nat) (m : Nat) : Nd := (((m : Int) / c, (m : Int) % c), L.getD m 0)
def nodes (c : Int) (L : List Nat) (k : Nat) : List Nd := (List.range k).map (nodeAt c L)
theorem nodes_len (c : Int) (L : List Nat) (k : Nat) : (nodes c L k).length = k := by simp [nodes]
theorem nodes_next (c : Int) (L : List Nat) (k : Nat) : nodes c L (k + 1) = nodes c L k ++ [nodeAt c L k] := by
  unfold nodes
  rw [List.range_succ, List.map_append]
  rfl
theorem nodes_pre (c : Int) (L : List Nat) {k n : Nat} (h : k < n) : nodes c L k ++ [nodeAt c L k] <+: nodes c L n := by
  rw [← nodes_next]
  unfold nodes
  obtain ⟨m, hm⟩ : ∃ m, n = k + 1 + m := ⟨n - (k + 1), by omega⟩
  exact ⟨List.map (nodeAt c L) (List.map (fun i => (k + 1) + i) (List.range m)), by rw [← List.map_append, ← List.range_add, hm]⟩
theorem nodes_at {c : Int} {L : List Nat} {n : Nat} {pre : List Nd} {e : Nd} (h : pre ++ [e] <+: nodes c L n) : pre.length < n ∧ e = nodeAt c L pre.length := by
  have hl := h.length_le
  rw [nodes_len] at hl
  simp at hl
  refine ⟨hl, ?_⟩
  obtain ⟨t, ht⟩ := h
  have : (nodes c L n)[pre.length]? = some e := by rw [← ht]; simp
  unfold nodes at this
  rw [List.getElem?_map, List.getElem?_range hl, Option.map_some] at this
  exact (Option.some.inj this).symm

set_option maxHeartbeats 1000000 in
theorem nodes_in (r c s ws st : Int) (a : Option Addr) (n cap : Nat) (w : World) : CallsIn Fence.wide 4 Try.prog 21 #[gv r c s ws st, .slice a n cap] w fun e w' => e = .returned (.func (.func 34) #[] #[.pointer (some ⟨w.heap.size + 1, 0, none⟩), .pointer (some ⟨w.heap.size, 0, none⟩)]) ∧ w' = (w.alloc (Obj.cells #[.int .i64 r, .int .i64 c, .int .i64 s, .int .i64 ws, .int .i64 st] 26)).alloc (Obj.cells #[.slice a n cap] 24) := by
  refine callsIn_of_wp Try.func21 rfl trivial ?_ rfl
  simp only [Try.ntmps21, List.size_toArray, List.length_cons, List.length_nil, Nat.reduceAdd, Nat.reduceSub, Array.replicate_succ, Array.replicate_zero, List.push_toArray, List.append_toArray, List.nil_append, List.cons_append]
  gi_wp2
  go_ret
  exact ⟨rfl, rfl⟩

set_option maxRecDepth 20000 in
set_option maxHeartbeats 4000000 in
theorem nodes_seq (r c s ws st : Int) (hc : 2 ≤ c ∧ c ≤ 64) (L : List Nat) (hl : L.length ≤ 4096) (bl o cap : Nat) (bg bv : Nat) (w0 w : World) (hw : Below w0.heap.size w0 w) (hcel : ∀ i, i < L.length → w0.cell? ⟨bl, o + i, none⟩ = some (.float .f64 (L.getD i 0))) (hbl : bl < w0.heap.size) (hg : Gx w bg r c s ws st) (hv : w.cell? ⟨bv, 0, none⟩ = some (.slice (some ⟨bl, o, none⟩) L.length cap)) (lg : bg < w.heap.size) (lv : bv < w.heap.size) (Y : Nat → Prop) (hY : ¬ Y bg) (hY2 : ¬ Y bl) :
    Rf.SeqG Fence.wide 4 Try.prog 34 #[.pointer (some ⟨bv, 0, none⟩), .pointer (some ⟨bg, 0, none⟩)] enc3 (fun l k => Y k ∨ k = l) (nodes c L L.length) w := by
  intro l J W hl2 hlW hbW hJ hR h0
  refine callsIn_of_wp Try.func34 rfl trivial ?_ rfl
  simp only [Try.ntmps34, List.size_toArray, List.length_cons, List.length_nil, Nat.reduceAdd, Nat.reduceSub, Array.replicate_succ, Array.replicate_zero, List.push_toArray, List.append_toArray, List.nil_append, List.cons_append]
  have v0 := (hbW.cell (p := ⟨bv, 0, none⟩) lv).trans hv
  have z0 := hw.size
  have z1 := hbW.size
  have G0 : Hid (Gx W bg r c s ws st) := hg.on hbW lg
  have C0 : Hid (∀ i, i < L.length → W.cell? ⟨bl, o + i, none⟩ = some (.float .f64 (L.getD i 0))) := fun i hi => (hbW.cell (p := ⟨bl, o + i, none⟩) (by show bl < _; omega)).trans ((hw.cell (p := ⟨bl, o + i, none⟩) hbl).trans (hcel i hi))
  have HJ : Hid (∀ (s : List Nd) (A C : World), J s A → Below A.heap.size A C → J s C) := hJ
  have HR : Hid (∀ (pre : List Nd) (e : Nd) (W1 : World), J pre W1 → pre ++ [e] <+: nodes c L L.length → YieldAt Fence.wide 3 Try.prog l (enc3 e) W1 fun e' W' => e' = .returned (.bool true) ∧ J (pre ++ [e]) W' ∧ Rf.But (fun k => Y k ∨ k = l) W1 W') := hR
  have J0 : Hid (J [] W) := h0
  have NX : Hid (¬ (Y bg ∨ bg = l)) := fun h => by rcases h with h | h; exact hY h; omega
  have NZ : Hid (¬ (Y bl ∨ bl = l)) := fun h => by rcases h with h | h; exact hY2 h; omega
  have hmx : Try.prog.follows .mixedOrders = true := by kernel_rfl
  have SZ : Hid (bg < W.heap.size ∧ bl < W.heap.size) := ⟨by omega, by omega⟩
  obtain ⟨n, hn⟩ : ∃ n, n = L.length := ⟨_, rfl⟩
  have HN : Hid (n = L.length) := hn
  rw [← hn] at v0 hl
  clear hJ hR h0 hg hY hY2 hbW hw hcel hv hn
  gi_wp2
  clear v0
  gi_loopw [8] (fun u wr => ∃ k : Nat, k ≤ n ∧ u = .int .i64 k ∧ Hid (J (nodes c L k) wr ∧ Gx wr bg r c s ws st ∧ (∀ i, i < L.length → wr.cell? ⟨bl, o + i, none⟩ = some (.float .f64 (L.getD i 0))) ∧ bg < wr.heap.size ∧ bl < wr.heap.size)) (fun u _ => n - (intOf u).toNat)
  case atStart => exact ⟨0, by omega, rfl, J0.out, G0.out, C0.out, SZ.out.1, SZ.out.2⟩
  case round =>
    obtain ⟨k, hk, rfl, IV⟩ := hrel
    clear J0 G0 C0
    by_cases hlt : k < n
    · have hkl : k < L.length := by have := HN.out; omega
      have q := IV.out.2.2.1 k hkl
      have g1 := IV.out.2.1.2.1
      have i2 : (0 : Int) ≤ (k : Int) := by omega
      have i3 : (k : Int) < (n : Int) := by omega
      have c0 : ¬ c = 0 := by omega
      have d0 : 0 ≤ (k : Int) / c := Int.ediv_nonneg i2 (by omega)
      have d1 : (k : Int) / c ≤ (k : Int) := Int.ediv_le_self _ i2
      have m0 : 0 ≤ (k : Int) % c := Int.emod_nonneg _ c0
      have m1 : (k : Int) % c < c := Int.emod_lt_of_pos _ (by omega)
      have j1 : IntKind.i64.wrap ((k : Int) / c) = (k : Int) / c := IntWalk.i64_in _ (by omega)
      have j2 : IntKind.i64.wrap ((k : Int) % c) = (k : Int) % c := IntWalk.i64_in _ (by omega)
      have j3 : (k : Int).tdiv c = (k : Int) / c := Int.tdiv_eq_ediv_of_nonneg i2
      have j4 : (k : Int).tmod c = (k : Int) % c := Int.tmod_eq_emod_of_nonneg i2
      have JD : Hid (J (nodes c L k) wr.drew) := HJ.out _ _ _ IV.out.1 ⟨rfl, rfl, rfl, Nat.le_refl _, fun _ _ => rfl⟩
      obtain ⟨fn, tmps, assign, body, hy, hR⟩ := HR.out (nodes c L k) (nodeAt c L k) wr.drew JD.out (nodes_pre c L hkl)
      simp only [enc3, nd, nodeAt] at hy
      have NN : Hid (nodes c L (k + 1) = nodes c L k ++ [nodeAt c L k]) := nodes_next c L k
      generalize L.getD k 0 = x at *
      gi_wp2_with fail
      gi_region_with_o (refine hR.mono ?_; rintro e W3 ⟨rfl, hJ3, hk3⟩)
      all_goals
        have J3 : Hid (J (nodes c L (k + 1)) W3) := (by show J _ _; rw [NN.out]; exact hJ3)
        have G3 : Hid (Gx W3 bg r c s ws st ∧ (∀ i, i < L.length → W3.cell? ⟨bl, o + i, none⟩ = some (.float .f64 (L.getD i 0))) ∧ bg < W3.heap.size ∧ bl < W3.heap.size) :=
          ⟨Gx.but (w := wr.drew) IV.out.2.1 hk3 IV.out.2.2.2.1 NX.out, fun i hi => (hk3.cell (p := ⟨bl, o + i, none⟩) IV.out.2.2.2.2 NZ.out).trans (IV.out.2.2.1 i hi), Nat.lt_of_lt_of_le IV.out.2.2.2.1 hk3.size, Nat.lt_of_lt_of_le IV.out.2.2.2.2 hk3.size⟩
        clear hJ3 hk3 hy hR q g1
        gi_wp2_with fail
        go_roundw
      all_goals first
        | exact ⟨k + 1, by omega, by go_num, ⟨J3.out, G3.out.1, G3.out.2.1, G3.out.2.2.1, G3.out.2.2.2⟩⟩
        | (simp [intOf]; omega)
    · obtain rfl : k = n := by omega
      have IJ : Hid (J (nodes c L L.length) wr) := (by show J _ _; rw [← HN.out]; exact IV.out.1)
      gi_wp2
      go_end0
      exact ⟨⟨_, rfl⟩, IJ.out⟩
end Go.Proofs.Ytplichonohoacaa.Gd
