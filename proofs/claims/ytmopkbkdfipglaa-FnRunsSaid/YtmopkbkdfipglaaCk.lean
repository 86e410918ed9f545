/- slices.Chunk: the groups, handed out. -/
import Derived.Test.YtmopkbkdfipglaaSf
import Derived.RangeFuncNested
import Derived.RangeFuncBound
import Derived.RangeFuncCalls
import Derived.RangeFuncLeaves
import Derived.Shelf.Abstract
import Derived.Shelf.RegionOpen
import Derived.OwnWalkIn
import Derived.TacticsInMore
import Derived.LoopNIn
import Derived.LoopIn
import Derived.RegionIn
import Derived.RangeFuncBox
namespace Go.Proofs.Ytmopkbkdfipglaa.Lists
open Go.ChangeShapes Go.WideShapes Go.ChangeAt Go.RowKit
attribute [local go_sem] Oper.semAt_some

def gz (n k : Nat) : Nat := min 16 (n - 16 * k)
abbrev encC (gd n k : Nat) : Array Value := #[.slice (some ⟨gd, 16 * k, none⟩) (gz n k) (gz n k)]
theorem rg_pre {s x : Nat} {pre : List Nat} (h : pre ++ [x] <+: List.range s) : pre.length < s ∧ x = pre.length := by
  have h1 := h.length_le
  simp at h1
  obtain ⟨t, ht⟩ := h
  have : (List.range s)[pre.length]? = some pre.length := by rw [List.getElem?_range (by omega)]
  rw [← ht] at this
  simp at this
  exact ⟨by omega, this⟩
theorem rg_take {s k : Nat} (h : k < s) : (List.range s).take k ++ [k] = (List.range s).take (k + 1) := by
  rw [List.take_add_one, List.getElem?_range h]
  rfl

set_option maxHeartbeats 1000000 in
theorem chunk_in (a : Option Addr) (m c : Nat) (w : World) : CallsIn Fence.wide 4 Try.prog 63 #[.slice a m c, .int .i64 16] w fun e w' => e = .returned (.func (.func 70) #[] #[.pointer (some ⟨w.heap.size, 0, none⟩), .pointer (some ⟨w.heap.size + 1, 0, none⟩)]) ∧ w' = (w.alloc (Obj.cells #[.slice a m c] 22)).alloc (Obj.cells #[.int .i64 16] 3) := by
  refine callsIn_of_wp Try.func63 rfl trivial ?_ rfl
  simp only [Try.ntmps63, List.size_toArray, List.length_cons, List.length_nil, Nat.reduceAdd, Nat.reduceSub, Array.replicate_succ, Array.replicate_zero, List.push_toArray, List.append_toArray, List.nil_append, List.cons_append]
  gi_wp2
  go_ret
  exact ⟨rfl, rfl⟩

def Cx (w : World) (bs bn : Nat) (v : Value) : Prop := Bl w bs 22 #[v] ∧ Bl w bn 3 #[.int .i64 16]
theorem Cx.on {w w' : World} {bs bn : Nat} {v : Value} (h : Cx w bs bn v) (hb : Below w.heap.size w w') : Cx w' bs bn v := ⟨h.1.on hb, h.2.on hb⟩
theorem Cx.but {X : Nat → Prop} {w w' : World} {bs bn : Nat} {v : Value} (h : Cx w bs bn v) (hb : Rf.But X w w') (h1 : ¬ X bs) (h2 : ¬ X bn) : Cx w' bs bn v :=
  ⟨(hb.same _ h.1.lt h1).trans h.1, (hb.same _ h.2.lt h2).trans h.2⟩

set_option maxRecDepth 20000 in
set_option maxHeartbeats 4000000 in
theorem chunk_seq (n bs bn gd cd : Nat) (a : Option Addr) (hn : n ≤ 4096) (hnc : n ≤ cd) (ha : 0 < n → a = some ⟨gd, 0, none⟩) (w : World) (hF : Cx w bs bn (.slice a n cd)) (Y : Nat → Prop) (hY : ¬ Y bs ∧ ¬ Y bn) :
    Rf.SeqG Fence.wide 4 Try.prog 70 #[.pointer (some ⟨bs, 0, none⟩), .pointer (some ⟨bn, 0, none⟩)] (encC gd n) (fun l k => Y k ∨ k = l) (List.range (ng n)) w := by
  intro l J W hl hlW hbW hJ hR h0
  refine callsIn_of_wp Try.func70 rfl trivial ?_ rfl
  simp only [Try.ntmps70, List.size_toArray, List.length_cons, List.length_nil, Nat.reduceAdd, Nat.reduceSub, Array.replicate_succ, Array.replicate_zero, List.push_toArray, List.append_toArray, List.nil_append, List.cons_append]
  have F0 : Hid (Cx W bs bn (.slice a n cd)) := hF.on hbW
  have HJ : Hid (∀ (s : List Nat) (A C : World), J s A → Below A.heap.size A C → J s C) := hJ
  have HR : Hid (∀ (pre : List Nat) (e : Nat) (W1 : World), J pre W1 → pre ++ [e] <+: List.range (ng n) → YieldAt Fence.wide 3 Try.prog l (encC gd n e) W1 fun e' W' => e' = .returned (.bool true) ∧ J (pre ++ [e]) W' ∧ Rf.But (fun k => Y k ∨ k = l) W1 W') := hR
  have J0 : Hid (J ((List.range (ng n)).take 0) W) := h0
  have NX : Hid (¬ (Y bs ∨ bs = l) ∧ ¬ (Y bn ∨ bn = l)) := ⟨fun h => by rcases h with h | h; exact hY.1 h; have := hF.1.lt; omega, fun h => by rcases h with h | h; exact hY.2 h; have := hF.2.lt; omega⟩
  clear hJ hR h0 hF hY hbW
  gi_wp2
  gi_loopw [4, 5] (fun u _ wr => ∃ k : Nat, k ≤ ng n ∧ u = .int .i64 ((16 * k : Nat) : Int) ∧ Hid (J ((List.range (ng n)).take k) wr ∧ Cx wr bs bn (.slice a n cd))) (fun u _ _ => 16 * ng n + 16 - (intOf u).toNat)
  case atStart => exact ⟨0, Nat.zero_le _, rfl, J0.out, F0.out⟩
  case round =>
    obtain ⟨k, hk, rfl, IV⟩ := hrel
    clear J0 F0
    have NG : ng n = (n + 15) / 16 := rfl
    have a0 := IV.out.2.1.cell 0
    have a1 := IV.out.2.2.cell 0
    simp at a0 a1
    obtain ⟨t, ht⟩ : ∃ t, t = 16 * k := ⟨_, rfl⟩
    have HT : Hid (t = 16 * k) := ht
    rw [← ht]
    by_cases hkn : k < ng n
    · have i1 : (t : Int) < (n : Int) := by omega
      have i0 : (0 : Int) ≤ (t : Int) := by omega
      have i2 : (t : Int) ≤ (cd : Int) := by omega
      have i3 : (t : Int) ≤ (n : Int) := by omega
      obtain ⟨ad, had⟩ : ∃ ad, ad = gd := ⟨_, rfl⟩
      have ea := ha (by omega)
      clear ha
      subst ea
      obtain ⟨m, hm⟩ : ∃ m, m = gz n k := ⟨_, rfl⟩
      have mz : m = min 16 (n - t) := by rw [hm, ht]; rfl
      have mb : m ≤ 16 ∧ m ≤ n - t ∧ (m = 16 ∨ m = n - t) := by omega
      have e1 : min (16 : Int) ((n : Int) - (t : Int)) = (m : Int) := by omega
      have e2 : ((n - t : Nat) : Int) = (n : Int) - (t : Int) := by omega
      have HM : Hid (m = gz n k ∧ 16 * k < n) := (by show _ ∧ _; exact ⟨hm, by omega⟩)
      have m0 : 0 < m := by omega
      obtain ⟨q, hq⟩ : ∃ q, q = t + m := ⟨_, rfl⟩
      have e4 : (t : Int) + (m : Int) = (q : Int) := by omega
      have e5 : q - t = m := by omega
      have e6 : (q : Int) ≤ (cd : Int) := by omega
      have e7 : (t : Int) ≤ (q : Int) := by omega
      have bd : Below wr.heap.size wr wr.drew := ⟨rfl, rfl, rfl, Nat.le_refl _, fun _ _ => rfl⟩
      obtain ⟨fn, tmps, assign, body, hy, hR⟩ := HR.out _ k wr.drew (HJ.out _ _ _ IV.out.1 bd) (by rw [rg_take hkn]; exact List.take_prefix _ _)
      simp only [encC] at hy
      rw [← hm, ← ht] at hy
      have IF : Hid (Cx wr.drew bs bn (.slice (some ⟨gd, 0, none⟩) n cd)) := IV.out.2.on bd
      clear ht NG mz hm hq HR IV bd
      gi_wp2_with fail
      gi_region
      gi_wp2_with fail
      refine hR.mono ?_
      clear hR hy
      rintro e W3 ⟨rfl, hJ3, hk3⟩
      have J3 : Hid (J ((List.range (ng n)).take (k + 1)) W3) := (by show J _ _; rw [← rg_take hkn]; exact hJ3)
      have F3 : Hid (Cx W3 bs bn (.slice (some ⟨gd, 0, none⟩) n cd)) := IF.out.but hk3 NX.out.1 NX.out.2
      have b1 := F3.out.2.cell 0
      simp at b1
      clear hJ3 hk3 a0 a1 IF
      gi_wp2_with fail
      go_roundw
      case rel => exact ⟨k + 1, by omega, by have := HT.out; go_num, J3.out, F3.out⟩
      case measure => simp [intOf] <;> have := HT.out <;> omega
    · have ek : k = ng n := by omega
      subst ek
      have i1 : ¬ (t : Int) < (n : Int) := by omega
      have JE : Hid (J (List.range (ng n)) wr) := (by
        have := IV.out.1
        rw [List.take_of_length_le (by simp)] at this
        exact this)
      clear IV HR ht
      gi_wp2_with fail
      go_end0
      exact ⟨⟨_, rfl⟩, JE.out⟩
end Go.Proofs.Ytmopkbkdfipglaa.Lists
