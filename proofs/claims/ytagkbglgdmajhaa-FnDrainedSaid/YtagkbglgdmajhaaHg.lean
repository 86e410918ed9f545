/- A heap of brinks: a brink comes in, the last one goes. -/
import Derived.Test.YtagkbglgdmajhaaHf
import Derived.Maps.AppendAt
import Derived.Deep.AppendLies
import Derived.Deep.RegionLaw
import Derived.Deep.RegionHeldLaw
namespace Go.Proofs.Ytagkbglgdmajhaa.Hm
open Go.ChangeShapes Go.WideShapes Go.ChangeAt Go.RowKit
open Go.Proofs.Ytagkbglgdmajhaa.Lists Go.Proofs.Ytagkbglgdmajhaa.Hp

abbrev brk (K : Int) : Value := .agg #[.int .i64 (K / 1000), .int .i64 (K % 1000)]
theorem Good.snoc {xs : List Value} {P : List Int} {K : Int} (h : Good xs P P.length) (hl : xs.length = P.length * 2) : Good (xs ++ [.int .i64 (K / 1000), .int .i64 (K % 1000)]) (P ++ [K]) (P ++ [K]).length := by
  intro i hi
  simp at hi
  by_cases e : i = P.length
  · subst e
    have q : (P ++ [K]).getD P.length 0 = K := by simp [List.getD_eq_getElem?_getD]
    unfold ca cb
    rw [q]
    refine ⟨?_, ?_⟩
    · rw [List.getElem?_append_right (by omega)]; simp [hl]
    · rw [List.getElem?_append_right (by omega), show P.length * 2 + 1 - xs.length = 1 by omega]; rfl
  · have hi' : i < P.length := by omega
    have q : (P ++ [K]).getD i 0 = P.getD i 0 := by simp [List.getD_eq_getElem?_getD, List.getElem?_append_left hi']
    unfold ca cb
    rw [q]
    obtain ⟨h0, h1⟩ := h i hi'
    refine ⟨?_, ?_⟩
    · rw [List.getElem?_append_left (by omega)]; exact h0
    · rw [List.getElem?_append_left (by omega)]; exact h1
theorem cell_news (w : World) (v0 : Value) (v1 : Value) (t : TypeId) : ∀ j u, [v0, v1][j]? = some u → (w.alloc (Obj.cells #[v0, v1] t)).cell? ((⟨w.heap.size, 0, none⟩ : Addr).add j) = some u := by
  intro j u hj
  match j, hj with
  | 0, hj => simp at hj; subst hj; simp [Addr.add]
  | 1, hj => simp at hj; subst hj; simp [Addr.add]
theorem one_two (a b : Int) : ∀ u ∈ [Value.int .i64 a, Value.int .i64 b], u.oneCell' = true := by intro u hu; simp at hu; rcases hu with rfl | rfl <;> rfl
theorem Try.info52 : (Try.prog.info? 52).map (fun i => (i.zero, i.size, i.bytes)) = some (some (.agg #[.int .i64 0, .int .i64 0]), 2, 16) := by kernel_rfl
theorem undrew {w w' : World} {row : Option Nat} (h : w.drew.grownBy w' row) : w.grownBy w' row := ⟨h.os, h.tape, h.output, h.size, h.block⟩
/-- a brink more -/
theorem HR.app {B f : Nat} {w w5 : World} {v v' : Value} {P : List Int} {xs : List Value} {K : Int} {o : Obj} (h : HR B f w v P) (r : w.ownsRow B 52 2 v P.length xs) (gd : Good xs P P.length)
    (hg : (w.alloc o).grownBy w5 v.ownBlock) (hown : w5.ownsRow B 52 2 v' (P.length + 1) (xs ++ [.int .i64 (K / 1000), .int .i64 (K % 1000)])) :
    (w5.cell? ⟨f, 0, none⟩ = some v ∧ w5.frozen? ⟨f, 0, none⟩ = false) ∧ HR B f (w5.setCell ⟨f, 0, none⟩ v') v' (P ++ [K]) ∧ KB (fun b => b = f ∨ v.ownBlock = some b) w (w5.setCell ⟨f, 0, none⟩ v') := by
  have nf : v.ownBlock ≠ some f := fun e => (row_ty r f e).ne h.bx.ty (by decide) rfl
  have k1 : KB (fun b => v.ownBlock = some b) w w5 := (KB.of_below ((Below.refl _ _).alloc (Nat.le_refl _) _)).trans (KB.of_grown hg (fun _ x => x))
  have b5 : Bl w5 f 47 #[v] := h.bx.kb k1 nf
  refine ⟨⟨b5.cell 0, b5.fz 0⟩, ?_, ?_⟩
  · have nf' : ∀ g, v'.ownBlock = some g → ¬ g = f := fun g hg e => by
      subst e
      exact (row_ty hown g hg).ne b5.ty (by decide) rfl
    refine ⟨⟨_, ?_, gd.snoc r.1⟩, ?_⟩
    · rw [List.length_append]
      exact row_kb hown (kb_set w5 f 0 v') nf'
    · have := b5.set 0 v'
      simpa using this
  · exact (k1.mono (fun _ x => .inr x)).trans ((kb_set w5 f 0 v').mono (fun _ x => .inl x))

set_option maxRecDepth 20000 in
set_option maxHeartbeats 2000000 in
theorem pushm_any (B f : Nat) (w : World) (v : Value) (P : List Int) (K : Int) (hp : P.length ≤ 4000) (hB : B ≤ w.heap.size) (h : HR B f w v P) :
    Calls Try.prog 62 #[.pointer (some ⟨f, 0, none⟩), .iface 52 (.agg #[.int .i64 (K / 1000), .int .i64 (K % 1000)])] w fun e w' => e = .returned (.tuple #[]) ∧ ∃ v', HR B f w' v' (P ++ [K]) ∧ KB (fun b => b = f ∨ v.ownBlock = some b) w w' ∧ (v'.ownBlock = v.ownBlock ∨ ∀ b, v'.ownBlock = some b → w.heap.size ≤ b) := by
  obtain ⟨i0, hi, hz0, hz1, hz2⟩ := info_parts Try.info52
  have H : Hid (HR B f w v P) := h
  obtain ⟨xs, r, gd⟩ := h.row
  have c0 := h.cel
  have f0 := h.bx.fz 0
  have AP : Hid (∀ (g c : Nat) (w5 : World), (w.alloc (Obj.cells #[.int .i64 (K / 1000), .int .i64 (K % 1000)] 52)).grownBy w5 v.ownBlock → w5.ownsRow B 52 2 (.slice (some ⟨g, 0, none⟩) (P.length + 1) c) (P.length + 1) (xs ++ [.int .i64 (K / 1000), .int .i64 (K % 1000)]) → (w5.cell? ⟨f, 0, none⟩ = some v ∧ w5.frozen? ⟨f, 0, none⟩ = false) ∧ HR B f (w5.setCell ⟨f, 0, none⟩ (.slice (some ⟨g, 0, none⟩) (P.length + 1) c)) (.slice (some ⟨g, 0, none⟩) (P.length + 1) c) (P ++ [K]) ∧ KB (fun b => b = f ∨ v.ownBlock = some b) w (w5.setCell ⟨f, 0, none⟩ (.slice (some ⟨g, 0, none⟩) (P.length + 1) c))) := fun g c w5 hg ho => h.app r gd hg ho
  have fl : f < w.heap.size := h.bx.lt
  have fn : ¬ f = w.heap.size := by omega
  have RA : Hid ((w.alloc (Obj.cells #[.int .i64 (K / 1000), .int .i64 (K % 1000)] 52)).ownsRow B 52 2 v P.length xs) := r.alloc _
  generalize K / 1000 = a at *
  generalize K % 1000 = b at *
  generalize P.length = n at *
  have hTA : ∀ w, (Instr.typeAssert (.iface 52 (.agg #[.int .i64 a, .int .i64 b])) 20 52 false).run Try.prog w = .ok (.agg #[.int .i64 a, .int .i64 b]) w := fun w => by kernel_rfl
  clear h gd r
  go_enter Try.func62, Try.ntmps62
  go_region_law (refine step_append_lies _ (by rfl) _ _ 47 (by rfl) B 52 i0 (.agg #[.int .i64 0, .int .i64 0]) 2 16 Try.underlying47 hi hz0 hz1 hz2 rfl (by decide) _ _ _ (by rfl) RA.out ⟨w.heap.size, 0, none⟩ 1 1 [.int .i64 a, .int .i64 b] (by rfl) rfl (cell_news w (.int .i64 a) (.int .i64 b) 52) (one_two _ _) (by decide) (by unfold maxLen; omega) (by omega) (by simp; omega) (w.heap.size + 1) (by simp) ?_; intro g5 c5 w5 hown hgrow hat hlt5; obtain ⟨⟨d1, d2⟩, T5, T6⟩ := AP.out g5 c5 w5 (undrew hgrow) hown)
  all_goals
    have hat2 : (Value.slice (some ⟨g5, 0, none⟩) (n + 1) c5).ownBlock = v.ownBlock ∨ ∀ b, (Value.slice (some ⟨g5, 0, none⟩) (n + 1) c5).ownBlock = some b → w.heap.size ≤ b := (by
      rcases hat with e | e
      · exact .inl e.symm
      · refine .inr (fun b hb => ?_)
        simp [Value.ownBlock] at hb
        omega)
    go_end0
    exact ⟨rfl, _, T5, T6, hat2⟩

theorem own_cut {w : World} {B g c n : Nat} {xs : List Value} (h : w.ownsRow B 52 2 (.slice (some ⟨g, 0, none⟩) (n + 1) c) (n + 1) xs) : w.ownsRow B 52 2 (.slice (some ⟨g, 0, none⟩) n c) n (xs.take (n * 2)) := by
  obtain ⟨h0, h⟩ := h
  rcases h with ⟨e, _⟩ | ⟨g', cap, cur, e, hb, hh, hc, hm, hs, ht⟩
  · cases e
  · injection e with e1 e2 e3
    injection e1 with e1
    injection e1 with e1
    subst e1 e3
    refine ⟨by rw [List.length_take]; omega, .inr ⟨g, c, cur, rfl, hb, hh, by omega, hm, hs, ?_⟩⟩
    rw [← ht, List.take_take]
    congr 1
    omega
theorem Good.cut {xs : List Value} {P : List Int} {n : Nat} (h : Good xs P P.length) (hn : P.length = n + 1) : Good (xs.take (n * 2)) (P.take n) (P.take n).length := by
  intro i hi
  rw [List.length_take] at hi
  obtain ⟨h0, h1⟩ := h i (by omega)
  have q : (P.take n).getD i 0 = P.getD i 0 := by simp [List.getD_eq_getElem?_getD, show i < n by omega]
  unfold ca cb
  rw [q]
  exact ⟨by rw [List.getElem?_take_of_lt (by omega)]; exact h0, by rw [List.getElem?_take_of_lt (by omega)]; exact h1⟩
theorem HR.cut {B f g c n : Nat} {w : World} {P : List Int} (h : HR B f w (.slice (some ⟨g, 0, none⟩) (n + 1) c) P) (hn : P.length = n + 1) : HR B f (w.setCell ⟨f, 0, none⟩ (.slice (some ⟨g, 0, none⟩) n c)) (.slice (some ⟨g, 0, none⟩) n c) (P.take n) := by
  obtain ⟨⟨xs, r, gd⟩, b⟩ := h
  rw [hn] at r
  have r2 := own_cut r
  have e : (P.take n).length = n := by rw [List.length_take]; omega
  have nf : ∀ q, (Value.slice (some ⟨g, 0, none⟩) n c).ownBlock = some q → ¬ q = f := fun q hq x => by
    subst x
    exact (row_ty r2 q hq).ne b.ty (by decide) rfl
  have r3 := row_kb r2 (kb_set w f 0 (.slice (some ⟨g, 0, none⟩) n c)) nf
  refine ⟨⟨_, by rw [e]; exact r3, gd.cut hn⟩, ?_⟩
  · have := b.set 0 (.slice (some ⟨g, 0, none⟩) n c)
    simpa using this

set_option maxRecDepth 20000 in
set_option maxHeartbeats 2000000 in
theorem popm_any (B f : Nat) (w : World) (v : Value) (P : List Int) (n : Nat) (hn : P.length = n + 1) (hp : n ≤ 4000) (h : HR B f w v P) :
    Calls Try.prog 61 #[.pointer (some ⟨f, 0, none⟩)] w fun e w' => e = .returned (.iface 52 (.agg #[.int .i64 (P.getD n 0 / 1000), .int .i64 (P.getD n 0 % 1000)])) ∧ ∃ v', HR B f w' v' (P.take n) ∧ KB (fun b => b = f) w w' ∧ v'.ownBlock = v.ownBlock := by
  have H : Hid (HR B f w v P) := h
  obtain ⟨g, c, rfl, _, gl, gf, hc⟩ := h.cells (by omega)
  rw [hn] at H hc
  obtain ⟨q0, q1, _, _⟩ := hc n (by omega)
  have c0 := H.out.cel
  have f0 := H.out.bx.fz 0
  have cc : n + 1 ≤ c := by
    obtain ⟨xs, r, gd⟩ := H.out.row
    rcases r.2 with ⟨e, _⟩ | ⟨g', cap, cur, e, hb, hh, hcc, _⟩
    · cases e
    · injection e with e1 e2 e3; omega
  have T : Hid (∀ o, HR B f ((w.setCell ⟨f, 0, none⟩ (.slice (some ⟨g, 0, none⟩) n c)).alloc o) (.slice (some ⟨g, 0, none⟩) n c) (P.take n)) := fun o => (H.out.cut hn).on ((Below.refl _ _).alloc (Nat.le_refl _) _)
  have KK : Hid (∀ o, KB (fun b => b = f) w ((w.setCell ⟨f, 0, none⟩ (.slice (some ⟨g, 0, none⟩) n c)).alloc o)) := fun o => (kb_set _ f 0 _).trans (KB.of_below ((Below.refl _ _).alloc (Nat.le_refl _) _))
  have fl : f < w.heap.size := H.out.bx.lt
  have fn : ¬ f = w.heap.size := by omega
  have gn : ¬ g = w.heap.size := by omega
  have n0 : ((n + 1 : Nat) : Int) - 1 = (n : Int) := by omega
  have n0' : (n : Int) + 1 - 1 = (n : Int) := by omega
  have n1 : (0 : Int) ≤ (n : Int) := by omega
  have n2 : (n : Int) < (n : Int) + 1 := by omega
  have n3 : (n : Int) ≤ (c : Int) := by omega
  change w.cell? ⟨g, n * 2, none⟩ = some (.int .i64 (P.getD n 0 / 1000)) at q0
  change w.cell? ⟨g, n * 2 + 1, none⟩ = some (.int .i64 (P.getD n 0 % 1000)) at q1
  generalize P.getD n 0 / 1000 = a at *
  generalize P.getD n 0 % 1000 = b at *
  clear h hc hn
  go_enter Try.func61, Try.ntmps61
  go_wp2_with fail
  go_ret
  exact ⟨rfl, _, T.out _, KK.out _, rfl⟩
end Go.Proofs.Ytagkbglgdmajhaa.Hm
