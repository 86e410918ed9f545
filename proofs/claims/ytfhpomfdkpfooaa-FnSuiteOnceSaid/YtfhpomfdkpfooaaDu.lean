/- A suite drawn of a code: what is kept. -/
import Derived.Test.YtfhpomfdkpfooaaTy
import Derived.Test.YtfhpomfdkpfooaaCr
import Derived.Test.YtfhpomfdkpfooaaRe
import Derived.Deep.RegionLaw
import Derived.Deep.RegionHeldLaw
import Derived.Deep.AppendLies
import Derived.Deep.DeepCutAuto
namespace Go.Proofs.Ytfhpomfdkpfooaa.Du
open Go.ChangeShapes Go.WideShapes Go.ChangeAt Go.RowKit
open Go.Proofs.Ytfhpomfdkpfooaa.Lists Go.Proofs.Ytfhpomfdkpfooaa.Tm Go.Proofs.Ytfhpomfdkpfooaa.Rk Go.Proofs.Ytfhpomfdkpfooaa.Ru Go.Proofs.Ytfhpomfdkpfooaa.Al Go.Proofs.Ytfhpomfdkpfooaa.Rd Go.Proofs.Ytfhpomfdkpfooaa.Ty Go.Proofs.Ytfhpomfdkpfooaa.Cp

abbrev nilL : Value := .slice none 0 0
theorem turn_kb {r : Nat} {w w' : World} (h : Turn r w w') : KB (fun b => b = r) w w' := ⟨h.bel.os, h.bel.tape, h.bel.output, h.bel.size, fun k hk hn => by
  by_cases e : k < r
  · exact h.bel.block k e
  · exact h.abv k (by omega) hk⟩
theorem kb_turn {r : Nat} {S : Nat → Prop} {w w' w'' : World} (hr : r < w.heap.size) (t : Turn r w w') (h : KB S w' w'') (hs : ∀ b, S b → w.heap.size ≤ b) : Turn r w w'' :=
  ⟨t.bel.trans (h.below (by have := t.size; omega) (fun b hb => by have := hs b hb; omega)), fun i h1 h2 => (h.block i (by have := t.size; omega) (fun q => by have := hs i q; omega)).trans (t.abv i h1 h2)⟩
theorem rd_kb {r : Nat} {S : Nat → Prop} {w w' : World} (h : Rd r w) (k : KB S w w') (hs : ∀ b, S b → r < b) : Rd r w' :=
  h.kept (B := r + 1) (k.below h.lt (fun b hb => hs b hb)) (Nat.lt_succ_self r)
theorem getD_app {α : Type} (A B : List α) (d : α) (i : Nat) (h : i < A.length) : (A ++ B).getD i d = A.getD i d := by
  simp [List.getD_eq_getElem?_getD, List.getElem?_append_left h]
theorem getD_end {α : Type} (A : List α) (x d : α) : (A ++ [x]).getD A.length d = x := by
  simp [List.getD_eq_getElem?_getD]
theorem cz_app (R : Tk.Ls) (el : Tk.El) (i j : Nat) (h : i < R.length) : Tk.cz (R ++ [el]) i j = Tk.cz R i j := by unfold Tk.cz; rw [getD_app _ _ _ _ h]
theorem cl_app (R : Tk.Ls) (el : Tk.El) (i : Nat) (h : i < R.length) : Tk.cl (R ++ [el]) i = Tk.cl R i := by unfold Tk.cl; rw [getD_app _ _ _ _ h]
theorem cz_end (R : Tk.Ls) (el : Tk.El) (j : Nat) : Tk.cz (R ++ [el]) R.length j = el.1 j := by unfold Tk.cz; rw [getD_end]
theorem cl_end (R : Tk.Ls) (el : Tk.El) : Tk.cl (R ++ [el]) R.length = el.2 := by unfold Tk.cl; rw [getD_end]
theorem good_app {w : World} {B : Nat} {xs : List Value} {R : Tk.Ls} (h : Tk.Good w B xs R R.length) (el : Tk.El) : Tk.Good w B xs (R ++ [el]) R.length := fun i hi => by
  rw [cz_app _ _ _ _ hi, cz_app _ _ _ _ hi, cz_app _ _ _ _ hi, cl_app _ _ _ hi]
  exact h i hi
/-- numbers that rise, from 1 on, below a bound -/
def Up (L : List Int) (b : Int) : Prop := ∀ j, j < L.length → (1 ≤ L.getD j 0 ∧ L.getD j 0 < b) ∧ (j = 0 ∨ L.getD (j - 1) 0 < L.getD j 0)
theorem Up.mono {L : List Int} {b c : Int} (h : Up L b) (hc : b ≤ c) : Up L c := fun j hj => ⟨⟨(h j hj).1.1, by have := (h j hj).1.2; omega⟩, (h j hj).2⟩
theorem Up.snoc {L : List Int} {b : Int} (h : Up L b) (h1 : 1 ≤ b) : Up (L ++ [b]) (b + 1) := fun j hj => by
  by_cases e : j < L.length
  · obtain ⟨⟨a1, a2⟩, a3⟩ := h j e
    rw [getD_app _ _ _ _ e]
    refine ⟨⟨a1, by omega⟩, ?_⟩
    rcases a3 with a3 | a3
    · exact Or.inl a3
    · exact Or.inr (by rw [getD_app _ _ _ _ (by omega)]; exact a3)
  · have ej : j = L.length := by simp at hj; omega
    subst ej
    rw [getD_end]
    refine ⟨⟨h1, by omega⟩, ?_⟩
    by_cases z : L.length = 0
    · exact Or.inl z
    · refine Or.inr ?_
      rw [getD_app _ _ _ _ (by omega)]
      exact (h (L.length - 1) (by omega)).1.2
theorem Up.eAs {L : List Int} {i : Int} (h : Up L (i + 1)) : So.eAs L i = true := So.eAs_yes fun j hj => by
  obtain ⟨⟨a1, a2⟩, a3⟩ := h j hj
  unfold So.eA
  rw [Bool.and_eq_true, inn_iff, Bool.or_eq_true, decide_eq_true_eq, decide_eq_true_eq]
  exact ⟨⟨a1, by omega⟩, a3⟩
theorem oks_app {R : Tk.Ls} {el : Tk.El} {g : Int} (h : So.oks R g = true) (hu : Up el.2 ((R.length : Int) + 1)) (h1 : 1 ≤ el.1 1 ∧ el.1 1 ≤ g) (h2 : 0 ≤ el.1 2 ∧ el.1 2 ≤ 1000000000000) (h3 : 1 ≤ el.1 3 ∧ el.1 3 ≤ 5) : So.oks (R ++ [el]) g = true := So.oks_yes fun j hj => by
  by_cases e : j < R.length
  · unfold So.okT
    rw [cz_app _ _ _ _ e, cz_app _ _ _ _ e, cz_app _ _ _ _ e, cl_app _ _ _ e]
    exact all_at (f := So.okT R g) h j e
  · have ej : j = R.length := by simp at hj; omega
    subst ej
    unfold So.okT So.tok
    rw [cz_end, cz_end, cz_end, cl_end, hu.eAs, Bool.true_and, Bool.and_eq_true, Bool.and_eq_true, inn_iff, inn_iff, inn_iff]
    exact ⟨h1, h2, h3⟩

/-- a suite that is being drawn -/
structure SB (r : Nat) (w : World) (sT sL : Value) (R : Tk.Ls) (X : List Int) (wr : World) : Prop where
  rd : Rd r wr
  tu : Turn r w wr
  rb : Bl wr w.heap.size 27 #[nilL, nilL]
  sb : Bl wr (w.heap.size + 1) 27 #[sT, sL]
  lx : wr.ownsRow (w.heap.size + 2) 2 1 sL X.length (ints X)
  rt : Tk.Row wr (w.heap.size + 2) sT R
theorem row_at {S : Nat → Prop} {w w' : World} {B : Nat} {v : Value} {R : Tk.Ls} (h : Tk.Row w B v R) (k : KB S w w') (hs : ∀ b, S b → b < B) : Tk.Row w' B v R := by
  obtain ⟨xs, h1, h2⟩ := h
  exact ⟨xs, row_kb h1 k (fun g hg q => by have := (h1.lt g hg).1; have := hs g q; omega), good_kb h2 k (fun b hr hb q => by have := (hr.lt b hb).1; have := hs b q; omega)⟩
theorem SB.turn {r : Nat} {w : World} {sT sL : Value} {R : Tk.Ls} {X : List Int} {wr w' : World} (h : SB r w sT sL R X wr) (hr : r < w.heap.size) (k : Rd r w') (t : Turn r wr w') : SB r w sT sL R X w' :=
  ⟨k, h.tu.trans t, h.rb.kb (turn_kb t) (by omega), h.sb.kb (turn_kb t) (by omega), row_kb h.lx (turn_kb t) (fun g hg q => by have := (h.lx.lt g hg).1; omega), row_at h.rt (turn_kb t) (fun b hb => by omega)⟩
theorem SB.up {r : Nat} {w : World} {sT sL : Value} {R : Tk.Ls} {X : List Int} {wr w' : World} (h : SB r w sT sL R X wr) (hr : r < w.heap.size) (hb : Below wr.heap.size wr w') : SB r w sT sL R X w' :=
  h.turn hr (h.rd.kept hb h.rd.lt) (Turn.of hb (Nat.le_refl _) (Nat.le_of_lt h.rd.lt))
theorem SB.lim {r : Nat} {w : World} {sL v' : Value} {X X' : List Int} {wx w5 : World} {o : Obj} (h : SB r w nilL sL [] X wx) (hr : r < w.heap.size) (hg : (wx.alloc o).grownBy w5 sL.ownBlock) (hrow : w5.ownsRow (w.heap.size + 2) 2 1 v' X'.length (ints X')) :
    (w5.cell? ⟨w.heap.size + 1, 1, none⟩ = some sL ∧ w5.frozen? ⟨w.heap.size + 1, 1, none⟩ = false) ∧ SB r w nilL v' [] X' (w5.setCell ⟨w.heap.size + 1, 1, none⟩ v') := by
  have hA := h.up hr (show Below wx.heap.size wx (wx.alloc o) from (Below.refl _ _).alloc (Nat.le_refl _) _)
  have kg : KB (fun b => w.heap.size + 2 ≤ b) (wx.alloc o) w5 := KB.of_grown hg (fun b hb => (hA.lx.lt b hb).1)
  have s5 := hA.sb.kb kg (by omega)
  have r5 := hA.rb.kb kg (by omega)
  have ks : KB (fun b => b = w.heap.size + 1) w5 (w5.setCell ⟨w.heap.size + 1, 1, none⟩ v') := kb_set w5 _ _ _
  refine ⟨⟨by rw [s5.cell]; rfl, s5.fz 1⟩, ⟨rd_kb (rd_kb hA.rd kg (fun b hb => by omega)) ks (fun b hb => by omega), kb_turn hr (kb_turn hr hA.tu kg (fun b hb => by omega)) ks (fun b hb => by omega), r5.kb ks (by omega), ?_, row_kb hrow ks (fun g hg q => by have := (hrow.lt g hg).1; omega), ⟨[], ⟨rfl, .inl ⟨rfl, rfl⟩⟩, fun i hi => absurd hi (by simp)⟩⟩⟩
  exact s5.set 1 v'
theorem SB.task {r : Nat} {w : World} {sT sL u v' : Value} {R : Tk.Ls} {X : List Int} {wx w5 : World} {o : Obj} {el : Tk.El} {xs : List Value} (h : SB r w sT sL R X wx) (hr : r < w.heap.size) (hx : wx.ownsRow (w.heap.size + 2) 50 4 sT R.length xs) (hgd : Tk.Good wx (w.heap.size + 2) xs R R.length) (hu : wx.ownsRow (w.heap.size + 2) 2 1 u el.2.length (ints el.2))
    (hg : (wx.alloc o).grownBy w5 sT.ownBlock) (hrow : w5.ownsRow (w.heap.size + 2) 50 4 v' (R.length + 1) (xs ++ [u, .int .i64 (el.1 1), .int .i64 (el.1 2), .int .i64 (el.1 3)])) :
    (w5.cell? ⟨w.heap.size + 1, 0, none⟩ = some sT ∧ w5.frozen? ⟨w.heap.size + 1, 0, none⟩ = false) ∧ SB r w v' sL (R ++ [el]) X (w5.setCell ⟨w.heap.size + 1, 0, none⟩ v') := by
  have bA : Below wx.heap.size wx (wx.alloc o) := (Below.refl _ _).alloc (Nat.le_refl _) _
  have hA := h.up hr bA
  have xA := Tk.row_below hx bA
  have gA := hgd.on bA
  have uA := Tk.row_below hu bA
  have kg : KB (fun b => sT.ownBlock = some b) (wx.alloc o) w5 := KB.of_grown hg (fun b hb => hb)
  have lo : ∀ b, sT.ownBlock = some b → w.heap.size + 2 ≤ b := fun b hb => (xA.lt b hb).1
  have s5 := hA.sb.kb kg (fun q => by have := lo _ q; omega)
  have r5 := hA.rb.kb kg (fun q => by have := lo _ q; omega)
  have l5 := row_kb hA.lx kg (fun g hg q => type_ne hA.lx xA (by decide) g hg q)
  have u5 := row_kb uA kg (fun g hg q => type_ne uA xA (by decide) g hg q)
  have g5 : Tk.Good w5 (w.heap.size + 2) xs R R.length := good_kb gA kg (fun b hr' hb q => type_ne hr' xA (by decide) b hb q)
  have G : Tk.Good w5 (w.heap.size + 2) (xs ++ [u, .int .i64 (el.1 1), .int .i64 (el.1 2), .int .i64 (el.1 3)]) (R ++ [el]) (R.length + 1) := by
    have q := good_snoc (good_app g5 el) (u := u) hx.1 (by rw [cl_end]; exact u5)
    rw [cz_end, cz_end, cz_end] at q
    exact q
  have ks : KB (fun b => b = w.heap.size + 1) w5 (w5.setCell ⟨w.heap.size + 1, 0, none⟩ v') := kb_set w5 _ _ _
  refine ⟨⟨by rw [s5.cell]; rfl, s5.fz 0⟩, ⟨rd_kb (rd_kb hA.rd kg (fun b hb => by have := lo b hb; omega)) ks (fun b hb => by omega), kb_turn hr (kb_turn hr hA.tu kg (fun b hb => by have := lo b hb; omega)) ks (fun b hb => by omega), r5.kb ks (by omega), s5.set 0 v', row_kb l5 ks (fun g hg q => by have := (l5.lt g hg).1; omega), ?_⟩⟩
  refine row_at (w := w5) ⟨_, by rw [List.length_append]; exact hrow, by rw [List.length_append]; exact G⟩ ks (fun b hb => by omega)
/-- a task that is being drawn -/
structure TB (r : Nat) (wo : World) (tb : Nat) (u : Value) (z1 z2 z3 : Int) (L : List Int) (wr : World) : Prop where
  rd : Rd r wr
  tu : Turn r wo wr
  lo : wo.heap.size ≤ tb
  bx : Bl wr tb 50 #[u, .int .i64 z1, .int .i64 z2, .int .i64 z3]
  row : wr.ownsRow (tb + 1) 2 1 u L.length (ints L)
theorem TB.turn {r : Nat} {wo : World} {tb : Nat} {u : Value} {z1 z2 z3 : Int} {L : List Int} {wr w' : World} (h : TB r wo tb u z1 z2 z3 L wr) (hr : r < wo.heap.size) (k : Rd r w') (t : Turn r wr w') : TB r wo tb u z1 z2 z3 L w' :=
  ⟨k, h.tu.trans t, h.lo, h.bx.kb (turn_kb t) (by have := h.lo; omega), row_kb h.row (turn_kb t) (fun g hg q => by have := (h.row.lt g hg).1; have := h.lo; omega)⟩
theorem TB.app {r : Nat} {wo : World} {tb : Nat} {u v' : Value} {z1 z2 z3 : Int} {L L' : List Int} {wx w5 : World} {o : Obj} (h : TB r wo tb u z1 z2 z3 L wx) (hr : r < wo.heap.size) (hg : (wx.alloc o).grownBy w5 u.ownBlock) (hrow : w5.ownsRow (tb + 1) 2 1 v' L'.length (ints L')) :
    (w5.cell? ⟨tb, 0, none⟩ = some u ∧ w5.frozen? ⟨tb, 0, none⟩ = false) ∧ TB r wo tb v' z1 z2 z3 L' (w5.setCell ⟨tb, 0, none⟩ v') := by
  have lo := h.lo
  have bA : Below wx.heap.size wx (wx.alloc o) := (Below.refl _ _).alloc (Nat.le_refl _) _
  have hA := h.turn hr (h.rd.kept bA h.rd.lt) (Turn.of bA (Nat.le_refl _) (Nat.le_of_lt h.rd.lt))
  have kg : KB (fun b => tb + 1 ≤ b) (wx.alloc o) w5 := KB.of_grown hg (fun b hb => (hA.row.lt b hb).1)
  have b5 := hA.bx.kb kg (by omega)
  have ks : KB (fun b => b = tb) w5 (w5.setCell ⟨tb, 0, none⟩ v') := kb_set w5 _ _ _
  exact ⟨⟨by rw [b5.cell]; rfl, b5.fz 0⟩, ⟨rd_kb (rd_kb hA.rd kg (fun b hb => by omega)) ks (fun b hb => by omega), kb_turn hr (kb_turn hr hA.tu kg (fun b hb => by omega)) ks (fun b hb => by omega), lo, b5.set 0 v', row_kb hrow ks (fun g hg q => by have := (hrow.lt g hg).1; omega)⟩⟩
theorem TB.late {r : Nat} {wo : World} {tb : Nat} {u : Value} {z1 z2 z3 : Int} {L : List Int} {wx : World} (h : TB r wo tb u z1 z2 z3 L wx) (hr : r < wo.heap.size) (z : Int) : TB r wo tb u z1 z z3 L (wx.setCell ⟨tb, 2, none⟩ (.int .i64 z)) := by
  have lo := h.lo
  have ks : KB (fun b => b = tb) wx (wx.setCell ⟨tb, 2, none⟩ (.int .i64 z)) := kb_set wx _ _ _
  exact ⟨rd_kb h.rd ks (fun b hb => by omega), kb_turn hr h.tu ks (fun b hb => by omega), lo, h.bx.set 2 _, row_kb h.row ks (fun g hg q => by have := (h.row.lt g hg).1; omega)⟩
theorem TB.new {r : Nat} {wo w2 : World} (hr : r < wo.heap.size) (k : Rd r w2) (t : Turn r wo w2) (z1 z3 : Int) : TB r wo w2.heap.size nilL z1 0 z3 [] (w2.alloc (.cells #[nilL, .int .i64 z1, .int .i64 0, .int .i64 z3] 50)) :=
  ⟨k.kept ((Below.refl w2.heap.size w2).alloc (Nat.le_refl _) _) k.lt, t.alloc hr _, t.size, Bl.new w2 50 _, ⟨rfl, .inl ⟨rfl, rfl⟩⟩⟩
theorem row_form {w : World} {B k : Nat} {v : Value} {xs : List Value} {e q : Nat} (R : w.ownsRow B e q v k xs) : ∃ sa sc, v = .slice sa k sc := by
  rcases R.2 with ⟨h, h2⟩ | ⟨g, cap, cur, h, _⟩
  · exact ⟨none, 0, by rw [h, h2]⟩
  · exact ⟨_, _, h⟩
theorem one_int (z : Int) : ∀ u ∈ [Value.int .i64 z], u.oneCell' = true := by intro u hu; simp at hu; subst hu; rfl
theorem cell_new (w : World) (v0 : Value) (t : TypeId) : ∀ j u, [v0][j]? = some u → (w.alloc (Obj.cells #[v0] t)).cell? ((⟨w.heap.size, 0, none⟩ : Addr).add j) = some u := by
  intro j u hj
  match j, hj with
  | 0, hj => simp at hj; subst hj; simp [Addr.add]
theorem row_snoc {w : World} {B : Nat} {v : Value} {A : List Int} {y : Int} {n : Nat} (hn : n = A.length) (h : w.ownsRow B 2 1 v (n + 1) (ints A ++ [.int .i64 y])) : w.ownsRow B 2 1 v (A ++ [y]).length (ints (A ++ [y])) := by
  subst hn
  simpa [ints] using h

set_option maxHeartbeats 1000000 in
theorem size_any (r : Nat) (w : World) (h : Rd r w) (per most : Nat) (hp : 1 ≤ per ∧ per ≤ 100) (hm : 1 ≤ most ∧ most ≤ 1000) : Calls Try.prog 56 #[.pointer (some ⟨r, 0, none⟩), .int .i64 (per : Int), .int .i64 (most : Int)] w (Drawn r w fun u => 1 ≤ u ∧ u ≤ (most : Int)) := by
  have hh := h
  obtain ⟨a, n, cap, p, h1, h2, h3, h4, h5, h6, h7⟩ := hh
  have H : Hid (Rd r w) := h
  clear h h7
  obtain ⟨q, hq⟩ : ∃ q : Nat, q = n / per := ⟨_, rfl⟩
  have e1 : (n : Int).tdiv (per : Int) = (q : Int) := by rw [Int.tdiv_eq_ediv_of_nonneg (by omega), hq, Int.natCast_ediv]
  have e2 : (n : Int) / (per : Int) = (q : Int) := by rw [hq, Int.natCast_ediv]
  have bq : q ≤ 1048576 := by rw [hq]; exact Nat.le_trans (Nat.div_le_self _ _) h6
  have hp0 : ¬ (per : Int) = 0 := by omega
  clear hq
  by_cases g : (most : Int) < 1 + (q : Int)
  · have C : Hid (Calls Try.prog 23 #[.pointer (some ⟨r, 0, none⟩), .int .i64 (most : Int)] w (Drawn r w fun u => 0 ≤ u ∧ u < (most : Int))) := below_all r w H.out most (by omega) (by omega)
    go_enter Try.func56, Try.ntmps56
    go_wp2_with fail
    refine C.out.mono ?_
    rintro e w1 ⟨⟨u, ⟨hu1, hu2⟩, rfl⟩, k1, k2⟩
    have K : Hid (Rd r w1 ∧ Turn r w w1) := ⟨k1, k2⟩
    clear k1 k2
    go_wp2_with fail
    go_ret
    exact ⟨⟨1 + u, by omega, rfl⟩, K.out.1, K.out.2⟩
  · have C : Hid (Calls Try.prog 23 #[.pointer (some ⟨r, 0, none⟩), .int .i64 (1 + (q : Int))] w (Drawn r w fun u => 0 ≤ u ∧ u < 1 + (q : Int))) := (by
      have := below_all r w H.out (1 + q) (by omega) (by omega)
      rw [Int.natCast_add] at this
      exact this)
    go_enter Try.func56, Try.ntmps56
    go_wp2_with fail
    refine C.out.mono ?_
    rintro e w1 ⟨⟨u, ⟨hu1, hu2⟩, rfl⟩, k1, k2⟩
    have K : Hid (Rd r w1 ∧ Turn r w w1) := ⟨k1, k2⟩
    clear k1 k2
    go_wp2_with fail
    go_ret
    exact ⟨⟨1 + u, by omega, rfl⟩, K.out.1, K.out.2⟩
end Go.Proofs.Ytfhpomfdkpfooaa.Du
