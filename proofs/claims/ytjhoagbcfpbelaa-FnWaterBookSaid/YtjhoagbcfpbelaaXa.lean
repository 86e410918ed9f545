/- Three lists that grow side by side, of some whole numbers. -/
import Derived.Test.YtjhoagbcfpbelaaSd
import Derived.Test.YtjhoagbcfpbelaaDr
import Derived.Test.YtjhoagbcfpbelaaCtT
import Derived.Test.YtjhoagbcfpbelaaCtI
import Derived.Maps.AppendAt
namespace Go.Proofs.Ytjhoagbcfpbelaa.Xa
open Go.ChangeShapes Go.WideShapes Go.ChangeAt Go.RowKit
open Go.Proofs.Ytjhoagbcfpbelaa.Lists Go.Proofs.Ytjhoagbcfpbelaa.Wn

theorem row_cases {w : World} {base n : Nat} {v : Value} {xs : List Value} (h : w.ownsRow base 2 1 v n xs) : (n = 0 ∧ v = .slice none 0 0) ∨ ∃ g c, v = .slice (some ⟨g, 0, none⟩) n c := by
  rcases h.2 with ⟨a, b⟩ | ⟨g, c, cur, a, _⟩
  · exact .inl ⟨b, a⟩
  · exact .inr ⟨g, c, a⟩
/-- a row of so many whole numbers -/
def AI (w : World) (base : Nat) (v : Value) (n : Nat) : Prop := ∃ L : List Int, L.length = n ∧ w.ownsRow base 2 1 v n (ints L)
theorem AI.put {w : World} {base n : Nat} {v : Value} (h : AI w base v n) (g o : Nat) (z : Int) : AI (w.setCell ⟨g, o, none⟩ (.int .i64 z)) base v n := by
  obtain ⟨L, hl, hr⟩ := h
  by_cases e : v.ownBlock = some g
  · rcases row_cases hr with ⟨hn, rfl⟩ | ⟨g', c, rfl⟩
    · cases e
    · simp [Value.ownBlock] at e
      subst e
      exact ⟨L.set o z, by simp [hl], Ct.row_put hr o z⟩
  · exact ⟨L, hl, Ct.row_keep hr g o _ (fun k hk x => e (by rw [hk, x]))⟩
theorem AI.on {w w' : World} {base n : Nat} {v : Value} (h : AI w base v n) (hb : Below w.heap.size w w') : AI w' base v n := by
  obtain ⟨L, hl, hr⟩ := h
  exact ⟨L, hl, Bx.row_on hr hb⟩
theorem AI.out {S : Nat → Prop} {w w' : World} {base n : Nat} {v : Value} (h : AI w base v n) (ho : Out S w w') (hn : ∀ g, v.ownBlock = some g → ¬ S g) : AI w' base v n := by
  obtain ⟨L, hl, hr⟩ := h
  exact ⟨L, hl, ho.row hr hn⟩
theorem AI.lt {w : World} {base n : Nat} {v : Value} (h : AI w base v n) (g : Nat) (hg : v.ownBlock = some g) : base ≤ g ∧ g < w.heap.size := by
  obtain ⟨L, hl, hr⟩ := h
  exact hr.lt g hg
theorem AI.down {w : World} {B B' n : Nat} {v : Value} (h : AI w B v n) (hb : B' ≤ B) : AI w B' v n := by
  obtain ⟨L, hl, hr⟩ := h
  exact ⟨L, hl, Bo.own_down hr hb⟩
theorem AI.grown {w w' : World} {base n : Nat} {v : Value} {row : Option Nat} (h : AI w base v n) (hg : w.grownBy w' row) (hne : ∀ k j, v.ownBlock = some k → row = some j → k ≠ j) : AI w' base v n := by
  obtain ⟨L, hl, hr⟩ := h
  exact ⟨L, hl, Ct.row_off hr hg hne⟩
theorem AI.form {w : World} {base n : Nat} {v : Value} (h : AI w base v n) : ∃ a c, v = .slice a n c := by
  obtain ⟨L, hl, hr⟩ := h
  obtain ⟨sa, sc, e⟩ := Gd.row_form hr
  exact ⟨sa, sc, e⟩
theorem AI.at {w : World} {base n : Nat} {v : Value} (h : AI w base v n) (h0 : 0 < n) : ∃ g c, v = .slice (some ⟨g, 0, none⟩) n c ∧ base ≤ g ∧ g < w.heap.size := by
  obtain ⟨L, hl, hr⟩ := h
  rcases row_cases hr with ⟨e, _⟩ | ⟨g, c, e⟩
  · omega
  · subst e
    have := hr.lt g rfl
    exact ⟨g, c, rfl, this⟩
theorem AI.get {w : World} {base n g c : Nat} (h : AI w base (.slice (some ⟨g, 0, none⟩) n c) n) (i : Nat) (hi : i < n) : ∃ z : Int, w.cell? ⟨g, i, none⟩ = some (.int .i64 z) ∧ w.frozen? ⟨g, i, none⟩ = false := by
  obtain ⟨L, hl, hr⟩ := h
  exact ⟨_, Ct.row_get hr hl i hi, hr.frozenAt i⟩
theorem AI.lit (w : World) (b : Nat) (hb : b ≤ w.heap.size) : AI (w.alloc (.cells #[] 2)) b (.slice (some ⟨w.heap.size, 0, none⟩) 0 0) 0 := by
  refine ⟨[], rfl, ?_⟩
  have := World.ownsRow_lit (e := 2) w #[] 0 (size := 1) (base := b) hb (Nat.zero_le _) rfl
  simpa [ints] using this
theorem AI.reads {w : World} {B n : Nat} {v : Value} (h : AI w B v n) : ∃ L : List Int, L.length = n ∧ Lists.Reads w v L := by
  obtain ⟨L, rfl, hr⟩ := h
  exact ⟨L, rfl, Lists.reads_row hr⟩
/-- the box and three lists -/
structure D3 (r c : Int) (v : Value) (w : World) (x y z : Value) (p q s : Nat) (wr : World) : Prop where
  bl : Below w.heap.size w wr
  bx : Bo.Box wr w.heap.size (.int .i64 r) (.int .i64 c) v
  hx : AI wr (w.heap.size + 1) x p
  hy : AI wr (w.heap.size + 1) y q
  hz : AI wr (w.heap.size + 1) z s
  xy : ∀ g, x.ownBlock = some g → y.ownBlock = some g → False
  xz : ∀ g, x.ownBlock = some g → z.ownBlock = some g → False
  yz : ∀ g, y.ownBlock = some g → z.ownBlock = some g → False
  sz : w.heap.size < wr.heap.size
section
variable {r c : Int} {v : Value} {w : World} {x y z : Value} {p q s : Nat} {wr : World}
theorem D3.rot (h : D3 r c v w x y z p q s wr) : D3 r c v w y z x q s p wr := ⟨h.bl, h.bx, h.hy, h.hz, h.hx, h.yz, fun g a b => h.xy g b a, fun g a b => h.xz g b a, h.sz⟩
theorem D3.up {w' : World} (h : D3 r c v w x y z p q s wr) (hb : Below wr.heap.size wr w') : D3 r c v w x y z p q s w' :=
  ⟨h.bl.trans (hb.mono h.bl.size), h.bx.on hb h.sz, h.hx.on hb, h.hy.on hb, h.hz.on hb, h.xy, h.xz, h.yz, Nat.lt_of_lt_of_le h.sz hb.size⟩
theorem D3.drewN (h : D3 r c v w x y z p q s wr) (m : Nat) : D3 r c v w x y z p q s (wr.drewN m) := h.up (Bx.below_drewN (Below.refl _ _) m)
theorem D3.app {x' : Value} {w5 : World} {o : Obj} {L : List Int} {u : Int} (h : D3 r c v w x y z p q s wr) (hL : L.length = p) (hg : (wr.alloc o).grownBy w5 x.ownBlock) (hrow : w5.ownsRow (w.heap.size + 1) 2 1 x' (p + 1) (ints L ++ [.int .i64 u]))
    (hat : x'.ownBlock = x.ownBlock ∨ x'.ownBlock = some (wr.heap.size + 1)) : D3 r c v w x' y z (p + 1) q s w5 := by
  have A := h.up (show Below wr.heap.size wr (wr.alloc o) from (Below.refl _ _).alloc (Nat.le_refl _) _)
  have lx := fun g hg => (A.hx.lt g hg).1
  have ly := A.hy.lt
  have lz := A.hz.lt
  have hs := hg.size
  have hs2 : (wr.alloc o).heap.size = wr.heap.size + 1 := by simp
  refine ⟨A.bl.grown hg A.bl.size (fun g e => by have := lx g e; omega), A.bx.apart hg (fun k hk => by have := lx k hk; omega), ⟨L ++ [u], by simp [hL], by simpa [ints] using hrow⟩,
    A.hy.grown hg (fun k j e1 e2 e => by subst e; exact h.xy _ e2 e1), A.hz.grown hg (fun k j e1 e2 e => by subst e; exact h.xz _ e2 e1), fun g e1 e2 => ?_, fun g e1 e2 => ?_, h.yz, by have := A.sz; omega⟩
  · rcases hat with k | k
    · exact h.xy g (by rw [← k]; exact e1) e2
    · rw [k] at e1; cases e1; have := (ly _ e2).2; omega
  · rcases hat with k | k
    · exact h.xz g (by rw [← k]; exact e1) e2
    · rw [k] at e1; cases e1; have := (lz _ e2).2; omega
/-- a whole number is written into one of them -/
theorem D3.put {g i : Nat} (h : D3 r c v w x y z p q s wr) (hg : w.heap.size + 1 ≤ g) (u : Int) : D3 r c v w x y z p q s (wr.setCell ⟨g, i, none⟩ (.int .i64 u)) := by
  have e := Below.heap_setCell wr ⟨g, i, none⟩ (.int .i64 u) w.heap.size (by show w.heap.size ≠ g; omega)
  obtain ⟨b0, b1, b2⟩ := h.bx
  exact ⟨h.bl.setCell (p := ⟨g, i, none⟩) (by show w.heap.size ≤ g; omega) _, ⟨(World.cell?_of_block e).trans b0, (World.cell?_of_block e).trans b1, (World.cell?_of_block e).trans b2⟩, h.hx.put _ _ _, h.hy.put _ _ _, h.hz.put _ _ _, h.xy, h.xz, h.yz, by simpa using h.sz⟩
end
/-- the numbers that lie in a block -/
def rowOf (w : World) (g n : Nat) : List Int := (List.range n).map fun i => match w.cell? ⟨g, i, none⟩ with
  | some (.int _ z) => z
  | _ => 0
theorem rowOf_len (w : World) (g n : Nat) : (rowOf w g n).length = n := by simp [rowOf]
theorem rowOf_at {w : World} {g n i : Nat} (hi : i < n) {z : Int} (h : w.cell? ⟨g, i, none⟩ = some (.int .i64 z)) : (rowOf w g n).getD i 0 = z := by
  unfold rowOf
  rw [List.getD_eq_getElem?_getD, List.getElem?_map, List.getElem?_range hi]
  simp [h]
/-- how many have not left -/
def still : List Int → Nat
  | [] => 0
  | a :: L => (if a = 2 then 0 else 1) + still L
theorem rowOf_same {w w' : World} {g n : Nat} (h : ∀ i, i < n → w'.cell? ⟨g, i, none⟩ = w.cell? ⟨g, i, none⟩) : rowOf w' g n = rowOf w g n := by
  unfold rowOf
  apply List.map_congr_left
  intro i hi
  rw [h i (List.mem_range.1 hi)]
def numAt (w : World) (g i : Nat) : Int := match w.cell? ⟨g, i, none⟩ with
  | some (.int _ z) => z
  | _ => 0
theorem rowOf_get (w : World) (g n i : Nat) (hi : i < n) : (rowOf w g n).getD i 0 = numAt w g i := by
  unfold rowOf numAt
  rw [List.getD_eq_getElem?_getD, List.getElem?_map, List.getElem?_range hi]
  rfl
theorem rowOf_set {w : World} {g n i : Nat} {u : Value} (hi : i < n) (hc : w.cell? ⟨g, i, none⟩ = some u) (z : Int) : rowOf (w.setCell ⟨g, i, none⟩ (.int .i64 z)) g n = (rowOf w g n).set i z := by
  refine Ct.list_eq (by simp [rowOf]) (fun j hj => ?_)
  have hj : j < n := by simpa [rowOf] using hj
  rw [rowOf_get _ _ _ _ hj, Ct.getD_set _ _ _ _ (by rw [rowOf_len]; exact hi), rowOf_get _ _ _ _ hj]
  unfold numAt
  have hs : (w.setCell ⟨g, i, none⟩ (.int .i64 z)).cell? ⟨g, i, none⟩ = some (.int .i64 z) := World.cell?_setCell_same' _ _ _ (by simp [hc])
  by_cases e : j = i
  · rw [if_pos e, e, hs]
  · rw [if_neg e, World.cell?_setCell_other _ _ _ _ (fun q => by simp at q <;> omega)]
theorem still_two (L : List Int) (i : Nat) (hi : i < L.length) (h : L.getD i 0 ≠ 2) : still (L.set i 2) < still L := by
  induction L generalizing i with
  | nil => simp at hi
  | cons a L ih =>
    cases i with
    | zero =>
      simp only [List.getD_cons_zero] at h
      simp only [List.set_cons_zero, still]
      simp [h]
    | succ i =>
      have := ih i (by simpa using hi) (by simpa using h)
      simp only [List.set_cons_succ, still]
      omega
theorem still_one (L : List Int) (i : Nat) (h : L.getD i 0 ≠ 2) : still (L.set i 1) ≤ still L := by
  induction L generalizing i with
  | nil => simp
  | cons a L ih =>
    cases i with
    | zero =>
      simp only [List.getD_cons_zero] at h
      simp only [List.set_cons_zero, still]
      simp [h]
    | succ i =>
      have := ih i (by simpa using h)
      simp only [List.set_cons_succ, still]
      omega
end Go.Proofs.Ytjhoagbcfpbelaa.Xa
