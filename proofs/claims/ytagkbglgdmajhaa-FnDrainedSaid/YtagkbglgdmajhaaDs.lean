/- Drain of the model: what its memory keeps. -/
import Derived.Test.YtagkbglgdmajhaaDj
import Derived.Maps.AppendAt
namespace Go.Proofs.Ytagkbglgdmajhaa.Hm
open Go.ChangeShapes Go.WideShapes Go.ChangeAt Go.RowKit
open Go.Proofs.Ytagkbglgdmajhaa.Lists Go.Proofs.Ytagkbglgdmajhaa.Dp Go.Proofs.Ytagkbglgdmajhaa.Hp Go.Proofs.Ytagkbglgdmajhaa.Gd

theorem row_grown2 {w w' : World} {base n : Nat} {v : Value} {xs : List Value} {row : Option Nat} (h : w.ownsRow base 2 1 v n xs) (hg : w.grownBy w' row) (hne : ∀ g, v.ownBlock = some g → row ≠ some g) : w'.ownsRow base 2 1 v n xs :=
  row_kb h (KB.of_grown (S := fun b => row = some b) hg (fun _ x => x)) (fun g hg x => hne g hg x)
/-- the box and three lists -/
structure MD (r c : Int) (v : Value) (w : World) (x y z : Value) (A B C : List Int) (wr : World) : Prop where
  bl : Below w.heap.size w wr
  bx : Bl wr w.heap.size 28 #[.int .i64 r, .int .i64 c, v]
  hx : wr.ownsRow (w.heap.size + 1) 2 1 x A.length (ints A)
  hy : wr.ownsRow (w.heap.size + 1) 2 1 y B.length (ints B)
  hz : wr.ownsRow (w.heap.size + 1) 2 1 z C.length (ints C)
  xy : ∀ g, x.ownBlock = some g → y.ownBlock = some g → False
  xz : ∀ g, x.ownBlock = some g → z.ownBlock = some g → False
  yz : ∀ g, y.ownBlock = some g → z.ownBlock = some g → False
section
variable {r c : Int} {v : Value} {w : World} {x y z : Value} {A B C : List Int} {wr : World}
theorem MD.rot (h : MD r c v w x y z A B C wr) : MD r c v w y z x B C A wr := ⟨h.bl, h.bx, h.hy, h.hz, h.hx, h.yz, fun g a b => h.xy g b a, fun g a b => h.xz g b a⟩
theorem MD.up {w' : World} (h : MD r c v w x y z A B C wr) (hb : Below wr.heap.size wr w') : MD r c v w x y z A B C w' :=
  ⟨h.bl.trans (hb.mono h.bl.size), h.bx.on hb, Bx.row_on h.hx hb, Bx.row_on h.hy hb, Bx.row_on h.hz hb, h.xy, h.xz, h.yz⟩
theorem MD.drewN (h : MD r c v w x y z A B C wr) (m : Nat) : MD r c v w x y z A B C (wr.drewN m) := h.up (Bx.below_drewN (Below.refl _ _) m)
theorem MD.sz (h : MD r c v w x y z A B C wr) : w.heap.size < wr.heap.size := h.bx.lt
theorem MD.app {x' : Value} {w5 : World} {o : Obj} {u : Int} (h : MD r c v w x y z A B C wr) (hg : (wr.alloc o).grownBy w5 x.ownBlock) (hrow : w5.ownsRow (w.heap.size + 1) 2 1 x' (A.length + 1) (ints A ++ [.int .i64 u]))
    (hat : x'.ownBlock = x.ownBlock ∨ x'.ownBlock = some (wr.heap.size + 1)) : MD r c v w x' y z (A ++ [u]) B C w5 := by
  have K := h.up (show Below wr.heap.size wr (wr.alloc o) from (Below.refl _ _).alloc (Nat.le_refl _) _)
  have lx := fun g hg => (K.hx.lt g hg).1
  have ly := K.hy.lt
  have lz := K.hz.lt
  have hs := hg.size
  have hs2 : (wr.alloc o).heap.size = wr.heap.size + 1 := by simp
  refine ⟨K.bl.grown hg K.bl.size (fun g e => by have := lx g e; omega), K.bx.kb (KB.of_grown (S := fun b => x.ownBlock = some b) hg (fun _ q => q)) (fun e => by have := lx _ e; omega), Gd.row_snoc rfl hrow,
    row_grown2 K.hy hg (fun k e1 e2 => h.xy _ e2 e1), row_grown2 K.hz hg (fun k e1 e2 => h.xz _ e2 e1), fun g e1 e2 => ?_, fun g e1 e2 => ?_, h.yz⟩
  · rcases hat with k | k
    · exact h.xy g (by rw [← k]; exact e1) e2
    · rw [k] at e1; cases e1; have := (ly _ e2).2; omega
  · rcases hat with k | k
    · exact h.xz g (by rw [← k]; exact e1) e2
    · rw [k] at e1; cases e1; have := (lz _ e2).2; omega
/-- a number is written into the first -/
theorem MD.put {g i n k : Nat} (h : MD r c v w (.slice (some ⟨g, 0, none⟩) n k) y z A B C wr) (hn : n = A.length) (u : Int) : MD r c v w (.slice (some ⟨g, 0, none⟩) n k) y z (A.set i u) B C (wr.setCell ⟨g, i, none⟩ (.int .i64 u)) := by
  subst hn
  have kb := kb_set wr g i (.int .i64 u)
  have lg := (h.hx.lt g rfl).1
  refine ⟨h.bl.setCell (p := ⟨g, i, none⟩) (by show w.heap.size ≤ g; omega) _, h.bx.kb kb (by omega), ?_, row_kb h.hy kb (fun b hb e => by subst e; exact h.xy _ rfl hb), row_kb h.hz kb (fun b hb e => by subst e; exact h.xz _ rfl hb), h.xy, h.xz, h.yz⟩
  rw [List.length_set, ← Lists.ints_set]
  exact (h.hx.stored i _).1
theorem MD.at {i : Nat} (h : MD r c v w x y z A B C wr) (hi : i < A.length) : ∃ g k, x = .slice (some ⟨g, 0, none⟩) A.length k ∧ wr.cell? ⟨g, i, none⟩ = some (.int .i64 (A.getD i 0)) ∧ wr.frozen? ⟨g, i, none⟩ = false ∧ w.heap.size + 1 ≤ g ∧ g < wr.heap.size := by
  have hx := h.hx
  rcases row_cases hx with ⟨e, _⟩ | ⟨g, k, e, _⟩
  · subst e; simp at hi
  · subst e
    have l := hx.lt g rfl
    exact ⟨g, k, rfl, (row_at hx i hi).1, (row_at hx i hi).2, l.1, l.2⟩
end
def Hk (r c : Int) (k : Nat) : List Int := (List.range k).map fun (x : Nat) => if edB r c x then (1 : Int) else 0
theorem Hk_len (r c : Int) (k : Nat) : (Hk r c k).length = k := by simp [Hk]
theorem Hk_no {r c : Int} {k : Nat} (e : edB r c k = false) : Hk r c k ++ [0] = Hk r c (k + 1) := by
  unfold Hk; rw [List.range_succ, List.map_append]; simp [e]
theorem Hk_yes {r c : Int} {k : Nat} (e : edB r c k = true) : (Hk r c k ++ [0]).set k 1 = Hk r c (k + 1) := by
  have h : (Hk r c k ++ [0]).set k 1 = Hk r c k ++ [1] := by
    rw [List.set_append_right _ _ (by rw [Hk_len]; exact Nat.le_refl _), Hk_len]
    simp
  rw [h]
  unfold Hk; rw [List.range_succ, List.map_append]; simp [e]
theorem Hk_all (r c : Int) (n : Nat) : Hk r c n = H0 r c n n := by
  unfold Hk H0
  apply List.map_congr_left
  intro x hx
  have := List.mem_range.1 hx
  simp [this]
theorem rep_snoc (k : Nat) : List.replicate k (-1 : Int) ++ [-1] = List.replicate (k + 1) (-1) := by rw [List.replicate_succ']
theorem take_snoc {L : List Int} {k : Nat} (h : k < L.length) : L.take k ++ [L.getD k 0] = L.take (k + 1) := by
  rw [List.take_add_one, List.getElem?_eq_getElem h]
  simp [List.getD_eq_getElem?_getD, h]
/-- the least of the first k cells of the front -/
def MinTo (F H : List Int) (k t : Nat) : Prop := t < k ∧ H.getD t 0 = 1 ∧ ∀ x, x < k → H.getD x 0 = 1 → F.getD t 0 * 1000 + t ≤ F.getD x 0 * 1000 + x
theorem MinTo.skip {F H : List Int} {k t : Nat} (h : MinTo F H k t) (e : H.getD k 0 ≠ 1) : MinTo F H (k + 1) t :=
  ⟨by have := h.1; omega, h.2.1, fun x hx hx1 => by
    by_cases q : x = k
    · subst q; exact absurd hx1 e
    · exact h.2.2 x (by omega) hx1⟩
theorem MinTo.stay {F H : List Int} {k t : Nat} (h : MinTo F H k t) (q : ¬ F.getD k 0 < F.getD t 0) : MinTo F H (k + 1) t :=
  ⟨by have := h.1; omega, h.2.1, fun x hx hx1 => by
    by_cases e : x = k
    · subst e; have := h.1; omega
    · exact h.2.2 x (by omega) hx1⟩
theorem MinTo.move {F H : List Int} {k t : Nat} (h : MinTo F H k t) (hk : k < 1000) (q : F.getD k 0 < F.getD t 0) (e : H.getD k 0 = 1) : MinTo F H (k + 1) k :=
  ⟨by omega, e, fun x hx hx1 => by
    by_cases xe : x = k
    · subst xe; exact Int.le_refl _
    · have := h.2.2 x (by omega) hx1; have := h.1; omega⟩
theorem MinTo.first {F H : List Int} {k : Nat} (h : ∀ x, x < k → H.getD x 0 ≠ 1) (e : H.getD k 0 = 1) : MinTo F H (k + 1) k :=
  ⟨by omega, e, fun x hx hx1 => by
    by_cases xe : x = k
    · subst xe; exact Int.le_refl _
    · exact absurd hx1 (h x (by omega))⟩
theorem DPo_of {r c : Int} {u : Value} {w wx : World} {x y z : Value} {L : List Int} {s : S3} {k : Nat} (g : Dp.Good r c L s) (d : MD r c u w x y z s.F s.N s.H wx) (hr : Rch r c L k s) (hf : Dp.Fin L.length s) : DPo r c L w (.returned (.tuple #[x, y])) wx := by
  refine ⟨_, _, s, rfl, ⟨k, hr, hf⟩, ?_, ?_, fun b hb x => d.xy b hb x, d.bl⟩
  · have := Bx.own_down d.hx (B' := w.heap.size) (by omega)
    rw [g.inv.lf] at this
    exact this
  · have := Bx.own_down d.hy (B' := w.heap.size) (by omega)
    rw [g.inv.ln] at this
    exact this
end Go.Proofs.Ytagkbglgdmajhaa.Hm
