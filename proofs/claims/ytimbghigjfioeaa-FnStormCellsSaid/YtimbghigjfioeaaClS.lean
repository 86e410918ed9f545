/- Storm cells: what both walks keep. -/
import Derived.Test.YtimbghigjfioeaaSd
import Derived.Test.YtimbghigjfioeaaWn
import Derived.Test.YtimbghigjfioeaaClP
namespace Go.Proofs.Ytimbghigjfioeaa.Cl
open Go.ChangeShapes Go.WideShapes Go.ChangeAt Go.RowKit
open Go.Proofs.Ytimbghigjfioeaa.Lists Go.Proofs.Ytimbghigjfioeaa.Wn

def nbs (r c : Int) (x : Nat) : List Nat := (Gd.nbi r c x).map Int.toNat
def hi (L : List Int) (lv : Int) (x : Nat) : Bool := decide (lv ≤ L.getD x 0)
theorem nbi_in {r c x y : Int} (hc : 1 ≤ c) (h : y ∈ Gd.nbi r c x) : 0 ≤ y ∧ y < r * c := by
  unfold Gd.nbi at h
  obtain ⟨e, he, rfl⟩ := List.mem_map.1 h
  have ht : Gd.there r c e.1 e.2 = true := by
    unfold Gd.nb at he
    exact (List.mem_filter.1 he).2
  have := Gd.place_le ht hc
  unfold Gd.pl
  omega
theorem nbi_len (r c x : Int) : (Gd.nbi r c x).length ≤ 4 := by
  unfold Gd.nbi
  rw [List.length_map]
  exact Gd.nb_le _ _ _ _
theorem nbs_len (r c : Int) (x : Nat) : (nbs r c x).length = (Gd.nbi r c x).length := by simp [nbs]
theorem nbs_in {r c : Int} {x y n : Nat} (hc : 1 ≤ c) (hn : (n : Int) = r * c) (h : y ∈ nbs r c x) : y < n := by
  unfold nbs at h
  obtain ⟨e, he, rfl⟩ := List.mem_map.1 h
  have := nbi_in hc he
  omega
theorem nbs_at {r c : Int} {x k n : Nat} (hc : 1 ≤ c) (hn : (n : Int) = r * c) (hk : k < (Gd.nbi r c x).length) : ∃ y : Nat, (nbs r c x)[k]? = some y ∧ y < n ∧ (Gd.nbi r c x).getD k 0 = (y : Int) := by
  have e : (Gd.nbi r c x).getD k 0 = (Gd.nbi r c x)[k] := by simp [List.getD_eq_getElem?_getD, hk]
  have := nbi_in hc (List.getElem_mem hk)
  refine ⟨(Gd.nbi r c x)[k].toNat, by simp [nbs, hk], by omega, by rw [e]; omega⟩
theorem row_get {w : World} {B g n : Nat} {cap : Nat} {O : List Int} (R : w.ownsRow B 2 1 (.slice (some ⟨g, 0, none⟩) n cap) n (ints O)) (hO : O.length = n) (x : Nat) (hx : x < n) : w.cell? ⟨g, x, none⟩ = some (.int .i64 (O.getD x 0)) := by
  subst hO
  exact row_cell R x hx
theorem row_put {w : World} {B g n : Nat} {cap : Nat} {O : List Int} (R : w.ownsRow B 2 1 (.slice (some ⟨g, 0, none⟩) n cap) n (ints O)) (x : Nat) (z : Int) : (w.setCell ⟨g, x, none⟩ (.int .i64 z)).ownsRow B 2 1 (.slice (some ⟨g, 0, none⟩) n cap) n (ints (O.set x z)) := by
  rw [← Lists.ints_set]
  exact (R.stored x _).1
/-- The list of neighbours, as it lies. -/
theorem list_at {w : World} {B : Nat} {v : Value} {X : List Int} (R : w.ownsRow B 2 1 v X.length (ints X)) : ∃ a cap gl, v = .slice a X.length cap ∧ B ≤ gl ∧ (0 < X.length → a = some ⟨gl, 0, none⟩ ∧ gl < w.heap.size) ∧ ∀ i, i < X.length → w.cell? ⟨gl, i, none⟩ = some (.int .i64 (X.getD i 0)) := by
  rcases row_cases R with ⟨h1, h2⟩ | ⟨g, c, h1, h2, h3, h4, h5⟩
  · subst h1
    exact ⟨none, 0, B, h2, Nat.le_refl _, fun h => by simp at h, fun i hi => by simp at hi⟩
  · subst h1
    exact ⟨_, c, g, rfl, h2, fun _ => ⟨rfl, h3⟩, fun i hi => row_cell R i hi⟩

/-- The row of marks, as the world has it. -/
def rowOf (w : World) (g n : Nat) : List Int := (List.range n).map fun i => match w.cell? ⟨g, i, none⟩ with
  | some (.int _ z) => z
  | _ => 0
theorem rowOf_is {w : World} {B g n cap : Nat} {A : List Int} (R : w.ownsRow B 2 1 (.slice (some ⟨g, 0, none⟩) n cap) n (ints A)) (hA : A.length = n) : rowOf w g n = A := by
  refine list_eq (by simp [rowOf, hA]) fun x hx => ?_
  have hx' : x < n := by simpa [rowOf] using hx
  have := row_get R hA x hx'
  simp [rowOf, List.getD_eq_getElem?_getD, hx', this]
def lenOf : Value → Nat
  | .slice _ l _ => l
  | _ => 0
def ms (n : Nat) (A : List Int) (T : List Nat) : Nat := 2 * zc A n + T.length
def ti (T : List Nat) : List Int := T.map Int.ofNat
theorem ti_len (T : List Nat) : (ti T).length = T.length := by simp [ti]
theorem ti_snoc (T : List Nat) (x : Nat) : ti (T ++ [x]) = ti T ++ [(x : Int)] := by simp [ti]
theorem ti_cons (T : List Nat) (x : Nat) : ti (x :: T) = (x : Int) :: ti T := rfl

/-- Marks, box and heap of cells lie apart. -/
structure St (w : World) (lo g n cap bx : Nat) (r c : Int) (v : Value) (P : Nat → Prop) (wr : World) (A : List Int) (u : Value) (T : List Nat) : Prop where
  row : wr.ownsRow lo 2 1 (.slice (some ⟨g, 0, none⟩) n cap) n (ints A)
  box : Bo.Box wr bx (.int .i64 r) (.int .i64 c) v
  bel : Below lo w wr
  siz : bx < wr.heap.size
  win : Win wr P u (ti T)
theorem St.on {w wr w2 : World} {lo g n cap bx : Nat} {r c : Int} {v u : Value} {P : Nat → Prop} {A : List Int} {T : List Nat} (h : St w lo g n cap bx r c v P wr A u T) (hb : Below wr.heap.size wr w2) (hl : lo ≤ wr.heap.size) : St w lo g n cap bx r c v P w2 A u T :=
  ⟨Bo.row_on h.row hb, h.box.on hb h.siz, h.bel.trans (hb.mono hl), Nat.lt_of_lt_of_le h.siz hb.size, h.win.on hb⟩
theorem St.to {w wr : World} {lo g n cap bx : Nat} {r c : Int} {v u : Value} {P P' : Nat → Prop} {A : List Int} {T : List Nat} (h : St w lo g n cap bx r c v P wr A u T) (hP : ∀ k, k < wr.heap.size → P k → P' k) : St w lo g n cap bx r c v P' wr A u T :=
  ⟨h.row, h.box, h.bel, h.siz, h.win.to hP⟩
theorem St.store {w wr : World} {lo g n cap bx : Nat} {r c : Int} {v u : Value} {P : Nat → Prop} {A : List Int} {T : List Nat} (h : St w lo g n cap bx r c v P wr A u T) (hg : lo ≤ g) (hbx : bx ≠ g) (hP : ¬ P g) (y : Nat) (z : Int) : St w lo g n cap bx r c v P (wr.setCell ⟨g, y, none⟩ (.int .i64 z)) (A.set y z) u T := by
  have e := Below.heap_setCell wr ⟨g, y, none⟩ (.int .i64 z) bx hbx
  refine ⟨row_put h.row y z, ?_, h.bel.setCell (p := ⟨g, y, none⟩) hg _, by have := h.siz; simpa using this, h.win.put g y _ hP⟩
  obtain ⟨b0, b1, b2⟩ := h.box
  exact ⟨(World.cell?_of_block e).trans b0, (World.cell?_of_block e).trans b1, (World.cell?_of_block e).trans b2⟩
theorem St.push {w wr w2 : World} {lo g n cap bx : Nat} {r c : Int} {v u u' : Value} {P : Nat → Prop} {A : List Int} {T T' : List Nat} (h : St w lo g n cap bx r c v P wr A u T) (hl : lo ≤ wr.heap.size) (ho : Out P wr w2) (hw : Win w2 P u' (ti T')) (hP : ¬ P g ∧ ¬ P bx ∧ ∀ k, k < lo → ¬ P k) : St w lo g n cap bx r c v P w2 A u' T' := by
  refine ⟨ho.row h.row (fun k hk => ?_), ?_, h.bel.trans (ho.below hl hP.2.2), Nat.lt_of_lt_of_le h.siz ho.size, hw⟩
  · simp [Value.ownBlock] at hk
    subst hk
    exact hP.1
  · have e := ho.block bx h.siz hP.2.1
    obtain ⟨b0, b1, b2⟩ := h.box
    exact ⟨(World.cell?_of_block e).trans b0, (World.cell?_of_block e).trans b1, (World.cell?_of_block e).trans b2⟩
theorem cell_one_at (w : World) (g : Nat) (x : Value) (t : TypeId) (h : w.heap.size = g) : ∀ j u, [x][j]? = some u → (w.alloc (.cells #[x] t)).cell? ((⟨g, 0, none⟩ : Addr).add j) = some u := by
  subst h
  exact cell_one_new w x t
theorem zc_le (A : List Int) : ∀ n, zc A n ≤ n
  | 0 => Nat.le_refl _
  | n + 1 => by
    have := zc_le A n
    unfold zc
    split <;> omega
theorem ms_take {n : Nat} {A : List Int} {T : List Nat} {y : Nat} {m : Int} (hm : m ≠ 0) (hA : A.length = n) (hy : y < n) (h0 : A.getD y 0 = 0) : ms n (A.set y m) (T ++ [y]) + 1 = ms n A T := by
  have := zc_set hm (by omega) h0 n
  rw [if_pos hy] at this
  unfold ms
  rw [List.length_append]
  simp
  omega
end Go.Proofs.Ytimbghigjfioeaa.Cl
