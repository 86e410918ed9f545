/- A book drawn. -/
import Derived.Test.YtjhoagbcfpbelaaXc
import Derived.Test.YtjhoagbcfpbelaaFsN
import Derived.Test.YtjhoagbcfpbelaaWp
namespace Go.Proofs.Ytjhoagbcfpbelaa.Xa
open Go.ChangeShapes Go.WideShapes Go.ChangeAt Go.RowKit
open Go.Proofs.Ytjhoagbcfpbelaa.Lists Go.Proofs.Ytjhoagbcfpbelaa.Gd Go.Proofs.Ytjhoagbcfpbelaa.Rd

/-- a book that is being drawn: B, and where it will be told -/
structure BK (r : Nat) (w : World) (B : Nat) (v : Value) (m : Nat) (o z : Int) (wr : World) : Prop where
  kt : KT r w wr
  bx : Bk.Box wr B v (.int .i64 o) (.int .i64 z)
  fz : ∀ j, wr.frozen? ⟨B, j, none⟩ = false
  rc : (∃ u0 u1 u2, Bk.Box wr w.heap.size u0 u1 u2) ∧ ∀ j, wr.frozen? ⟨w.heap.size, j, none⟩ = false
  ai : AI wr (w.heap.size + 1) v m
  nb : v.ownBlock ≠ some B
  lt : w.heap.size < B ∧ B < wr.heap.size
  m6 : m ≤ 600
section
variable {r : Nat} {w : World} {B : Nat} {v : Value} {m : Nat} {o z : Int} {wr : World}
theorem BK.turn {w2 : World} (h : BK r w B v m o z wr) (hr : r < w.heap.size) (k : Rd.Rd r w2) (t : Turn r wr w2) : BK r w B v m o z w2 := by
  obtain ⟨l1, l2⟩ := h.lt
  have oo := Dr.turn_out t
  have eB := oo.block B l2 (by omega)
  have eR := oo.block w.heap.size (by omega) (by omega)
  obtain ⟨b0, b1, b2⟩ := h.bx
  obtain ⟨⟨u0, u1, u2, c0, c1, c2⟩, cf⟩ := h.rc
  exact ⟨h.kt.call k t, ⟨(World.cell?_of_block eB).trans b0, (World.cell?_of_block eB).trans b1, (World.cell?_of_block eB).trans b2⟩, fun i => (World.frozen?_of_block eB).trans (h.fz i),
    ⟨⟨u0, u1, u2, (World.cell?_of_block eR).trans c0, (World.cell?_of_block eR).trans c1, (World.cell?_of_block eR).trans c2⟩, fun i => (World.frozen?_of_block eR).trans (cf i)⟩, h.ai.turn (by omega) t, h.nb, ⟨l1, Nat.lt_of_lt_of_le l2 oo.size⟩, h.m6⟩
theorem BK.up {w2 : World} (h : BK r w B v m o z wr) (hr : r < w.heap.size) (hb : Below wr.heap.size wr w2) : BK r w B v m o z w2 :=
  h.turn hr (h.kt.rd.kept hb h.kt.rd.lt) (Turn.of hb (Nat.le_refl _) (Nat.le_of_lt h.kt.rd.lt))
end
def put3 (wx : World) (B : Nat) (a b c : Value) : World := ((wx.setCell ⟨B, 0, none⟩ a).setCell ⟨B, 1, none⟩ b).setCell ⟨B, 2, none⟩ c
theorem put3_box {wx : World} {B : Nat} {x y z : Value} (h : Bk.Box wx B x y z) (a b c : Value) : Bk.Box (put3 wx B a b c) B a b c := by
  obtain ⟨h0, h1, h2⟩ := h
  unfold put3 Bk.Box
  simp [go_sem, h0, h1, h2]
theorem put3_below {wx : World} {B b : Nat} (hb : b ≤ B) (x y z : Value) : Below b wx (put3 wx B x y z) :=
  (((Below.refl b wx).setCell (p := ⟨B, 0, none⟩) hb _).setCell (p := ⟨B, 1, none⟩) hb _).setCell (p := ⟨B, 2, none⟩) hb _
theorem put3_other {wx : World} {B g : Nat} (h : g ≠ B) (x y z : Value) : (put3 wx B x y z).heap[g]? = wx.heap[g]? := by
  unfold put3
  rw [Below.heap_setCell _ ⟨B, 2, none⟩ _ g h, Below.heap_setCell _ ⟨B, 1, none⟩ _ g h, Below.heap_setCell _ ⟨B, 0, none⟩ _ g h]
theorem put3_size (wx : World) (B : Nat) (x y z : Value) : (put3 wx B x y z).heap.size = wx.heap.size := by unfold put3; simp
theorem put3_out (wx : World) (B : Nat) (x y z : Value) : Wn.Out (fun k => k = B) wx (put3 wx B x y z) :=
  ⟨rfl, rfl, rfl, by rw [put3_size]; exact Nat.le_refl _, fun k _ hn => put3_other hn x y z⟩
theorem BK.put {r : Nat} {w : World} {B : Nat} {v v' : Value} {m m' : Nat} {o z o' z' : Int} {wr : World} (h : BK r w B v m o z wr) (hr : r < w.heap.size) (ha : AI wr (w.heap.size + 1) v' m') (hn : v'.ownBlock ≠ some B) (hm : m' ≤ 600) : BK r w B v' m' o' z' (put3 wr B v' (.int .i64 o') (.int .i64 z')) := by
  obtain ⟨l1, l2⟩ := h.lt
  have oo := put3_out wr B v' (.int .i64 o') (.int .i64 z')
  have eR := oo.block w.heap.size (by omega) (by omega)
  obtain ⟨⟨u0, u1, u2, c0, c1, c2⟩, cf⟩ := h.rc
  exact ⟨h.kt.below hr (put3_below (by omega) _ _ _), put3_box h.bx _ _ _, fun j => by unfold put3; simp [h.fz], ⟨⟨u0, u1, u2, (World.cell?_of_block eR).trans c0, (World.cell?_of_block eR).trans c1, (World.cell?_of_block eR).trans c2⟩, fun i => (World.frozen?_of_block eR).trans (cf i)⟩,
    ha.out oo (fun g e x => hn (by rw [e, x])), hn, ⟨l1, by rw [put3_size]; exact l2⟩, hm⟩
/-- a box of its own, with a list of its own -/
structure NX (w : World) (B : Nat) (wr0 : World) (nb : Nat) (v : Value) (m : Nat) (o z : Int) (wx : World) : Prop where
  bx : Bk.Box wx nb v (.int .i64 o) (.int .i64 z)
  ai : AI wx (w.heap.size + 1) v m
  ne : v.ownBlock ≠ some B
  ge : wr0.heap.size ≤ nb
  m6 : m ≤ 600
theorem anL_len (N W R : List Int) (o z : Int) (h : N.length ≤ 600) : (Fs.anL N W R o z).length ≤ 600 := by
  unfold Fs.anL
  cases hq : Fs.stp N W o z R with
  | false => simp
  | true =>
    have K := Fs.stp_ok.1 hq
    have B2 := (Fs.wat_iff W).1 K.ww
    have B3 := (Fs.wat_iff R).1 K.wr
    rw [K.lw] at B2
    rw [K.lr] at B3
    have pb := Fs.pfl_bd N W R o K.h1.1 B2 B3 N.length (Nat.le_refl _)
    rw [if_pos rfl, pb.1]
    exact h
/-- the box that was made ahead of a call -/
theorem bl_turnd {r : Nat} {wr w1 : World} {o : Obj} (hr : r < wr.heap.size) (t : Turn r (wr.alloc o).drew w1) : w1.heap[wr.heap.size]? = some o ∧ wr.heap.size < w1.heap.size := by
  have e : (wr.alloc o).drew.heap[wr.heap.size]? = some o := World.alloc_heap_new wr o
  have hs : wr.heap.size < (wr.alloc o).drew.heap.size := by simp
  exact ⟨((Dr.turn_out t).block _ hs (by omega)).trans e, Nat.lt_of_lt_of_le hs t.size⟩
theorem bl_new {w1 w2 : World} {o : Obj} (hb : Below (w1.alloc o).heap.size (w1.alloc o) w2) : w2.heap[w1.heap.size]? = some o ∧ w1.heap.size < w2.heap.size := by
  have hs : w1.heap.size < (w1.alloc o).heap.size := by simp
  exact ⟨(hb.block _ hs).trans (World.alloc_heap_new w1 o), Nat.lt_of_lt_of_le hs hb.size⟩
theorem box_of {w : World} {b : Nat} {x y z : Value} (h : w.heap[b]? = some (.cells #[x, y, z] 26)) : Bk.Box w b x y z ∧ ∀ j, w.frozen? ⟨b, j, none⟩ = false := by
  refine ⟨?_, fun j => by simp [World.frozen?, h]⟩
  unfold Bk.Box
  simp only [World.cell?, h]
  exact ⟨rfl, rfl, rfl⟩
end Go.Proofs.Ytjhoagbcfpbelaa.Xa
