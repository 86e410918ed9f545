/- Blocks of memory: what stays as it was. -/
import Derived.Test.YtmopkbkdfipglaaWvS
import Derived.Test.YtmopkbkdfipglaaRf
import Derived.Test.YtmopkbkdfipglaaXoB
import Derived.Deep.RegionHeld3
namespace Go.Proofs.Ytmopkbkdfipglaa.Lists
open Go.ChangeShapes Go.WideShapes Go.ChangeAt Go.RowKit

/-- What is as it was but for the blocks of S. -/
structure KB (S : Nat → Prop) (w w' : World) : Prop where
  os : w'.os = w.os
  tape : w'.tape = w.tape
  output : w'.output = w.output
  size : w.heap.size ≤ w'.heap.size
  block : ∀ k, k < w.heap.size → ¬ S k → w'.heap[k]? = w.heap[k]?
theorem KB.refl (S : Nat → Prop) (w : World) : KB S w w := ⟨rfl, rfl, rfl, Nat.le_refl _, fun _ _ _ => rfl⟩
theorem KB.trans {S : Nat → Prop} {w w' w'' : World} (h : KB S w w') (h' : KB S w' w'') : KB S w w'' := ⟨h'.os.trans h.os, h'.tape.trans h.tape, h'.output.trans h.output, Nat.le_trans h.size h'.size, fun k hk hn => (h'.block k (Nat.lt_of_lt_of_le hk h.size) hn).trans (h.block k hk hn)⟩
theorem KB.mono {S S' : Nat → Prop} {w w' : World} (h : KB S w w') (hs : ∀ k, S k → S' k) : KB S' w w' := ⟨h.os, h.tape, h.output, h.size, fun k hk hn => h.block k hk (fun x => hn (hs k x))⟩
theorem KB.of_grown {S : Nat → Prop} {w w' : World} {row : Option Nat} (h : w.grownBy w' row) (hs : ∀ k, row = some k → S k) : KB S w w' := ⟨h.os, h.tape, h.output, h.size, fun k hk hn => h.block k hk (fun e => hn (hs k e.symm))⟩
theorem KB.of_below {S : Nat → Prop} {w w' : World} (h : Below w.heap.size w w') : KB S w w' := ⟨h.os, h.tape, h.output, h.size, fun k hk _ => h.block k hk⟩
theorem KB.of_set {S : Nat → Prop} (w : World) (g o : Nat) (u : Value) (hs : S g) : KB S w (w.setCell ⟨g, o, none⟩ u) := KB.of_grown (grown_setCell (World.grownBy.refl w (some g)) o u) (fun k e => by simp at e; subst e; exact hs)
theorem KB.below {S : Nat → Prop} {w w' : World} {B : Nat} (h : KB S w w') (hB : B ≤ w.heap.size) (hs : ∀ k, S k → B ≤ k) : Below B w w' := ⟨h.os, h.tape, h.output, h.size, fun k hk => h.block k (by omega) (fun x => by have := hs k x; omega)⟩
theorem row_kb {S : Nat → Prop} {w w' : World} {base n k : Nat} {e : TypeId} {v : Value} {xs : List Value} (h : w.ownsRow base e k v n xs) (hb : KB S w w') (hne : ∀ g, v.ownBlock = some g → ¬ S g) : w'.ownsRow base e k v n xs := by
  refine ⟨h.1, ?_⟩
  rcases h.2 with h2 | ⟨g, cap, cur, h1, h2, h3, h4⟩
  · exact .inl h2
  · have hg : g < w.heap.size := by
      rcases Nat.lt_or_ge g w.heap.size with x | x
      · exact x
      · rw [Array.getElem?_eq_none x] at h3; cases h3
    exact .inr ⟨g, cap, cur, h1, h2, (hb.block g hg (hne g (by rw [h1]; rfl))).trans h3, h4⟩
/-- Rows of two types lie in two blocks. -/
theorem type_ne {w : World} {b1 b2 n1 n2 k1 k2 : Nat} {e1 e2 : TypeId} {v1 v2 : Value} {xs1 xs2 : List Value} (h1 : w.ownsRow b1 e1 k1 v1 n1 xs1) (h2 : w.ownsRow b2 e2 k2 v2 n2 xs2) (he : e1 ≠ e2) (g : Nat) (x1 : v1.ownBlock = some g) (x2 : v2.ownBlock = some g) : False := by
  rcases h1.2 with ⟨a, _⟩ | ⟨g1, c1, cur1, y1, _, z1, _⟩
  · rw [a] at x1; cases x1
  · rcases h2.2 with ⟨a, _⟩ | ⟨g2, c2, cur2, y2, _, z2, _⟩
    · rw [a] at x2; cases x2
    · rw [y1] at x1; rw [y2] at x2
      simp [Value.ownBlock] at x1 x2
      rw [x1] at z1; rw [x2] at z2
      rw [z1] at z2
      simp at z2
      exact he z2.2

/-- A block and its cells. -/
def Bl (w : World) (b : Nat) (e : TypeId) (cs : Array Value) : Prop := w.heap[b]? = some (.cells cs e (0, 0))
def Ty (w : World) (b : Nat) (e : TypeId) : Prop := ∃ c f, w.heap[b]? = some (.cells c e f)
theorem Bl.ty {w : World} {b : Nat} {e : TypeId} {cs : Array Value} (h : Bl w b e cs) : Ty w b e := ⟨_, _, h⟩
theorem Ty.lt {w : World} {b : Nat} {e : TypeId} (h : Ty w b e) : b < w.heap.size := by
  obtain ⟨c, f, h⟩ := h
  exact (Array.getElem?_eq_some_iff.1 h).1
theorem Bl.lt {w : World} {b : Nat} {e : TypeId} {cs : Array Value} (h : Bl w b e cs) : b < w.heap.size := h.ty.lt
theorem Ty.ne {w : World} {b b' : Nat} {e e' : TypeId} (h : Ty w b e) (h' : Ty w b' e') (he : e ≠ e') : b ≠ b' := by
  rintro rfl
  obtain ⟨c, f, h⟩ := h
  obtain ⟨c', f', h'⟩ := h'
  rw [h] at h'
  simp at h'
  exact he h'.2.1
theorem Bl.cell {w : World} {b : Nat} {e : TypeId} {cs : Array Value} (h : Bl w b e cs) (j : Nat) : w.cell? ⟨b, j, none⟩ = cs[j]? := by
  unfold Bl at h
  simp [World.cell?, h]
theorem Bl.fz {w : World} {b : Nat} {e : TypeId} {cs : Array Value} (h : Bl w b e cs) (j : Nat) : w.frozen? ⟨b, j, none⟩ = false := by
  unfold Bl at h
  simp [World.frozen?, h]
theorem Bl.kb {S : Nat → Prop} {w w' : World} {b : Nat} {e : TypeId} {cs : Array Value} (h : Bl w b e cs) (k : KB S w w') (hn : ¬ S b) : Bl w' b e cs := (k.block b h.lt hn).trans h
theorem Ty.kb {S : Nat → Prop} {w w' : World} {b : Nat} {e : TypeId} (h : Ty w b e) (k : KB S w w') (hn : ¬ S b) : Ty w' b e := by
  have hl := h.lt
  obtain ⟨c, f, h⟩ := h
  exact ⟨c, f, (k.block b hl hn).trans h⟩
theorem Bl.on {w w' : World} {b : Nat} {e : TypeId} {cs : Array Value} (h : Bl w b e cs) (k : Below w.heap.size w w') : Bl w' b e cs := (k.block b h.lt).trans h
theorem Ty.on {w w' : World} {b : Nat} {e : TypeId} (h : Ty w b e) (k : Below w.heap.size w w') : Ty w' b e := by
  have hl := h.lt
  obtain ⟨c, f, h⟩ := h
  exact ⟨c, f, (k.block b hl).trans h⟩
theorem Bl.set {w : World} {b : Nat} {e : TypeId} {cs : Array Value} (h : Bl w b e cs) (j : Nat) (u : Value) : Bl (w.setCell ⟨b, j, none⟩ u) b e (cs.setIfInBounds j u) := by
  have hl := h.lt
  unfold Bl at h ⊢
  have hg : w.heap[b] = .cells cs e (0, 0) := by rw [Array.getElem?_eq_getElem hl] at h; exact Option.some.inj h
  simp [World.setCell, hl]
  rw [Array.getElem_modify_self, hg]
theorem Bl.new (w : World) (e : TypeId) (cs : Array Value) : Bl (w.alloc (.cells cs e)) w.heap.size e cs := by
  unfold Bl
  simp [World.alloc, -World.alloc_eq]
theorem kb_set (w : World) (g o : Nat) (u : Value) : KB (fun b => b = g) w (w.setCell ⟨g, o, none⟩ u) := KB.of_set w g o u rfl
theorem row_ty {w : World} {base e k n : Nat} {v : Value} {xs : List Value} (h : w.ownsRow base e k v n xs) (g : Nat) (hg : v.ownBlock = some g) : Ty w g e := by
  rcases h.2 with ⟨rfl, _⟩ | ⟨g', cap, cur, rfl, _, h3, _⟩
  · simp [Value.ownBlock] at hg
  · simp [Value.ownBlock] at hg
    subst hg
    exact ⟨_, _, h3⟩

theorem KB.but {S : Nat → Prop} {w w' : World} (h : KB S w w') : Rf.But S w w' := ⟨h.size, h.block⟩
theorem KB.cell {S : Nat → Prop} {w w' : World} (h : KB S w w') {p : Addr} (hp : p.block < w.heap.size) (hn : ¬ S p.block) : w'.cell? p = w.cell? p := World.cell?_of_block (h.block _ hp hn)
end Go.Proofs.Ytmopkbkdfipglaa.Lists
