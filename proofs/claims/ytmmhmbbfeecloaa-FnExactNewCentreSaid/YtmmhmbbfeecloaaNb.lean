/- A centre's box; what a new centre is. -/
import Derived.Test.YtmmhmbbfeecloaaSuM
import Derived.Test.YtmmhmbbfeecloaaQuM
namespace Go.Proofs.Ytmmhmbbfeecloaa.Nc
open Go.ChangeShapes Go.WideShapes Go.ChangeAt Go.RowKit Rt Ro Su
abbrev ctr (rv : Value) (nx : Int) (qv : Value) : Value := .agg #[rv, .int .i64 0, .int .i64 nx, .slice none 0 0, qv]
def qz (S : List Int) : Qu.Qs := S.map fun s => (s, 0, 0)
theorem qz_len (S : List Int) : (qz S).length = S.length := by simp [qz]
theorem qz_next (S : List Int) (k : Nat) (h : k < S.length) : qz (S.take (k + 1)) = qz (S.take k) ++ [(S.getD k 0, 0, 0)] := by
  unfold qz
  rw [List.take_succ_eq_append_getElem h, List.map_append]
  simp [List.getD_eq_getElem?_getD, h]
def Cen (w' : World) (base : Nat) (e : Ending) (R : Ls) (nx : Int) (Q : Qu.Qs) (ok : Bool) : Prop :=
  ∃ rv qv, e = .returned (.tuple #[ctr rv nx qv, .bool ok]) ∧ Rt.Row w' base rv R ∧ Qu.Row w' base qv Q ∧ (∀ g, rv.ownBlock = some g → qv.ownBlock ≠ some g)
theorem cen_no (w' : World) (base : Nat) : Cen w' base (.returned (.tuple #[ctr (.slice none 0 0) 0 (.slice none 0 0), .bool false])) [] 0 [] false := ⟨_, _, rfl, Rt.row_none _ _, Qu.row_none _ _, fun g h => by cases h⟩
def Bx (w : World) (b : Nat) (r q : Value) (x : Int) : Prop := b < w.heap.size ∧ (w.cell? ⟨b, 0, none⟩ = some r ∧ w.cell? ⟨b, 1, none⟩ = some (.int .i64 0) ∧ w.cell? ⟨b, 2, none⟩ = some (.int .i64 x) ∧ w.cell? ⟨b, 3, none⟩ = some (.slice none 0 0) ∧ w.cell? ⟨b, 4, none⟩ = some q) ∧ (w.frozen? ⟨b, 0, none⟩ = false ∧ w.frozen? ⟨b, 1, none⟩ = false ∧ w.frozen? ⟨b, 2, none⟩ = false ∧ w.frozen? ⟨b, 3, none⟩ = false ∧ w.frozen? ⟨b, 4, none⟩ = false)
theorem Bx.new (w : World) (r q : Value) (x : Int) : Bx (w.alloc (.cells #[r, .int .i64 0, .int .i64 x, .slice none 0 0, q] 28)) w.heap.size r q x := by
  unfold Bx
  simp [go_sem]
theorem Bx.of_block {w w' : World} {b : Nat} {r q : Value} {x : Int} (h : Bx w b r q x) (e : w'.heap[b]? = w.heap[b]?) (hl : b < w'.heap.size) : Bx w' b r q x := by
  obtain ⟨h0, ⟨c0, c1, c2, c3, c4⟩, f0, f1, f2, f3, f4⟩ := h
  exact ⟨hl, ⟨(World.cell?_of_block (a := ⟨b, 0, none⟩) e).trans c0, (World.cell?_of_block (a := ⟨b, 1, none⟩) e).trans c1, (World.cell?_of_block (a := ⟨b, 2, none⟩) e).trans c2, (World.cell?_of_block (a := ⟨b, 3, none⟩) e).trans c3, (World.cell?_of_block (a := ⟨b, 4, none⟩) e).trans c4⟩, (World.frozen?_of_block (a := ⟨b, 0, none⟩) e).trans f0, (World.frozen?_of_block (a := ⟨b, 1, none⟩) e).trans f1, (World.frozen?_of_block (a := ⟨b, 2, none⟩) e).trans f2, (World.frozen?_of_block (a := ⟨b, 3, none⟩) e).trans f3, (World.frozen?_of_block (a := ⟨b, 4, none⟩) e).trans f4⟩
theorem Bx.on {w w' : World} {b B : Nat} {r q : Value} {x : Int} (h : Bx w b r q x) (hb : Below B w w') (hB : b < B) : Bx w' b r q x := h.of_block (hb.block b hB) (Nat.lt_of_lt_of_le h.1 hb.size)
theorem Bx.grown {w w' : World} {b : Nat} {r q : Value} {x : Int} {row : Option Nat} (h : Bx w b r q x) (hg : w.grownBy w' row) (hne : row ≠ some b) : Bx w' b r q x := h.of_block (hg.block b h.1 hne.symm) (Nat.lt_of_lt_of_le h.1 hg.size)
theorem Bx.put {w : World} {b : Nat} {r q : Value} {x : Int} (h : Bx w b r q x) (u : Value) : Bx (w.setCell ⟨b, 4, none⟩ u) b r u x := by
  obtain ⟨h0, ⟨c0, c1, c2, c3, c4⟩, f0, f1, f2, f3, f4⟩ := h
  unfold Bx
  simp [go_sem, c0, c1, c2, c3, c4, f0, f1, f2, f3, f4, h0]
theorem grown_new {w w1 w2 : World} {b : Nat} {row : Option Nat} (h : w.grownBy w1 (some b)) (hg : w1.grownBy w2 row) (hr : ∀ g, row = some g → w.heap.size ≤ g) : w.grownBy w2 (some b) :=
  ⟨hg.os.trans h.os, hg.tape.trans h.tape, hg.output.trans h.output, Nat.le_trans h.size hg.size, fun k hk hne => (hg.block k (Nat.lt_of_lt_of_le hk h.size) (fun e => by have := hr k e.symm; omega)).trans (h.block k hk hne)⟩
theorem down {w : World} {B B' n k : Nat} {e : TypeId} {v : Value} {xs : List Value} (h : w.ownsRow B e k v n xs) (hb : B' ≤ B) : w.ownsRow B' e k v n xs := by
  obtain ⟨h0, h | ⟨g, cap, cur, h1, h2, h3⟩⟩ := h
  · exact ⟨h0, .inl h⟩
  · exact ⟨h0, .inr ⟨g, cap, cur, h1, Nat.le_trans hb h2, h3⟩⟩
theorem Ints.form {w : World} {v : Value} {S : List Int} (h : Ints w v S) : ∃ a c, v = .slice a S.length c ∧ ∀ i, i < S.length → ∃ b, a = some ⟨b, 0, none⟩ ∧ b < w.heap.size ∧ w.cell? ⟨b, i, none⟩ = some (.int .i64 (S.getD i 0)) := by
  rcases h with ⟨rfl, a, c, rfl⟩ | ⟨b, c, rfl, h1, h2⟩
  · exact ⟨a, c, rfl, fun i hi => absurd hi (by simp)⟩
  · exact ⟨_, c, rfl, fun i hi => ⟨b, rfl, h1, h2 i hi⟩⟩
theorem cell_four (w : World) (v0 v1 v2 v3 : Value) (t : TypeId) : ∀ j u, [v0, v1, v2, v3][j]? = some u → (w.alloc (Obj.cells #[v0, v1, v2, v3] t)).cell? ((⟨w.heap.size, 0, none⟩ : Addr).add j) = some u := by
  intro j u hj
  match j, hj with
  | 0, hj => simp at hj; subst hj; simp [Addr.add]
  | 1, hj => simp at hj; subst hj; simp [Addr.add]
  | 2, hj => simp at hj; subst hj; simp [Addr.add]
  | 3, hj => simp at hj; subst hj; simp [Addr.add]
theorem one_four (s : Int) : ∀ u ∈ [Value.int .i64 s, .slice none 0 0, .int .i64 0, .int .i64 0], u.oneCell' = true := by
  intro u hu; simp at hu; rcases hu with rfl | rfl | rfl <;> rfl
end Go.Proofs.Ytmmhmbbfeecloaa.Nc
