/- A window of a row of int64: appended to, cut at its head and at its end. -/
import Derived.Test.YtagkbglgdmajhaaXoA
import Derived.ArgAppend
namespace Go.Proofs.Ytagkbglgdmajhaa.Wn
open Go.ChangeShapes Go.WideShapes Go.ChangeAt Go.RowKit
open Go.Proofs.Ytagkbglgdmajhaa.Lists

def Win (w : World) (B : Nat → Prop) (v : Value) (T : List Int) : Prop :=
  ∃ g off cap, v = .slice (some ⟨g, off, none⟩) T.length cap ∧ B g ∧ g < w.heap.size ∧ T.length ≤ cap ∧ cap ≤ maxLen ∧ (∀ i, i < T.length → w.cell? ⟨g, off + i, none⟩ = some (.int .i64 (T.getD i 0))) ∧ ∀ i, i < cap → (w.cell? ⟨g, off + i, none⟩).isSome = true ∧ w.frozen? ⟨g, off + i, none⟩ = false
theorem Win.on {w w' : World} {B : Nat → Prop} {v : Value} {T : List Int} (h : Win w B v T) (hb : Below w.heap.size w w') : Win w' B v T := by
  obtain ⟨g, off, cap, rfl, h1, h2, h3, h4, h5, h6⟩ := h
  have e := hb.block g h2
  exact ⟨g, off, cap, rfl, h1, Nat.lt_of_lt_of_le h2 hb.size, h3, h4, fun i hi => (World.cell?_of_block e).trans (h5 i hi), fun i hi => ⟨by rw [World.cell?_of_block e]; exact (h6 i hi).1, (World.frozen?_of_block e).trans (h6 i hi).2⟩⟩
theorem Win.put {w : World} {B : Nat → Prop} {v : Value} {T : List Int} (h : Win w B v T) (b o : Nat) (u : Value) (hb : ¬ B b) : Win (w.setCell ⟨b, o, none⟩ u) B v T := by
  obtain ⟨g, off, cap, rfl, h1, h2, h3, h4, h5, h6⟩ := h
  have e := Below.heap_setCell w ⟨b, o, none⟩ u g (by show g ≠ b; intro q; rw [q] at h1; exact hb h1)
  exact ⟨g, off, cap, rfl, h1, by simpa using h2, h3, h4, fun i hi => (World.cell?_of_block e).trans (h5 i hi), fun i hi => ⟨by rw [World.cell?_of_block e]; exact (h6 i hi).1, (World.frozen?_of_block e).trans (h6 i hi).2⟩⟩
theorem Win.new (w : World) (B : Nat → Prop) (hB : B w.heap.size) (x : Int) : Win (w.alloc (Obj.cells #[.int .i64 x] 2)) B (.slice (some ⟨w.heap.size, 0, none⟩) 1 1) [x] := by
  refine ⟨w.heap.size, 0, 1, rfl, hB, by simp, Nat.le_refl _, by decide, fun i hi => ?_, fun i hi => ?_⟩
  · simp at hi; subst hi; simp [go_sem]
  · obtain rfl : i = 0 := by omega
    simp [go_sem]
theorem Win.init {w : World} {B : Nat → Prop} {T : List Int} {x : Int} {g off cap : Nat} (h : Win w B (.slice (some ⟨g, off, none⟩) (T ++ [x]).length cap) (T ++ [x])) : Win w B (.slice (some ⟨g, off, none⟩) T.length cap) T := by
  obtain ⟨g', off', cap', e, h1, h2, h3, h4, h5, h6⟩ := h
  simp at e
  obtain ⟨⟨rfl, rfl⟩, rfl⟩ := e
  refine ⟨g, off, cap, rfl, h1, h2, by simp at h3; omega, h4, fun i hi => ?_, h6⟩
  have := h5 i (by simp; omega)
  rw [this, List.getD_eq_getElem?_getD, List.getD_eq_getElem?_getD, List.getElem?_append_left hi]
theorem Win.last {w : World} {B : Nat → Prop} {T : List Int} {x : Int} {g off cap : Nat} (h : Win w B (.slice (some ⟨g, off, none⟩) (T ++ [x]).length cap) (T ++ [x])) : w.cell? ⟨g, off + T.length, none⟩ = some (.int .i64 x) := by
  obtain ⟨g', off', cap', e, h1, h2, h3, h4, h5, h6⟩ := h
  simp at e
  obtain ⟨⟨rfl, rfl⟩, rfl⟩ := e
  have := h5 T.length (by simp)
  rw [this]
  simp
theorem Win.tail {w : World} {B : Nat → Prop} {T : List Int} {x : Int} {g off cap : Nat} (h : Win w B (.slice (some ⟨g, off, none⟩) (x :: T).length cap) (x :: T)) : Win w B (.slice (some ⟨g, off + 1, none⟩) T.length (cap - 1)) T := by
  obtain ⟨g', off', cap', e, h1, h2, h3, h4, h5, h6⟩ := h
  simp at e
  obtain ⟨⟨rfl, rfl⟩, rfl⟩ := e
  simp at h3
  refine ⟨g, off + 1, cap - 1, rfl, h1, h2, by omega, by omega, fun i hi => ?_, fun i hi => ?_⟩
  · have := h5 (i + 1) (by simp; omega)
    rw [show off + 1 + i = off + (i + 1) by omega, this]
    simp
  · have := h6 (i + 1) (by omega)
    rw [show off + 1 + i = off + (i + 1) by omega]
    exact this
theorem Win.tail1 {w : World} {B : Nat → Prop} {T : List Int} {x : Int} {g off : Nat} (h : Win w B (.slice (some ⟨g, off, none⟩) (x :: T).length 1) (x :: T)) : T = [] ∧ Win w B (.slice (some ⟨g, off, none⟩) 0 0) [] := by
  obtain ⟨g', off', cap', e, h1, h2, h3, h4, h5, h6⟩ := h
  simp at e
  obtain ⟨⟨rfl, rfl⟩, rfl⟩ := e
  simp at h3
  exact ⟨h3, g, off, 0, rfl, h1, h2, Nat.le_refl _, by decide, fun i hi => by simp at hi, fun i hi => by omega⟩
theorem Win.head {w : World} {B : Nat → Prop} {T : List Int} {x : Int} {g off cap : Nat} (h : Win w B (.slice (some ⟨g, off, none⟩) (x :: T).length cap) (x :: T)) : w.cell? ⟨g, off, none⟩ = some (.int .i64 x) := by
  obtain ⟨g', off', cap', e, h1, h2, h3, h4, h5, h6⟩ := h
  simp at e
  obtain ⟨⟨rfl, rfl⟩, rfl⟩ := e
  have := h5 0 (by simp)
  simpa using this
theorem Win.form {w : World} {B : Nat → Prop} {v : Value} {T : List Int} (h : Win w B v T) : ∃ g off cap, v = .slice (some ⟨g, off, none⟩) T.length cap ∧ (B g ∧ g < w.heap.size) ∧ T.length ≤ cap ∧ cap ≤ maxLen := by
  obtain ⟨g, off, cap, h, h1, h2, h3, h4, _⟩ := h
  exact ⟨g, off, cap, h, ⟨h1, h2⟩, h3, h4⟩
theorem win_row {w : World} {B : Nat} {v : Value} {T : List Int} (R : w.ownsRow B 2 1 v T.length (ints T)) (h0 : 0 < T.length) : Win w (fun k => B ≤ k) v T := by
  obtain ⟨hl, h⟩ := id R
  rcases h with ⟨_, h⟩ | ⟨g, cap, cur, rfl, hb, hh, hc, hm, hs, _⟩
  · omega
  · refine ⟨g, 0, cap, rfl, hb, ?_, hc, hm, fun i hi => ?_, fun i hi => ?_⟩
    · by_cases x : g < w.heap.size
      · exact x
      · rw [Array.getElem?_eq_none (by omega)] at hh; cases hh
    · rw [Nat.zero_add]; exact row_cell R i hi
    · rw [Nat.zero_add]
      refine ⟨?_, R.frozenAt i⟩
      have : i < cur.size := by omega
      simp [World.cell?, hh, this]

theorem Win.to {w : World} {B C : Nat → Prop} {v : Value} {T : List Int} (h : Win w B v T) (hc : ∀ k, k < w.heap.size → B k → C k) : Win w C v T := by
  obtain ⟨g, off, cap, e, h1, h2, h3⟩ := h
  exact ⟨g, off, cap, e, hc g h2 h1, h2, h3⟩
/-- All blocks but those of P lie as they lay. -/
structure Out (B : Nat → Prop) (w w' : World) : Prop where
  os : w'.os = w.os
  tape : w'.tape = w.tape
  output : w'.output = w.output
  size : w.heap.size ≤ w'.heap.size
  block : ∀ k, k < w.heap.size → ¬ B k → w'.heap[k]? = w.heap[k]?
theorem Out.below {B : Nat → Prop} {w w' : World} {b : Nat} (h : Out B w w') (hb : b ≤ w.heap.size) (hn : ∀ k, k < b → ¬ B k) : Below b w w' := ⟨h.os, h.tape, h.output, h.size, fun k hk => h.block k (by omega) (hn k hk)⟩
theorem Out.row {B : Nat → Prop} {w w' : World} {base n : Nat} {v : Value} {xs : List Value} (h : Out B w w') (R : w.ownsRow base 2 1 v n xs) (hn : ∀ k, v.ownBlock = some k → ¬ B k) : w'.ownsRow base 2 1 v n xs := by
  refine ⟨R.1, ?_⟩
  rcases R.2 with e | ⟨g, cap, cur, h1, h2, h3, h4⟩
  · exact .inl e
  · have q : v.ownBlock = some g := by rw [h1]; rfl
    exact .inr ⟨g, cap, cur, h1, h2, (h.block g (R.lt g q).2 (hn g q)).trans h3, h4⟩
/-- One number appended: the walk goes on in one way. -/
theorem wpList_append_win (w : World) {ops : Array Oper} {rest : List Oper} {o : Oper} {a : Act} {Q : Exit → Act → World → Prop} (hg : o.guard = none) (s x : Operand)
    (hop : o.op = Op.call { callee := Callee.builtin Builtin.append, args := #[s, x], argTypes := #[22, 22] }) (B : Nat → Prop) (v : Value) (T : List Int) (hs : a.eval s = v) (hW : Win w B v T) (hB : ∀ k, w.heap.size ≤ k → B k) (hn : T.length ≤ 1000000)
    (y : Int) (ad : Addr) (c : Nat) (hx : a.eval x = .slice (some ad) 1 c) (hc : ∀ j u, [Value.int .i64 y][j]? = some u → w.cell? (ad.add j) = some u)
    (hK : ∀ v' w', Win w' B v' (T ++ [y]) → Out B w w' → wpList Try.prog ops Q rest (a.put o.dst v') w') : wpList Try.prog ops Q (o :: rest) a w := by
  obtain ⟨i0, hi, hz0, hz1, hz2⟩ := info_parts Lists.Try.info2
  obtain ⟨g, off, cap, rfl, h1, h2, h3, h4, h5, h6⟩ := hW
  refine wpList_append_arg w hg s x 22 hop 2 i0 (.int .i64 0) 1 8 Try.underlying22 hi hz0 hz1 hz2 rfl (by decide) g off T.length cap (ints T) hs (by simp [ints]) ?_ ad 1 c [.int .i64 y] hx rfl hc (by intro u hu; simp at hu; subst hu; rfl) ?_ (by unfold maxLen; omega) (by omega) (fun hr => ?_) (fun hr v' w' hown hgr => ?_)
  · intro j u hj
    have hl : j < T.length := by
      have := (List.getElem?_eq_some_iff.1 hj).1
      simpa [ints] using this
    rw [h5 j hl, ← hj]
    simp [ints, hl]
  · intro hr j hj
    simp at hj
    subst hj
    rw [Nat.mul_one]
    exact h6 T.length (by omega)
  · have h9 := h6 T.length (by omega)
    refine hK _ _ ?_ ?_
    · show Win (w.setCell ⟨g, off + T.length * 1, none⟩ (.int .i64 y)) B _ _
      rw [Nat.mul_one]
      refine ⟨g, off, cap, by simp, h1, by simpa using h2, by simp; omega, h4, fun i hi => ?_, fun i hi => ?_⟩
      · simp at hi
        by_cases e : i = T.length
        · subst e
          rw [World.cell?_setCell_same' _ _ _ h9.1]
          simp
        · rw [World.cell?_setCell_other _ _ _ _ (fun q => by simp at q), h5 i (by omega), List.getD_eq_getElem?_getD, List.getD_eq_getElem?_getD, List.getElem?_append_left (by omega)]
      · refine ⟨?_, by rw [World.frozen?_setCell]; exact (h6 i hi).2⟩
        by_cases e : i = T.length
        · subst e
          rw [World.cell?_setCell_same' _ _ _ h9.1]
          rfl
        · rw [World.cell?_setCell_other _ _ _ _ (fun q => by simp at q)]
          exact (h6 i hi).1
    · show Out B w (w.setCell ⟨g, off + T.length * 1, none⟩ (.int .i64 y))
      exact ⟨rfl, rfl, rfl, by simp, fun k _ hn => Below.heap_setCell w ⟨g, off + T.length * 1, none⟩ (.int .i64 y) k (by show k ≠ g; intro q; rw [q] at hn; exact hn h1)⟩
  · have R : w'.ownsRow w.heap.size 2 1 v' (T ++ [y]).length (ints (T ++ [y])) := by
      rw [List.length_append]
      simpa [ints] using hown
    obtain ⟨g', o', c', e1, e2, e3⟩ := win_row R (by simp)
    exact hK v' w' ⟨g', o', c', e1, hB _ e2, e3⟩ ⟨hgr.os, hgr.tape, hgr.output, hgr.size, fun k hk _ => hgr.block k hk (by simp)⟩
end Go.Proofs.Ytagkbglgdmajhaa.Wn
