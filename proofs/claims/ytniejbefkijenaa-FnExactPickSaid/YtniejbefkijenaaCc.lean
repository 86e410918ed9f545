/- Lists of entries put together by the library. -/
import Derived.Test.YtniejbefkijenaaEo
import Derived.Lib.AppendZerosOnto
import Derived.Lib.Walk
import Derived.Lib.SliceRun
namespace Go.Proofs.Ytniejbefkijenaa.En
open Go.ChangeShapes Go.WideShapes Go.ChangeAt Go.RowKit

def cv (A : Ls) (i : Nat) : Nat → Value
  | 0 => .string (c0 A i)
  | 1 => .int .i64 (c1 A i)
  | 2 => .int .i64 (c2 A i)
  | 3 => .int .i64 (c3 A i)
  | _ => .int .i64 (c4 A i)
def cls (A : Ls) : List Value := (List.range (A.length * 5)).map fun q => cv A (q / 5) (q % 5)
theorem cls_len (A : Ls) : (cls A).length = A.length * 5 := by simp [cls]
theorem cls_at (A : Ls) (i j : Nat) (hi : i < A.length) (hj : j < 5) : (cls A)[i * 5 + j]? = some (cv A i j) := by
  have h : i * 5 + j < A.length * 5 := by omega
  have e1 : (i * 5 + j) / 5 = i := by omega
  have e2 : (i * 5 + j) % 5 = j := by omega
  simp [cls, h, e1, e2]
theorem cls_one (A : Ls) : ∀ u ∈ cls A, u.oneCell' = true := by
  intro u hu
  simp [cls] at hu
  obtain ⟨q, _, rfl⟩ := hu
  generalize q % 5 = j
  match j with
  | 0 => rfl
  | 1 => rfl
  | 2 => rfl
  | 3 => rfl
  | _ + 4 => rfl
theorem cls_news {w : World} {b o : Nat} {A : Ls} (h : ∀ i, i < A.length → Cs w b o A i) : ∀ q u, (cls A)[q]? = some u → w.cell? ((⟨b, o, none⟩ : Addr).add q) = some u := by
  intro q u hq
  have hl : q < A.length * 5 := by
    have := (List.getElem?_eq_some_iff.mp hq).1
    rw [cls_len] at this
    exact this
  have e : (⟨b, o, none⟩ : Addr).add q = ⟨b, o + q, none⟩ := by
    unfold Addr.add
    split
    · rename_i h; subst h; rfl
    · rfl
  obtain ⟨i, j, hj, rfl⟩ : ∃ i j, j < 5 ∧ q = i * 5 + j := ⟨q / 5, q % 5, by omega, by omega⟩
  have hi : i < A.length := by omega
  rw [cls_at A i j hi hj] at hq
  simp at hq
  subst hq
  obtain ⟨h0, h1, h2, h3, h4⟩ := h i hi
  rw [e]
  match j, hj with
  | 0, _ => exact h0
  | 1, _ => simpa [Nat.add_assoc, cv] using h1
  | 2, _ => simpa [Nat.add_assoc, cv] using h2
  | 3, _ => simpa [Nat.add_assoc, cv] using h3
  | 4, _ => simpa [Nat.add_assoc, cv] using h4
theorem getD_app (C A : Ls) (i : Nat) : (C ++ A).getD i (⟨#[]⟩, 0, 0, 0, 0) = if i < C.length then C.getD i (⟨#[]⟩, 0, 0, 0, 0) else A.getD (i - C.length) (⟨#[]⟩, 0, 0, 0, 0) := by
  by_cases h : i < C.length
  · rw [if_pos h]; simp [List.getD_eq_getElem?_getD, List.getElem?_append_left h]
  · rw [if_neg h]; simp [List.getD_eq_getElem?_getD, List.getElem?_append_right (by omega : C.length ≤ i)]
theorem good_app {xs : List Value} {C A : Ls} (h : Good xs C C.length) (hl : xs.length = C.length * 5) : Good (xs ++ cls A) (C ++ A) (C ++ A).length := by
  intro i hi
  rw [List.length_append] at hi
  unfold c0 c1 c2 c3 c4
  rw [getD_app]
  by_cases hc : i < C.length
  · obtain ⟨h0, h1, h2, h3, h4⟩ := h i hc
    rw [if_pos hc, List.getElem?_append_left (by omega), List.getElem?_append_left (by omega), List.getElem?_append_left (by omega), List.getElem?_append_left (by omega), List.getElem?_append_left (by omega)]
    exact ⟨h0, h1, h2, h3, h4⟩
  · have ha : i - C.length < A.length := by omega
    rw [if_neg hc, List.getElem?_append_right (by omega), List.getElem?_append_right (by omega), List.getElem?_append_right (by omega), List.getElem?_append_right (by omega), List.getElem?_append_right (by omega), hl]
    have f : ∀ j, j < 5 → (cls A)[i * 5 + j - C.length * 5]? = some (cv A (i - C.length) j) := fun j hj => by
      have e : i * 5 + j - C.length * 5 = (i - C.length) * 5 + j := by omega
      rw [e]; exact cls_at A _ j ha hj
    exact ⟨f 0 (by omega), f 1 (by omega), f 2 (by omega), f 3 (by omega), f 4 (by omega)⟩

theorem app_none (w : World) (ty : TypeId) (u : Value) (base k : Nat) (xs : List Value) (hu : w.ownsRow base 31 5 u k xs) (a : Option Addr) (c : Nat) : (Builtin.append_ #[27, 27] ty #[u, .slice a 0 c]).run Try.prog w = .ok u w := by
  obtain ⟨i0, hi, hz0, hz1, hz2⟩ := info_parts Try.infoE
  rcases row_cases hu with ⟨rfl, rfl⟩ | ⟨g, cap, rfl, _, _, hc, _⟩
  · cases a <;> simp [Builtin.append_, run_underlying Try.underlying27, sizeOf, typeInfo, hi, Builtin.lenOf, Builtin.firstCells, go_sem]
  · cases a <;> simp [Builtin.append_, run_underlying Try.underlying27, sizeOf, typeInfo, hi, Builtin.lenOf, Builtin.firstCells, hc, go_sem, storeCells]

theorem wp_app {ops : Array Oper} {rest : List Oper} {o : Oper} {a : Act} {Q : Exit → Act → World → Prop} (hgd : o.guard = none) (s x : Operand)
    (ho : o.op = .call { callee := .builtin .append, args := #[s, x], argTypes := #[27, 27] }) (w : World) (base : Nat) (u : Value) (C A : Ls) (hs : a.eval s = u) (hu : Row w base u C) (v : Value) (hx : a.eval x = v) (hv : Reads w v A)
    (hlen : C.length + A.length ≤ 1000) (hbase : base ≤ w.heap.size) (h : ∀ u' w', Row w' base u' (C ++ A) → w.grownBy w' u.ownBlock → wpList Try.prog ops Q rest (a.put o.dst u') w') : wpList Try.prog ops Q (o :: rest) a w := by
  obtain ⟨i0, hi, hz0, hz1, hz2⟩ := info_parts Try.infoE
  obtain ⟨xs, ho', hg⟩ := hu
  by_cases hA : A = []
  · subst hA
    obtain ⟨ad, cap, rfl⟩ := hv.form
    refine Lib.wpList_append_run w hgd s x 27 27 ho u _ hs hx u w (app_none w _ u base C.length xs ho' ad cap) ?_
    exact h u w ⟨xs, by rw [List.append_nil]; exact ho', by rw [List.append_nil]; exact hg⟩ (World.grownBy.refl _ _)
  · rcases hv with ⟨e, _⟩ | ⟨b, oo, cap, rfl, h1, h2, h3, h4⟩
    · exact absurd e hA
    refine wpList_append_own w hgd s x 27 ho base 31 i0 (.agg #[.string ⟨#[]⟩, .int .i64 0, .int .i64 0, .int .i64 0, .int .i64 0]) 5 48 Try.underlying27 hi hz0 hz1 hz2 rfl (by decide) u C.length xs hs ho' ⟨b, oo, none⟩ A.length cap (cls A) hx (cls_len A) (cls_news h4) (cls_one A) (by unfold maxLen; omega) (by omega) hbase ?_
    intro u' w' hown hgrow _
    refine h u' w' ⟨xs ++ cls A, ?_, good_app hg ho'.1⟩ hgrow
    rw [List.length_append]
    exact hown

theorem zero_size (n : Nat) : (Builtin.zeroCells (Value.agg #[.string ⟨#[]⟩, .int .i64 0, .int .i64 0, .int .i64 0, .int .i64 0]).cells n).size = n * 5 := by simp [Builtin.zeroCells, Value.cells]

set_option maxHeartbeats 1000000 in
theorem grow_any (n : Nat) (h1 : 1 ≤ n) (h2 : n ≤ 1000) (w : World) : Calls Try.prog 61 #[.slice none 0 0, .int .i64 (n : Int)] w fun e w' => ∃ G, e = .returned (.slice (some ⟨w.heap.size, 0, none⟩) 0 G) ∧ Row w' w.heap.size (.slice (some ⟨w.heap.size, 0, none⟩) 0 G) [] ∧ Below w.heap.size w w' := by
  obtain ⟨i0, hi, hz0, hz1, hz2⟩ := info_parts Try.infoE
  have hrz : ∀ ty, (Builtin.append_ #[27, 3] ty #[.slice none 0 0, .int .i64 (n : Int)]).run Try.prog w =
      .ok (.slice (some ⟨w.heap.size, 0, none⟩) (0 + n) (grownCap w (0 + n) 0 31)) (w.drew.alloc (.cells (([] : List Value).toArray ++ Builtin.zeroCells (Value.agg #[.string ⟨#[]⟩, .int .i64 0, .int .i64 0, .int .i64 0, .int .i64 0]).cells n ++ Builtin.zeroCells (Value.agg #[.string ⟨#[]⟩, .int .i64 0, .int .i64 0, .int .i64 0, .int .i64 0]).cells (grownCap w (0 + n) 0 31 - (0 + n))) 31)) := fun ty =>
    Lib.run_append_grow_zeros w 27 3 ty 31 i0 (.agg #[.string ⟨#[]⟩, .int .i64 0, .int .i64 0, .int .i64 0, .int .i64 0]) .i64 .i64 Try.underlying27 Try.underlying3 hi hz0 none 0 0 [] (Go.run_firstCells_none w.drew i0.size 0 0 0) n (by omega) (by rw [hz1]; omega) (by omega) (by omega) (by rw [hz2]; omega) (by rw [hz2]; exact growslice_fits (by omega) (by omega))
  have hGn : 0 + n ≤ grownCap w (0 + n) 0 31 := grownCap_ge w _ _ _
  have hG63 : grownCap w (0 + n) 0 31 ≤ maxLen := grownCap_le_maxLen w (0 + n) 0 31 (by unfold maxLen; omega)
  obtain ⟨G, hG⟩ : ∃ G, G = grownCap w (0 + n) 0 31 := ⟨_, rfl⟩
  rw [← hG] at hrz hGn hG63
  obtain ⟨cur, hcur⟩ : ∃ cur, cur = ([] : List Value).toArray ++ Builtin.zeroCells (Value.agg #[.string ⟨#[]⟩, .int .i64 0, .int .i64 0, .int .i64 0, .int .i64 0]).cells n ++ Builtin.zeroCells (Value.agg #[.string ⟨#[]⟩, .int .i64 0, .int .i64 0, .int .i64 0, .int .i64 0]).cells (G - (0 + n)) := ⟨_, rfl⟩
  have hcs : cur.size = G * 5 := by
    rw [hcur, Array.size_append, Array.size_append, zero_size, zero_size]
    simp
    omega
  rw [← hcur] at hrz
  have R : Hid (Row (w.drew.alloc (.cells cur 31)) w.heap.size (.slice (some ⟨w.heap.size, 0, none⟩) 0 G) []) := ⟨[], ⟨rfl, .inr ⟨w.heap.size, G, cur, rfl, Nat.le_refl _, heap_alloc_new w.drew _, Nat.zero_le _, hG63, hcs, by simp⟩⟩, fun i hi => by simp at hi⟩
  have BB : Hid (Below w.heap.size w (w.drew.alloc (.cells cur 31))) := ((Below.refl w.heap.size w).drew).alloc (Nat.le_refl _) _
  have e1 : ¬ (n : Int) < 0 := by omega
  have e2 : (0 : Int) < (n : Int) := by omega
  unfold maxLen at hG63
  rw [Nat.zero_add] at hrz
  clear hG hcur hcs
  go_enter Try.func61, Try.ntmps61
  go_wp2_with (at_builtin; refine Lib.wpList_append_run _ rfl _ _ _ _ rfl _ _ rfl rfl _ _ (hrz _) ?_)
  go_ret
  exact ⟨G, rfl, R.out, BB.out⟩

set_option maxHeartbeats 1000000 in
theorem concat_any (A0 A1 A2 : Ls) (v0 v1 v2 : Value) (S : Nat) (w : World) (r0 : Reads w v0 A0) (r1 : Reads w v1 A1) (r2 : Reads w v2 A2) (l1 : 1 ≤ A0.length + A1.length + A2.length) (l2 : A0.length + A1.length + A2.length ≤ 1000) (sS : S < w.heap.size)
    (c0 : w.cell? ⟨S, 0, none⟩ = some v0) (c1 : w.cell? ⟨S, 1, none⟩ = some v1) (c2 : w.cell? ⟨S, 2, none⟩ = some v2) :
    Calls Try.prog 33 #[.slice (some ⟨S, 0, none⟩) 3 3] w fun e w' => ∃ v, e = .returned v ∧ Row w' w.heap.size v (A0 ++ A1 ++ A2) ∧ Below w.heap.size w w' := by
  have G : Hid (Calls Try.prog 61 #[.slice none 0 0, .int .i64 ((A0.length : Int) + (A1.length : Int) + (A2.length : Int))] w fun e w' => ∃ G, e = .returned (.slice (some ⟨w.heap.size, 0, none⟩) 0 G) ∧ Row w' w.heap.size (.slice (some ⟨w.heap.size, 0, none⟩) 0 G) [] ∧ Below w.heap.size w w') := (by
    have := grow_any (A0.length + A1.length + A2.length) l1 l2 w
    rw [Int.natCast_add, Int.natCast_add] at this
    exact this)
  have RD : Hid (∀ w', Below w.heap.size w w' → Reads w' v0 A0 ∧ Reads w' v1 A1 ∧ Reads w' v2 A2) := fun w' hb => ⟨r0.on hb, r1.on hb, r2.on hb⟩
  have D0 : Hid (∀ w', Below w.heap.size w w' → w'.cell? ⟨S, 0, none⟩ = some v0 ∧ w'.cell? ⟨S, 1, none⟩ = some v1 ∧ w'.cell? ⟨S, 2, none⟩ = some v2) := fun w' hb => ⟨(hb.cell (p := ⟨S, 0, none⟩) sS).trans c0, (hb.cell (p := ⟨S, 1, none⟩) sS).trans c1, (hb.cell (p := ⟨S, 2, none⟩) sS).trans c2⟩
  obtain ⟨a0, p0, e0⟩ := r0.form
  obtain ⟨a1, p1, e1⟩ := r1.form
  obtain ⟨a2, p2, e2⟩ := r2.form
  have HLL : Hid (([] ++ A0 : Ls) = A0 ∧ (A0 ++ A1).length = A0.length + A1.length ∧ A0.length + A1.length + A2.length ≤ 1000) := ⟨rfl, by simp, l2⟩
  clear r0 r1 r2
  subst e0 e1 e2
  obtain ⟨n0, hn0⟩ : ∃ n, n = List.length A0 := ⟨_, rfl⟩
  obtain ⟨n1, hn1⟩ : ∃ n, n = List.length A1 := ⟨_, rfl⟩
  obtain ⟨n2, hn2⟩ : ∃ n, n = List.length A2 := ⟨_, rfl⟩
  rw [← hn0] at c0 G RD D0 HLL l1 l2
  rw [← hn1] at c1 G RD D0 HLL l1 l2
  rw [← hn2] at c2 G RD D0 HLL l1 l2
  have HNN : Hid (n0 = List.length A0 ∧ n1 = List.length A1 ∧ n2 = List.length A2) := ⟨hn0, hn1, hn2⟩
  clear hn0 hn1 hn2
  go_enter Try.func33, Try.ntmps33
  go_wp2_with fail
  go_loop [3, 11] (fun s i => (i = .int .i64 0 ∧ s = .int .i64 0) ∨ (i = .int .i64 1 ∧ s = .int .i64 (n0 : Int)) ∨ (i = .int .i64 2 ∧ s = .int .i64 ((n0 : Int) + (n1 : Int))) ∨ (i = .int .i64 3 ∧ s = .int .i64 ((n0 : Int) + (n1 : Int) + (n2 : Int)))) (fun _ i => 3 - (intOf i).toNat)
  case atStart => exact Or.inl ⟨rfl, rfl⟩
  case round =>
    rcases hrel with ⟨rfl, rfl⟩ | ⟨rfl, rfl⟩ | ⟨rfl, rfl⟩ | ⟨rfl, rfl⟩
    · have g1 : ¬ (n0 : Int) < 0 := by omega
      go_wp2_with fail
      go_round
      case rel => exact Or.inr (Or.inl ⟨rfl, rfl⟩)
      case measure => simp [intOf]
    · have g1 : ¬ (n0 : Int) + (n1 : Int) < 0 := by omega
      go_wp2_with fail
      go_round
      case rel => exact Or.inr (Or.inr (Or.inl ⟨rfl, rfl⟩))
      case measure => simp [intOf]
    · have g1 : ¬ (n0 : Int) + (n1 : Int) + (n2 : Int) < 0 := by omega
      go_wp2_with fail
      go_round
      case rel => exact Or.inr (Or.inr (Or.inr ⟨rfl, rfl⟩))
      case measure => simp [intOf]
    · go_wp2_with fail
      refine G.out.mono ?_
      rintro e w2 ⟨gc, rfl, q2, b2⟩
      have R2 : Hid (Row w2 w.heap.size (.slice (some ⟨w.heap.size, 0, none⟩) 0 gc) []) := q2
      have B2 : Hid (Below w.heap.size w w2) := b2
      clear q2 b2
      go_wp2_with fail
      go_loopw [6, 27] (fun v i wr => Hid (Below w.heap.size w wr) ∧ ((i = .int .i64 0 ∧ Hid (Row wr w.heap.size v [])) ∨ (i = .int .i64 1 ∧ Hid (Row wr w.heap.size v A0)) ∨ (i = .int .i64 2 ∧ Hid (Row wr w.heap.size v (A0 ++ A1))) ∨ (i = .int .i64 3 ∧ Hid (Row wr w.heap.size v (A0 ++ A1 ++ A2))))) (fun _ i _ => 3 - (intOf i).toNat)
      case atStart => exact ⟨B2, Or.inl ⟨rfl, R2⟩⟩
      case round =>
        obtain ⟨BB, hrel⟩ := hrel
        obtain ⟨v, hv⟩ : ∃ v, v = u6 := ⟨_, rfl⟩
        subst hv
        have zr := BB.out.size
        obtain ⟨d0, d1, d2⟩ := D0.out wr BB.out
        clear c0 c1 c2
        rcases hrel with ⟨rfl, R⟩ | ⟨rfl, R⟩ | ⟨rfl, R⟩ | ⟨rfl, R⟩
        · go_wp2_with (at_builtin; refine wp_app rfl _ _ rfl wr w.heap.size v [] A0 rfl R.out (.slice a0 n0 p0) rfl (RD.out wr BB.out).1 (by have q := HNN.out; have q2 := HLL.out.2; (try simp only [List.length_nil]); omega) zr ?_)
          · intro v' w5 hown hgrow
            have R5 : Hid (Row w5 w.heap.size v' A0) := (by show Row _ _ _ _; exact hown)
            have B5 : Hid (Below w.heap.size w w5) := BB.out.grown hgrow zr (fun b hb => (R.out.lt b hb).1)
            clear hown hgrow
            go_wp2_with fail
            go_roundw
            case rel => exact ⟨B5, Or.inr (Or.inl ⟨rfl, R5⟩)⟩
            case measure => simp [intOf]
        · go_wp2_with (at_builtin; refine wp_app rfl _ _ rfl wr w.heap.size v A0 A1 rfl R.out (.slice a1 n1 p1) rfl (RD.out wr BB.out).2.1 (by have q := HNN.out; have q2 := HLL.out.2; omega) zr ?_)
          · intro v' w5 hown hgrow
            have R5 : Hid (Row w5 w.heap.size v' (A0 ++ A1)) := (by show Row _ _ _ _; exact hown)
            have B5 : Hid (Below w.heap.size w w5) := BB.out.grown hgrow zr (fun b hb => (R.out.lt b hb).1)
            clear hown hgrow
            go_wp2_with fail
            go_roundw
            case rel => exact ⟨B5, Or.inr (Or.inr (Or.inl ⟨rfl, R5⟩))⟩
            case measure => simp [intOf]
        · go_wp2_with (at_builtin; refine wp_app rfl _ _ rfl wr w.heap.size v (A0 ++ A1) A2 rfl R.out (.slice a2 n2 p2) rfl (RD.out wr BB.out).2.2 (by have q := HNN.out; have q2 := HLL.out.2; (try simp only [List.length_append]); omega) zr ?_)
          · intro v' w5 hown hgrow
            have R5 : Hid (Row w5 w.heap.size v' (A0 ++ A1 ++ A2)) := (by show Row _ _ _ _; rw [List.append_assoc]; exact hown)
            have B5 : Hid (Below w.heap.size w w5) := BB.out.grown hgrow zr (fun b hb => (R.out.lt b hb).1)
            clear hown hgrow
            go_wp2_with fail
            go_roundw
            case rel => exact ⟨B5, Or.inr (Or.inr (Or.inr (⟨rfl, R5⟩)))⟩
            case measure => simp [intOf]
        · go_wp2_with fail
          go_ret
          exact ⟨_, rfl, R.out, BB.out⟩
end Go.Proofs.Ytniejbefkijenaa.En
