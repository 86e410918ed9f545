/- Tasks that lie apart: marked, held. -/
import Derived.Test.YtpdmfhbpedimaaaSu
import Derived.Test.YtpdmfhbpedimaaaRmW
namespace Go.Proofs.Ytpdmfhbpedimaaa.Tm
open Go.ChangeShapes Go.WideShapes Go.ChangeAt Go.RowKit
open Go.Proofs.Ytpdmfhbpedimaaa.Lists Go.Proofs.Ytpdmfhbpedimaaa.Tk

/-- What is as it was but for the blocks of S. -/
structure KB (S : Nat → Prop) (w w' : World) : Prop where
  os : w'.os = w.os
  tape : w'.tape = w.tape
  output : w'.output = w.output
  size : w.heap.size ≤ w'.heap.size
  block : ∀ k, k < w.heap.size → ¬ S k → w'.heap[k]? = w.heap[k]?
theorem KB.refl (S : Nat → Prop) (w : World) : KB S w w := ⟨rfl, rfl, rfl, Nat.le_refl _, fun _ _ _ => rfl⟩
theorem KB.trans {S : Nat → Prop} {w w' w'' : World} (h : KB S w w') (h' : KB S w' w'') : KB S w w'' := ⟨h'.os.trans h.os, h'.tape.trans h.tape, h'.output.trans h.output, Nat.le_trans h.size h'.size, fun k hk hn => (h'.block k (Nat.lt_of_lt_of_le hk h.size) hn).trans (h.block k hk hn)⟩
theorem KB.mono {S S' : Nat → Prop} {w w' : World} (h : KB S w w') (hs : ∀ k, S k → S' k) : KB S' w w' := ⟨h.os, h.tape, h.output, h.size, fun k hk hn => h.block k hk (fun x => hn (hs k x))⟩
theorem KB.of_grown {S : Nat → Prop} {w w' : World} {row : Option Nat} (h : w.grownBy w' row) (hs : ∀ k, row = some k → S k) : KB S w w' := ⟨h.os, h.tape, h.output, h.size, fun k hk hn => h.block k hk (fun e => hn (hs k e.symm))⟩
theorem KB.of_below {S : Nat → Prop} {w w' : World} (h : Below w.heap.size w w') : KB S w w' := ⟨h.os, h.tape, h.output, h.size, fun k hk _ => h.block k hk⟩
theorem KB.of_set {S : Nat → Prop} (w : World) (g o : Nat) (u : Value) (hs : S g) : KB S w (w.setCell ⟨g, o, none⟩ u) := KB.of_grown (grown_setCell (World.grownBy.refl w (some g)) o u) (fun k e => by simp at e; subst e; exact hs)
theorem KB.below {S : Nat → Prop} {w w' : World} {B : Nat} (h : KB S w w') (hB : B ≤ w.heap.size) (hs : ∀ k, S k → B ≤ k) : Below B w w' := ⟨h.os, h.tape, h.output, h.size, fun k hk => h.block k (by omega) (fun x => by have := hs k x; omega)⟩
theorem row_kb {S : Nat → Prop} {w w' : World} {base n k : Nat} {e : TypeId} {v : Value} {xs : List Value} (h : w.ownsRow base e k v n xs) (hb : KB S w w') (hne : ∀ g, v.ownBlock = some g → ¬ S g) : w'.ownsRow base e k v n xs := by
  refine ⟨h.1, ?_⟩
  rcases h.2 with h2 | ⟨g, cap, cur, h1, h2, h3, h4⟩
  · exact .inl h2
  · have hg : g < w.heap.size := by
      rcases Nat.lt_or_ge g w.heap.size with x | x
      · exact x
      · rw [Array.getElem?_eq_none x] at h3; cases h3
    exact .inr ⟨g, cap, cur, h1, h2, (hb.block g hg (hne g (by rw [h1]; rfl))).trans h3, h4⟩
/-- Rows of two types lie in two blocks. -/
theorem type_ne {w : World} {b1 b2 n1 n2 k1 k2 : Nat} {e1 e2 : TypeId} {v1 v2 : Value} {xs1 xs2 : List Value} (h1 : w.ownsRow b1 e1 k1 v1 n1 xs1) (h2 : w.ownsRow b2 e2 k2 v2 n2 xs2) (he : e1 ≠ e2) (g : Nat) (x1 : v1.ownBlock = some g) (x2 : v2.ownBlock = some g) : False := by
  rcases h1.2 with ⟨a, _⟩ | ⟨g1, c1, cur1, y1, _, z1, _⟩
  · rw [a] at x1; cases x1
  · rcases h2.2 with ⟨a, _⟩ | ⟨g2, c2, cur2, y2, _, z2, _⟩
    · rw [a] at x2; cases x2
    · rw [y1] at x1; rw [y2] at x2
      simp [Value.ownBlock] at x1 x2
      rw [x1] at z1; rw [x2] at z2
      rw [z1] at z2
      simp at z2
      exact he z2.2

def bk (xs : List Value) (i : Nat) : Option Nat := ((xs[i * 4]?).getD (.slice none 0 0)).ownBlock
/-- The lists of the tasks lie in blocks of their own. -/
def Rise (xs : List Value) (k : Nat) : Prop := ∀ i j a, i < j → j < k → bk xs i = some a → bk xs j ≠ some a
def Own (w : World) (base : Nat) (v : Value) (xs : List Value) (R : Ls) : Prop := w.ownsRow base 55 4 v R.length xs ∧ Tk.Good w base xs R R.length ∧ Rise xs R.length
theorem Own.row {w : World} {base : Nat} {v : Value} {xs : List Value} {R : Ls} (h : Own w base v xs R) : Tk.Row w base v R := ⟨xs, h.1, h.2.1⟩
/-- The blocks of a list of tasks. -/
def Bs (v : Value) (xs : List Value) (n : Nat) (g : Nat) : Prop := v.ownBlock = some g ∨ ∃ i, i < n ∧ bk xs i = some g
theorem Own.bs {w : World} {base : Nat} {v : Value} {xs : List Value} {R : Ls} (h : Own w base v xs R) (g : Nat) (hg : Bs v xs R.length g) : base ≤ g ∧ g < w.heap.size := by
  rcases hg with hg | ⟨i, hi, hg⟩
  · exact h.1.lt g hg
  · obtain ⟨_, _, _, u, hu, hr⟩ := h.2.1 i hi
    unfold bk at hg
    rw [hu] at hg
    exact hr.lt g hg
theorem Own.kb {S : Nat → Prop} {w w' : World} {base : Nat} {v : Value} {xs : List Value} {R : Ls} (h : Own w base v xs R) (hb : KB S w w') (hn : ∀ g, Bs v xs R.length g → ¬ S g) : Own w' base v xs R := by
  refine ⟨row_kb h.1 hb (fun g hg => hn g (.inl hg)), fun i hi => ?_, h.2.2⟩
  obtain ⟨h1, h2, h3, u, hu, hr⟩ := h.2.1 i hi
  exact ⟨h1, h2, h3, u, hu, row_kb hr hb (fun g hg => hn g (.inr ⟨i, hi, by unfold bk; rw [hu]; exact hg⟩))⟩
theorem Own.on {w w' : World} {base : Nat} {v : Value} {xs : List Value} {R : Ls} (h : Own w base v xs R) (hb : Below w.heap.size w w') : Own w' base v xs R := h.kb (S := fun _ => False) (KB.of_below hb) (fun _ _ x => x)
theorem Own.down {w : World} {B B' : Nat} {v : Value} {xs : List Value} {R : Ls} (h : Own w B v xs R) (hb : B' ≤ B) : Own w B' v xs R := by
  obtain ⟨h1, h2, h3⟩ := h
  refine ⟨⟨h1.1, ?_⟩, fun i hi => ?_, h3⟩
  · rcases h1.2 with h | ⟨gx, cap, cur, x1, x2, x3⟩
    · exact .inl h
    · exact .inr ⟨gx, cap, cur, x1, by omega, x3⟩
  · obtain ⟨y1, y2, y3, z, hz, hr⟩ := h2 i hi
    exact ⟨y1, y2, y3, z, hz, Tk1.own_down hr hb⟩

/-- How many marks the first k tasks take. -/
def tl (R : Ls) : Nat → Nat
  | 0 => 0
  | k + 1 => tl R k + ((cl R k).length + 3)
theorem tl_mono (R : Ls) {j k : Nat} (h : j ≤ k) : tl R j ≤ tl R k := by
  induction k with
  | zero => obtain rfl : j = 0 := by omega
            exact Nat.le_refl _
  | succ k ih =>
    by_cases e : j = k + 1
    · rw [e]; exact Nat.le_refl _
    · have := ih (by omega); show _ ≤ tl R k + _; omega
def mk1 (k0 : Int) (R : Ls) (i : Nat) : El := (fun j => k0 + (tl R i : Int) + ((cl R i).length : Int) + (j : Int) - 1, sq (k0 + (tl R i : Int)) (cl R i).length)
/-- The first k tasks marked. -/
def mix (k0 : Int) (R : Ls) (k : Nat) : Ls := (List.range R.length).map fun i => if i < k then mk1 k0 R i else R.getD i (fun _ => 0, [])
theorem mix_len (k0 : Int) (R : Ls) (k : Nat) : (mix k0 R k).length = R.length := by simp [mix]
theorem mix_get (k0 : Int) (R : Ls) (k i : Nat) (hi : i < R.length) : (mix k0 R k).getD i (fun _ => 0, []) = if i < k then mk1 k0 R i else R.getD i (fun _ => 0, []) := by
  unfold mix
  rw [List.getD_eq_getElem?_getD, List.getElem?_map, List.getElem?_range hi]
  rfl
theorem mix_lo {k0 : Int} {R : Ls} {k i : Nat} (hi : i < R.length) (h : i < k) : (∀ j, cz (mix k0 R k) i j = k0 + (tl R i : Int) + ((cl R i).length : Int) + (j : Int) - 1) ∧ cl (mix k0 R k) i = sq (k0 + (tl R i : Int)) (cl R i).length := by
  unfold cz cl
  rw [mix_get _ _ _ _ hi, if_pos h]
  exact ⟨fun _ => rfl, rfl⟩
theorem mix_hi {k0 : Int} {R : Ls} {k i : Nat} (hi : i < R.length) (h : k ≤ i) : (∀ j, cz (mix k0 R k) i j = cz R i j) ∧ cl (mix k0 R k) i = cl R i := by
  unfold cz cl
  rw [mix_get _ _ _ _ hi, if_neg (by omega)]
  exact ⟨fun _ => rfl, rfl⟩
theorem getD_get {α : Type} (l : List α) (i : Nat) (d : α) (h : i < l.length) : l.getD i d = l[i] := by
  rw [List.getD_eq_getElem?_getD, List.getElem?_eq_getElem h]; rfl
theorem mix_zero (k0 : Int) (R : Ls) : mix k0 R 0 = R := by
  apply List.ext_getElem (by rw [mix_len])
  intro i h1 h2
  have := mix_get k0 R 0 i h2
  rw [getD_get _ _ _ h1, if_neg (by omega), getD_get _ _ _ h2] at this
  exact this
theorem cl_mix_len (k0 : Int) (R : Ls) (k i : Nat) : (cl (mix k0 R k) i).length = (cl R i).length := by
  by_cases hi : i < R.length
  · by_cases h : i < k
    · rw [(mix_lo hi h).2, sq_len]
    · rw [(mix_hi hi (by omega)).2]
  · unfold cl
    rw [List.getD_eq_getElem?_getD, List.getElem?_eq_none (by rw [mix_len]; omega), List.getD_eq_getElem?_getD, List.getElem?_eq_none (by omega)]
theorem tl_mix (k0 : Int) (R : Ls) (k : Nat) : ∀ i, tl (mix k0 R k) i = tl R i
  | 0 => rfl
  | i + 1 => by
    show tl (mix k0 R k) i + ((cl (mix k0 R k) i).length + 3) = tl R i + ((cl R i).length + 3)
    rw [tl_mix k0 R k i, cl_mix_len]
theorem set_ne3 {xs : List Value} {k : Nat} {a b c : Value} {o : Nat} (h1 : o ≠ k * 4 + 1) (h2 : o ≠ k * 4 + 2) (h3 : o ≠ k * 4 + 3) : (((xs.set (k * 4 + 1) a).set (k * 4 + 2) b).set (k * 4 + 3) c)[o]? = xs[o]? := by
  rw [List.getElem?_set_ne (by omega), List.getElem?_set_ne (by omega), List.getElem?_set_ne (by omega)]
theorem bk_set3 (xs : List Value) (k : Nat) (a b c : Value) (i : Nat) : bk (((xs.set (k * 4 + 1) a).set (k * 4 + 2) b).set (k * 4 + 3) c) i = bk xs i := by
  unfold bk
  rw [set_ne3 (by omega) (by omega) (by omega)]

set_option maxHeartbeats 2000000 in
set_option maxRecDepth 20000 in
theorem markS_any (w : World) (base : Nat) (v : Value) (xs0 : List Value) (R : Ls) (k0 : Int) (h : Own w base v xs0 R) (h0 : 0 ≤ k0) (hs : k0 + (tl R R.length : Int) ≤ 4611686018427387904) (hl : ∀ i, i < R.length → (cl R i).length ≤ 1048576) :
    Calls Try.prog 63 #[v, .int .i64 k0] w fun e w' => e = .returned (.int .i64 (k0 + (tl R R.length : Int))) ∧ KB (Bs v xs0 R.length) w w' ∧ ∃ xs, Own w' base v xs (mix k0 R R.length) ∧ ∀ i, bk xs i = bk xs0 i := by
  have fits : R.length < 9223372036854775808 := h.row.reads.fits
  obtain ⟨a, cap, hv⟩ := h.row.reads.form
  subst hv
  have M0 : Hid (Own w base (.slice a R.length cap) xs0 (mix k0 R 0)) := (by show Own _ _ _ _ _; rw [mix_zero]; exact h)
  have HL : Hid (∀ i, i < R.length → (cl R i).length ≤ 1048576) := hl
  have HS : Hid (∀ k, k ≤ R.length → k0 + (tl R k : Int) ≤ 4611686018427387904) := fun k hk => by have := tl_mono R hk; omega
  have HA : Hid (0 < R.length → ∃ g, a = some ⟨g, 0, none⟩) := fun hp => by
    rcases row_cases h.1 with ⟨hn, _⟩ | ⟨g, c, e, _⟩
    · omega
    · simp at e; exact ⟨g, e.1⟩
  obtain ⟨n, hn⟩ : ∃ n, n = R.length := ⟨_, rfl⟩
  rw [← hn] at fits M0 HL HS HA ⊢
  have HN : Hid (n = R.length) := hn
  clear h hs hl hn
  go_enter Try.func63, Try.ntmps63
  go_wp2_with fail
  go_loopw [1, 5] (fun q i wr => ∃ k : Nat, k ≤ n ∧ i = .int .i64 k ∧ q = .int .i64 (k0 + (tl R k : Int)) ∧ Hid (KB (Bs (.slice a n cap) xs0 n) w wr) ∧ Hid (∃ xs, Own wr base (.slice a n cap) xs (mix k0 R k) ∧ ∀ i, bk xs i = bk xs0 i)) (fun _ i _ => n - (intOf i).toNat)
  case atStart => exact ⟨0, Nat.zero_le _, rfl, by simp [tl], KB.refl _ _, ⟨xs0, M0.out, fun _ => rfl⟩⟩
  case round =>
    obtain ⟨k, hk, rfl, rfl, KR, OR⟩ := hrel
    by_cases hlt : k < n
    · have hkl : k < R.length := by rw [← HN.out]; exact hlt
      have i0 : (0 : Int) ≤ (k : Int) := by omega
      have i1 : (k : Int) < (n : Int) := by omega
      obtain ⟨g0, rfl⟩ := HA.out (by omega)
      obtain ⟨xs, O, hbk⟩ := OR.out
      have HBK : Hid (∀ i, bk xs i = bk xs0 i) := hbk
      have O' : Hid (Own wr base (.slice (some ⟨g0, 0, none⟩) n cap) xs (mix k0 R k)) := O
      have kl : k < (mix k0 R k).length := by rw [mix_len]; exact hkl
      obtain ⟨c1, c2, c3, u, hu, hr⟩ := O.2.1 k kl
      have e1 := (mix_hi (k0 := k0) hkl (Nat.le_refl k)).2
      rw [e1] at hr
      have RW : wr.ownsRow base 55 4 (.slice (some ⟨g0, 0, none⟩) n cap) n xs := by have := O.1; rw [mix_len, ← HN.out] at this; exact this
      have lx : xs.length = n * 4 := RW.1
      have q0 : wr.cell? ⟨g0, k * 4, none⟩ = some u := by rw [RW.cellAt (k * 4) (by omega)]; exact hu
      have RK : Hid (wr.ownsRow base 2 1 u (cl R k).length (ints (cl R k))) := hr
      have HU : Hid (bk xs k = u.ownBlock) := (by show _ = _; unfold bk; rw [hu]; rfl)
      have tk := HS.out k (by omega)
      have tk1 := HS.out (k + 1) (by omega)
      have lk := HL.out k hlt
      have ET : Hid (tl R (k + 1) = tl R k + ((cl R k).length + 3)) := rfl
      have tk2 : k0 + (tl R k : Int) + ((cl R k).length : Int) + 3 ≤ 4611686018427387904 := by have := ET.out; omega
      have C : Hid (Calls Try.prog 15 #[u, .int .i64 (k0 + (tl R k : Int))] wr fun e w' => e = .returned (.int .i64 (k0 + (tl R k : Int) + (cl R k).length)) ∧ w'.ownsRow base 2 1 u (cl R k).length (ints (sq (k0 + (tl R k : Int)) (cl R k).length)) ∧ wr.grownBy w' u.ownBlock) := Lists.markW_any wr base u (cl R k) _ (by omega) (by omega) (by omega) hr
      have RWH : Hid (wr.ownsRow base 55 4 (.slice (some ⟨g0, 0, none⟩) n cap) n xs) := RW
      obtain ⟨ua, uc, hue⟩ := (Lists.reads_row hr).form
      subst hue
      clear O hbk c1 c2 c3 hu hr e1 RW tk1
      obtain ⟨T, hT⟩ : ∃ T : Int, T = k0 + (tl R k : Int) := ⟨_, rfl⟩
      have HT : Hid (T = k0 + (tl R k : Int)) := hT
      rw [← hT] at C tk tk2 ⊢
      have T0 : 0 ≤ T := by omega
      clear hT
      obtain ⟨l, hl⟩ : ∃ l : Nat, l = (cl R k).length := ⟨_, rfl⟩
      have HLL : Hid (l = (cl R k).length) := hl
      rw [← hl] at C RK tk2 q0 lk
      rw [← hl] at HU
      clear hl
      go_wp2_with fail
      refine C.out.mono ?_
      rintro e w2 ⟨rfl, r2, g2⟩
      have K2 : Hid (KB (Bs (.slice (some ⟨g0, 0, none⟩) n cap) xs0 n) wr w2) := KB.of_grown g2 (fun b hb => .inr ⟨k, hlt, by rw [← HBK.out, HU.out]; exact hb⟩)
      have NE : ∀ b, (Value.slice ua l uc).ownBlock = some b → b ≠ g0 := fun b hb e => by
        subst e
        exact type_ne RK.out RWH.out (by decide) b hb rfl
      have R2 : Hid (w2.ownsRow base 55 4 (.slice (some ⟨g0, 0, none⟩) n cap) n xs) := row_kb (S := fun b => (Value.slice ua l uc).ownBlock = some b) RWH.out (KB.of_grown g2 (fun _ e => e)) (fun b hb x => by
        simp [Value.ownBlock] at hb
        exact NE b x hb.symm)
      obtain ⟨z1, p1⟩ : ∃ z, w2.cell? ⟨g0, k * 4 + 1, none⟩ = some z := ⟨xs[k * 4 + 1]'(by omega), by rw [R2.out.cellAt (k * 4 + 1) (by omega)]; exact List.getElem?_eq_getElem _⟩
      obtain ⟨z2, p2⟩ : ∃ z, w2.cell? ⟨g0, k * 4 + 2, none⟩ = some z := ⟨xs[k * 4 + 2]'(by omega), by rw [R2.out.cellAt (k * 4 + 2) (by omega)]; exact List.getElem?_eq_getElem _⟩
      obtain ⟨z3, p3⟩ : ∃ z, w2.cell? ⟨g0, k * 4 + 3, none⟩ = some z := ⟨xs[k * 4 + 3]'(by omega), by rw [R2.out.cellAt (k * 4 + 3) (by omega)]; exact List.getElem?_eq_getElem _⟩
      have f1 : w2.frozen? ⟨g0, k * 4 + 1, none⟩ = false := R2.out.frozenAt _
      have f2 : w2.frozen? ⟨g0, k * 4 + 2, none⟩ = false := R2.out.frozenAt _
      have f3 : w2.frozen? ⟨g0, k * 4 + 3, none⟩ = false := R2.out.frozenAt _
      obtain ⟨w6, hw6⟩ : ∃ w6, w6 = ((w2.setCell ⟨g0, k * 4 + 1, none⟩ (.int .i64 (T + (l : Int)))).setCell ⟨g0, k * 4 + 2, none⟩ (.int .i64 (T + (l : Int) + 1))).setCell ⟨g0, k * 4 + 3, none⟩ (.int .i64 (T + (l : Int) + 1 + 1)) := ⟨_, rfl⟩
      have HW6 : Hid (w6 = ((w2.setCell ⟨g0, k * 4 + 1, none⟩ (.int .i64 (T + (l : Int)))).setCell ⟨g0, k * 4 + 2, none⟩ (.int .i64 (T + (l : Int) + 1))).setCell ⟨g0, k * 4 + 3, none⟩ (.int .i64 (T + (l : Int) + 1 + 1))) := hw6
      have R6 : w6.ownsRow base 55 4 (.slice (some ⟨g0, 0, none⟩) n cap) n (((xs.set (k * 4 + 1) (.int .i64 (T + (l : Int)))).set (k * 4 + 2) (.int .i64 (T + (l : Int) + 1))).set (k * 4 + 3) (.int .i64 (T + (l : Int) + 1 + 1))) := by rw [hw6]; exact (((R2.out.stored (k * 4 + 1) _).1.stored (k * 4 + 2) _).1.stored (k * 4 + 3) _).1
      have K6' : KB (fun b => b = g0) w2 w6 := by rw [hw6]; exact ((KB.of_set (S := fun b => b = g0) w2 g0 _ _ rfl).trans (KB.of_set (S := fun b => b = g0) _ g0 _ _ rfl)).trans (KB.of_set (S := fun b => b = g0) _ g0 _ _ rfl)
      have K6 : Hid (KB (Bs (.slice (some ⟨g0, 0, none⟩) n cap) xs0 n) w w6) := (KR.out.trans K2.out).trans (K6'.mono (fun b e => .inl (by rw [e]; rfl)))
      have O6 : Hid (Own w6 base (.slice (some ⟨g0, 0, none⟩) n cap) (((xs.set (k * 4 + 1) (.int .i64 (T + (l : Int)))).set (k * 4 + 2) (.int .i64 (T + (l : Int) + 1))).set (k * 4 + 3) (.int .i64 (T + (l : Int) + 1 + 1))) (mix k0 R (k + 1))) := (by
        refine ⟨by rw [mix_len, ← HN.out]; exact R6, fun i hi => ?_, fun i j b hij hj hb => ?_⟩
        · rw [mix_len] at hi
          by_cases e : i = k
          · subst e
            obtain ⟨m1, m2⟩ := mix_lo (k0 := k0) (k := i + 1) hi (Nat.lt_succ_self i)
            rw [m1, m1, m1, m2, sq_len, ← HLL.out, ← HT.out]
            refine ⟨by rw [List.getElem?_set_ne (by omega), List.getElem?_set_ne (by omega), List.getElem?_set_self (by omega)]; congr 2; omega, by rw [List.getElem?_set_ne (by omega), List.getElem?_set_self (by simp; omega)]; congr 2; omega, by rw [List.getElem?_set_self (by simp; omega)]; congr 2; omega, .slice ua l uc, ?_, row_kb r2 K6' (fun b hb => NE b hb)⟩
            rw [set_ne3 (by omega) (by omega) (by omega), ← RWH.out.cellAt (i * 4) (by omega)]
            exact q0
          · have hm : i < (mix k0 R k).length := by rw [mix_len]; exact hi
            obtain ⟨y1, y2, y3, x, hx, hxr⟩ := O'.out.2.1 i hm
            have same : (∀ j, cz (mix k0 R (k + 1)) i j = cz (mix k0 R k) i j) ∧ cl (mix k0 R (k + 1)) i = cl (mix k0 R k) i := by
              by_cases hik : i < k
              · obtain ⟨a1, a2⟩ := mix_lo (k0 := k0) (k := k + 1) hi (by omega)
                obtain ⟨b1, b2⟩ := mix_lo (k0 := k0) (k := k) hi hik
                exact ⟨fun j => (a1 j).trans (b1 j).symm, a2.trans b2.symm⟩
              · obtain ⟨a1, a2⟩ := mix_hi (k0 := k0) (k := k + 1) hi (by omega)
                obtain ⟨b1, b2⟩ := mix_hi (k0 := k0) (k := k) hi (by omega)
                exact ⟨fun j => (a1 j).trans (b1 j).symm, a2.trans b2.symm⟩
            rw [same.1, same.1, same.1, same.2]
            refine ⟨by rw [set_ne3 (by omega) (by omega) (by omega)]; exact y1, by rw [set_ne3 (by omega) (by omega) (by omega)]; exact y2, by rw [set_ne3 (by omega) (by omega) (by omega)]; exact y3, x, by rw [set_ne3 (by omega) (by omega) (by omega)]; exact hx, ?_⟩
            have hxb : bk xs i = x.ownBlock := by unfold bk; rw [hx]; rfl
            have n1 : ∀ b, x.ownBlock = some b → ¬ (Value.slice ua l uc).ownBlock = some b := fun b hb hc => by
              rcases Nat.lt_or_gt_of_ne e with q | q
              · exact O'.out.2.2 i k b q (by rw [mix_len]; exact hkl) (by rw [hxb]; exact hb) (by rw [HU.out]; exact hc)
              · exact O'.out.2.2 k i b q hm (by rw [HU.out]; exact hc) (by rw [hxb]; exact hb)
            have x2 := row_kb (S := fun b => (Value.slice ua l uc).ownBlock = some b) hxr (KB.of_grown g2 (fun _ e => e)) n1
            exact row_kb x2 K6' (fun b hb e => by subst e; exact type_ne hxr RWH.out (by decide) b hb rfl)
        · rw [mix_len] at hj
          rw [bk_set3] at hb ⊢
          exact O'.out.2.2 i j b hij (by rw [mix_len]; exact hj) hb)
      have HB6 : Hid (∀ i, bk (((xs.set (k * 4 + 1) (.int .i64 (T + (l : Int)))).set (k * 4 + 2) (.int .i64 (T + (l : Int) + 1))).set (k * 4 + 3) (.int .i64 (T + (l : Int) + 1 + 1))) i = bk xs0 i) := fun i => by rw [bk_set3]; exact HBK.out i
      have j0 : T + (l : Int) ≤ 4611686018427387904 := by omega
      clear r2 g2 NE lx R6 K6' hw6
      go_wp2_with fail
      rw [← HW6.out]
      go_roundw
      case rel => exact ⟨k + 1, by omega, by go_num, by rw [ET.out, ← HLL.out]; congr 1; have := HT.out; omega, K6, ⟨_, O6.out, HB6.out⟩⟩
      case measure => simp [intOf]; omega
    · have hkn : k = n := by omega
      subst hkn
      go_wp2_with fail
      go_ret
      exact ⟨rfl, KR.out, OR.out⟩
end Go.Proofs.Ytpdmfhbpedimaaa.Tm
