/- Blocks of memory; a heap of brinks: its methods. -/
import Derived.Test.YtagkbglgdmajhaaHp
import Derived.Test.YtagkbglgdmajhaaCa
import Derived.Deep.RegionHeld3
namespace Go.Proofs.Ytagkbglgdmajhaa.Hm
open Go.ChangeShapes Go.WideShapes Go.ChangeAt Go.RowKit
open Go.Proofs.Ytagkbglgdmajhaa.Lists Go.Proofs.Ytagkbglgdmajhaa.Hp

/-- What is as it was but for the blocks of S. -/
structure KB (S : Nat → Prop) (w w' : World) : Prop where
  os : w'.os = w.os
  tape : w'.tape = w.tape
  output : w'.output = w.output
  size : w.heap.size ≤ w'.heap.size
  block : ∀ k, k < w.heap.size → ¬ S k → w'.heap[k]? = w.heap[k]?
theorem KB.refl (S : Nat → Prop) (w : World) : KB S w w := ⟨rfl, rfl, rfl, Nat.le_refl _, fun _ _ _ => rfl⟩
theorem KB.trans {S : Nat → Prop} {w w' w'' : World} (h : KB S w w') (h' : KB S w' w'') : KB S w w'' := ⟨h'.os.trans h.os, h'.tape.trans h.tape, h'.output.trans h.output, Nat.le_trans h.size h'.size, fun k hk hn => (h'.block k (Nat.lt_of_lt_of_le hk h.size) hn).trans (h.block k hk hn)⟩
theorem KB.mono {S S' : Nat → Prop} {w w' : World} (h : KB S w w') (hs : ∀ k, S k → S' k) : KB S' w w' := ⟨h.os, h.tape, h.output, h.size, fun k hk hn => h.block k hk (fun x => hn (hs k x))⟩
theorem KB.of_grown {S : Nat → Prop} {w w' : World} {row : Option Nat} (h : w.grownBy w' row) (hs : ∀ k, row = some k → S k) : KB S w w' := ⟨h.os, h.tape, h.output, h.size, fun k hk hn => h.block k hk (fun e => hn (hs k e.symm))⟩
theorem KB.of_below {S : Nat → Prop} {w w' : World} (h : Below w.heap.size w w') : KB S w w' := ⟨h.os, h.tape, h.output, h.size, fun k hk _ => h.block k hk⟩
theorem KB.of_set {S : Nat → Prop} (w : World) (g o : Nat) (u : Value) (hs : S g) : KB S w (w.setCell ⟨g, o, none⟩ u) := KB.of_grown (grown_setCell (World.grownBy.refl w (some g)) o u) (fun k e => by simp at e; subst e; exact hs)
theorem KB.below {S : Nat → Prop} {w w' : World} {B : Nat} (h : KB S w w') (hB : B ≤ w.heap.size) (hs : ∀ k, S k → B ≤ k) : Below B w w' := ⟨h.os, h.tape, h.output, h.size, fun k hk => h.block k (by omega) (fun x => by have := hs k x; omega)⟩
theorem row_kb {S : Nat → Prop} {w w' : World} {base n k : Nat} {e : TypeId} {v : Value} {xs : List Value} (h : w.ownsRow base e k v n xs) (hb : KB S w w') (hne : ∀ g, v.ownBlock = some g → ¬ S g) : w'.ownsRow base e k v n xs := by
  refine ⟨h.1, ?_⟩
  rcases h.2 with h2 | ⟨g, cap, cur, h1, h2, h3, h4⟩
  · exact .inl h2
  · have hg : g < w.heap.size := by
      rcases Nat.lt_or_ge g w.heap.size with x | x
      · exact x
      · rw [Array.getElem?_eq_none x] at h3; cases h3
    exact .inr ⟨g, cap, cur, h1, h2, (hb.block g hg (hne g (by rw [h1]; rfl))).trans h3, h4⟩
/-- Rows of two types lie in two blocks. -/
theorem type_ne {w : World} {b1 b2 n1 n2 k1 k2 : Nat} {e1 e2 : TypeId} {v1 v2 : Value} {xs1 xs2 : List Value} (h1 : w.ownsRow b1 e1 k1 v1 n1 xs1) (h2 : w.ownsRow b2 e2 k2 v2 n2 xs2) (he : e1 ≠ e2) (g : Nat) (x1 : v1.ownBlock = some g) (x2 : v2.ownBlock = some g) : False := by
  rcases h1.2 with ⟨a, _⟩ | ⟨g1, c1, cur1, y1, _, z1, _⟩
  · rw [a] at x1; cases x1
  · rcases h2.2 with ⟨a, _⟩ | ⟨g2, c2, cur2, y2, _, z2, _⟩
    · rw [a] at x2; cases x2
    · rw [y1] at x1; rw [y2] at x2
      simp [Value.ownBlock] at x1 x2
      rw [x1] at z1; rw [x2] at z2
      rw [z1] at z2
      simp at z2
      exact he z2.2

/-- A block and its cells. -/
def Bl (w : World) (b : Nat) (e : TypeId) (cs : Array Value) : Prop := w.heap[b]? = some (.cells cs e (0, 0))
def Ty (w : World) (b : Nat) (e : TypeId) : Prop := ∃ c f, w.heap[b]? = some (.cells c e f)
theorem Bl.ty {w : World} {b : Nat} {e : TypeId} {cs : Array Value} (h : Bl w b e cs) : Ty w b e := ⟨_, _, h⟩
theorem Ty.lt {w : World} {b : Nat} {e : TypeId} (h : Ty w b e) : b < w.heap.size := by
  obtain ⟨c, f, h⟩ := h
  exact (Array.getElem?_eq_some_iff.1 h).1
theorem Bl.lt {w : World} {b : Nat} {e : TypeId} {cs : Array Value} (h : Bl w b e cs) : b < w.heap.size := h.ty.lt
theorem Ty.ne {w : World} {b b' : Nat} {e e' : TypeId} (h : Ty w b e) (h' : Ty w b' e') (he : e ≠ e') : b ≠ b' := by
  rintro rfl
  obtain ⟨c, f, h⟩ := h
  obtain ⟨c', f', h'⟩ := h'
  rw [h] at h'
  simp at h'
  exact he h'.2.1
theorem Bl.cell {w : World} {b : Nat} {e : TypeId} {cs : Array Value} (h : Bl w b e cs) (j : Nat) : w.cell? ⟨b, j, none⟩ = cs[j]? := by
  unfold Bl at h
  simp [World.cell?, h]
theorem Bl.fz {w : World} {b : Nat} {e : TypeId} {cs : Array Value} (h : Bl w b e cs) (j : Nat) : w.frozen? ⟨b, j, none⟩ = false := by
  unfold Bl at h
  simp [World.frozen?, h]
theorem Bl.kb {S : Nat → Prop} {w w' : World} {b : Nat} {e : TypeId} {cs : Array Value} (h : Bl w b e cs) (k : KB S w w') (hn : ¬ S b) : Bl w' b e cs := (k.block b h.lt hn).trans h
theorem Ty.kb {S : Nat → Prop} {w w' : World} {b : Nat} {e : TypeId} (h : Ty w b e) (k : KB S w w') (hn : ¬ S b) : Ty w' b e := by
  have hl := h.lt
  obtain ⟨c, f, h⟩ := h
  exact ⟨c, f, (k.block b hl hn).trans h⟩
theorem Bl.on {w w' : World} {b : Nat} {e : TypeId} {cs : Array Value} (h : Bl w b e cs) (k : Below w.heap.size w w') : Bl w' b e cs := (k.block b h.lt).trans h
theorem Ty.on {w w' : World} {b : Nat} {e : TypeId} (h : Ty w b e) (k : Below w.heap.size w w') : Ty w' b e := by
  have hl := h.lt
  obtain ⟨c, f, h⟩ := h
  exact ⟨c, f, (k.block b hl).trans h⟩
theorem Bl.set {w : World} {b : Nat} {e : TypeId} {cs : Array Value} (h : Bl w b e cs) (j : Nat) (u : Value) : Bl (w.setCell ⟨b, j, none⟩ u) b e (cs.setIfInBounds j u) := by
  have hl := h.lt
  unfold Bl at h ⊢
  have hg : w.heap[b] = .cells cs e (0, 0) := by rw [Array.getElem?_eq_getElem hl] at h; exact Option.some.inj h
  simp [World.setCell, hl]
  rw [Array.getElem_modify_self, hg]
theorem Bl.new (w : World) (e : TypeId) (cs : Array Value) : Bl (w.alloc (.cells cs e)) w.heap.size e cs := by
  unfold Bl
  simp [World.alloc, -World.alloc_eq]
theorem kb_set (w : World) (g o : Nat) (u : Value) : KB (fun b => b = g) w (w.setCell ⟨g, o, none⟩ u) := KB.of_set w g o u rfl
theorem row_ty {w : World} {base e k n : Nat} {v : Value} {xs : List Value} (h : w.ownsRow base e k v n xs) (g : Nat) (hg : v.ownBlock = some g) : Ty w g e := by
  rcases h.2 with ⟨rfl, _⟩ | ⟨g', cap, cur, rfl, _, h3, _⟩
  · simp [Value.ownBlock] at hg
  · simp [Value.ownBlock] at hg
    subst hg
    exact ⟨_, _, h3⟩

theorem mPush (w : World) (f : Nat) : (method 203 45 (.pointer (some ⟨f, 0, none⟩)) "Push").run Try.prog w = .ok (62, .pointer (some ⟨f, 0, none⟩)) w := by kernel_rfl
theorem mPop (w : World) (f : Nat) : (method 203 45 (.pointer (some ⟨f, 0, none⟩)) "Pop").run Try.prog w = .ok (61, .pointer (some ⟨f, 0, none⟩)) w := by kernel_rfl
theorem cells47 : Try.prog.cellsOf 47 = 1 := by kernel_rfl
theorem mLen (w : World) (f : Nat) (v : Value) (h : w.cell? ⟨f, 0, none⟩ = some v) : (method 203 45 (.pointer (some ⟨f, 0, none⟩)) "Len").run Try.prog w = .ok (59, v) w := by
  have e : (method 203 45 (.pointer (some ⟨f, 0, none⟩)) "Len").run Try.prog w = (loadVar 47 ⟨f, 0, none⟩ >>= fun u => (pure (59, u) : Sem (FuncId × Value))).run Try.prog w := by kernel_rfl
  rw [e]
  simp [go_sem, h]
theorem mLess (w : World) (f : Nat) (v : Value) (h : w.cell? ⟨f, 0, none⟩ = some v) : (method 203 45 (.pointer (some ⟨f, 0, none⟩)) "Less").run Try.prog w = .ok (60, v) w := by
  have e : (method 203 45 (.pointer (some ⟨f, 0, none⟩)) "Less").run Try.prog w = (loadVar 47 ⟨f, 0, none⟩ >>= fun u => (pure (60, u) : Sem (FuncId × Value))).run Try.prog w := by kernel_rfl
  rw [e]
  simp [go_sem, h]
theorem mSwap (w : World) (f : Nat) (v : Value) (h : w.cell? ⟨f, 0, none⟩ = some v) : (method 203 45 (.pointer (some ⟨f, 0, none⟩)) "Swap").run Try.prog w = .ok (63, v) w := by
  have e : (method 203 45 (.pointer (some ⟨f, 0, none⟩)) "Swap").run Try.prog w = (loadVar 47 ⟨f, 0, none⟩ >>= fun u => (pure (63, u) : Sem (FuncId × Value))).run Try.prog w := by kernel_rfl
  rw [e]
  simp [go_sem, h]
def ca (P : List Int) (i : Nat) : Int := P.getD i 0 / 1000
def cb (P : List Int) (i : Nat) : Int := P.getD i 0 % 1000
def Good (xs : List Value) (P : List Int) (j : Nat) : Prop := ∀ i, i < j → xs[i * 2]? = some (.int .i64 (ca P i)) ∧ xs[i * 2 + 1]? = some (.int .i64 (cb P i))
/-- a heap's box and its row -/
structure HR (B f : Nat) (w : World) (v : Value) (P : List Int) : Prop where
  row : ∃ xs, w.ownsRow B 52 2 v P.length xs ∧ Good xs P P.length
  bx : Bl w f 47 #[v]
theorem HR.cel {B f : Nat} {w : World} {v : Value} {P : List Int} (h : HR B f w v P) : w.cell? ⟨f, 0, none⟩ = some v := by rw [h.bx.cell]; rfl
theorem HR.kb {S : Nat → Prop} {B f : Nat} {w w' : World} {v : Value} {P : List Int} (h : HR B f w v P) (k : KB S w w') (h1 : ¬ S f) (h2 : ∀ g, v.ownBlock = some g → ¬ S g) : HR B f w' v P := by
  obtain ⟨⟨xs, r, g⟩, b⟩ := h
  exact ⟨⟨xs, row_kb r k h2, g⟩, b.kb k h1⟩
theorem HR.on {B f : Nat} {w w' : World} {v : Value} {P : List Int} (h : HR B f w v P) (k : Below w.heap.size w w') : HR B f w' v P := h.kb (S := fun _ => False) (KB.of_below k) (fun x => x) (fun _ _ x => x)
theorem HR.form {B f : Nat} {w : World} {v : Value} {P : List Int} (h : HR B f w v P) : ∃ a c, v = .slice a P.length c := by
  obtain ⟨⟨xs, ⟨h0, r⟩, g⟩, b⟩ := h
  rcases r with ⟨e, e2⟩ | ⟨g, c, cur, e, _⟩
  · exact ⟨none, 0, by rw [e2]; exact e⟩
  · exact ⟨_, _, e⟩
theorem HR.cells {B f : Nat} {w : World} {v : Value} {P : List Int} (h : HR B f w v P) (h0 : 0 < P.length) : ∃ g c, v = .slice (some ⟨g, 0, none⟩) P.length c ∧ B ≤ g ∧ g < w.heap.size ∧ g ≠ f ∧ ∀ i, i < P.length → w.cell? ⟨g, i * 2, none⟩ = some (.int .i64 (ca P i)) ∧ w.cell? ⟨g, i * 2 + 1, none⟩ = some (.int .i64 (cb P i)) ∧ w.frozen? ⟨g, i * 2, none⟩ = false ∧ w.frozen? ⟨g, i * 2 + 1, none⟩ = false := by
  obtain ⟨⟨xs, r, gd⟩, b⟩ := h
  have r' := r
  obtain ⟨h1, r2⟩ := r
  rcases r2 with ⟨e, e2⟩ | ⟨g, c, cur, e, hb, hh, hc, hm, _⟩
  · omega
  · subst e
    have l := r'.lt g rfl
    refine ⟨g, c, rfl, l.1, l.2, (row_ty r' g rfl).ne b.ty (by decide), fun i hi => ?_⟩
    obtain ⟨g1, g2⟩ := gd i hi
    exact ⟨(r'.cellAt (i * 2) (by omega)).trans g1, (r'.cellAt (i * 2 + 1) (by omega)).trans g2, r'.frozenAt _, r'.frozenAt _⟩

set_option maxHeartbeats 400000 in
theorem len_any (a : Option Addr) (n c : Nat) (w : World) : Calls Try.prog 59 #[.slice a n c] w fun e w' => e = .returned (.int .i64 (n : Int)) ∧ w' = w := by
  go_enter Try.func59, Try.ntmps59
  go_wp2
  go_ret
  exact ⟨rfl, rfl⟩
set_option maxHeartbeats 400000 in
theorem isnan_any (x : Int) (w : World) : Calls Try.prog 66 #[.int .i64 x] w fun e w' => e = .returned (.bool false) ∧ w' = w := by
  go_enter Try.func66, Try.ntmps66
  go_wp2
  go_ret
  exact ⟨rfl, rfl⟩
def cv (a b : Int) : Int := if a < b then -1 else if b < a then 1 else 0
set_option maxHeartbeats 400000 in
theorem cmp_any (a b : Int) (w : World) : Calls Try.prog 65 #[.int .i64 a, .int .i64 b] w fun e w' => e = .returned (.int .i64 (cv a b)) ∧ w' = w := by
  have N1 := isnan_any a
  have N2 := isnan_any b
  by_cases h1 : a < b
  · have : cv a b = -1 := if_pos h1
    rw [this]
    go_enter Try.func65, Try.ntmps65
    go_wp2_with (go_at_call 66; first | (refine (N1 _).mono ?_; rintro e w' ⟨rfl, rfl⟩) | (refine (N2 _).mono ?_; rintro e w' ⟨rfl, rfl⟩))
    go_ret
    exact ⟨rfl, rfl⟩
  · by_cases h2 : b < a
    · have : cv a b = 1 := by unfold cv; rw [if_neg h1, if_pos h2]
      rw [this]
      go_enter Try.func65, Try.ntmps65
      go_wp2_with (go_at_call 66; first | (refine (N1 _).mono ?_; rintro e w' ⟨rfl, rfl⟩) | (refine (N2 _).mono ?_; rintro e w' ⟨rfl, rfl⟩))
      go_ret
      exact ⟨rfl, rfl⟩
    · have : cv a b = 0 := by unfold cv; rw [if_neg h1, if_neg h2]
      rw [this]
      go_enter Try.func65, Try.ntmps65
      go_wp2_with (go_at_call 66; first | (refine (N1 _).mono ?_; rintro e w' ⟨rfl, rfl⟩) | (refine (N2 _).mono ?_; rintro e w' ⟨rfl, rfl⟩))
      go_ret
      exact ⟨rfl, rfl⟩
set_option maxHeartbeats 400000 in
theorem or_any (b : Nat) (x y : Int) (w : World) (h0 : w.cell? ⟨b, 0, none⟩ = some (.int .i64 x)) (h1 : w.cell? ⟨b, 1, none⟩ = some (.int .i64 y)) : Calls Try.prog 64 #[.slice (some ⟨b, 0, none⟩) 2 2] w fun e w' => e = .returned (.int .i64 (if x = 0 then y else x)) ∧ w' = w := by
  by_cases hx : x = 0
  · subst hx
    rw [if_pos rfl]
    by_cases hy : y = 0
    · subst hy
      go_enter Try.func64, Try.ntmps64
      go_wp2_with fail
      go_loop [8] (fun i => ∃ k : Nat, k ≤ 2 ∧ i = .int .i64 k) (fun i => 2 - (intOf i).toNat)
      case atStart => exact ⟨0, by omega, rfl⟩
      case round =>
        obtain ⟨k, hk, rfl⟩ := hrel
        rcases (by omega : k = 0 ∨ k = 1 ∨ k = 2) with rfl | rfl | rfl
        · go_wp2_with fail
          go_round
          case rel => exact ⟨1, by omega, rfl⟩
          case measure => simp [intOf]
        · go_wp2_with fail
          go_round
          case rel => exact ⟨2, by omega, rfl⟩
          case measure => simp [intOf]
        · go_wp2_with fail
          go_ret
          exact ⟨rfl, rfl⟩
    · have hy' : (y != 0) = true := by simpa using hy
      go_enter Try.func64, Try.ntmps64
      go_wp2_with fail
      go_loop [8] (fun i => ∃ k : Nat, k ≤ 1 ∧ i = .int .i64 k) (fun i => 1 - (intOf i).toNat)
      case atStart => exact ⟨0, by omega, rfl⟩
      case round =>
        obtain ⟨k, hk, rfl⟩ := hrel
        rcases (by omega : k = 0 ∨ k = 1) with rfl | rfl
        · go_wp2_with fail
          go_round
          case rel => exact ⟨1, by omega, rfl⟩
          case measure => simp [intOf]
        · go_wp2_with fail
          go_ret
          exact ⟨rfl, rfl⟩
  · rw [if_neg hx]
    have hx' : (x != 0) = true := by simpa using hx
    go_enter Try.func64, Try.ntmps64
    go_wp2_with fail
    go_loop [8] (fun i => i = .int .i64 0) (fun i => 0)
    case atStart => rfl
    case round =>
      subst hrel
      go_wp2_with fail
      go_ret
      exact ⟨rfl, rfl⟩
theorem less_iff (a b : Int) : (if cv (a / 1000) (b / 1000) = 0 then cv (a % 1000) (b % 1000) else cv (a / 1000) (b / 1000)) < 0 ↔ a < b := by
  unfold cv
  split <;> (try split) <;> (try split) <;> omega
end Go.Proofs.Ytagkbglgdmajhaa.Hm
