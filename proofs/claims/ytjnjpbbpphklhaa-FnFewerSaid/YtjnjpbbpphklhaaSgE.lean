/- The program's own walk over the significant places: a function that calls itself by a variable. -/
import Derived.Test.YtjnjpbbpphklhaaSgD
import Derived.OneCell
namespace Go.Proofs.Ytjnjpbbpphklhaa.Flt
open Go.ChangeShapes Go.WideShapes Go.ChangeAt Go.RowKit
attribute [local go_sem] run_store_float

abbrev pt (b : Nat) : Value := .pointer (some ⟨b, 0, none⟩)
abbrev fnv (bl bt bc bp : Nat) : Value := .func (.func 18) #[] #[pt bl, pt bt, pt bc, pt bp]
/-- The four variables that the function sees, and what they hold. -/
structure Bxs (w0 : World) (v : Value) (tol bl bt bc bp : Nat) (vp : Value) (C : List Int) (w : World) : Prop where
  bel : Below w0.heap.size w0 w
  le : w0.heap.size ≤ bp
  l : w.heap[bl]? = some (.cells #[v] 24 (0, 0))
  t : w.heap[bt]? = some (.cells #[.float .f64 tol] 25 (0, 0))
  c : w.heap[bc]? = some (.cells #[fnv bl bt bc bp] 43 (0, 0))
  p : w.heap[bp]? = some (.cells #[vp] 28 (0, 0))
  own : w.ownsRow w0.heap.size 2 1 vp C.length (ints C)

theorem blk_on {w w' : World} (h : Below w.heap.size w w') {b : Nat} {o : Obj} (hb : w.heap[b]? = some o) : w'.heap[b]? = some o := (h.block b (lt_of_block hb)).trans hb
theorem Bxs.on {w0 : World} {v : Value} {tol bl bt bc bp : Nat} {vp : Value} {C : List Int} {w w' : World} (h : Bxs w0 v tol bl bt bc bp vp C w) (hb : Below w.heap.size w w') : Bxs w0 v tol bl bt bc bp vp C w' :=
  ⟨h.bel.trans (hb.mono h.bel.size), h.le, blk_on hb h.l, blk_on hb h.t, blk_on hb h.c, blk_on hb h.p, row_below h.own hb⟩
theorem row_apart {w : World} {base : Nat} {v : Value} {n : Nat} {xs : List Value} (h : w.ownsRow base 2 1 v n xs) {b : Nat} {u : Value} {ty : TypeId} (hb : w.heap[b]? = some (.cells #[u] ty (0, 0))) (ht : ty ≠ 2) : v.ownBlock ≠ some b := by
  intro e
  rcases h.2 with ⟨rfl, _⟩ | ⟨g, cap, cur, rfl, _, hg, _⟩
  · cases e
  · have : g = b := by simpa [Value.ownBlock] using e
    subst this
    rw [hg] at hb
    simp at hb
    exact ht hb.2.symm
theorem blk_grown {w w2 : World} {row : Option Nat} {o : Obj} (h : (w.alloc o).grownBy w2 row) {b : Nat} {q : Obj} (hb : w.heap[b]? = some q) (hne : row ≠ some b) : w2.heap[b]? = some q := by
  have hlt := lt_of_block hb
  rw [h.block b (by simp; omega) (fun e => hne e.symm), Below.heap_alloc w o b hlt, hb]
theorem Bxs.step {w0 : World} {v : Value} {tol bl bt bc bp : Nat} {vp : Value} {C C' : List Int} {w w2 : World} {o : Obj} {v' : Value} (h : Bxs w0 v tol bl bt bc bp vp C w) (hg : (w.alloc o).grownBy w2 vp.ownBlock) (ho : w2.ownsRow w0.heap.size 2 1 v' C'.length (ints C')) :
    Bxs w0 v tol bl bt bc bp v' C' (w2.setCell ⟨bp, 0, none⟩ v') := by
  have l2 := blk_grown hg h.l (row_apart h.own h.l (by decide))
  have t2 := blk_grown hg h.t (row_apart h.own h.t (by decide))
  have c2 := blk_grown hg h.c (row_apart h.own h.c (by decide))
  have p2 := blk_grown hg h.p (row_apart h.own h.p (by decide))
  have dif : ∀ {b : Nat} {u : Value} {ty : TypeId}, w2.heap[b]? = some (.cells #[u] ty (0, 0)) → ty ≠ 28 → b ≠ bp := by
    intro b u ty hb ht e
    subst e
    rw [p2] at hb
    simp at hb
    exact ht hb.2.symm
  refine ⟨?_, h.le, ?_, ?_, ?_, one_setCell p2, ownsRow_setCell_other ho (row_apart ho p2 (by decide)) _⟩
  · exact ((h.bel.alloc h.bel.size o).grown hg (by have := h.bel.size; simp; omega) (fun b hb => (h.own.lt b hb).1)).setCell h.le _
  · rw [Below.heap_setCell _ _ _ _ (dif l2 (by decide))]; exact l2
  · rw [Below.heap_setCell _ _ _ _ (dif t2 (by decide))]; exact t2
  · rw [Below.heap_setCell _ _ _ _ (dif c2 (by decide))]; exact c2

set_option maxHeartbeats 2000000 in
theorem clo_any (w0 : World) (v : Value) (tol bl bt bc bp : Nat) (L : Lv) (h : Reads w0 v L) (ok : ∀ q, q < L.length → okAt L q = true) (hn : L.length ≤ 400) (h0 : 0 ≤ key tol) : ∀ (f i j : Nat) (w : World) (C : List Int) (vp : Value), j - i ≤ f → i < j → j < L.length → C.length + (j - i) ≤ 1000 → Bxs w0 v tol bl bt bc bp vp C w →
    Calls Try.prog 18 #[.int .i64 i, .int .i64 j, pt bl, pt bt, pt bc, pt bp] w fun e w' => e = .returned (.tuple #[]) ∧ ∃ vp', Bxs w0 v tol bl bt bc bp vp' (C ++ sg2 L tol f i j ++ [(j : Int)]) w' := by
  intro f
  induction f with
  | zero => intro i j w C vp h1 h2; omega
  | succ f ih =>
    intro i j w C vp hf hij hj hC hB
    have IH : Hid (∀ (i j : Nat) (w : World) (C : List Int) (vp : Value), j - i ≤ f → i < j → j < L.length → C.length + (j - i) ≤ 1000 → Bxs w0 v tol bl bt bc bp vp C w → Calls Try.prog 18 #[.int .i64 i, .int .i64 j, pt bl, pt bt, pt bc, pt bp] w fun e w' => e = .returned (.tuple #[]) ∧ ∃ vp', Bxs w0 v tol bl bt bc bp vp' (C ++ sg2 L tol f i j ++ [(j : Int)]) w') := ih
    have OK : Hid (∀ q, q < L.length → okAt L q = true) := ok
    have HJ : Hid (j < L.length ∧ L.length ≤ 400) := ⟨hj, hn⟩
    have DM : Hid (Calls Try.prog 19 #[v, .int .i64 i, .int .i64 j] w fun e w' => e = inf ((scI L i j (j - i - 1)).1 : Int) (scI L i j (j - i - 1)).2 ∧ Below w.heap.size w w') := dm_any w v L i j (h.on hB.bel) ok hij hj hn
    have ES : Hid (sg2 L tol (f + 1) i j = if gt (scI L i j (j - i - 1)).2 tol then sg2 L tol f i (scI L i j (j - i - 1)).1 ++ [((scI L i j (j - i - 1)).1 : Int)] ++ sg2 L tol f (scI L i j (j - i - 1)).1 j else []) := rfl
    have PL : Hid _ := sc_place L i j (j - i - 1)
    obtain ⟨sc, hsc⟩ : ∃ sc, scI L i j (j - i - 1) = sc := ⟨_, rfl⟩
    obtain ⟨p, m⟩ := sc
    rw [hsc] at DM ES PL
    dsimp only at DM ES PL
    clear hsc ih ok hj hn
    obtain ⟨S, hS⟩ : ∃ S, sg2 L tol (f + 1) i j = S := ⟨_, rfl⟩
    rw [hS] at ES ⊢
    clear hS
    obtain ⟨i0, hi, hz0, hz1, hz2⟩ := info_parts Try.info2
    have X0 : Hid (Bxs w0 v tol bl bt bc bp vp C w) := hB
    have r1 := cell_of_one hB.l
    clear hB
    cases g : (ord m tol == some .gt)
    · have E1 : Hid (S = []) := (by show _ = _; rw [ES.out]; unfold gt; rw [g]; rfl)
      clear ES PL
      go_enter Try.func18, Try.ntmps18
      go_wp2_with fail
      refine DM.out.mono ?_
      rintro e w1 ⟨rfl, hb1⟩
      have X1 : Hid (Bxs w0 v tol bl bt bc bp vp C w1) := X0.out.on hb1
      have r2 := cell_of_one X1.out.t
      have r3 := cell_of_one X1.out.p
      clear hb1
      go_wp2_with (at_builtin; refine wpList_append_own _ rfl _ _ 28 rfl w0.heap.size 2 i0 (.int .i64 0) 1 8 Try.underlying28 hi hz0 hz1 hz2 rfl (by decide) _ _ _ rfl (X1.out.own.alloc _) ⟨w1.heap.size, 0, none⟩ 1 1 [.int .i64 (j : Int)] rfl rfl ?c1 ?c2 ?c3 ?c4 ?c5 ?_)
      case c1 =>
        intro j u hj
        match j, hj with
        | 0, hj => simp at hj; subst hj; simp [Addr.add]
      case c2 => intro u hu; simp at hu; subst hu; rfl
      case c3 => unfold maxLen; omega
      case c4 => omega
      case c5 => have := X1.out.bel.size; simp; omega
      intro v' w2 hown hgrow _
      have O2 : w2.ownsRow w0.heap.size 2 1 v' (C ++ S ++ [(j : Int)]).length (ints (C ++ S ++ [(j : Int)])) := (by rw [E1.out, List.append_nil, ints_app, List.length_append]; exact hown)
      have X2 : Hid (Bxs w0 v tol bl bt bc bp v' (C ++ S ++ [(j : Int)]) (w2.setCell ⟨bp, 0, none⟩ v')) := X1.out.step hgrow O2
      have p2 := blk_grown hgrow X1.out.p (row_apart X1.out.own X1.out.p (by decide))
      have r5 := cell_of_one p2
      have r6 := free_of_one p2
      obtain ⟨a2, n2, c2, rfl⟩ : ∃ a2 n2 c2, v' = .slice a2 n2 c2 := (by
        rcases row_cases O2 with ⟨q1, q2⟩ | ⟨q1, q2, q3, _⟩
        · exact ⟨none, 0, 0, q2⟩
        · exact ⟨_, _, _, q3⟩)
      clear hown hgrow O2 p2
      go_wp2_with fail
      go_end0
      exact ⟨rfl, _, X2.out⟩
    · have E1 : Hid (S = sg2 L tol f i p ++ [(p : Int)] ++ sg2 L tol f p j) := (by show _ = _; rw [ES.out]; unfold gt; rw [g]; rfl)
      have P1 : i < p ∧ p < j := (by
        rcases PL.out with ⟨q1, q2⟩ | ⟨q1, q2⟩
        · have := (gt_key m tol).1 g
          rw [q2] at this
          have k0 : key 0 = 0 := by decide +kernel
          omega
        · omega)
      have LA : (sg2 L tol f i p).length ≤ p - i - 1 := sg2_len L tol h0 f i p P1.1
      clear ES PL
      go_enter Try.func18, Try.ntmps18
      go_wp2_with fail
      refine DM.out.mono ?_
      rintro e w1 ⟨rfl, hb1⟩
      have X1 : Hid (Bxs w0 v tol bl bt bc bp vp C w1) := X0.out.on hb1
      have r2 := cell_of_one X1.out.t
      have r3 := cell_of_one X1.out.c
      clear hb1
      go_wp2_with fail
      refine (IH.out i p w1 C vp (by omega) P1.1 (by have := HJ.out.1; omega) (by omega) X1.out).mono ?_
      rintro e w2 ⟨rfl, vp2, hX2⟩
      have X2 : Hid (Bxs w0 v tol bl bt bc bp vp2 (C ++ sg2 L tol f i p ++ [(p : Int)]) w2) := hX2
      have r4 := cell_of_one hX2.c
      have L3 : (C ++ sg2 L tol f i p ++ [(p : Int)]).length + (j - p) ≤ 1000 := (by simp only [List.length_append, List.length_cons, List.length_nil]; omega)
      clear hX2
      go_wp2_with fail
      refine (IH.out p j w2 _ vp2 (by omega) P1.2 HJ.out.1 L3 X2.out).mono ?_
      rintro e w3 ⟨rfl, vp3, hX3⟩
      have X3 : Hid (∃ vp', Bxs w0 v tol bl bt bc bp vp' (C ++ S ++ [(j : Int)]) w3) := ⟨vp3, by rw [E1.out]; simpa only [List.append_assoc] using hX3⟩
      clear hX3
      go_wp2_with fail
      refine bodyPost_ret (results_none rfl _ _ _) rfl ?_
      exact ⟨rfl, X3.out⟩
end Go.Proofs.Ytjnjpbbpphklhaa.Flt
