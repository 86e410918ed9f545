/- StartTasks: the program. -/
import Derived.Test.YtfhpomfdkpfooaaIt
import Derived.BigQuiet
namespace Go.Proofs.Ytfhpomfdkpfooaa.Ty
open Go.ChangeShapes Go.WideShapes Go.ChangeAt Go.RowKit
open Go.Proofs.Ytfhpomfdkpfooaa.Lists Go.Proofs.Ytfhpomfdkpfooaa.Tm Go.Proofs.Ytfhpomfdkpfooaa.Rk Go.Proofs.Ytfhpomfdkpfooaa.Ru Go.Proofs.Ytfhpomfdkpfooaa.Al

def cn (R : Tk.Ls) (X : List Int) (C : Jb.Ls) (k : Nat) : Bool := (hw C k == 0) && (fr R C k && decide (rn R C (Tk.cz R k 1) C.length < X.getD (Tk.cz R k 1 - 1).toNat 0))
/-- the jobs behind k rounds of StartTasks, and the numbers that were started -/
def jn (R : Tk.Ls) (X : List Int) (J : Jb.Ls) : Nat → Jb.Ls
  | 0 => J
  | k + 1 => if cn R X (jn R X J k) k = true then js (jn R X J k) k 1 (tr (jn R X J k) k + 1) else jn R X J k
def ln (R : Tk.Ls) (X : List Int) (J : Jb.Ls) : Nat → List Int
  | 0 => []
  | k + 1 => if cn R X (jn R X J k) k = true then ln R X J k ++ [(k : Int) + 1] else ln R X J k
theorem jn_len (R : Tk.Ls) (X : List Int) (J : Jb.Ls) : ∀ k, (jn R X J k).length = J.length
  | 0 => rfl
  | k + 1 => by
    unfold jn
    split
    · rw [js_len]; exact jn_len R X J k
    · exact jn_len R X J k
theorem ln_len (R : Tk.Ls) (X : List Int) (J : Jb.Ls) : ∀ k, (ln R X J k).length ≤ k
  | 0 => by simp [ln]
  | k + 1 => by
    have := ln_len R X J k
    unfold ln
    split
    · simp; exact this
    · omega
theorem jn_yes {R : Tk.Ls} {X : List Int} {J : Jb.Ls} {k : Nat} (h : cn R X (jn R X J k) k = true) : jn R X J (k + 1) = js (jn R X J k) k 1 (tr (jn R X J k) k + 1) ∧ ln R X J (k + 1) = ln R X J k ++ [(k : Int) + 1] := ⟨by rw [jn, if_pos h], by rw [ln, if_pos h]⟩
theorem jn_no {R : Tk.Ls} {X : List Int} {J : Jb.Ls} {k : Nat} (h : cn R X (jn R X J k) k = false) : jn R X J (k + 1) = jn R X J k ∧ ln R X J (k + 1) = ln R X J k := ⟨by rw [jn, if_neg (by simp [h])], by rw [ln, if_neg (by simp [h])]⟩
theorem jn_same {R : Tk.Ls} {X : List Int} {J : Jb.Ls} : ∀ k i, k ≤ i → Jb.c0 (jn R X J k) i = Jb.c0 J i ∧ Jb.c1 (jn R X J k) i = Jb.c1 J i
  | 0, _, _ => ⟨rfl, rfl⟩
  | k + 1, i, h => by
    have q := jn_same (R := R) (X := X) (J := J) k i (by omega)
    unfold jn
    split
    · obtain ⟨a, b⟩ := js_off (J := jn R X J k) (i := k) (k := i) (s := 1) (t := tr (jn R X J k) k + 1) (by omega)
      exact ⟨a.trans q.1, b.trans q.2⟩
    · exact q
theorem rn_js {R : Tk.Ls} {C : Jb.Ls} {k : Nat} {t g : Int} (hk : k < C.length) (h0 : hw C k = 0) : ∀ n, rn R (js C k 1 t) g n = rn R C g n + (if k < n ∧ Tk.cz R k 1 = g then 1 else 0)
  | 0 => by simp [rn]
  | n + 1 => by
    have ih := rn_js (R := R) (t := t) (g := g) hk h0 n
    by_cases e : n = k
    · subst e
      have a' : hw (js C n 1 t) n = 1 := (js_hit (J := C) (s := 1) (t := t) hk).1
      rw [rn_next, rn_next, a', h0, ih]
      by_cases q : Tk.cz R n 1 = g <;> simp [q]
    · have a' : hw (js C k 1 t) n = hw C n := (js_off (J := C) (i := k) (k := n) (s := 1) (t := t) e).1
      rw [rn_next, rn_next, a', ih]
      repeat' split
      all_goals omega
theorem Tied.enter {B : Nat} {R : Tk.Ls} {X : List Int} {J : Jb.Ls} {r x : Value} {jb jc tb h : Nat} {xs : List Value} {u a : Nat → Value} {P : Nat → Nat} {run run' : Int → Int} {st : Nat → Bool} {wr w' : World} (t : Tied B R X J r x jb jc tb h xs u a P run st wr) {g : Nat} (hb : KB (fun b => b = h + 1 + g) wr w') (hg : g < X.length)
    (hB : Bl w' (h + 1 + g) 99 (gcs (X.getD g 0) (run' ((g : Int) + 1)))) (hr : ∀ q, q < X.length → q ≠ g → run' ((q : Int) + 1) = run ((q : Int) + 1)) : Tied B R X J r x jb jc tb h xs u a P run' st w' where
  ro := t.ro.kb hb (fun b hb' => by
    obtain ⟨e, he, ht⟩ := ro_ty t.ro b hb'
    exact fun q => ht.ne (t.td.grp g hg).ty (by rcases he with q | q | q <;> subst q <;> decide) q)
  td := t.td.enter hb hg hB hr
  trow := row_kb t.trow hb (fun b hb' q => (row_ty t.trow b hb').ne (t.td.grp g hg).ty (by decide) q)
  hl := t.hl
end Go.Proofs.Ytfhpomfdkpfooaa.Ty
