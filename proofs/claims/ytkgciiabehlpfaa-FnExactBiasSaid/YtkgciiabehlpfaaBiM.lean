/- A map from a station and a time to a number that the call makes: the first read of each. -/
import Derived.Test.YtkgciiabehlpfaaRd
import Derived.Maps.OwnSet
import Derived.Maps.Views
import Derived.DeepKeys4
namespace Go.Proofs.Ytkgciiabehlpfaa.Bi
open Go.ChangeShapes Go.WideShapes Go.ChangeAt Go.RowKit
open Go.Maps (Keyed)

abbrev sp (s t : Int) : Value := .agg #[.int .i64 s, .int .i64 t]
def ok (s : Int) : Prop := -9223372036854775808 ≤ s ∧ s < 9223372036854775808
theorem laidOut : laidOutB Try.prog = true := by kernel_rfl
theorem sizeT : decide (57 < Try.prog.types.size) = true := by kernel_rfl
theorem law : Keyed Try.prog 57 := Keyed.of_law (deep_law_laid laidOut (m := 4) (by decide) (of_decide_eq_true sizeT) (by kernel_rfl) (by rw [Try.underlying57]))
noncomputable def kl (s t : Int) : Lit := .string (keyBytes [.int .i64 s, .int .i64 t])
theorem cells57 : Try.prog.cellsOf 57 = 2 := by kernel_rfl
theorem cells2 : Try.prog.cellsOf 2 = 1 := by kernel_rfl
theorem keyT : Try.prog.keyType 57 = true := by kernel_rfl
theorem lits (d : Nat) (s t : Int) (hs : ok s) (ht : ok t) : Try.prog.keyLits (d + 2) 57 [.int .i64 s, .int .i64 t] = some [.int .i64 s, .int .i64 t] := by
  have w1 : (Lit.int .i64 s).wf = true := by unfold ok at hs; have hm : IntKind.i64.min = -9223372036854775808 := rfl; have hM : IntKind.i64.max = 9223372036854775807 := rfl; simp [Lit.wf]; omega
  have w2 : (Lit.int .i64 t).wf = true := by unfold ok at ht; have hm : IntKind.i64.min = -9223372036854775808 := rfl; have hM : IntKind.i64.max = 9223372036854775807 := rfl; simp [Lit.wf]; omega
  simp [Program.keyLits, Try.underlying57, Try.underlying2, cells57, cells2, w1, w2]
theorem key_sp (s t : Int) (hs : ok s) (ht : ok t) : keyOf Try.prog 57 (sp s t) = some (kl s t) := by
  obtain ⟨d, hd⟩ : ∃ d, Try.prog.types.size + 1 = d + 2 := ⟨Try.prog.types.size - 1, by have := of_decide_eq_true sizeT; omega⟩
  unfold keyOf
  rw [Try.underlying57, keyT, hd]
  have f : (sp s t).formed Try.prog 57 = true := by simp [Value.formed, Try.underlying57, cells57]
  rw [f]
  simp [Value.cells, lits d s t hs ht, kl]
def fE : Value → Option (DataW Unit × List MemPlace)
  | .float .f64 n => some (.lit (.float .f64 n), [])
  | _ => none
theorem fE_inv {v : Value} {z : DataW Unit × List MemPlace} (h : fE v = some z) : ∃ n, v = .float .f64 n ∧ z = (.lit (.float .f64 n), []) := by
  unfold fE at h
  split at h
  · cases h; exact ⟨_, rfl, rfl⟩
  · cases h
theorem kl_inj {s t s' t' : Int} (hs : ok s) (ht : ok t) (hs' : ok s') (ht' : ok t') (h : kl s t = kl s' t') : s = s' ∧ t = t' := by
  have := law.inj (key_sp s t hs ht) (by rw [h]; exact key_sp s' t' hs' ht')
  simpa using this

/-- The first read at a station and a time. -/
def fst (B : Rd.Ls) (s t : Int) : Option Nat := (B.find? fun z => z.1 == s && z.2.1 == t).map fun z => z.2.2
theorem fst_snoc (B : Rd.Ls) (a b : Int) (x : Nat) (s t : Int) : fst (B ++ [(a, b, x)]) s t = (fst B s t).or (if a = s ∧ b = t then some x else none) := by
  unfold fst
  rw [List.find?_append]
  cases h : B.find? fun z => z.1 == s && z.2.1 == t with
  | some z => simp
  | none =>
    by_cases e : a = s ∧ b = t
    · obtain ⟨rfl, rfl⟩ := e; simp
    · rw [if_neg e]
      have : (a == s && b == t) = false := by simpa using e
      simp [List.find?, this]

def FM (w : World) (b n : Nat) (B : Rd.Ls) : Prop := ∃ D : DataW Unit, w.ownsMap Try.prog 57 fE b n D ∧ ∀ s t, ok s → ok t → Maps.has D (kl s t) = (fst B s t).isSome ∧ ∀ x, fst B s t = some x → D.atKey (kl s t) (.lit (.float .f64 0)) = .lit (.float .f64 x)
theorem FM.made (w : World) : FM (w.alloc (.map #[] 0)) w.heap.size 0 [] := ⟨_, World.ownsMap_made w Try.prog 57 fE, fun s t _ _ => ⟨rfl, fun x h => by cases h⟩⟩
theorem FM.kept {w w' : World} {b n : Nat} {B : Rd.Ls} {row : Option Nat} (h : FM w b n B) (hg : w.grownBy w' row) (hne : some b ≠ row) : FM w' b n B := by
  obtain ⟨D, h1, h2⟩ := h
  exact ⟨D, h1.kept hg hne, h2⟩
theorem FM.alloc {w : World} {b n : Nat} {B : Rd.Ls} (h : FM w b n B) (o : Obj) : FM (w.alloc o) b n B := by
  obtain ⟨D, h1, h2⟩ := h
  exact ⟨D, h1.alloc o, h2⟩
theorem FM.on {w w' : World} {b n k : Nat} {B : Rd.Ls} (h : FM w b n B) (hb : Below k w w') (hk : b < k) : FM w' b n B := by
  obtain ⟨D, ⟨es, clock, e, r⟩, h2⟩ := h
  exact ⟨D, ⟨es, clock, (hb.block b hk).trans e, r⟩, h2⟩
theorem FM.mono {w : World} {b n m : Nat} {B : Rd.Ls} (h : FM w b n B) (hn : n ≤ m) : FM w b m B := by
  obtain ⟨D, h1, h2⟩ := h
  exact ⟨D, h1.mono hn, h2⟩
theorem FM.lt {w : World} {b n : Nat} {B : Rd.Ls} (h : FM w b n B) : b < w.heap.size := by
  obtain ⟨D, h1, _⟩ := h
  exact h1.lt
theorem zeroF (w : World) : (zeroValue 35).run Try.prog w = .ok (.float .f64 0) w := by kernel_rfl
theorem FM.look {w : World} {b n : Nat} {B : Rd.Ls} (h : FM w b n B) (s t : Int) (hs : ok s) (ht : ok t) :
    (Instr.lookup 53 (.map (some b)) (sp s t) true).run Try.prog w = .ok (.tuple #[.float .f64 ((fst B s t).getD 0), .bool (fst B s t).isSome]) w := by
  obtain ⟨D, h1, h2⟩ := h
  obtain ⟨g1, g2⟩ := h2 s t hs ht
  obtain ⟨v, ps, hrun, hv⟩ := h1.look_ok law Try.underlying53 (zeroF w) (zd := .lit (.float .f64 0)) (zp := []) rfl (key_sp s t hs ht)
  obtain ⟨n, rfl, hz⟩ := fE_inv hv
  have hz : D.atKey (kl s t) (.lit (.float .f64 0)) = .lit (.float .f64 n) := by simpa using congrArg Prod.fst hz
  rw [hrun, g1]
  cases e : fst B s t with
  | some x =>
    have := g2 x e
    rw [hz] at this
    have : n = x := by simpa using this
    rw [this]; rfl
  | none =>
    rw [e] at g1
    have := Maps.atKey_of_not_has (k := kl s t) g1 (.lit (.float .f64 0))
    rw [hz] at this
    have : n = 0 := by simpa using this
    rw [this]; rfl
theorem FM.store {w : World} {b n : Nat} {B : Rd.Ls} (h : FM w b n B) (hn : n < maxLen) (s t : Int) (x : Nat) (hs : ok s) (ht : ok t) (hno : fst B s t = none) :
    ∃ w', (Instr.mapUpdate 53 (.map (some b)) (sp s t) (.float .f64 x)).run Try.prog w = .ok () w' ∧ FM w' b (n + 1) (B ++ [(s, t, x)]) ∧ w.grownBy w' (some b) := by
  obtain ⟨D, h1, h2⟩ := h
  have hi := h1.isMap
  have hk : WideAt.IsKeyLit (kl s t) := law.key (key_sp s t hs ht)
  obtain ⟨w', r1, r2, r3⟩ := h1.update law Try.underlying53 hn (key_sp s t hs ht) (val := .float .f64 x) (d := .lit (.float .f64 x)) (ps := []) rfl
  refine ⟨w', r1, ⟨_, r2, fun a c ha hc => ?_⟩, r3⟩
  rw [fst_snoc]
  by_cases e : s = a ∧ t = c
  · obtain ⟨rfl, rfl⟩ := e
    rw [hno]
    refine ⟨?_, fun y hy => ?_⟩
    · rw [Maps.has_put_same hi hk]; simp
    · rw [Maps.atKey_put_same hi hk]
      have : x = y := by simpa using hy
      rw [this]
  · have hne : kl a c ≠ kl s t := fun h => e (by have := kl_inj ha hc hs ht h; exact ⟨this.1.symm, this.2.symm⟩)
    rw [if_neg e, Option.or_none, Maps.has_put_other hne, Maps.atKey_put_other hne]
    exact h2 a c ha hc
theorem FM.skip {w : World} {b n : Nat} {B : Rd.Ls} (h : FM w b n B) (s t : Int) (x : Nat) (hno : fst B s t ≠ none) : FM w b n (B ++ [(s, t, x)]) := by
  obtain ⟨D, h1, h2⟩ := h
  refine ⟨D, h1, fun a c ha hc => ?_⟩
  have e : fst (B ++ [(s, t, x)]) a c = fst B a c := by
    rw [fst_snoc]
    by_cases e : s = a ∧ t = c
    · obtain ⟨rfl, rfl⟩ := e
      cases q : fst B s t with
      | none => exact absurd q hno
      | some y => rfl
    · rw [if_neg e, Option.or_none]
  rw [e]
  exact h2 a c ha hc
end Go.Proofs.Ytkgciiabehlpfaa.Bi
