/- A map from an hour to a height that the call makes. -/
import Derived.Test.YtlgcikmimmcmkaaRows
import Derived.Test.YtlgcikmimmcmkaaFlt
import Derived.Test.YtlgcikmimmcmkaaCn
import Derived.WalkKit
import Derived.ProofKit
import Derived.Maps.OwnSet
import Derived.Maps.Views
import Derived.Below
namespace Go.Proofs.Ytlgcikmimmcmkaa.Km
open Go.ChangeShapes Go.WideShapes Go.ChangeAt Go.RowKit
open Go.Maps (Keyed)
open Go.Proofs.Ytlgcikmimmcmkaa.Flt

def ok (s : Int) : Prop := -9223372036854775808 ≤ s ∧ s < 9223372036854775808
theorem law : Keyed Try.prog 2 := Maps.int_keyed Try.underlying2
theorem wf_of {s : Int} (hs : ok s) : (Lit.int .i64 s).wf = true := by unfold ok at hs; have hm : IntKind.i64.min = -9223372036854775808 := rfl; have hM : IntKind.i64.max = 9223372036854775807 := rfl; simp [Lit.wf]; omega
theorem key_of {s : Int} (hs : ok s) : keyOf Try.prog 2 (.int .i64 s) = some (.int .i64 s) := Maps.keyOf_int_mk Try.underlying2 (wf_of hs)
def fE : Value → Option (DataW Unit × List MemPlace)
  | .float .f64 n => some (.lit (.float .f64 n), [])
  | _ => none
theorem fE_inv {v : Value} {z : DataW Unit × List MemPlace} (h : fE v = some z) : ∃ n, v = .float .f64 n ∧ z = (.lit (.float .f64 n), []) := by
  unfold fE at h
  split at h
  · cases h; exact ⟨_, rfl, rfl⟩
  · cases h
def KM (w : World) (b n : Nat) (f : Int → Nat) : Prop := ∃ D : DataW Unit, w.ownsMap Try.prog 2 fE b n D ∧ ∀ s, ok s → Maps.has D (.int .i64 s) = true → ∃ x, D.atKey (.int .i64 s) (.lit (.float .f64 0)) = .lit (.float .f64 x) ∧ cn x = f s
theorem KM.made (w : World) (f : Int → Nat) : KM (w.alloc (.map #[] 0)) w.heap.size 0 f := ⟨_, World.ownsMap_made w Try.prog 2 fE, fun s _ h => by cases h⟩
theorem KM.heap {w w' : World} {b n : Nat} {f : Int → Nat} (h : KM w b n f) (e : w'.heap[b]? = w.heap[b]?) : KM w' b n f := by
  obtain ⟨D, ⟨es, clock, e1, r⟩, h2⟩ := h
  exact ⟨D, ⟨es, clock, e.trans e1, r⟩, h2⟩
theorem KM.mono {w : World} {b n m : Nat} {f : Int → Nat} (h : KM w b n f) (hn : n ≤ m) : KM w b m f := by
  obtain ⟨D, h1, h2⟩ := h
  exact ⟨D, h1.mono hn, h2⟩
theorem KM.lt {w : World} {b n : Nat} {f : Int → Nat} (h : KM w b n f) : b < w.heap.size := by
  obtain ⟨D, h1, _⟩ := h
  exact h1.lt
theorem zeroF (w : World) : (zeroValue 36).run Try.prog w = .ok (.float .f64 0) w := by kernel_rfl
theorem KM.look {w : World} {b n : Nat} {f : Int → Nat} (h : KM w b n f) (s : Int) (hs : ok s) :
    ∃ x q, (Instr.lookup 46 (.map (some b)) (.int .i64 s) true).run Try.prog w = .ok (.tuple #[.float .f64 x, .bool q]) w ∧ (q = true → cn x = f s) := by
  obtain ⟨D, h1, h2⟩ := h
  obtain ⟨v, ps, hrun, hv⟩ := h1.look_ok law Try.underlying46 (zeroF w) (zd := .lit (.float .f64 0)) (zp := []) rfl (key_of hs)
  obtain ⟨n, rfl, hz⟩ := fE_inv hv
  have hz : D.atKey (.int .i64 s) (.lit (.float .f64 0)) = .lit (.float .f64 n) := by simpa using congrArg Prod.fst hz
  refine ⟨n, _, hrun, fun hq => ?_⟩
  obtain ⟨x, g1, g2⟩ := h2 s hs hq
  rw [hz] at g1
  have : n = x := by simpa using g1
  rw [this]
  exact g2
theorem KM.store {w : World} {b n : Nat} {f : Int → Nat} (h : KM w b n f) (hn : n < maxLen) (s : Int) (x : Nat) (hs : ok s) (hx : cn x = f s) :
    ∃ w', (Instr.mapUpdate 46 (.map (some b)) (.int .i64 s) (.float .f64 x)).run Try.prog w = .ok () w' ∧ KM w' b (n + 1) f ∧ w.grownBy w' (some b) := by
  obtain ⟨D, h1, h2⟩ := h
  have hi := h1.isMap
  have hk : WideAt.IsKeyLit (.int .i64 s) := law.key (key_of hs)
  obtain ⟨w', r1, r2, r3⟩ := h1.update law Try.underlying46 hn (key_of hs) (val := .float .f64 x) (d := .lit (.float .f64 x)) (ps := []) rfl
  refine ⟨w', r1, ⟨_, r2, fun a ha hh => ?_⟩, r3⟩
  by_cases e : a = s
  · subst e
    exact ⟨x, Maps.atKey_put_same hi hk _ _, hx⟩
  · have hne : (Lit.int .i64 a) ≠ Lit.int .i64 s := fun h => e (by simpa using h)
    rw [Maps.has_put_other hne] at hh
    rw [Maps.atKey_put_other hne]
    exact h2 a ha hh
end Go.Proofs.Ytlgcikmimmcmkaa.Km
