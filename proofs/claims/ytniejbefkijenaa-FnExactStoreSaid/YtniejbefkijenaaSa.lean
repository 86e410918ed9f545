/- Store: the law at every argument. -/
import Derived.Test.YtniejbefkijenaaSs
import Derived.Test.YtniejbefkijenaaStL
import Derived.Test.YtniejbefkijenaaDa
namespace Go.Proofs.Ytniejbefkijenaa.Ky
open Go.ChangeShapes Go.WideShapes Go.ChangeAt Go.RowKit
open Al Eo

theorem storeAll (w : World) (v : Value) (L : En.Ls) (h : En.Reads w v L) (hf : En.FitA L) (p : ByteArray) (t s l z : Int) (hp : p.size < 9223372036854775808) :
    Calls Try.prog 3 #[v, .agg #[.string p, .int .i64 t, .int .i64 s, .int .i64 l, .int .i64 z]] w fun e w' => e = .returned (.bool true) ∧ Below w.heap.size w w' := by
  obtain ⟨X, hX⟩ : ∃ X, X = if okS L (p, t, s, l, z) then stL L (p, t, s, l, z) else [] := ⟨_, rfl⟩
  have lX : List.length X ≤ 1048576 := by
    rw [hX]
    cases hk : okS L (p, t, s, l, z)
    · simp
    · rw [if_pos rfl]
      unfold okS at hk
      simp only [Bool.and_eq_true, decide_eq_true_eq] at hk
      omega
  exact LawStL.storeLaw w v L h (Dl.fit_of hf) p t s l z hp X lX (okS L (p, t, s, l, z)) (fun hF hP w t' hr => sstore_any w t' L p t s l z hr hF.2 hP X hX) (fun hF hP w t' hr => istore_any w t' L p t s l z hr hF.2 hP X hX)
end Go.Proofs.Ytniejbefkijenaa.Ky
