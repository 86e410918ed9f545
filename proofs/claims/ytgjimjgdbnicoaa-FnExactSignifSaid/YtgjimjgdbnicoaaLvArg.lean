/- A list of levels that comes in as an argument, opened to its numbers. -/
import Derived.Test.YtgjimjgdbnicoaaLvA
import Derived.Deep.SlicePairs
import Derived.Laws.Cover2
namespace Go.Proofs.Ytgjimjgdbnicoaa.Flt
open Go.ChangeShapes Go.WideShapes Go.ChangeAt Go.RowKit Go.Deep
variable {H : Type} {enc : TypeId × Value → H} {w : World} {base : Nat} {spare : Nat → Bool} {held : Bool}

theorem trod_flt {P : Program} {fuel : Nat} {t : TypeId} {cs : List Value} {x : DataW H × List MemPlace} {k : FloatKind} (ht : P.underlying t = some (.float k)) (h : DataW.trod enc P w base spare held fuel t cs = some x) : ∃ n, cs = [.float k n] ∧ x = (.lit (.float k n), []) ∧ (Lit.float k n).wf = true := by
  cases fuel with
  | zero => simp [DataW.trod] at h
  | succ n =>
    unfold DataW.trod at h
    rw [ht] at h
    split at h <;> simp_all

theorem openLevels {v : Value} {fuel : Nat} {x : DataW H × List MemPlace} {a : Option Addr} {len cap : Nat} (hv : v = .slice a len cap) (h : DataW.trod enc Try.prog w base spare held fuel 22 v.cells.toList = some x) :
    ∃ L : Lv, Reads w v L ∧ ∀ z ∈ L, z.2 < 18446744073709551616 := by
  subst hv
  rcases open_slice_pairs Try.underlying22 Try.underlying40 (by kernel_rfl) rfl rfl (by kernel_rfl) (by kernel_rfl) h with ⟨hcs, _⟩ | ⟨ad, l, c, m, n, V0, V1, D0, D1, P0, P1, hcs, _, hl, hm, hmm, _, hel⟩
  · simp [Value.cells] at hcs
    obtain ⟨rfl, rfl, rfl⟩ := hcs
    exact ⟨[], Or.inl ⟨rfl, _, _, rfl⟩, fun z hz => by simp at hz⟩
  · simp [Value.cells] at hcs
    obtain ⟨rfl, rfl, rfl⟩ := hcs
    have hle : len ≤ m := by rw [hmm]; split <;> omega
    have hone : ∀ i, i < len → ∃ z : Int × Nat, w.cell? (ad.add (i * 2)) = some (.int .i64 z.1) ∧ w.cell? (ad.add (i * 2 + 1)) = some (.float .f64 z.2) ∧ z.2 < 18446744073709551616 := by
      intro i hi
      obtain ⟨h1, h2, h3, h4⟩ := hel i (by omega)
      obtain ⟨p, e1, _, _⟩ := DataW.trod_int Try.underlying2 h3
      obtain ⟨t, e2, _, w2⟩ := trod_flt Try.underlying23 h4
      simp at e1 e2
      rw [e1] at h1
      rw [e2] at h2
      exact ⟨(p, t), h1, h2, by simpa [Lit.wf] using w2⟩
    have hf : ∃ f : Nat → Int × Nat, ∀ i, i < len → w.cell? (ad.add (i * 2)) = some (.int .i64 (f i).1) ∧ w.cell? (ad.add (i * 2 + 1)) = some (.float .f64 (f i).2) ∧ (f i).2 < 18446744073709551616 :=
      ⟨fun i => if h : i < len then Classical.choose (hone i h) else (0, 0), fun i hi => by simp only [hi, dif_pos]; exact Classical.choose_spec (hone i hi)⟩
    obtain ⟨f, hf⟩ := hf
    have hlen : ((List.range len).map f).length = len := by simp
    refine ⟨(List.range len).map f, ?_, fun z hz => ?_⟩
    · by_cases h0 : len = 0
      · subst h0
        exact Or.inl ⟨rfl, _, _, rfl⟩
      · obtain ⟨b, o, spot⟩ := ad
        have hc := (hf 0 (by omega)).1
        have hspot : spot = none := by simpa [Addr.add] using World.cell?_spot hc
        subst hspot
        have ad : ∀ k, (⟨b, o, none⟩ : Addr).add k = ⟨b, o + k, none⟩ := by
          intro k
          unfold Addr.add
          split
          · rename_i h; subst h; rfl
          · rfl
        refine Or.inr ⟨b, o, cap, by rw [hlen], by rw [hlen]; exact hl, hm, World.block_lt_of_cell? w _ hc, fun i hi => ?_⟩
        rw [hlen] at hi
        have h1 := (hf i hi).1
        have h2 := (hf i hi).2.1
        rw [ad] at h1 h2
        have e1 : pOf ((List.range len).map f) i = (f i).1 := by simp [pOf, hi]
        have e2 : tOf ((List.range len).map f) i = (f i).2 := by simp [tOf, hi]
        rw [e1, e2]
        exact ⟨h1, h2⟩
    · obtain ⟨i, hi, rfl⟩ := List.mem_map.1 hz
      exact (hf i (List.mem_range.1 hi)).2.2
end Go.Proofs.Ytgjimjgdbnicoaa.Flt
