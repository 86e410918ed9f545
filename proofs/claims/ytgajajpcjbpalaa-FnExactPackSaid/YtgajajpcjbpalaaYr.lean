/- A list of floats as an argument. -/
import Derived.Test.YtgajajpcjbpalaaYq
import Derived.Deep.Slices
import Derived.Laws.Cover2
namespace Go.Proofs.Ytgajajpcjbpalaa.Pkd
open Go.ChangeShapes Go.WideShapes Go.ChangeAt Go.RowKit Go.Deep
open Go.Proofs.Ytgajajpcjbpalaa.Lists Go.Proofs.Ytgajajpcjbpalaa.Flt Go.Proofs.Ytgajajpcjbpalaa.Fls

variable {H : Type} {enc : TypeId × Value → H} {w : World} {base : Nat} {spare : Nat → Bool} {held : Bool}

theorem cells40 : Try.prog.cellsOf 40 = 1 := by kernel_rfl

theorem float_of_trod {fuel : Nat} {c : Value} {y : DataW H × List MemPlace} (h : DataW.trod enc Try.prog w base spare held fuel 40 [c] = some y) : ∃ b, c = .float .f64 b ∧ b < 18446744073709551616 := by
  cases fuel with
  | zero => simp [DataW.trod] at h
  | succ n =>
    cases c <;> simp [DataW.trod, Try.underlying40] at h
    rename_i k b
    obtain ⟨⟨rfl, hb⟩, _⟩ := h
    exact ⟨b, rfl, by simpa [Lit.wf] using hb⟩

theorem openFloats {v : Value} {fuel : Nat} {x : DataW H × List MemPlace} {a : Option Addr} {len cap : Nat} (hv : v = .slice a len cap) (h : DataW.trod enc Try.prog w base spare held fuel 22 v.cells.toList = some x) :
    ∃ L : List Nat, Fls.Reads w v L ∧ ∀ z ∈ L, z < 18446744073709551616 := by
  subst hv
  rcases open_slice Try.underlying22 h with ⟨hcs, _⟩ | ⟨ad, l, c, m, n, D, Pl, hcs, _, hl, hm, hmm, _, hel⟩
  · simp [Value.cells] at hcs
    obtain ⟨rfl, rfl, rfl⟩ := hcs
    exact ⟨[], Or.inl ⟨rfl, _, _, rfl⟩, fun z hz => by simp at hz⟩
  · simp [Value.cells] at hcs
    obtain ⟨rfl, rfl, rfl⟩ := hcs
    have hle : len ≤ m := by rw [hmm]; split <;> omega
    have hone : ∀ i, i < len → ∃ b, w.cell? (ad.add i) = some (.float .f64 b) ∧ b < 18446744073709551616 := by
      intro i hi
      obtain ⟨cs', h1, h2⟩ := hel i (by omega)
      rw [cells40, Nat.mul_one] at h1
      obtain ⟨c, rfl⟩ : ∃ c, cs' = [c] := by
        have hl := (World.cells?_some h1).2.1
        clear h1 h2
        match cs', hl with
        | [c], _ => exact ⟨c, rfl⟩
      obtain ⟨b, rfl, hb⟩ := float_of_trod h2
      exact ⟨b, cell_of_cells?_one h1, hb⟩
    have hf : ∃ f : Nat → Nat, ∀ i, i < len → w.cell? (ad.add i) = some (.float .f64 (f i)) ∧ f i < 18446744073709551616 :=
      ⟨fun i => if h : i < len then Classical.choose (hone i h) else 0, fun i hi => by simp only [hi, dif_pos]; exact Classical.choose_spec (hone i hi)⟩
    obtain ⟨f, hf⟩ := hf
    have hlen : ((List.range len).map f).length = len := by simp
    refine ⟨(List.range len).map f, ?_, fun z hz => ?_⟩
    · by_cases h0 : len = 0
      · subst h0
        exact Or.inl ⟨rfl, _, _, rfl⟩
      · obtain ⟨b, o, spot⟩ := ad
        have hc := (hf 0 (by omega)).1
        have hspot : spot = none := by simpa [Addr.add] using World.cell?_spot hc
        subst hspot
        refine Or.inr ⟨b, o, cap, by rw [hlen], by rw [hlen]; exact hl, hm, World.block_lt_of_cell? w _ hc, fun i hi => ?_⟩
        rw [hlen] at hi
        have := (hf i hi).1
        have e : (⟨b, o, none⟩ : Addr).add i = ⟨b, o + i, none⟩ := by
          unfold Addr.add
          split
          · rename_i h; subst h; rfl
          · rfl
        rw [e] at this
        rw [this]
        simp [hi]
    · obtain ⟨i, hi, rfl⟩ := List.mem_map.1 hz
      exact (hf i (List.mem_range.1 hi)).2

end Go.Proofs.Ytgajajpcjbpalaa.Pkd
