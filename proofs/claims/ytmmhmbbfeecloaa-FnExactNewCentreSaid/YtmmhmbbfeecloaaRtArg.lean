/- A list of structs that comes in as an argument, opened to its numbers. -/
import Derived.Test.YtmmhmbbfeecloaaRt
import Derived.Deep.Slices
import Derived.ChangeSame
import Derived.Laws.Cover2
namespace Go.Proofs.Ytmmhmbbfeecloaa.Rt
open Go.ChangeShapes Go.WideShapes Go.ChangeAt Go.RowKit Go.Deep
variable {H : Type} {enc : TypeId × Value → H} {w : World} {base : Nat} {spare : Nat → Bool} {held : Bool}
theorem trod_flt {P : Program} {fuel : Nat} {t : TypeId} {cs : List Value} {x : DataW H × List MemPlace} {k : FloatKind} (ht : P.underlying t = some (.float k)) (h : DataW.trod enc P w base spare held fuel t cs = some x) : ∃ n, cs = [.float k n] ∧ x = (.lit (.float k n), []) ∧ (Lit.float k n).wf = true := by
  cases fuel with
  | zero => simp [DataW.trod] at h
  | succ n =>
    unfold DataW.trod at h
    rw [ht] at h
    split at h <;> simp_all
theorem trod_bool {P : Program} {fuel : Nat} {t : TypeId} {cs : List Value} {x : DataW H × List MemPlace} (ht : P.underlying t = some .bool) (h : DataW.trod enc P w base spare held fuel t cs = some x) : ∃ n, cs = [.bool n] ∧ x = (.lit (.bool n), []) := by
  cases fuel with
  | zero => simp [DataW.trod] at h
  | succ n =>
    unfold DataW.trod at h
    rw [ht] at h
    split at h <;> simp_all
theorem cellsE : Try.prog.cellsOf 39 = 2 := by kernel_rfl
theorem cellsI : Try.prog.cellsOf 2 = 1 := by kernel_rfl
theorem cellsF : Try.prog.cellsOf 9 = 1 := by kernel_rfl

def FitA (L : Ls) : Prop := ∀ z ∈ L, (z.1).size < 9223372036854775808
set_option maxRecDepth 20000 in
set_option maxHeartbeats 1000000 in
theorem opened {v : Value} {fuel : Nat} {x : DataW H × List MemPlace} {a : Option Addr} {len cap : Nat} (hv : v = .slice a len cap) (h : DataW.trod enc Try.prog w base spare held fuel 22 v.cells.toList = some x) :
    ∃ L : Ls, Reads w v L ∧ FitA L := by
  unfold FitA
  subst hv
  rcases open_slice Try.underlying22 h with ⟨hcs, _⟩ | ⟨ad, l, c, m, n, D, Pl, hcs, hb, hl, hm, hmm, _, hx⟩
  · simp [Value.cells] at hcs
    obtain ⟨rfl, rfl, rfl⟩ := hcs
    exact ⟨[], Or.inl ⟨rfl, _, _, rfl⟩, fun z hz => by simp at hz⟩
  · simp [Value.cells] at hcs
    obtain ⟨rfl, rfl, rfl⟩ := hcs
    have hle : len ≤ m := by rw [hmm]; split <;> omega
    have hone : ∀ i, i < len → ∃ z : ByteArray × Int, w.cell? (ad.add (i * 2 + 0)) = some (.string (z.1)) ∧ w.cell? (ad.add (i * 2 + 1)) = some (.int .i64 (z.2)) ∧ (z.1).size < 9223372036854775808 := by
      intro i hi
      obtain ⟨cs', h1, h2⟩ := hx i (by omega)
      rw [cellsE] at h1
      obtain ⟨_, hlen, hcell⟩ := World.cells?_some h1
      obtain ⟨xs, k, _, _, _, hxl, hf⟩ := DataW.trod_struct Try.underlying39 h2
      match xs, hxl, cs', hlen with
      | [y0, y1], _, [v0, v1], _ =>

        have g0 := hf 0 _ rfl
        have g1 := hf 1 _ rfl
        simp [cellsI, cellsF] at g0 g1
        obtain ⟨n0, e0, _, b0⟩ := DataW.trod_string Try.underlying9 g0
        obtain ⟨n1, e1, _, b1⟩ := DataW.trod_int Try.underlying2 g1
        simp at e0 e1
        subst e0 e1
        have q0 := hcell 0 (by omega)
        have q1 := hcell 1 (by omega)
        rw [add_add] at q0 q1
        exact ⟨(n0, n1), by simpa using q0, by simpa using q1, (by unfold maxLen at b0; exact (by omega : n0.size < 9223372036854775808))⟩
    have hf : ∃ f : Nat → ByteArray × Int, ∀ i, i < len → w.cell? (ad.add (i * 2 + 0)) = some (.string ((f i).1)) ∧ w.cell? (ad.add (i * 2 + 1)) = some (.int .i64 ((f i).2)) ∧ ((f i).1).size < 9223372036854775808 :=
      ⟨fun i => if h : i < len then Classical.choose (hone i h) else (⟨#[]⟩, 0), fun i hi => by simp only [hi, dif_pos]; exact Classical.choose_spec (hone i hi)⟩
    obtain ⟨f, hf⟩ := hf
    have hlen : ((List.range len).map f).length = len := by simp
    refine ⟨(List.range len).map f, ?_, fun z hz => ?_⟩
    · by_cases h0 : len = 0
      · subst h0
        exact Or.inl ⟨rfl, _, _, rfl⟩
      · obtain ⟨b, o, spot⟩ := ad
        have hc := (hf 0 (by omega)).1
        have hspot : spot = none := by simpa [Addr.add] using World.cell?_spot hc
        subst hspot
        have ad : ∀ k, (⟨b, o, none⟩ : Addr).add k = ⟨b, o + k, none⟩ := by
          intro k
          unfold Addr.add
          split
          · rename_i h; subst h; rfl
          · rfl
        refine Or.inr ⟨b, o, cap, by rw [hlen], by rw [hlen]; exact hl, hm, World.block_lt_of_cell? w _ hc, fun i hi => ?_⟩
        rw [hlen] at hi
        obtain ⟨h10, h11, _⟩ := hf i hi
        rw [ad] at h10 h11
        have e0 : c0 ((List.range len).map f) i = (f i).1 := by simp [c0, hi]
        have e1 : c1 ((List.range len).map f) i = (f i).2 := by simp [c1, hi]
        unfold Cs
        rw [e0, e1]
        exact ⟨by simpa [Nat.add_assoc] using h10, by simpa [Nat.add_assoc] using h11⟩
    · obtain ⟨i, hi, rfl⟩ := List.mem_map.1 hz
      obtain ⟨_, _, w0⟩ := hf i (List.mem_range.1 hi)
      exact w0
end Go.Proofs.Ytmmhmbbfeecloaa.Rt
