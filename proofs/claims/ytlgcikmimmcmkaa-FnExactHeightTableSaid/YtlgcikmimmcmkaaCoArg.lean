/- A list of structs that comes in as an argument, opened to its numbers. -/
import Derived.Test.YtlgcikmimmcmkaaCo
import Derived.Deep.Slices
import Derived.ChangeSame
import Derived.Laws.Cover2
namespace Go.Proofs.Ytlgcikmimmcmkaa.Co
open Go.ChangeShapes Go.WideShapes Go.ChangeAt Go.RowKit Go.Deep
variable {H : Type} {enc : TypeId × Value → H} {w : World} {base : Nat} {spare : Nat → Bool} {held : Bool}
theorem trod_flt {P : Program} {fuel : Nat} {t : TypeId} {cs : List Value} {x : DataW H × List MemPlace} {k : FloatKind} (ht : P.underlying t = some (.float k)) (h : DataW.trod enc P w base spare held fuel t cs = some x) : ∃ n, cs = [.float k n] ∧ x = (.lit (.float k n), []) ∧ (Lit.float k n).wf = true := by
  cases fuel with
  | zero => simp [DataW.trod] at h
  | succ n =>
    unfold DataW.trod at h
    rw [ht] at h
    split at h <;> simp_all
theorem trod_bool {P : Program} {fuel : Nat} {t : TypeId} {cs : List Value} {x : DataW H × List MemPlace} (ht : P.underlying t = some .bool) (h : DataW.trod enc P w base spare held fuel t cs = some x) : ∃ n, cs = [.bool n] ∧ x = (.lit (.bool n), []) := by
  cases fuel with
  | zero => simp [DataW.trod] at h
  | succ n =>
    unfold DataW.trod at h
    rw [ht] at h
    split at h <;> simp_all
theorem cellsE : Try.prog.cellsOf 45 = 3 := by kernel_rfl
theorem cellsI : Try.prog.cellsOf 2 = 1 := by kernel_rfl
theorem cellsP : Try.prog.cellsOf 43 = 2 := by kernel_rfl
theorem cellsF : Try.prog.cellsOf 36 = 1 := by kernel_rfl

def Fit (L : Ls) : Prop := ∀ z ∈ L, z.2.1 < 18446744073709551616 ∧ z.2.2 < 18446744073709551616
set_option maxHeartbeats 1000000 in
theorem opened {v : Value} {fuel : Nat} {x : DataW H × List MemPlace} {a : Option Addr} {len cap : Nat} (hv : v = .slice a len cap) (h : DataW.trod enc Try.prog w base spare held fuel 22 v.cells.toList = some x) :
    ∃ L : Ls, Reads w v L ∧ Fit L := by
  unfold Fit
  subst hv
  rcases open_slice Try.underlying22 h with ⟨hcs, _⟩ | ⟨ad, l, c, m, n, D, Pl, hcs, hb, hl, hm, hmm, _, hx⟩
  · simp [Value.cells] at hcs
    obtain ⟨rfl, rfl, rfl⟩ := hcs
    exact ⟨[], Or.inl ⟨rfl, _, _, rfl⟩, fun z hz => by simp at hz⟩
  · simp [Value.cells] at hcs
    obtain ⟨rfl, rfl, rfl⟩ := hcs
    have hle : len ≤ m := by rw [hmm]; split <;> omega
    have hone : ∀ i, i < len → ∃ z : Int × Nat × Nat, w.cell? (ad.add (i * 3 + 0)) = some (.int .i64 (z.1)) ∧ w.cell? (ad.add (i * 3 + 1)) = some (.float .f64 (z.2.1)) ∧ w.cell? (ad.add (i * 3 + 2)) = some (.float .f64 (z.2.2)) ∧ z.2.1 < 18446744073709551616 ∧ z.2.2 < 18446744073709551616 := by
      intro i hi
      obtain ⟨cs', h1, h2⟩ := hx i (by omega)
      rw [cellsE] at h1
      obtain ⟨_, hlen, hcell⟩ := World.cells?_some h1
      obtain ⟨xs, k, _, _, _, hxl, hf⟩ := DataW.trod_struct Try.underlying45 h2
      match xs, hxl, cs', hlen with
      | [y0, y1], _, [v0, v1, v2], _ =>

        have g0 := hf 0 _ rfl
        have g1 := hf 1 _ rfl
        simp [cellsI, cellsP] at g0 g1
        obtain ⟨ys, k', _, _, _, hyl, hg⟩ := DataW.trod_struct Try.underlying43 g1
        match ys, hyl with
        | [p0, p1], _ =>
        have g2 := hg 0 _ rfl
        have g3 := hg 1 _ rfl
        simp [cellsF] at g2 g3
        obtain ⟨n0, e0, _, b0⟩ := DataW.trod_int Try.underlying2 g0
        obtain ⟨n1, e1, _, b1⟩ := trod_flt Try.underlying36 g2
        obtain ⟨n2, e2, _, b2⟩ := trod_flt Try.underlying36 g3
        simp at e0 e1 e2
        subst e0 e1 e2
        have q0 := hcell 0 (by omega)
        have q1 := hcell 1 (by omega)
        have q2 := hcell 2 (by omega)
        rw [add_add] at q0 q1 q2
        exact ⟨(n0, n1, n2), by simpa using q0, by simpa using q1, by simpa using q2, by simpa [Lit.wf] using b1, by simpa [Lit.wf] using b2⟩
    have hf : ∃ f : Nat → Int × Nat × Nat, ∀ i, i < len → w.cell? (ad.add (i * 3 + 0)) = some (.int .i64 ((f i).1)) ∧ w.cell? (ad.add (i * 3 + 1)) = some (.float .f64 ((f i).2.1)) ∧ w.cell? (ad.add (i * 3 + 2)) = some (.float .f64 ((f i).2.2)) ∧ (f i).2.1 < 18446744073709551616 ∧ (f i).2.2 < 18446744073709551616 :=
      ⟨fun i => if h : i < len then Classical.choose (hone i h) else (0, 0, 0), fun i hi => by simp only [hi, dif_pos]; exact Classical.choose_spec (hone i hi)⟩
    obtain ⟨f, hf⟩ := hf
    have hlen : ((List.range len).map f).length = len := by simp
    refine ⟨(List.range len).map f, ?_, fun z hz => ?_⟩
    · by_cases h0 : len = 0
      · subst h0
        exact Or.inl ⟨rfl, _, _, rfl⟩
      · obtain ⟨b, o, spot⟩ := ad
        have hc := (hf 0 (by omega)).1
        have hspot : spot = none := by simpa [Addr.add] using World.cell?_spot hc
        subst hspot
        have ad : ∀ k, (⟨b, o, none⟩ : Addr).add k = ⟨b, o + k, none⟩ := by
          intro k
          unfold Addr.add
          split
          · rename_i h; subst h; rfl
          · rfl
        refine Or.inr ⟨b, o, cap, by rw [hlen], by rw [hlen]; exact hl, hm, World.block_lt_of_cell? w _ hc, fun i hi => ?_⟩
        rw [hlen] at hi
        obtain ⟨h10, h11, h12, _, _⟩ := hf i hi
        rw [ad] at h10 h11 h12
        have e0 : c0 ((List.range len).map f) i = (f i).1 := by simp [c0, hi]
        have e1 : c1 ((List.range len).map f) i = (f i).2.1 := by simp [c1, hi]
        have e2 : c2 ((List.range len).map f) i = (f i).2.2 := by simp [c2, hi]
        unfold Cs
        rw [e0, e1, e2]
        exact ⟨by simpa [Nat.add_assoc] using h10, by simpa [Nat.add_assoc] using h11, by simpa [Nat.add_assoc] using h12⟩
    · obtain ⟨i, hi, rfl⟩ := List.mem_map.1 hz
      obtain ⟨_, _, _, w1, w2⟩ := hf i (List.mem_range.1 hi)
      exact ⟨w1, w2⟩
end Go.Proofs.Ytlgcikmimmcmkaa.Co
