/- NewRun: what both answer, right or not. -/
import Derived.Test.YtfhpomfdkpfooaaNs
import Derived.Test.YtfhpomfdkpfooaaNi
namespace Go.Proofs.Ytfhpomfdkpfooaa.Nr
open Go.ChangeShapes Go.WideShapes Go.ChangeAt Go.RowKit
open Go.Proofs.Ytfhpomfdkpfooaa.Lists Go.Proofs.Ytfhpomfdkpfooaa.Tm Go.Proofs.Ytfhpomfdkpfooaa.Ru Go.Proofs.Ytfhpomfdkpfooaa.Cp

def aR (R : Tk.Ls) (X : List Int) : Tk.Ls := if So.okS R X = true then R else []
def aX (R : Tk.Ls) (X : List Int) : List Int := if So.okS R X = true then X else []
def aJ (R : Tk.Ls) (X : List Int) : Jb.Ls := if So.okS R X = true then zs R.length else []
theorem ans_small (R : Tk.Ls) (X : List Int) : (aR R X).length ≤ 60 ∧ (∀ i, i < (aR R X).length → (Tk.cl (aR R X) i).length ≤ 1048576) ∧ (aX R X).length ≤ 60 ∧ (aJ R X).length ≤ 60 := by
  unfold aR aX aJ
  by_cases h : So.okS R X = true
  · obtain ⟨p1, p2, p3, p4, p5⟩ := ok_parts h
    rw [if_pos h, if_pos h, if_pos h, zs_len]
    exact ⟨p2, fun i hi => by have := p5 i hi; omega, by omega, p2⟩
  · rw [if_neg h, if_neg h, if_neg h]
    exact ⟨by simp, fun i hi => absurd hi (by simp), by simp, by simp⟩
theorem tl_bound (R : Tk.Ls) (h : ∀ i, i < R.length → (Tk.cl R i).length ≤ 1048576) : ∀ k, k ≤ R.length → tl R k ≤ k * 1048579
  | 0, _ => by simp [tl]
  | k + 1, hk => by
    have := tl_bound R h k (by omega)
    have := h k (by omega)
    show tl R k + ((Tk.cl R k).length + 3) ≤ _
    omega
theorem snew_any (R : Tk.Ls) (X : List Int) (vr vx : Value) (w : World) (hR : Tk.Reads w vr R) (hX : Lists.Reads w vx X) :
    Calls Try.prog 16 #[Su.pv vr vx] w fun e w' => ∃ ra rc xa xc ja jc, e = .returned (.tuple #[rv (.slice ra (aR R X).length rc) (.slice xa (aX R X).length xc) 0 (.slice ja (aJ R X).length jc), .bool (So.okS R X)]) ∧ RR w' (.slice ra (aR R X).length rc) (.slice xa (aX R X).length xc) (.slice ja (aJ R X).length jc) (aR R X) (aX R X) (aJ R X) ∧ Below w.heap.size w w' := by
  unfold aR aX aJ
  cases h : So.okS R X
  · refine (snew_no R X vr vx w hR hX h).mono ?_
    rintro e w' ⟨rfl, hb⟩
    exact ⟨none, 0, none, 0, none, 0, rfl, ⟨.inl ⟨rfl, _, _, rfl⟩, .inl ⟨rfl, _, _, rfl⟩, .inl ⟨rfl, _, _, rfl⟩⟩, hb⟩
  · refine (snew_yes R X vr vx w hR hX h).mono ?_
    rintro e w' ⟨r, x, j, rfl, hm, hb⟩
    have hh : RR w' r x j R X (zs R.length) := ⟨hm.1.reads, Lists.reads_row hm.2.1, hm.2.2.reads⟩
    obtain ⟨ra, rc, rfl⟩ := hh.1.form
    obtain ⟨xa, xc, rfl⟩ := hh.2.1.form
    obtain ⟨ja, jc, rfl⟩ := hh.2.2.form
    exact ⟨ra, rc, xa, xc, ja, jc, rfl, hh, hb⟩
theorem inew_any (R : Tk.Ls) (X : List Int) (vr vx : Value) (w : World) (hR : Tk.Reads w vr R) (hX : Lists.Reads w vx X) :
    Calls Try.prog 17 #[Su.pv vr vx] w fun e w' => ∃ ra rc xa xc ja jc xs, e = .returned (.tuple #[rv (.slice ra (aR R X).length rc) (.slice xa (aX R X).length xc) 0 (.slice ja (aJ R X).length jc), .bool (So.okS R X)]) ∧ RO w' w.heap.size (.slice ra (aR R X).length rc) (.slice xa (aX R X).length xc) (.slice ja (aJ R X).length jc) xs (aR R X) (aX R X) (aJ R X) ∧ Below w.heap.size w w' := by
  unfold aR aX aJ
  cases h : So.okS R X
  · refine (inew_no R X vr vx w hR hX h).mono ?_
    rintro e w' ⟨rfl, hb⟩
    refine ⟨none, 0, none, 0, none, 0, [], rfl, ⟨⟨⟨⟨rfl, .inl ⟨rfl, rfl⟩⟩, fun i hi => absurd hi (by simp), fun i j a _ hj => absurd hj (by simp)⟩, ⟨rfl, .inl ⟨rfl, rfl⟩⟩, fun i a hi => absurd hi (by simp)⟩, ⟨[], ⟨rfl, .inl ⟨rfl, rfl⟩⟩, fun i hi => absurd hi (by simp)⟩⟩, hb⟩
  · refine (inew_yes R X vr vx w hR hX h).mono ?_
    rintro e w' ⟨r, x, j, xs, rfl, hh, hb⟩
    obtain ⟨ra, rc, rfl⟩ := hh.reads.1.form
    obtain ⟨xa, xc, rfl⟩ := hh.reads.2.1.form
    obtain ⟨ja, jc, rfl⟩ := hh.reads.2.2.form
    exact ⟨ra, rc, xa, xc, ja, jc, xs, rfl, hh, hb⟩
end Go.Proofs.Ytfhpomfdkpfooaa.Nr
