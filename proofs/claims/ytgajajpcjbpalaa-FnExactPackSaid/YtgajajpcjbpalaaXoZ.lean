/- Both Unpacks at every Packed; a Packed copied, measured, compared, marked. -/
import Derived.Test.YtgajajpcjbpalaaXoX
namespace Go.Proofs.Ytgajajpcjbpalaa.Pkd
open Go.ChangeShapes Go.WideShapes Go.ChangeAt Go.RowKit
open Go.Proofs.Ytgajajpcjbpalaa.Lists Go.Proofs.Ytgajajpcjbpalaa.Flt Go.Proofs.Ytgajajpcjbpalaa.Fls

def ups (p : Pk) : List Nat := if okI p then outs p.dec p.ref p.exp.toNat p.th p.cd p.cnt.toNat else []
theorem ok_parts {p : Pk} (h : okI p = true) : (0 ≤ p.cnt ∧ p.cnt ≤ 4096) ∧ (-3 ≤ p.dec ∧ p.dec ≤ 6) ∧ (1 ≤ p.bits ∧ p.bits ≤ 24) ∧ (0 ≤ p.exp ∧ p.exp ≤ 41) ∧ (-1099511627776 ≤ p.ref ∧ p.ref ≤ 1099511627776) ∧ thB p.cnt p.th p.cd.length = true ∧ p.cd.all (cok (mst p.bits.toNat p.exp.toNat)) = true := by
  unfold okI heads inn at h
  simp only [Bool.and_eq_true, decide_eq_true_eq] at h
  obtain ⟨⟨⟨⟨⟨⟨h1, h2⟩, h3⟩, h4⟩, h5⟩, h6⟩, h7⟩ := h
  exact ⟨h1, h2, h3, h4, h5, h6, h7⟩
theorem ups_len (p : Pk) : (ups p).length ≤ 4096 := by
  unfold ups
  split
  · rename_i h
    rw [outs_len]
    have := (ok_parts h).1
    omega
  · simp

end Go.Proofs.Ytgajajpcjbpalaa.Pkd
