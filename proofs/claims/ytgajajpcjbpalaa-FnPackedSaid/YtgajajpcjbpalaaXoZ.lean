/- Both Unpacks at every Packed; a Packed copied, measured, compared, marked. -/
import Derived.Test.YtgajajpcjbpalaaXoX
namespace Go.Proofs.Ytgajajpcjbpalaa.Pkd
open Go.ChangeShapes Go.WideShapes Go.ChangeAt Go.RowKit
open Go.Proofs.Ytgajajpcjbpalaa.Lists Go.Proofs.Ytgajajpcjbpalaa.Flt Go.Proofs.Ytgajajpcjbpalaa.Fls

def ups (p : Pk) : List Nat := if okI p then outs p.dec p.ref p.exp.toNat p.th p.cd p.cnt.toNat else []
theorem ok_parts {p : Pk} (h : okI p = true) : (0 ≤ p.cnt ∧ p.cnt ≤ 4096) ∧ (-3 ≤ p.dec ∧ p.dec ≤ 6) ∧ (1 ≤ p.bits ∧ p.bits ≤ 24) ∧ (0 ≤ p.exp ∧ p.exp ≤ 41) ∧ (-1099511627776 ≤ p.ref ∧ p.ref ≤ 1099511627776) ∧ thB p.cnt p.th p.cd.length = true ∧ p.cd.all (cok (mst p.bits.toNat p.exp.toNat)) = true := by
  unfold okI heads inn at h
  simp only [Bool.and_eq_true, decide_eq_true_eq] at h
  obtain ⟨⟨⟨⟨⟨⟨h1, h2⟩, h3⟩, h4⟩, h5⟩, h6⟩, h7⟩ := h
  exact ⟨h1, h2, h3, h4, h5, h6, h7⟩
theorem ups_len (p : Pk) : (ups p).length ≤ 4096 := by
  unfold ups
  split
  · rename_i h
    rw [outs_len]
    have := (ok_parts h).1
    omega
  · simp

theorem iup_any (p : Pk) (tv cv : Value) (w : World) (hT : Bytes.Reads w tv p.th) (hC : Lists.Reads w cv p.cd) (hB : byts p.th) (l1 : p.th.length ≤ 1048576) (l2 : p.cd.length ≤ 1048576) :
    Calls Try.prog 16 #[pkv p tv cv] w fun e w' => ∃ v, e = .returned (.tuple #[v, .bool (okI p)]) ∧ w'.ownsRow w.heap.size 40 1 v (ups p).length (flts (ups p)) ∧ Below w.heap.size w w' := by
  cases ho : okI p
  · have e : ups p = [] := by unfold ups; rw [ho]; rfl
    rw [e]
    refine (iup_no p tv cv w hT hC l1 l2 ho).mono ?_
    rintro e w' ⟨rfl, hb⟩
    exact ⟨_, rfl, World.ownsRow_nil _ _ _ _, hb⟩
  · obtain ⟨⟨a1, a2⟩, ⟨a3, a4⟩, ⟨a5, a6⟩, ⟨a7, a8⟩, ⟨a9, a10⟩, a11, a12⟩ := ok_parts ho
    have e : ups p = outs p.dec p.ref p.exp.toNat p.th p.cd p.cnt.toNat := by unfold ups; rw [ho]; rfl
    rw [e, outs_len]
    obtain ⟨cnt, dec, ref, exp, bits, th, cd⟩ := p
    simp only at *
    obtain ⟨n, rfl⟩ : ∃ n : Nat, cnt = (n : Int) := ⟨cnt.toNat, by omega⟩
    obtain ⟨b, rfl⟩ : ∃ b : Nat, bits = (b : Int) := ⟨bits.toNat, by omega⟩
    obtain ⟨d, rfl⟩ : ∃ d : Nat, exp = (d : Int) := ⟨exp.toNat, by omega⟩
    simp only [Int.toNat_natCast] at *
    by_cases h0 : th.length = 0
    · exact iup_empty dec ref n b d th cd tv cv w hT hC hB (by omega) a3 a4 (by omega) (by omega) (by omega) a9 a10 h0 a11 a12
    · exact iup_full dec ref n b d th cd tv cv w hT hC hB (by omega) a3 a4 (by omega) (by omega) (by omega) a9 a10 h0 a11 a12
end Go.Proofs.Ytgajajpcjbpalaa.Pkd
