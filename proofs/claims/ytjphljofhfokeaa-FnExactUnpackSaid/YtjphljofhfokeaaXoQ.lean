/- Whether a Packed is right, as the model tells it: all ways. -/
import Derived.Test.YtjphljofhfokeaaXoN
namespace Go.Proofs.Ytjphljofhfokeaa.Pkd
open Go.ChangeShapes Go.WideShapes Go.ChangeAt Go.RowKit
open Go.Proofs.Ytjphljofhfokeaa.Lists

set_option maxHeartbeats 1000000 in
theorem spok_rest (cnt dec ref exp bits : Int) (y x : Option Addr) (nt nc cap cap2 : Nat) (w : World)
    (hq : Hid (¬ ((0 ≤ cnt ∧ cnt ≤ 4096) ∧ (-3 ≤ dec ∧ dec ≤ 6) ∧ (1 ≤ bits ∧ bits ≤ 24) ∧ (0 ≤ exp ∧ exp ≤ 41) ∧ (-1099511627776 ≤ ref ∧ ref ≤ 1099511627776) ∧ ((nt = 0 ∧ (nc : Int) = cnt) ∨ (0 < nt ∧ (nt : Int) = cnt))))) :
    Calls Try.prog 32 #[.agg #[.int .i64 cnt, .int .i64 dec, .int .i64 ref, .int .i64 exp, .int .i64 bits, .slice y nt cap, .slice x nc cap2]] w fun e w' => e = .returned (.bool false) ∧ Below w.heap.size w w' := by
  go_enter Try.func32, Try.ntmps32
  go_wp2_with (go_at_call 42; refine (sin_any _ _ _ _).mono ?_; rintro e w' ⟨rfl, hw⟩; subst hw)
  all_goals first
    | (go_ret; exact ⟨rfl, (Below.refl _ _).alloc (Nat.le_refl _) _⟩)
    | (exfalso; apply hq.out; clear hq; simp only [bne_eq_false_iff_eq, Bool.not_eq_eq_eq_not, Bool.not_false, decide_eq_true_eq] at *; omega)

theorem spok_any (p : Pk) (tv cv : Value) (w : World) (hT : Bytes.Reads w tv p.th) (hC : Lists.Reads w cv p.cd) (hB : byts p.th) (l1 : p.th.length ≤ 1048576) (l2 : p.cd.length ≤ 1048576) :
    Calls Try.prog 32 #[pkv p tv cv] w fun e w' => e = .returned (.bool (okI p)) ∧ Below w.heap.size w w' := by
  obtain ⟨cnt, dec, ref, exp, bits, th, cd⟩ := p
  unfold pkv
  simp only at *
  by_cases hh : (0 ≤ cnt ∧ cnt ≤ 4096) ∧ (-3 ≤ dec ∧ dec ≤ 6) ∧ (1 ≤ bits ∧ bits ≤ 24) ∧ (0 ≤ exp ∧ exp ≤ 41) ∧ (-1099511627776 ≤ ref ∧ ref ≤ 1099511627776)
  · obtain ⟨⟨a1, a2⟩, ⟨a3, a4⟩, ⟨a5, a6⟩, ⟨a7, a8⟩, a9, a10⟩ := hh
    have hd : heads ⟨cnt, dec, ref, exp, bits, th, cd⟩ = true := by unfold heads inn; simp [a1, a2, a3, a4, a5, a6, a7, a8, a9, a10]
    have e0 : okI ⟨cnt, dec, ref, exp, bits, th, cd⟩ = (thB cnt th cd.length && cd.all (cok (mst bits.toNat exp.toNat))) := by unfold okI; rw [hd, Bool.true_and]
    rw [e0]
    by_cases h0 : th.length = 0
    · have ht : th = [] := List.eq_nil_of_length_eq_zero h0
      by_cases hc : (cd.length : Int) = cnt
      · obtain ⟨b, rfl⟩ : ∃ b : Nat, bits = (b : Int) := ⟨bits.toNat, by omega⟩
        obtain ⟨d, rfl⟩ : ∃ d : Nat, exp = (d : Int) := ⟨exp.toNat, by omega⟩
        rw [ht, th_nil, decide_eq_true hc, Bool.true_and]
        exact spok_empty cnt dec ref d b th cd tv cv w hT hC l1 l2 a1 a2 a3 a4 (by omega) (by omega) (by omega) a9 a10 ht hc
      · rw [ht, th_nil, decide_eq_false hc, Bool.false_and]
        obtain ⟨y, cap, rfl⟩ := hT.form
        obtain ⟨x, cap2, rfl⟩ := hC.form
        exact spok_rest cnt dec ref exp bits y x _ _ cap cap2 w (fun h => by omega)
    · by_cases hc : (th.length : Int) = cnt
      · obtain ⟨b, rfl⟩ : ∃ b : Nat, bits = (b : Int) := ⟨bits.toNat, by omega⟩
        obtain ⟨d, rfl⟩ : ∃ d : Nat, exp = (d : Int) := ⟨exp.toNat, by omega⟩
        exact spok_full cnt dec ref d b th cd tv cv w hT hC l1 l2 a1 a2 a3 a4 (by omega) (by omega) (by omega) a9 a10 h0 hc hB
      · rw [th_len _ _ _ h0 hc, Bool.false_and]
        obtain ⟨y, cap, rfl⟩ := hT.form
        obtain ⟨x, cap2, rfl⟩ := hC.form
        exact spok_rest cnt dec ref exp bits y x _ _ cap cap2 w (fun h => by omega)
  · have hd : heads ⟨cnt, dec, ref, exp, bits, th, cd⟩ = false := by
      unfold heads inn
      rw [Bool.eq_false_iff]
      intro h
      apply hh
      simp at h
      omega
    have e0 : okI ⟨cnt, dec, ref, exp, bits, th, cd⟩ = false := by unfold okI; rw [hd]; rfl
    rw [e0]
    obtain ⟨y, cap, rfl⟩ := hT.form
    obtain ⟨x, cap2, rfl⟩ := hC.form
    exact spok_rest cnt dec ref exp bits y x _ _ cap cap2 w (fun h => hh (by omega))
end Go.Proofs.Ytjphljofhfokeaa.Pkd
