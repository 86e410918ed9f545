/- Whether a Packed is right, as the program tells it. -/
import Derived.Test.YtgajajpcjbpalaaXoT
namespace Go.Proofs.Ytgajajpcjbpalaa.Pkd
open Go.ChangeShapes Go.WideShapes Go.ChangeAt Go.RowKit
open Go.Proofs.Ytgajajpcjbpalaa.Lists

def inn (n a b : Int) : Bool := decide (a ≤ n) && decide (n ≤ b)
def heads (p : Pk) : Bool := inn p.cnt 0 4096 && inn p.dec (-3) 6 && inn p.bits 1 24 && inn p.exp 0 41 && inn p.ref (-1099511627776) 1099511627776
def okI (p : Pk) : Bool := heads p && thB p.cnt p.th p.cd.length && p.cd.all (cok (mst p.bits.toNat p.exp.toNat))

set_option maxHeartbeats 1000000 in
theorem ipok_any (p : Pk) (tv cv : Value) (w : World) (hT : Bytes.Reads w tv p.th) (hC : Lists.Reads w cv p.cd) (l1 : p.th.length ≤ 1048576) (l2 : p.cd.length ≤ 1048576) :
    Calls Try.prog 37 #[pkv p tv cv] w fun e w' => e = .returned (.bool (okI p)) ∧ Below w.heap.size w w' := by
  obtain ⟨cnt, dec, ref, exp, bits, th, cd⟩ := p
  unfold pkv
  obtain ⟨r, hr⟩ : ∃ r, r = okI ⟨cnt, dec, ref, exp, bits, th, cd⟩ := ⟨_, rfl⟩
  rw [← hr]
  unfold okI heads inn at hr
  simp only at *
  have TH : Hid (∀ w', Below w.heap.size w w' → Calls Try.prog 51 #[.agg #[.int .i64 cnt, .int .i64 dec, .int .i64 ref, .int .i64 exp, .int .i64 bits, tv, cv]] w' fun e w'' => e = .returned (.bool (thB cnt th cd.length)) ∧ Below w'.heap.size w' w'') := fun w' hb => by
    obtain ⟨x, cap, rfl⟩ := hC.form
    exact ithere_any cnt dec ref exp bits tv th x _ cap w' (hT.on hb) l1
  have CD : Hid (1 ≤ bits → bits ≤ 24 → 0 ≤ exp → exp ≤ 41 → ∀ w', Below w.heap.size w w' → Calls Try.prog 52 #[.agg #[.int .i64 cnt, .int .i64 dec, .int .i64 ref, .int .i64 exp, .int .i64 bits, tv, cv]] w' fun e w'' => e = .returned (.bool (cd.all (cok (mst bits.toNat exp.toNat)))) ∧ Below w'.heap.size w' w'') := fun h1 h2 h3 h4 w' hb => by
    obtain ⟨b, rfl⟩ : ∃ b : Nat, bits = (b : Int) := ⟨bits.toNat, by omega⟩
    obtain ⟨d, rfl⟩ : ∃ d : Nat, exp = (d : Int) := ⟨exp.toNat, by omega⟩
    exact icodes_any cnt dec ref b d tv cv cd w' (by omega) (by omega) (hC.on hb) l2
  generalize cd.all (cok (mst bits.toNat exp.toNat)) = y2 at *
  generalize thB cnt th cd.length = y1 at *
  have HR : Hid (r = (decide (0 ≤ cnt) && decide (cnt ≤ 4096) && (decide (-3 ≤ dec) && decide (dec ≤ 6)) && (decide (1 ≤ bits) && decide (bits ≤ 24)) && (decide (0 ≤ exp) && decide (exp ≤ 41)) && (decide (-1099511627776 ≤ ref) && decide (ref ≤ 1099511627776)) && y1 && y2)) := hr
  clear hr hT hC
  go_enter Try.func37, Try.ntmps37
  go_wp2_with (go_at_call 20; refine (win_any _ _ _ _).mono ?_; rintro e w' ⟨rfl, hw⟩; subst hw)
  · refine (TH.out _ ((Below.refl _ _).alloc (Nat.le_refl _) _)).mono ?_
    rintro e w1 ⟨rfl, b1⟩
    have f1 : 1 ≤ bits := by grind
    have f2 : bits ≤ 24 := by grind
    have f3 : 0 ≤ exp := by grind
    have f4 : exp ≤ 41 := by grind
    have f5 : (decide (0 ≤ cnt) && decide (cnt ≤ 4096) && (decide (-3 ≤ dec) && decide (dec ≤ 6)) && (decide (1 ≤ bits) && decide (bits ≤ 24)) && (decide (0 ≤ exp) && decide (exp ≤ 41)) && (decide (-1099511627776 ≤ ref) && decide (ref ≤ 1099511627776))) = true := by grind
    rw [f5, Bool.true_and] at HR
    have z1 : w.heap.size + 1 ≤ w1.heap.size := by have := b1.size; simpa using this
    have B1 : Hid (Below w.heap.size w w1) := ((Below.refl w.heap.size w).alloc (Nat.le_refl _) _).trans (b1.mono (by simp))
    have k (i : Nat) := b1.cell (p := ⟨w.heap.size, i, none⟩) (by simp)
    have k0 := k 0
    have k1 := k 1
    have k2 := k 2
    have k3 := k 3
    have k4 := k 4
    have k5 := k 5
    have k6 := k 6
    simp [go_sem] at k0 k1 k2 k3 k4 k5 k6
    have HD := CD.out f1 f2 f3 f4
    have HE : Hid (∀ w', Below w.heap.size w w' → Calls Try.prog 52 #[.agg #[.int .i64 cnt, .int .i64 dec, .int .i64 ref, .int .i64 exp, .int .i64 bits, tv, cv]] w' fun e w'' => e = .returned (.bool y2) ∧ Below w'.heap.size w' w'') := HD
    clear TH k b1 CD HD f1 f2 f3 f4 f5
    cases y1
    · have HR2 : Hid (r = false) := (by rw [HR.out]; rfl : r = false)
      clear HR
      go_wp2_with fail
      go_ret
      exact ⟨congrArg (fun b => Ending.returned (Value.bool b)) HR2.out.symm, B1.out⟩
    · have HR2 : Hid (r = y2) := (by rw [HR.out]; simp : r = y2)
      clear HR
      go_wp2_with fail
      refine (HE.out _ B1.out).mono ?_
      rintro e w2 ⟨rfl, b2⟩
      have B2 : Hid (Below w.heap.size w w2) := B1.out.trans (b2.mono (by omega))
      clear b2
      go_wp2_with fail
      go_ret
      exact ⟨congrArg (fun b => Ending.returned (Value.bool b)) HR2.out.symm, B2.out⟩
  all_goals (
    have HR2 : Hid (r = false) := (by rw [HR.out]; grind : r = false)
    clear HR
    go_ret
    exact ⟨congrArg (fun b => Ending.returned (Value.bool b)) HR2.out.symm, (Below.refl _ _).alloc (Nat.le_refl _) _⟩)
end Go.Proofs.Ytgajajpcjbpalaa.Pkd
