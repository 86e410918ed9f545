/- Rings: whether one is right: plainly, the sum, the program and the model. -/
import Derived.Test.YtfanoegokiodoaaAlA
import Derived.Test.YtfanoegokiodoaaRg
import Derived.Deep.DeepCutAuto
import Derived.BigQuiet
namespace Go.Proofs.Ytfanoegokiodoaa.Rg
open Go.ChangeShapes Go.WideShapes Go.ChangeAt Go.RowKit
open Go.Proofs.Ytfanoegokiodoaa.Lists Go.Proofs.Ytfanoegokiodoaa.Al

def tot (L : List Int) : Nat → Int
  | 0 => 0
  | k + 1 => tot L k + L.getD k 0
/-- So far each Mass is in its bounds, each Tracer in those of its Mass. -/
def upTo (L M : List Int) (k : Nat) : Prop := ∀ j, j < k → (0 ≤ L.getD j 0 ∧ L.getD j 0 ≤ 1000000000) ∧ (0 ≤ M.getD j 0 ∧ M.getD j 0 ≤ L.getD j 0)
def right (L M : List Int) : Prop := 1 ≤ L.length ∧ L.length ≤ 200 ∧ M.length = L.length ∧ upTo L M L.length ∧ tot L L.length ≤ 1000000000
def okR (L M : List Int) : Bool := inn L.length 1 200 && (decide (M.length = L.length) && (((List.range L.length).all fun j => inn (L.getD j 0) 0 1000000000 && inn (M.getD j 0) 0 (L.getD j 0)) && decide (tot L L.length ≤ 1000000000)))
theorem okR_iff (L M : List Int) : okR L M = true ↔ right L M := by
  unfold okR right upTo
  simp only [Bool.and_eq_true, inn_iff, decide_eq_true_eq, List.all_eq_true, List.mem_range]
  constructor
  · rintro ⟨⟨h1, h2⟩, h3, h4, h5⟩
    exact ⟨by omega, by omega, h3, h4, h5⟩
  · rintro ⟨h1, h2, h3, h4, h5⟩
    exact ⟨⟨by omega, by omega⟩, h3, h4, h5⟩
theorem okR_yes {L M : List Int} (h : right L M) : okR L M = true := (okR_iff L M).mpr h
theorem okR_no {L M : List Int} (h : ¬ right L M) : okR L M = false := by
  cases e : okR L M
  · rfl
  · exact absurd ((okR_iff L M).mp e) h
theorem tot_bd {L : List Int} (n : Nat) (h : ∀ j, j < n → 0 ≤ L.getD j 0 ∧ L.getD j 0 ≤ 1000000000) (k : Nat) (hk : k ≤ n) : 0 ≤ tot L k ∧ tot L k ≤ 1000000000 * k := by
  induction k with
  | zero => simp [tot]
  | succ k ih =>
    have a := ih (by omega)
    have b := h k (by omega)
    unfold tot
    omega

set_option maxHeartbeats 1000000 in
theorem total_any (L : List Int) (v : Value) (w : World) (hL : Lists.Reads w v L) (hn : L.length ≤ 200) (hb : ∀ j, j < L.length → 0 ≤ L.getD j 0 ∧ L.getD j 0 ≤ 1000000000) :
    Calls Try.prog 18 #[v] w fun e w' => e = .returned (.int .i64 (tot L L.length)) ∧ w' = w := by
  obtain ⟨b, o, hcell, hvv⟩ := reads_at hL
  obtain ⟨a, cap, rfl⟩ := hL.form
  have HC : Hid (∀ i, i < L.length → w.cell? ⟨b, o + i, none⟩ = some (.int .i64 (L.getD i 0))) := hcell
  have HB : Hid (0 < L.length → b < w.heap.size ∧ a = some ⟨b, o, none⟩) := fun hi => by
    obtain ⟨h1, c, h2⟩ := hvv hi
    simp at h2
    exact ⟨h1, h2.1⟩
  have HD : Hid (∀ j, j < L.length → 0 ≤ L.getD j 0 ∧ L.getD j 0 ≤ 1000000000) := hb
  obtain ⟨n, hn'⟩ : ∃ n, n = L.length := ⟨_, rfl⟩
  rw [← hn'] at hn ⊢
  have HN : Hid (n = L.length) := hn'
  clear hL hcell hvv hn' hb
  go_enter Try.func18, Try.ntmps18
  go_wp2_with fail
  go_loop [3, 8] (fun s i => ∃ k : Nat, k ≤ n ∧ i = .int .i64 k ∧ s = .int .i64 (tot L k)) (fun _ i => n - (intOf i).toNat)
  case atStart => exact ⟨0, by omega, rfl, rfl⟩
  case round =>
    obtain ⟨k, hk, rfl, rfl⟩ := hrel
    by_cases hlt : k < n
    · have hkl : k < L.length := by rw [← HN.out]; exact hlt
      obtain ⟨hb, hx⟩ := HB.out (by omega)
      subst hx
      have q : w.cell? ⟨b, o + k, none⟩ = some (.int .i64 (L.getD k 0)) := HC.out k hkl
      have i1 : (0 : Int) ≤ (k : Int) := by omega
      have i2 : (k : Int) < (n : Int) := by omega
      have E : Hid (tot L (k + 1) = tot L k + L.getD k 0) := rfl
      have bd := tot_bd L.length HD.out k (by omega)
      have bz := HD.out k hkl
      generalize tot L k = s at *
      generalize L.getD k 0 = z at *
      go_wp2_with fail
      go_round
      case rel => exact ⟨k + 1, by omega, by go_num, by rw [E.out]⟩
      case measure => simp [intOf]; omega
    · have hkn : k = n := by omega
      subst hkn
      go_wp2_with fail
      go_ret
      exact ⟨rfl, rfl⟩
end Go.Proofs.Ytfanoegokiodoaa.Rg
