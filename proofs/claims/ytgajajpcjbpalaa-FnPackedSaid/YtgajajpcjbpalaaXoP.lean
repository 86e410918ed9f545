/- A Packed, plain; whether it is right, as the model tells it. -/
import Derived.Test.YtgajajpcjbpalaaXoB
import Derived.Test.YtgajajpcjbpalaaXoG
namespace Go.Proofs.Ytgajajpcjbpalaa.Pkd
open Go.ChangeShapes Go.WideShapes Go.ChangeAt Go.RowKit
open Go.Proofs.Ytgajajpcjbpalaa.Lists

structure Pk where
  cnt : Int
  dec : Int
  ref : Int
  exp : Int
  bits : Int
  th : List Int
  cd : List Int
def pkv (p : Pk) (tv cv : Value) : Value := .agg #[.int .i64 p.cnt, .int .i64 p.dec, .int .i64 p.ref, .int .i64 p.exp, .int .i64 p.bits, tv, cv]

theorem below_drewN {B : Nat} {a w : World} (h : Below B a w) (n : Nat) : Below B a (w.drewN n) := h.trans ⟨rfl, rfl, rfl, Nat.le_refl _, fun _ _ => rfl⟩
def mst (b d : Nat) : Int := if 4398046511104 / 2 ^ d < wrap64 (wrap64 (2 ^ b) - 1) then 4398046511104 / 2 ^ d else wrap64 (wrap64 (2 ^ b) - 1)
def cok (m c : Int) : Bool := decide (0 ≤ c) && decide (c ≤ m)

set_option maxHeartbeats 1000000 in
theorem icodes_any (a c e : Int) (b d : Nat) (tv cv : Value) (L : List Int) (w : World) (hb : b ≤ 24) (hd : d ≤ 41) (hR : Lists.Reads w cv L) (hl : L.length ≤ 1048576) :
    Calls Try.prog 52 #[.agg #[.int .i64 a, .int .i64 c, .int .i64 e, .int .i64 (d : Int), .int .i64 (b : Int), tv, cv]] w fun e w' => e = .returned (.bool (L.all (cok (mst b d)))) ∧ Below w.heap.size w w' := by
  obtain ⟨x, cap, rfl⟩ := hR.form
  obtain ⟨m, hm⟩ : ∃ m, m = mst b d := ⟨_, rfl⟩
  rw [← hm]
  have HM : Hid ((if 4398046511104 / 2 ^ d < wrap64 (wrap64 (2 ^ b) - 1) then 4398046511104 / 2 ^ d else wrap64 (wrap64 (2 ^ b) - 1)) = m) := hm.symm
  have BW : Hid (Below w.heap.size w (w.alloc (Obj.cells #[.int .i64 a, .int .i64 c, .int .i64 e, .int .i64 (d : Int), .int .i64 (b : Int), tv, .slice x L.length cap] 26))) := (Below.refl _ _).alloc (Nat.le_refl _) _
  have RW := hR.on BW.out
  have CW : (w.alloc (Obj.cells #[.int .i64 a, .int .i64 c, .int .i64 e, .int .i64 (d : Int), .int .i64 (b : Int), tv, .slice x L.length cap] 26)).cell? ⟨w.heap.size, 6, none⟩ = some (.slice x L.length cap) := by simp [go_sem]
  have hcell : ∃ f : Nat → Nat × Nat, (0 < L.length → x = some ⟨(f 0).1, (f 0).2, none⟩) ∧ ∀ i, i < L.length → (w.alloc (Obj.cells #[.int .i64 a, .int .i64 c, .int .i64 e, .int .i64 (d : Int), .int .i64 (b : Int), tv, .slice x L.length cap] 26)).cell? ⟨(f 0).1, (f 0).2 + i, none⟩ = some (.int .i64 (L.getD i 0)) := by
    rcases RW with ⟨rfl, _⟩ | ⟨b, o, cap, h1, h2, h3, h4, h5⟩
    · exact ⟨fun _ => (0, 0), fun hi => by simp at hi, fun i hi => by simp at hi⟩
    · refine ⟨fun _ => (b, o), fun _ => ?_, h5⟩
      simp at h1
      exact h1.1
  obtain ⟨f, hx, hc⟩ := hcell
  clear hR RW hm
  obtain ⟨n, hn⟩ : ∃ n, n = L.length := ⟨_, rfl⟩
  have HN : Hid (n = L.length) := hn
  rw [← hn] at hl CW BW hx hc ⊢
  clear hn
  have HX : Hid (0 < n → x = some ⟨(f 0).1, (f 0).2, none⟩) := hx
  have HC : Hid (∀ i, i < n → (w.alloc (Obj.cells #[.int .i64 a, .int .i64 c, .int .i64 e, .int .i64 (d : Int), .int .i64 (b : Int), tv, .slice x n cap] 26)).cell? ⟨(f 0).1, (f 0).2 + i, none⟩ = some (.int .i64 (L.getD i 0))) := hc
  clear hx hc
  go_enter Try.func52, Try.ntmps52
  go_wp2
  go_region
  generalize (w.alloc (Obj.cells #[.int .i64 a, .int .i64 c, .int .i64 e, .int .i64 (d : Int), .int .i64 (b : Int), tv, .slice x n cap] 26)) = w1 at *
  rw [HM.out]
  go_wp2_with fail
  go_loopw [17] (fun i wr => ∃ k q : Nat, k ≤ n ∧ i = .int .i64 k ∧ Hid (wr = w1.drewN q) ∧ Hid ((L.take k).all (cok m) = true)) (fun i _ => n - (intOf i).toNat)
  case atStart => exact ⟨0, 1, Nat.zero_le _, rfl, rfl, rfl⟩
  case round =>
    obtain ⟨k, q, hk, rfl, HW, HA⟩ := hrel
    by_cases hlt : k < n
    · have hx := HX.out (by omega)
      subst hx
      have q1 : wr.cell? ⟨(f 0).1, (f 0).2 + k, none⟩ = some (.int .i64 (L.getD k 0)) := by rw [HW.out]; exact HC.out k hlt
      have i0 : (0 : Int) ≤ (k : Int) := by omega
      have i1 : (k : Int) < (n : Int) := by omega
      have TK : Hid (L.take (k + 1) = L.take k ++ [L.getD k 0]) := (by
        have hk : k < L.length := by rw [← HN.out]; exact hlt
        show _ = _
        rw [List.take_succ_eq_append_getElem hk]
        simp [List.getD_eq_getElem?_getD, hk])
      have ME : Hid (L.getD k 0 ∈ L) := (by
        have hk : k < L.length := by rw [← HN.out]; exact hlt
        show _ ∈ _
        simp [List.getD_eq_getElem?_getD, hk])
      generalize L.getD k 0 = z at *
      cases hz : cok m z
      · have HZ : Hid (cok m z = false) := hz
        clear hz
        have HF : Hid (L.all (cok m) = false) := (by
          show _ = _
          rw [List.all_eq_false]
          exact ⟨z, ME.out, by rw [HZ.out]; simp⟩)
        go_wp2_with (go_at_call 20; refine (win_any _ _ _ _).mono ?_; rintro e w' ⟨rfl, hw⟩; subst hw; rw [show (decide ((0 : Int) ≤ z) && decide (z ≤ m)) = false from HZ.out])
        go_ret
        exact ⟨congrArg (fun x => Ending.returned (Value.bool x)) HF.out.symm, by rw [HW.out]; exact below_drewN BW.out _⟩
      · have HZ : Hid (cok m z = true) := hz
        clear hz
        go_wp2_with (go_at_call 20; refine (win_any _ _ _ _).mono ?_; rintro e w' ⟨rfl, hw⟩; subst hw; rw [show (decide ((0 : Int) ≤ z) && decide (z ≤ m)) = true from HZ.out])
        go_roundw
        case rel => exact ⟨k + 1, q, by omega, by go_num, HW, by show _ = _; rw [TK.out, List.all_append, HA.out]; simp [HZ.out]⟩
        case measure => simp [intOf]; omega
    · have e1 : L.take k = L := List.take_of_length_le (by rw [← HN.out]; omega)
      have HF : Hid (L.all (cok m) = true) := (by have := HA.out; rw [e1] at this; exact this)
      clear e1
      go_wp2_with fail
      go_ret
      exact ⟨congrArg (fun x => Ending.returned (Value.bool x)) HF.out.symm, by rw [HW.out]; exact below_drewN BW.out _⟩
end Go.Proofs.Ytgajajpcjbpalaa.Pkd
