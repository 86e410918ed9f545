/- Archives that are right: in the program and in its model. -/
import Derived.Test.YtniejbefkijenaaKy
namespace Go.Proofs.Ytniejbefkijenaa.Ky
open Go.ChangeShapes Go.WideShapes Go.ChangeAt Go.RowKit
open Al Eo

def en (L : En.Ls) (i : Nat) : En1 := (En.c0 L i, En.c1 L i, En.c2 L i, En.c3 L i, En.c4 L i)
def rs (L : En.Ls) (i : Nat) : Bool := decide (i = 0) || decide (ky (en L (i - 1)) (en L i) < 0)
def riss (L : En.Ls) (n : Nat) : Bool := (List.range n).all (rs L)
theorem riss_succ (L : En.Ls) (n : Nat) : riss L (n + 1) = (riss L n && rs L n) := by
  unfold riss; rw [List.range_succ, List.all_append]; simp
theorem riss_at {L : En.Ls} {n k : Nat} (h : k < n) (hf : rs L k = false) : riss L n = false := by
  unfold riss
  rw [List.all_eq_false]
  exact ⟨k, by simpa using h, by simp [hf]⟩
def okA (L : En.Ls) : Bool := okE L && riss L L.length
theorem okA_len {L : En.Ls} (h : okA L = true) : L.length ≤ 300 := by
  unfold okA okE at h
  simp only [Bool.and_eq_true, decide_eq_true_eq] at h
  exact h.1.1

set_option maxHeartbeats 1000000 in
theorem iarch_any (w : World) (v : Value) (L : En.Ls) (h : En.Reads w v L) (hf : Ft L) :
    Calls Try.prog 29 #[v] w fun e w' => e = .returned (.bool (okA L)) ∧ Below w.heap.size w w' := by
  have CE : Hid (Calls Try.prog 37 #[v] w fun e w' => e = .returned (.bool (okE L)) ∧ Below w.heap.size w w') := ientries_any w v L h hf
  cases hk : okE L
  · have E : okA L = false := by unfold okA; rw [hk]; rfl
    rw [E]
    rw [hk] at CE
    obtain ⟨a, cap, rfl⟩ := h.form
    clear h hf hk E
    generalize List.length L = n at *
    go_enter Try.func29, Try.ntmps29
    go_wp2_with fail
    refine CE.out.mono ?_
    rintro e w1 ⟨rfl, hb⟩
    have B1 : Hid (Below w.heap.size w w1) := hb
    go_wp2_with fail
    go_ret
    exact ⟨rfl, B1.out⟩
  · rw [hk] at CE
    have E : Hid (okA L = riss L L.length) := (by show _ = _; unfold okA; rw [hk]; rfl)
    obtain ⟨a, cap, rfl⟩ := h.form
    have l3 : L.length ≤ 300 := by unfold okE at hk; simp only [Bool.and_eq_true, decide_eq_true_eq] at hk; exact hk.1
    have HC : Hid (∀ (w' : World) (i : Nat), Below w.heap.size w w' → i < L.length → ∃ b o, a = some ⟨b, o, none⟩ ∧ En.Cs w' b o L i) := fun w' i hb hi => (by
      rcases h with ⟨rfl, _⟩ | ⟨b, o, c, e, _, _, x, y⟩
      · simp at hi
      · simp at e; exact ⟨b, o, e.1, (y i hi).below hb x⟩)
    obtain ⟨q, hq⟩ : ∃ q, q = okA L := ⟨_, rfl⟩
    have HQ0 : Hid (q = okA L) := hq
    rw [← hq]
    obtain ⟨n, hn⟩ : ∃ n, n = L.length := ⟨_, rfl⟩
    have HN : Hid (n = L.length) := hn
    rw [← hn] at l3 HC CE E ⊢
    clear h hf hn hq hk
    go_enter Try.func29, Try.ntmps29
    go_wp2_with fail
    refine CE.out.mono ?_
    rintro e w0 ⟨rfl, hb⟩
    have B0 : Hid (Below w.heap.size w w0) := hb
    clear hb
    go_wp2_with fail
    go_loopw [3] (fun i wr => ∃ k : Nat, 1 ≤ k ∧ (k ≤ n ∨ k = 1) ∧ i = .int .i64 k ∧ Hid (riss L k = true) ∧ Hid (Below w.heap.size w wr)) (fun i _ => n - (intOf i).toNat)
    case atStart => exact ⟨1, by omega, Or.inr rfl, rfl, rfl, B0⟩
    case round =>
      obtain ⟨k, k1, hk, rfl, AK, BB⟩ := hrel
      by_cases hlt : k < n
      · have i0 : (0 : Int) ≤ (k : Int) := by omega
        have i1 : (k : Int) < (n : Int) := by omega
        have j0 : (1 : Int) ≤ (k : Int) := by omega
        have j2 : (0 : Int) ≤ (k : Int) - 1 := by omega
        have j3 : (k : Int) - 1 < (n : Int) := by omega
        have j4 : ((k : Int) - 1).toNat = k - 1 := by omega
        have j5 : IntKind.i64.wrap ((k : Int) - 1) = (k : Int) - 1 := IntWalk.i64_in _ (by omega)
        obtain ⟨b, o, rfl, _⟩ := HC.out wr k BB.out hlt
        have HS : Hid (∀ w', Below w.heap.size w w' → En.Cs w' b o L (k - 1) ∧ En.Cs w' b o L k) := fun w' hb => ⟨(by obtain ⟨b2, o2, e2, c⟩ := HC.out w' (k - 1) hb (by omega); simp at e2; obtain ⟨rfl, rfl⟩ := e2; exact c), (by obtain ⟨b2, o2, e2, c⟩ := HC.out w' k hb hlt; simp at e2; obtain ⟨rfl, rfl⟩ := e2; exact c)⟩
        unfold En.Cs at HS
        obtain ⟨z, hz⟩ : ∃ z, z = ky (en L (k - 1)) (en L k) := ⟨_, rfl⟩
        have HZ : Hid (rs L k = decide (z < 0)) := (by show _ = _; rw [hz]; unfold rs; rw [decide_eq_false (by omega)]; rfl)
        have CK : Hid (∀ w : World, Calls Try.prog 32 #[.agg #[.string (En.c0 L (k - 1)), .int .i64 (En.c1 L (k - 1)), .int .i64 (En.c2 L (k - 1)), .int .i64 (En.c3 L (k - 1)), .int .i64 (En.c4 L (k - 1))], .agg #[.string (En.c0 L k), .int .i64 (En.c1 L k), .int .i64 (En.c2 L k), .int .i64 (En.c3 L k), .int .i64 (En.c4 L k)]] w fun e w' => e = .returned (.int .i64 z) ∧ Below w.heap.size w w') := fun w => hz ▸ ibykey_any _ _ _ _ _ _ _ _ _ _ w
        clear hz
        generalize En.c0 L (k - 1) = y0 at *
        generalize En.c1 L (k - 1) = y1 at *
        generalize En.c2 L (k - 1) = y2 at *
        generalize En.c3 L (k - 1) = y3 at *
        generalize En.c4 L (k - 1) = y4 at *
        generalize En.c0 L k = x0 at *
        generalize En.c1 L k = x1 at *
        generalize En.c2 L k = x2 at *
        generalize En.c3 L k = x3 at *
        generalize En.c4 L k = x4 at *
        obtain ⟨⟨q0, q1, q2, q3, q4⟩, r0, r1, r2, r3, r4⟩ := HS.out wr BB.out
        go_wp2_with fail
        go_region_held3 (fun w' => (w'.cell? ⟨b, o + (k - 1) * 5, none⟩ = some (.string y0) ∧ w'.cell? ⟨b, o + (k - 1) * 5 + 1, none⟩ = some (.int .i64 y1) ∧ w'.cell? ⟨b, o + (k - 1) * 5 + 2, none⟩ = some (.int .i64 y2) ∧ w'.cell? ⟨b, o + (k - 1) * 5 + 3, none⟩ = some (.int .i64 y3) ∧ w'.cell? ⟨b, o + (k - 1) * 5 + 4, none⟩ = some (.int .i64 y4)) ∧ w'.cell? ⟨b, o + k * 5, none⟩ = some (.string x0) ∧ w'.cell? ⟨b, o + k * 5 + 1, none⟩ = some (.int .i64 x1) ∧ w'.cell? ⟨b, o + k * 5 + 2, none⟩ = some (.int .i64 x2) ∧ w'.cell? ⟨b, o + k * 5 + 3, none⟩ = some (.int .i64 x3) ∧ w'.cell? ⟨b, o + k * 5 + 4, none⟩ = some (.int .i64 x4)) (go_keep)
          (first
          | (go_at_call 32; refine (CK.out _).mono ?_; rintro e w1 ⟨rfl, hb⟩; have B1 : Hid (Below w.heap.size w w1) := BB.out.drew.trans (hb.mono BB.out.drew.size); obtain ⟨⟨s0, s1, s2, s3, s4⟩, t0, t1, t2, t3, t4⟩ := HS.out w1 B1.out; clear hb))
        by_cases hz0 : z < 0
        · have AN : Hid (riss L (k + 1) = true) := (by show _ = _; rw [riss_succ, AK.out, HZ.out, decide_eq_true hz0]; rfl)
          have hz1 : ¬ 0 ≤ z := by omega
          go_wp2_with fail
          go_roundw
          case rel => exact ⟨k + 1, by omega, by omega, by go_num, AN, B1⟩
          case measure => simp [intOf]; omega
        · have hz1 : 0 ≤ z := by omega
          have EE : Hid (q = false) := (by show _ = _; rw [HQ0.out, E.out]; exact riss_at hlt (by rw [HZ.out, decide_eq_false hz0]))
          go_wp2_with fail
          go_ret
          exact ⟨by rw [EE.out]; rfl, B1.out⟩
      · have j1 : ¬ (k : Int) < (n : Int) := by omega
        have EE : Hid (q = true) := (by
          show _ = _
          rw [HQ0.out, E.out]
          rcases hk with h | h
          · have : k = n := by omega
            rw [← this]; exact AK.out
          · by_cases n0 : n = 0
            · rw [n0]; rfl
            · have : k = n := by omega
              rw [← this]; exact AK.out)
        go_wp2_with fail
        go_ret
        exact ⟨by rw [EE.out]; rfl, BB.out⟩

end Go.Proofs.Ytniejbefkijenaa.Ky
