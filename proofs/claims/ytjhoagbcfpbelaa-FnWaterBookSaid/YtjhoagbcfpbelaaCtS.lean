/- Catch and OutletOf: the model. -/
import Derived.Test.YtjhoagbcfpbelaaXoA
import Derived.Test.YtjhoagbcfpbelaaCtP
namespace Go.Proofs.Ytjhoagbcfpbelaa.Ct
open Go.ChangeShapes Go.WideShapes Go.ChangeAt Go.RowKit
open Go.Proofs.Ytjhoagbcfpbelaa.Lists

def inn (a lo hi : Int) : Bool := decide (lo ≤ a) && decide (a ≤ hi)
theorem inn_iff (a lo hi : Int) : inn a lo hi = true ↔ lo ≤ a ∧ a ≤ hi := by simp [inn]
theorem s_in (n a b : Int) (w : World) : Calls Try.prog 15 #[.int .i64 n, .int .i64 a, .int .i64 b] w fun e w' => e = .returned (.bool (inn n a b)) ∧ w' = w := sin_any n a b w
theorem i_in (n a b : Int) (w : World) : Calls Try.prog 26 #[.int .i64 n, .int .i64 a, .int .i64 b] w fun e w' => e = .returned (.bool (inn n a b)) ∧ w' = w := win_any n a b w
theorem reads_at {w : World} {v : Value} {L : List Int} (hL : Lists.Reads w v L) : ∃ b o, (∀ i, i < L.length → w.cell? ⟨b, o + i, none⟩ = some (.int .i64 (L.getD i 0))) ∧ (0 < L.length → b < w.heap.size ∧ ∃ cap, v = .slice (some ⟨b, o, none⟩) L.length cap) := by
  rcases hL with ⟨rfl, _⟩ | ⟨b, o, cap, h1, h2, h3, h4, h5⟩
  · exact ⟨0, 0, fun i hi => by simp at hi, fun hi => by simp at hi⟩
  · exact ⟨b, o, h5, fun _ => ⟨h4, cap, h1⟩⟩
def okN (N : List Int) : Bool := decide (N.length ≤ 576) && (N.all (fun d => inn d (-1) ((N.length : Int) - 1)) && (List.range N.length).all (fun c => (last N (N.length + 1) c).isSome))
theorem ok_iff (N : List Int) : okN N = true ↔ N.length ≤ 576 ∧ Va N ∧ Ends N := by
  unfold okN
  simp only [Bool.and_eq_true, decide_eq_true_eq, List.all_eq_true, List.mem_range, inn_iff]
  constructor
  · rintro ⟨h1, h2, h3⟩
    exact ⟨h1, fun c hc => by have := h2 (nx N c) (by unfold nx; simp [List.getD_eq_getElem?_getD, hc]); omega, h3⟩
  · rintro ⟨h1, h2, h3⟩
    refine ⟨h1, fun d hd => ?_, h3⟩
    obtain ⟨j, hj, rfl⟩ := List.getElem_of_mem hd
    have := h2 j hj
    simp [nx, List.getD_eq_getElem?_getD, hj] at this
    omega
theorem ok_not {N : List Int} (h : ¬ (N.length ≤ 576 ∧ Va N ∧ Ends N)) : okN N = false := by
  cases e : okN N
  · rfl
  · exact absurd ((ok_iff N).1 e) h
def ov : Option Nat → Int
  | some r => r
  | none => 0
def la (N : List Int) (c : Nat) : Int := ov (last N (N.length + 1) c)
theorem va_at {N : List Int} (h : Va N) {c : Nat} (hc : c < N.length) : -1 ≤ N.getD c 0 ∧ N.getD c 0 < N.length := h c hc

set_option maxHeartbeats 1000000 in
theorem slast_any (N : List Int) (c : Nat) (hc : c < N.length) (hv : Va N) (hs : N.length ≤ 576) (v : Value) (w : World) (hN : Lists.Reads w v N) :
    Calls Try.prog 23 #[v, .int .i64 c] w fun e w' => e = .returned (.tuple #[.int .i64 (la N c), .bool (last N (N.length + 1) c).isSome]) ∧ w' = w := by
  obtain ⟨b, o, hcell, hvv⟩ := reads_at hN
  obtain ⟨hb, cap, rfl⟩ := hvv (by omega)
  have HC : Hid (∀ i, i < N.length → w.cell? ⟨b, o + i, none⟩ = some (.int .i64 (N.getD i 0))) := hcell
  have HV : Hid (Va N) := hv
  obtain ⟨R, hR⟩ : ∃ R, last N (N.length + 1) c = R := ⟨_, rfl⟩
  have HE : Hid (la N c = ov R) := (by show _ = _; unfold la; rw [hR])
  rw [hR]
  have HR : Hid (last N (N.length + 1) c = R) := hR
  generalize la N c = A at *
  obtain ⟨S, hS⟩ : ∃ S, R.isSome = S := ⟨_, rfl⟩
  rw [hS]
  have HS : Hid (R.isSome = S) := hS
  obtain ⟨n, hn⟩ : ∃ n, n = N.length := ⟨_, rfl⟩
  rw [← hn] at hc hs ⊢
  have HN : Hid (n = N.length) := hn
  clear hN hcell hvv hR hS hn hv
  go_enter Try.func23, Try.ntmps23
  go_wp2_with fail
  go_loop [1, 6] (fun x i => ∃ d k : Nat, d < n ∧ k ≤ n + 1 ∧ x = .int .i64 d ∧ i = .int .i64 k ∧ Hid (last N (n + 1 - k) d = R)) (fun _ i => n + 1 - (intOf i).toNat)
  case atStart => exact ⟨c, 0, hc, by omega, rfl, rfl, by show last N (n + 1) c = R; rw [HN.out]; exact HR.out⟩
  case round =>
    obtain ⟨d, k, hd, hk, rfl, rfl, HL⟩ := hrel
    by_cases hlt : k ≤ n
    · have hdl : d < N.length := by rw [← HN.out]; exact hd
      have q : w.cell? ⟨b, o + d, none⟩ = some (.int .i64 (N.getD d 0)) := HC.out d hdl
      have vb := va_at HV.out hdl
      rw [← HN.out] at vb
      have i1 : (0 : Int) ≤ (d : Int) := by omega
      have i2 : (d : Int) < (n : Int) := by omega
      have i3 : (k : Int) ≤ (n : Int) := by omega
      have HL' : Hid ((if N.getD d 0 = -1 then some d else last N (n - k) (N.getD d 0).toNat) = R) := (by
        show _ = _
        have h := HL.out
        rw [show n + 1 - k = (n - k) + 1 by omega] at h
        unfold last at h
        exact h)
      clear HL
      generalize N.getD d 0 = z at *
      by_cases hz : z = -1
      · subst hz
        have e1 : Hid (R = some d) := (by show _ = _; have := HL'.out; rw [if_pos rfl] at this; exact this.symm)
        go_wp2_with fail
        go_ret2
        refine ⟨?_, rfl⟩
        rw [HE.out, ← HS.out, e1.out]
        rfl
      · have hz' : (z == -1) = false := by simp [hz]
        obtain ⟨y, rfl⟩ : ∃ y : Nat, z = y := ⟨z.toNat, by omega⟩
        have HL2 : Hid (last N (n - k) y = R) := (by show _ = _; have := HL'.out; rw [if_neg hz, Int.toNat_natCast] at this; exact this)
        go_wp2_with fail
        go_round
        case rel => exact ⟨y, k + 1, by omega, by omega, rfl, by go_num, by rw [show n + 1 - (k + 1) = n - k by omega]; exact HL2⟩
        case measure => simp [intOf]; omega
    · have ek : k = n + 1 := by omega
      subst ek
      have e1 : Hid (R = none) := (by show _ = _; have := HL.out; rw [Nat.sub_self] at this; exact this.symm)
      have i3 : ¬ ((n + 1 : Nat) : Int) ≤ (n : Int) := by omega
      go_wp2_with fail
      go_ret2
      refine ⟨?_, rfl⟩
      rw [HE.out, ← HS.out, e1.out]
      rfl

set_option maxHeartbeats 1000000 in
theorem sok_any (N : List Int) (v : Value) (w : World) (hN : Lists.Reads w v N) (hf : N.length < 9223372036854775808) :
    Calls Try.prog 14 #[v] w fun e w' => e = .returned (.bool (okN N)) ∧ w' = w := by
  by_cases h5 : N.length ≤ 576
  · obtain ⟨b, o, hcell, hvv⟩ := reads_at hN
    obtain ⟨a, cap, rfl⟩ := hN.form
    have HC : Hid (∀ i, i < N.length → w.cell? ⟨b, o + i, none⟩ = some (.int .i64 (N.getD i 0))) := hcell
    have HB : Hid (0 < N.length → b < w.heap.size ∧ a = some ⟨b, o, none⟩) := fun hi => by
      obtain ⟨h1, c, h2⟩ := hvv hi
      simp at h2
      exact ⟨h1, h2.1⟩
    have SL : Hid (Va N → ∀ c : Nat, c < N.length → Calls Try.prog 23 #[.slice a N.length cap, .int .i64 c] w fun e w' => e = .returned (.tuple #[.int .i64 (la N c), .bool (last N (N.length + 1) c).isSome]) ∧ w' = w) := fun hv c hc => slast_any N c hc hv h5 _ w hN
    obtain ⟨bo, hbo⟩ : ∃ bo, okN N = bo := ⟨_, rfl⟩
    rw [hbo]
    have HO : Hid (okN N = bo) := hbo
    obtain ⟨n, hn⟩ : ∃ n, n = N.length := ⟨_, rfl⟩
    rw [← hn] at h5 SL ⊢
    have HN : Hid (n = N.length) := hn
    have i0 : ¬ (576 : Int) < (n : Int) := by omega
    have j1 : IntKind.i64.wrap ((n : Int) - 1) = (n : Int) - 1 := IntWalk.i64_in _ (by omega)
    clear hN hcell hvv hbo hn hf
    go_enter Try.func14, Try.ntmps14
    go_wp2_with fail
    go_loop [3] (fun i => ∃ k : Nat, k ≤ n ∧ i = .int .i64 k ∧ Hid (∀ j, j < k → -1 ≤ nx N j ∧ nx N j < n)) (fun i => n - (intOf i).toNat)
    case atStart => exact ⟨0, by omega, rfl, fun j hj => by omega⟩
    case round =>
      obtain ⟨k, hk, rfl, OK⟩ := hrel
      by_cases hlt : k < n
      · have hkl : k < N.length := by rw [← HN.out]; exact hlt
        obtain ⟨hb, hx⟩ := HB.out (by omega)
        subst hx
        have q : w.cell? ⟨b, o + k, none⟩ = some (.int .i64 (N.getD k 0)) := HC.out k hkl
        have i1 : (0 : Int) ≤ (k : Int) := by omega
        have i2 : (k : Int) < (n : Int) := by omega
        have C3 : Hid (∀ w, Calls Try.prog 15 #[.int .i64 (N.getD k 0), .int .i64 (-1), .int .i64 ((n : Int) - 1)] w fun e w' => e = .returned (.bool (inn (N.getD k 0) (-1) ((n : Int) - 1))) ∧ w' = w) := fun w => s_in _ _ _ w
        cases hz : inn (N.getD k 0) (-1) ((n : Int) - 1)
        · have HF : Hid (bo = false) := (by
            show _ = _
            rw [← HO.out]
            refine ok_not fun h => ?_
            have := h.2.1 k hkl
            have e : ¬ inn (N.getD k 0) (-1) ((n : Int) - 1) = true := by rw [hz]; simp
            rw [inn_iff] at e
            unfold nx at this
            rw [← HN.out] at this
            omega)
          rw [hz] at C3
          clear hz
          generalize N.getD k 0 = z at *
          go_wp2_with fail
          refine (C3.out _).mono ?_
          rintro e w3 ⟨rfl, hw⟩
          have hw' := hw.symm
          subst hw'
          go_wp2_with fail
          go_ret
          exact ⟨by rw [HF.out]; rfl, rfl⟩
        · have OK2 : Hid (∀ j, j < k + 1 → -1 ≤ nx N j ∧ nx N j < n) := fun j hj => by
            by_cases e : j = k
            · subst e
              rw [inn_iff] at hz
              unfold nx
              omega
            · exact OK.out j (by omega)
          rw [hz] at C3
          clear hz
          generalize N.getD k 0 = z at *
          go_wp2_with fail
          refine (C3.out _).mono ?_
          rintro e w3 ⟨rfl, hw⟩
          have hw' := hw.symm
          subst hw'
          go_wp2_with fail
          go_round
          case rel => exact ⟨k + 1, by omega, by go_num, OK2⟩
          case measure => simp [intOf]; omega
      · have hkn : k = n := by omega
        subst hkn
        have VA : Hid (Va N) := fun c hc => by rw [← HN.out]; exact OK.out c (by rw [HN.out]; exact hc)
        have SL2 : Hid (∀ c : Nat, c < N.length → Calls Try.prog 23 #[.slice a k cap, .int .i64 c] w fun e w' => e = .returned (.tuple #[.int .i64 (la N c), .bool (last N (k + 1) c).isSome]) ∧ w' = w) := fun c hc => SL.out VA.out c (by rw [HN.out]; exact hc)
        clear OK SL
        go_wp2_with fail
        go_loop [4] (fun i => ∃ m : Nat, m ≤ k ∧ i = .int .i64 m ∧ Hid (∀ j, j < m → (last N (k + 1) j).isSome)) (fun i => k - (intOf i).toNat)
        case atStart => exact ⟨0, by omega, rfl, fun j hj => by omega⟩
        case round =>
          obtain ⟨m, hm, rfl, EN⟩ := hrel
          by_cases hlt : m < k
          · have hml : m < N.length := by rw [← HN.out]; exact hlt
            have C3 : Hid (Calls Try.prog 23 #[.slice a k cap, .int .i64 m] w fun e w' => e = .returned (.tuple #[.int .i64 (la N m), .bool (last N (k + 1) m).isSome]) ∧ w' = w) := SL2.out m hml
            cases hz : (last N (k + 1) m).isSome
            · have HF : Hid (bo = false) := (by
                show _ = _
                rw [← HO.out]
                refine ok_not fun h => ?_
                have := h.2.2 m hml
                rw [← HN.out, hz] at this
                cases this)
              rw [hz] at C3
              clear hz
              generalize la N m = z at *
              go_wp2_with fail
              refine (Calls.mono C3.out) ?_
              rintro e w3 ⟨rfl, hw⟩
              have hw' := hw.symm
              subst hw'
              go_wp2_with fail
              go_ret
              exact ⟨by rw [HF.out]; rfl, rfl⟩
            · have EN2 : Hid (∀ j, j < m + 1 → (last N (k + 1) j).isSome) := fun j hj => by
                by_cases e : j = m
                · rw [e, hz]
                · exact EN.out j (by omega)
              rw [hz] at C3
              clear hz
              generalize la N m = z at *
              go_wp2_with fail
              refine (Calls.mono C3.out) ?_
              rintro e w3 ⟨rfl, hw⟩
              have hw' := hw.symm
              subst hw'
              go_wp2_with fail
              go_round
              case rel => exact ⟨m + 1, by omega, by go_num, EN2⟩
              case measure => simp [intOf]; omega
          · have HT : Hid (bo = true) := (by
              show _ = _
              rw [← HO.out, ok_iff]
              exact ⟨by rw [← HN.out]; exact h5, VA.out, fun c hc => by rw [← HN.out]; exact EN.out c (by rw [← HN.out] at hc; omega)⟩)
            go_wp2_with fail
            go_ret
            exact ⟨by rw [HT.out]; rfl, rfl⟩
  · have HF : Hid (okN N = false) := ok_not (fun h => h5 h.1)
    obtain ⟨a, cap, rfl⟩ := hN.form
    have i0 : (576 : Int) < (N.length : Int) := by omega
    clear hN
    go_enter Try.func14, Try.ntmps14
    go_wp2_with fail
    go_ret
    exact ⟨by rw [HF.out]; rfl, rfl⟩
end Go.Proofs.Ytjhoagbcfpbelaa.Ct
