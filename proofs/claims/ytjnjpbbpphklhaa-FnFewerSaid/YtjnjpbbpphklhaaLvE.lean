/- Whether levels are an ascent: the program. -/
import Derived.Test.YtjnjpbbpphklhaaLvD
namespace Go.Proofs.Ytjnjpbbpphklhaa.Flt
open Go.ChangeShapes Go.WideShapes Go.ChangeAt Go.RowKit
attribute [local go_sem] run_store_float

theorem wi_yes {n l h : Int} (e : inB n l h = true) (w : World) : Calls Try.prog 24 #[.int .i64 n, .int .i64 l, .int .i64 h] w fun e w' => e = .returned (.bool true) ∧ w' = w := by
  have := within_any n l h w
  rwa [e] at this
theorem wi_no {n l h : Int} (e : inB n l h = false) (w : World) : Calls Try.prog 24 #[.int .i64 n, .int .i64 l, .int .i64 h] w fun e w' => e = .returned (.bool false) ∧ w' = w := by
  have := within_any n l h w
  rwa [e] at this

/-- The pressure ahead of a level. -/
def ahead (L : Lv) (k : Nat) : Int := if k = 0 then 12001 else pOf L (k - 1)
theorem ahead_succ (L : Lv) (k : Nat) : ahead L (k + 1) = pOf L k := by unfold ahead; rw [if_neg (by omega)]; rfl
theorem ahead_fit {L : Lv} {k : Nat} (h : ∀ j, j < k → okAt L j = true) : 1 ≤ ahead L k ∧ ahead L k ≤ 12001 := by
  unfold ahead
  by_cases e : k = 0
  · rw [if_pos e]; omega
  · rw [if_neg e]
    have := okP_fit h (k - 1) (by omega)
    omega
theorem okP_ahead (L : Lv) (k : Nat) : okP L k = inB (pOf L k) 1 (ahead L k - 1) := by
  unfold okP ahead
  by_cases e : k = 0
  · rw [if_pos e, if_pos e]; rfl
  · rw [if_neg e, if_neg e]
theorem okAt_P {L : Lv} {k : Nat} (h : okP L k = false) : okAt L k = false := by unfold okAt; rw [h]; rfl
theorem okAt_both {L : Lv} {k : Nat} (h : okP L k = true) (h2 : okF (tOf L k) = true) : okAt L k = true := by unfold okAt; rw [h, h2]; rfl

set_option maxHeartbeats 1000000 in
theorem iok_short (w : World) (v : Value) (L : Lv) (h : Reads w v L) (hl : L.length < 2 ∨ 400 < L.length) (hm : L.length ≤ 1048576) :
    Calls Try.prog 16 #[v] w fun e w' => e = .returned (.bool (lok L)) ∧ Below w.heap.size w w' := by
  rw [lok_short hl]
  obtain ⟨a, cap, rfl⟩ := h.form
  clear h
  have C : Hid (inB (L.length : Int) 2 400 = false) := (by show _ = _; unfold inB; simp; omega)
  have hc : IntKind.i64.wrap (L.length : Int) = (L.length : Int) := IntWalk.i64_in _ (by omega)
  go_enter Try.func16, Try.ntmps16
  go_wp2_with fail
  refine (wi_no C.out _).mono ?_
  rintro e w1 ⟨rfl, rfl⟩
  go_wp2_with fail
  go_ret
  exact ⟨rfl, Below.refl _ _⟩

set_option maxHeartbeats 1000000 in
theorem iok_long (w : World) (v : Value) (L : Lv) (h : Reads w v L) (hl : 2 ≤ L.length) (hr : L.length ≤ 400) :
    Calls Try.prog 16 #[v] w fun e w' => e = .returned (.bool (lok L)) ∧ Below w.heap.size w w' := by
  rcases h with ⟨rfl, _⟩ | ⟨b, o, c, rfl, x1, x2, x3, x4⟩
  · simp at hl
  have K : Hid (b < w.heap.size ∧ ∀ i, i < L.length → w.cell? ⟨b, o + i * 2, none⟩ = some (.int .i64 (pOf L i)) ∧ w.cell? ⟨b, o + i * 2 + 1, none⟩ = some (.float .f64 (tOf L i))) := ⟨x3, x4⟩
  obtain ⟨R, hR⟩ : ∃ R, lok L = R := ⟨_, rfl⟩
  have HR : Hid (lok L = R) := hR
  rw [hR]
  obtain ⟨n, hn⟩ : ∃ n, n = L.length := ⟨_, rfl⟩
  rw [← hn] at x1 hl hr ⊢
  have HN : Hid (n = L.length) := hn
  unfold maxLen at x2
  have C : Hid (inB (n : Int) 2 400 = true) := (by show _ = _; unfold inB; simp; omega)
  clear x4 hn hR
  go_enter Try.func16, Try.ntmps16
  go_wp2_with fail
  refine (wi_yes C.out _).mono ?_
  rintro e w1 ⟨rfl, rfl⟩
  go_wp2_with fail
  go_loopw [3, 12] (fun a i wr => ∃ k : Nat, k ≤ n ∧ i = .int .i64 k ∧ a = .int .i64 (ahead L k) ∧ Hid (∀ j, j < k → okAt L j = true) ∧ Hid (Below w1.heap.size w1 wr)) (fun _ i _ => n - (intOf i).toNat)
  case atStart => exact ⟨0, Nat.zero_le _, rfl, rfl, fun j hj => absurd hj (by omega), Below.refl _ _⟩
  case round =>
    obtain ⟨k, hk, rfl, rfl, OK, BR⟩ := hrel
    by_cases hlt : k < n
    · have hlt' : k < L.length := by rw [← HN.out]; exact hlt
      have HLT : Hid (k < L.length) := hlt'
      have q1 : wr.cell? ⟨b, o + k * 2, none⟩ = some (.int .i64 (pOf L k)) := (BR.out.cell (p := ⟨b, o + k * 2, none⟩) K.out.1).trans (K.out.2 k hlt').1
      have q2 : wr.cell? ⟨b, o + k * 2 + 1, none⟩ = some (.float .f64 (tOf L k)) := (BR.out.cell (p := ⟨b, o + k * 2 + 1, none⟩) K.out.1).trans (K.out.2 k hlt').2
      have i0 : (0 : Int) ≤ (k : Int) := by omega
      have i1 : (k : Int) < (n : Int) := by omega
      obtain ⟨af1, af2⟩ := ahead_fit OK.out
      have HP : Hid (okP L k = inB (pOf L k) 1 (ahead L k - 1)) := okP_ahead L k
      obtain ⟨x, hx⟩ : ∃ x, pOf L k = x := ⟨_, rfl⟩
      obtain ⟨u, hu⟩ : ∃ u, tOf L k = u := ⟨_, rfl⟩
      obtain ⟨y, hy⟩ : ∃ y, ahead L k = y := ⟨_, rfl⟩
      rw [hx] at q1
      rw [hu] at q2
      rw [hy] at af1 af2 ⊢
      have HX : Hid (pOf L k = x ∧ ahead L k = y ∧ tOf L k = u) := ⟨hx, hy, hu⟩
      clear hx hy hu hlt'
      cases c1 : inB x 1 (y - 1)
      · have C1 : Hid (inB x 1 (y - 1) = false) := c1
        have HZ : Hid (okP L k = false) := (by show _ = _; rw [HP.out, HX.out.1, HX.out.2.1]; exact c1)
        go_wp2_with fail
        refine (wi_no C1.out _).mono ?_
        rintro e w2 ⟨rfl, hw2⟩
        subst hw2
        go_wp2_with fail
        go_ret
        exact ⟨by rw [← HR.out, lok_no HLT.out (okAt_P HZ.out)]; rfl, BR.out.alloc BR.out.size _⟩
      have C1 : Hid (inB x 1 (y - 1) = true) := c1
      have HZ : Hid (okP L k = true) := (by show _ = _; rw [HP.out, HX.out.1, HX.out.2.1]; exact c1)
      have HU : Hid (okF u = ((ord u lo == some .gt || ord u lo == some .eq) && (ord u hi == some .lt || ord u hi == some .eq))) := rfl
      cases c2 : (ord u lo == some .gt || ord u lo == some .eq)
      · have HF : Hid (okF (tOf L k) = false) := (by show _ = _; rw [HX.out.2.2, HU.out, c2]; rfl)
        unfold lo at c2
        go_wp2_with fail
        refine (wi_yes C1.out _).mono ?_
        rintro e w2 ⟨rfl, hw2⟩
        subst hw2
        go_wp2_with fail
        go_ret
        exact ⟨by rw [← HR.out, lok_no HLT.out (okAt_F HF.out)]; rfl, BR.out.alloc BR.out.size _⟩
      cases c3 : (ord u hi == some .lt || ord u hi == some .eq)
      · have HF : Hid (okF (tOf L k) = false) := (by show _ = _; rw [HX.out.2.2, HU.out, c2, c3]; rfl)
        unfold lo at c2
        unfold hi at c3
        go_wp2_with fail
        refine (wi_yes C1.out _).mono ?_
        rintro e w2 ⟨rfl, hw2⟩
        subst hw2
        go_wp2_with fail
        go_ret
        exact ⟨by rw [← HR.out, lok_no HLT.out (okAt_F HF.out)]; rfl, BR.out.alloc BR.out.size _⟩
      have HF : Hid (okF (tOf L k) = true) := (by show _ = _; rw [HX.out.2.2, HU.out, c2, c3]; rfl)
      unfold lo at c2
      unfold hi at c3
      go_wp2_with fail
      refine (wi_yes C1.out _).mono ?_
      rintro e w2 ⟨rfl, hw2⟩
      subst hw2
      go_wp2_with fail
      go_roundw
      case rel => exact ⟨k + 1, by omega, by go_num, (by rw [ahead_succ, HX.out.1]), ok_next OK.out (okAt_both HZ.out HF.out), BR.out.alloc BR.out.size _⟩
      case measure => simp [intOf]; omega
    · have HJ : Hid (lok L = true) := lok_yes (by rw [← HN.out]; omega) (by rw [← HN.out]; omega) (fun j hj => OK.out j (by have := HN.out; omega))
      go_wp2
      go_ret
      exact ⟨by rw [← HR.out, HJ.out]; rfl, BR.out⟩
end Go.Proofs.Ytjnjpbbpphklhaa.Flt
