/- Whether levels are an ascent: the model. -/
import Derived.Test.YtjnjpbbpphklhaaLvC
namespace Go.Proofs.Ytjnjpbbpphklhaa.Flt
open Go.ChangeShapes Go.WideShapes Go.ChangeAt Go.RowKit
attribute [local go_sem] run_store_float

set_option maxHeartbeats 1000000 in
theorem sok_short (w : World) (v : Value) (L : Lv) (h : Reads w v L) (hl : L.length < 2 ∨ 400 < L.length) :
    Calls Try.prog 20 #[v] w fun e w' => e = .returned (.bool (lok L)) ∧ Below w.heap.size w w' := by
  rw [lok_short hl]
  obtain ⟨a, cap, rfl⟩ := h.form
  clear h
  rcases hl with hl | hl
  · have i1 : (L.length : Int) < 2 := by omega
    go_enter Try.func20, Try.ntmps20
    go_wp2
    go_ret
    exact ⟨rfl, Below.refl _ _⟩
  · have i1 : (400 : Int) < (L.length : Int) := by omega
    have i2 : ¬ (L.length : Int) < 2 := by omega
    go_enter Try.func20, Try.ntmps20
    go_wp2
    go_ret
    exact ⟨rfl, Below.refl _ _⟩

theorem ok_next {L : Lv} {k : Nat} (h : ∀ j, j < k → okAt L j = true) (hk : okAt L k = true) : ∀ j, j < k + 1 → okAt L j = true := by
  intro j hj
  by_cases e : j = k
  · rw [e]; exact hk
  · exact h j (by omega)
theorem in_yes {n l h : Int} (e : inB n l h = true) (w : World) : Calls Try.prog 32 #[.int .i64 n, .int .i64 l, .int .i64 h] w fun e w' => e = .returned (.bool true) ∧ w' = w := by
  have := in_any n l h w
  rwa [e] at this
theorem in_no {n l h : Int} (e : inB n l h = false) (w : World) : Calls Try.prog 32 #[.int .i64 n, .int .i64 l, .int .i64 h] w fun e w' => e = .returned (.bool false) ∧ w' = w := by
  have := in_any n l h w
  rwa [e] at this
theorem kno {u : Nat} (e : 9218868437227405312 ≤ rng u) (w : World) : Calls Try.prog 21 #[.float .f64 u] w fun e w' => e = .returned (.bool false) ∧ ∃ m, w' = w.drewN m := (known_no u w e).mono fun _ _ h => ⟨h.1, 1, h.2⟩

set_option maxHeartbeats 1000000 in
theorem sok_long (w : World) (v : Value) (L : Lv) (h : Reads w v L) (hl : 2 ≤ L.length) (hr : L.length ≤ 400) :
    Calls Try.prog 20 #[v] w fun e w' => e = .returned (.bool (lok L)) ∧ Below w.heap.size w w' := by
  rcases h with ⟨rfl, _⟩ | ⟨b, o, c, rfl, x1, x2, x3, x4⟩
  · simp at hl
  have K : Hid (b < w.heap.size ∧ ∀ i, i < L.length → w.cell? ⟨b, o + i * 2, none⟩ = some (.int .i64 (pOf L i)) ∧ w.cell? ⟨b, o + i * 2 + 1, none⟩ = some (.float .f64 (tOf L i))) := ⟨x3, x4⟩
  obtain ⟨R, hR⟩ : ∃ R, lok L = R := ⟨_, rfl⟩
  have HR : Hid (lok L = R) := hR
  rw [hR]
  obtain ⟨n, hn⟩ : ∃ n, n = L.length := ⟨_, rfl⟩
  rw [← hn] at x1 hl hr ⊢
  have HN : Hid (n = L.length) := hn
  unfold maxLen at x2
  have j1 : ¬ (n : Int) < 2 := by omega
  have j2 : ¬ (400 : Int) < (n : Int) := by omega
  clear x4 hn hR
  go_enter Try.func20, Try.ntmps20
  go_wp2
  go_loopw [3] (fun i wr => ∃ k : Nat, k ≤ n ∧ i = .int .i64 k ∧ Hid (∀ j, j < k → okAt L j = true) ∧ Hid (Below w.heap.size w wr)) (fun i _ => n - (intOf i).toNat)
  case atStart => exact ⟨0, Nat.zero_le _, rfl, fun j hj => absurd hj (by omega), Below.refl _ _⟩
  case round =>
    obtain ⟨k, hk, rfl, OK, BR⟩ := hrel
    by_cases hlt : k < n
    · have hlt' : k < L.length := by rw [← HN.out]; exact hlt
      have HLT : Hid (k < L.length) := hlt'
      have q1 : wr.cell? ⟨b, o + k * 2, none⟩ = some (.int .i64 (pOf L k)) := (BR.out.cell (p := ⟨b, o + k * 2, none⟩) K.out.1).trans (K.out.2 k hlt').1
      have q2 : wr.cell? ⟨b, o + k * 2 + 1, none⟩ = some (.float .f64 (tOf L k)) := (BR.out.cell (p := ⟨b, o + k * 2 + 1, none⟩) K.out.1).trans (K.out.2 k hlt').2
      have i0 : (0 : Int) ≤ (k : Int) := by omega
      have i1 : (k : Int) < (n : Int) := by omega
      have hb : b ≠ wr.heap.size := by have := BR.out.size; have := K.out.1; omega
      obtain ⟨x, hx⟩ : ∃ x, pOf L k = x := ⟨_, rfl⟩
      obtain ⟨u, hu⟩ : ∃ u, tOf L k = u := ⟨_, rfl⟩
      obtain ⟨y, hy⟩ : ∃ y, pOf L (k - 1) = y := ⟨_, rfl⟩
      rw [hx] at q1
      rw [hu] at q2
      by_cases k0 : k = 0
      · subst k0
        rw [Nat.zero_mul, Nat.add_zero] at q1 q2
        have HX : Hid (pOf L 0 = x ∧ pOf L (0 - 1) = y ∧ tOf L 0 = u) := ⟨hx, hy, hu⟩
        clear hx hy hu hlt'
        cases c1 : inB x 1 12000
        · have C1 : Hid (inB x 1 12000 = false) := c1
          have HZ : Hid (inB (pOf L 0) 1 12000 = false) := (by show _ = _; rw [HX.out.1]; exact c1)
          go_wp2_with fail
          go_quiet ((first | (go_at_call 32; exact Calls.quiet_of_same (in_yes C1.out _)) | (go_at_call 32; exact Calls.quiet_of_same (in_no C1.out _)) | (go_at_call 21; exact Calls.quiet_of_same (known_yes _ _ HK.out)) | (go_at_call 21; exact Calls.quiet_of (kno HK.out _))))
          go_wp2_with fail
          go_ret
          exact ⟨by rw [← HR.out, lok_no HLT.out (okAt_out HZ.out OK.out)]; rfl, below_drewN (BR.out.alloc BR.out.size _) _⟩
        have C1 : Hid (inB x 1 12000 = true) := c1
        have HZ : Hid (inB (pOf L 0) 1 12000 = true) := (by show _ = _; rw [HX.out.1]; exact c1)
        have HY : Hid (0 = 0 ∨ pOf L 0 < pOf L (0 - 1)) := .inl rfl
        cases c3 : kn u
        · have HK : Hid (9218868437227405312 ≤ rng u) := kn_ge c3
          have HF : Hid (okF (tOf L 0) = false) := (by show _ = _; rw [HX.out.2.2]; exact okF_unknown c3)
          go_wp2_with fail
          go_quiet ((first | (go_at_call 32; exact Calls.quiet_of_same (in_yes C1.out _)) | (go_at_call 32; exact Calls.quiet_of_same (in_no C1.out _)) | (go_at_call 21; exact Calls.quiet_of_same (known_yes _ _ HK.out)) | (go_at_call 21; exact Calls.quiet_of (kno HK.out _))))
          go_wp2_with fail
          go_ret
          exact ⟨by rw [← HR.out, lok_no HLT.out (okAt_F HF.out)]; rfl, below_drewN (BR.out.alloc BR.out.size _) _⟩
        have HK : Hid (rng u < 9218868437227405312) := kn_lt c3
        cases c4 : (ord u lo == some .lt)
        · cases c5 : (ord u hi == some .gt)
          · have HF : Hid (okF (tOf L 0) = true) := (by show _ = _; rw [HX.out.2.2]; exact okF_yes c3 c4 c5)
            unfold lo at c4
            unfold hi at c5
            go_wp2_with fail
            go_quiet ((first | (go_at_call 32; exact Calls.quiet_of_same (in_yes C1.out _)) | (go_at_call 32; exact Calls.quiet_of_same (in_no C1.out _)) | (go_at_call 21; exact Calls.quiet_of_same (known_yes _ _ HK.out)) | (go_at_call 21; exact Calls.quiet_of (kno HK.out _))))
            go_wp2_with fail
            go_roundw
            case rel => exact ⟨0 + 1, by omega, by go_num, ok_next OK.out (okAt_yes HZ.out (.inl rfl) HF.out), below_drewN (BR.out.alloc BR.out.size _) _⟩
            case measure => simp [intOf]; omega
          · have HF : Hid (okF (tOf L 0) = false) := (by show _ = _; rw [HX.out.2.2]; exact okF_gt c5)
            unfold lo at c4
            unfold hi at c5
            go_wp2_with fail
            go_quiet ((first | (go_at_call 32; exact Calls.quiet_of_same (in_yes C1.out _)) | (go_at_call 32; exact Calls.quiet_of_same (in_no C1.out _)) | (go_at_call 21; exact Calls.quiet_of_same (known_yes _ _ HK.out)) | (go_at_call 21; exact Calls.quiet_of (kno HK.out _))))
            go_wp2_with fail
            go_ret
            exact ⟨by rw [← HR.out, lok_no HLT.out (okAt_F HF.out)]; rfl, below_drewN (BR.out.alloc BR.out.size _) _⟩
        · have HF : Hid (okF (tOf L 0) = false) := (by show _ = _; rw [HX.out.2.2]; exact okF_lt c4)
          unfold lo at c4
          go_wp2_with fail
          go_quiet ((first | (go_at_call 32; exact Calls.quiet_of_same (in_yes C1.out _)) | (go_at_call 32; exact Calls.quiet_of_same (in_no C1.out _)) | (go_at_call 21; exact Calls.quiet_of_same (known_yes _ _ HK.out)) | (go_at_call 21; exact Calls.quiet_of (kno HK.out _))))
          go_wp2_with fail
          go_ret
          exact ⟨by rw [← HR.out, lok_no HLT.out (okAt_F HF.out)]; rfl, below_drewN (BR.out.alloc BR.out.size _) _⟩
      · obtain ⟨m, rfl⟩ : ∃ m, k = m + 1 := ⟨k - 1, by omega⟩
        have q3 : wr.cell? ⟨b, o + m * 2, none⟩ = some (.int .i64 (pOf L m)) := (BR.out.cell (p := ⟨b, o + m * 2, none⟩) K.out.1).trans (K.out.2 m (by omega)).1
        have hy : pOf L m = y := hy
        rw [hy] at q3
        have HX : Hid (pOf L (m + 1) = x ∧ pOf L m = y ∧ tOf L (m + 1) = u) := ⟨hx, hy, hu⟩
        have q4 : (wr.alloc (.cells #[.int .i64 x, .float .f64 u] 32)).cell? ⟨b, o + m * 2, none⟩ = some (.int .i64 y) := (((Below.refl wr.heap.size wr).alloc (Nat.le_refl _) _).cell (p := ⟨b, o + m * 2, none⟩) (by show b < wr.heap.size; have := BR.out.size; have := K.out.1; omega)).trans q3
        have q5 : ∀ d, ((wr.alloc (.cells #[.int .i64 x, .float .f64 u] 32)).drewN d).cell? ⟨b, o + m * 2, none⟩ = some (.int .i64 y) := fun d => q4
        have j3 : (m : Int) + 1 - 1 = (m : Int) := by omega
        have j4 : IntKind.i64.wrap ((m : Int) + 1 - 1) = (m : Int) := by rw [j3]; exact IntWalk.i64_in _ (by omega)
        have j5 : (m : Int) < (n : Int) := by omega
        have j7 : IntKind.i64.wrap (m : Int) = (m : Int) := IntWalk.i64_in _ (by omega)
        have j8 : (0 : Int) ≤ (m : Int) := by omega
        have j6 : (0 : Int) < (m : Int) + 1 := by omega
        clear hx hy hu hlt' k0
        cases c1 : inB x 1 12000
        · have C1 : Hid (inB x 1 12000 = false) := c1
          have HZ : Hid (inB (pOf L (m + 1)) 1 12000 = false) := (by show _ = _; rw [HX.out.1]; exact c1)
          go_wp2_with fail
          go_quiet ((first | (go_at_call 32; exact Calls.quiet_of_same (in_yes C1.out _)) | (go_at_call 32; exact Calls.quiet_of_same (in_no C1.out _)) | (go_at_call 21; exact Calls.quiet_of_same (known_yes _ _ HK.out)) | (go_at_call 21; exact Calls.quiet_of (kno HK.out _))))
          go_wp2_with fail
          go_ret
          exact ⟨by rw [← HR.out, lok_no HLT.out (okAt_out HZ.out OK.out)]; rfl, below_drewN (BR.out.alloc BR.out.size _) _⟩
        have C1 : Hid (inB x 1 12000 = true) := c1
        have HZ : Hid (inB (pOf L (m + 1)) 1 12000 = true) := (by show _ = _; rw [HX.out.1]; exact c1)
        by_cases c2 : y ≤ x
        · have HY : Hid (pOf L m ≤ pOf L (m + 1)) := (by show _ ≤ _; rw [HX.out.1, HX.out.2.1]; exact c2)
          go_wp2_with fail
          go_quiet ((first | (go_at_call 32; exact Calls.quiet_of_same (in_yes C1.out _)) | (go_at_call 32; exact Calls.quiet_of_same (in_no C1.out _)) | (go_at_call 21; exact Calls.quiet_of_same (known_yes _ _ HK.out)) | (go_at_call 21; exact Calls.quiet_of (kno HK.out _))))
          go_wp2_with fail
          go_ret
          exact ⟨by rw [← HR.out, lok_no HLT.out (okAt_up (by omega) HY.out)]; rfl, below_drewN (BR.out.alloc BR.out.size _) _⟩
        have HY : Hid ((m + 1) = 0 ∨ pOf L (m + 1) < pOf L m) := (by show _ ∨ _; rw [HX.out.1, HX.out.2.1]; right; omega)
        cases c3 : kn u
        · have HK : Hid (9218868437227405312 ≤ rng u) := kn_ge c3
          have HF : Hid (okF (tOf L (m + 1)) = false) := (by show _ = _; rw [HX.out.2.2]; exact okF_unknown c3)
          go_wp2_with fail
          go_quiet ((first | (go_at_call 32; exact Calls.quiet_of_same (in_yes C1.out _)) | (go_at_call 32; exact Calls.quiet_of_same (in_no C1.out _)) | (go_at_call 21; exact Calls.quiet_of_same (known_yes _ _ HK.out)) | (go_at_call 21; exact Calls.quiet_of (kno HK.out _))))
          go_wp2_with fail
          go_ret
          exact ⟨by rw [← HR.out, lok_no HLT.out (okAt_F HF.out)]; rfl, below_drewN (BR.out.alloc BR.out.size _) _⟩
        have HK : Hid (rng u < 9218868437227405312) := kn_lt c3
        cases c4 : (ord u lo == some .lt)
        · cases c5 : (ord u hi == some .gt)
          · have HF : Hid (okF (tOf L (m + 1)) = true) := (by show _ = _; rw [HX.out.2.2]; exact okF_yes c3 c4 c5)
            unfold lo at c4
            unfold hi at c5
            go_wp2_with fail
            go_quiet ((first | (go_at_call 32; exact Calls.quiet_of_same (in_yes C1.out _)) | (go_at_call 32; exact Calls.quiet_of_same (in_no C1.out _)) | (go_at_call 21; exact Calls.quiet_of_same (known_yes _ _ HK.out)) | (go_at_call 21; exact Calls.quiet_of (kno HK.out _))))
            go_wp2_with fail
            go_roundw
            case rel => exact ⟨m + 1 + 1, by omega, by go_num, ok_next OK.out (okAt_yes HZ.out HY.out HF.out), below_drewN (BR.out.alloc BR.out.size _) _⟩
            case measure => simp [intOf]; omega
          · have HF : Hid (okF (tOf L (m + 1)) = false) := (by show _ = _; rw [HX.out.2.2]; exact okF_gt c5)
            unfold lo at c4
            unfold hi at c5
            go_wp2_with fail
            go_quiet ((first | (go_at_call 32; exact Calls.quiet_of_same (in_yes C1.out _)) | (go_at_call 32; exact Calls.quiet_of_same (in_no C1.out _)) | (go_at_call 21; exact Calls.quiet_of_same (known_yes _ _ HK.out)) | (go_at_call 21; exact Calls.quiet_of (kno HK.out _))))
            go_wp2_with fail
            go_ret
            exact ⟨by rw [← HR.out, lok_no HLT.out (okAt_F HF.out)]; rfl, below_drewN (BR.out.alloc BR.out.size _) _⟩
        · have HF : Hid (okF (tOf L (m + 1)) = false) := (by show _ = _; rw [HX.out.2.2]; exact okF_lt c4)
          unfold lo at c4
          go_wp2_with fail
          go_quiet ((first | (go_at_call 32; exact Calls.quiet_of_same (in_yes C1.out _)) | (go_at_call 32; exact Calls.quiet_of_same (in_no C1.out _)) | (go_at_call 21; exact Calls.quiet_of_same (known_yes _ _ HK.out)) | (go_at_call 21; exact Calls.quiet_of (kno HK.out _))))
          go_wp2_with fail
          go_ret
          exact ⟨by rw [← HR.out, lok_no HLT.out (okAt_F HF.out)]; rfl, below_drewN (BR.out.alloc BR.out.size _) _⟩
    · have HJ : Hid (lok L = true) := lok_yes (by rw [← HN.out]; omega) (by rw [← HN.out]; omega) (fun j hj => OK.out j (by have := HN.out; omega))
      go_wp2
      go_ret
      exact ⟨by rw [← HR.out, HJ.out]; rfl, BR.out⟩
end Go.Proofs.Ytjnjpbbpphklhaa.Flt
