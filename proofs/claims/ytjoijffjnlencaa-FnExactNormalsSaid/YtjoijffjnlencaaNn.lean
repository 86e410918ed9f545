/- Normals: what the model refuses; both sides. -/
import Derived.Test.YtjoijffjnlencaaNs
namespace Go.Proofs.Ytjoijffjnlencaa.No
open Go.ChangeShapes Go.WideShapes Go.ChangeAt Go.RowKit
open Go.Proofs.Ytjoijffjnlencaa.Lists Go.Proofs.Ytjoijffjnlencaa.Al Go.Proofs.Ytjoijffjnlencaa.Su Go.Proofs.Ytjoijffjnlencaa.Se Go.Proofs.Ytjoijffjnlencaa.Ll

set_option maxHeartbeats 2000000 in
theorem snorm_no (L : Ls) (v : Value) (w : World) (hL : Ll.Reads w v L) (hok : okY L = false) :
    Calls Try.prog 5 #[v] w fun e w' => ∃ u0, e = .returned (.tuple #[u0, .bool false]) ∧ w'.ownsRow w.heap.size 2 1 u0 0 [] ∧ Below w.heap.size w w' := by
  have hf := hL.fits
  obtain ⟨W, hW⟩ : ∃ W, W = w.alloc (Obj.cells #[] 2) := ⟨_, rfl⟩
  have HW : Hid (W = w.alloc (Obj.cells #[] 2)) := hW
  have B0 : Below w.heap.size w W := (by rw [hW]; exact (Below.refl _ _).alloc (Nat.le_refl _) _)
  have HB : Hid (Below w.heap.size w W) := B0
  have RW : Hid (W.ownsRow w.heap.size 2 1 (.slice (some ⟨w.heap.size, 0, none⟩) 0 0) 0 []) := (by rw [hW]; exact World.ownsRow_lit w #[] 0 (Nat.le_refl _) (Nat.zero_le _) rfl)
  clear hW B0
  cases hi : inn L.length 1 100
  · have hb : ¬ (1 ≤ (L.length : Int) ∧ (L.length : Int) ≤ 100) := fun h => by
      have := (inn_iff _ _ _).2 h
      rw [hi] at this
      cases this
    obtain ⟨a, cap, rfl⟩ := hL.form
    clear hL hi hok
    generalize L.length = n at *
    by_cases h1 : (n : Int) < 1
    · go_enter Try.func5, Try.ntmps5
      go_wp2_with fail
      rw [← HW.out]
      go_ret2
      exact ⟨_, rfl, RW.out, HB.out⟩
    · have h2 : (100 : Int) < (n : Int) := by omega
      go_enter Try.func5, Try.ntmps5
      go_wp2_with fail
      rw [← HW.out]
      go_ret2
      exact ⟨_, rfl, RW.out, HB.out⟩
  · have hb := (inn_iff _ _ _).1 hi
    have HY : Hid ((∀ i, i < L.length → ok1 L i = true) → False) := fun h => by
      have := okY_yes hi h
      rw [hok] at this
      cases this
    have H1 : Hid (∀ i, ok1 L i = (okS (cl L i) && ((cl L i).length == (cl L 0).length))) := fun i => rfl
    obtain ⟨b, o, hc, hv⟩ := Ll.reads_at hL
    obtain ⟨bl, cap, ev⟩ := hv (by omega)
    subst ev
    have HC : Hid (∀ i wr, i < L.length → Below w.heap.size w wr → ∃ ua uc, wr.cell? ⟨b, o + i, none⟩ = some (.slice ua (cl L i).length uc) ∧ Lists.Reads wr (.slice ua (cl L i).length uc) (cl L i)) := fun i wr hi hb => by
      obtain ⟨u, hu, hr⟩ := hc i hi
      have hr' := hr.on hb
      obtain ⟨ua, uc, rfl⟩ := hr.form
      exact ⟨ua, uc, (hb.cell (p := ⟨b, o + i, none⟩) bl).trans hu, hr'⟩
    have f0 : (cl L 0).length < 9223372036854775808 := by
      obtain ⟨u, _, r⟩ := hc 0 (by omega)
      exact Ll.lfits r
    obtain ⟨n, hn⟩ : ∃ n, n = L.length := ⟨_, rfl⟩
    rw [← hn] at HC HY hb hf ⊢
    clear hL hi hc hv hn hok
    have j1 : ¬ (n : Int) < 1 := by omega
    have j2 : ¬ (100 : Int) < (n : Int) := by omega
    have j0 : (0 : Int) < (n : Int) := by omega
    go_enter Try.func5, Try.ntmps5
    go_wp2_with fail
    rw [← HW.out]
    go_loopw [5] (fun i wr => ∃ k : Nat, k ≤ n ∧ i = .int .i64 k ∧ Hid (∀ j, j < k → ok1 L j = true) ∧ Hid (∃ q, wr = W.drewN q)) (fun i _ => n - (intOf i).toNat)
    case atStart => exact ⟨0, by omega, rfl, fun j hj => absurd hj (by omega), ⟨0, rfl⟩⟩
    case round =>
      obtain ⟨k, hk, rfl, HA, HQ⟩ := hrel
      by_cases hlt : k < n
      · have i0 : (0 : Int) ≤ (k : Int) := by omega
        have i1 : (k : Int) < (n : Int) := by omega
        obtain ⟨q, hq⟩ := HQ.out
        have BQ : Below w.heap.size w wr := by rw [hq]; exact below_drewN HB.out q
        obtain ⟨ua, uc, x1, x2⟩ := HC.out k wr hlt BQ
        obtain ⟨va, vc, y1, _⟩ := HC.out 0 wr (by omega) BQ
        rw [Nat.add_zero] at y1
        have fk := Ll.lfits x2
        have C : Hid (∀ q, Calls Try.prog 14 #[.slice ua (cl L k).length uc] (wr.drewN q) fun e w' => e = .returned (.bool (okS (cl L k))) ∧ ∃ p, w' = (wr.drewN q).drewN p) := fun q => sok_any (cl L k) _ (wr.drewN q) x2 fk
        have HE : Hid (∀ p, ∃ q, wr.drewN p = W.drewN q) := fun p => ⟨q + p, by rw [hq, World.drewN_drewN]⟩
        have RN : Hid (∀ p, (wr.drewN p).ownsRow w.heap.size 2 1 (.slice (some ⟨w.heap.size, 0, none⟩) 0 0) 0 []) := fun p => (by rw [hq]; exact RW.out)
        have BN : Hid (∀ p, Below w.heap.size w (wr.drewN p)) := fun p => (by rw [hq]; exact below_drewN (below_drewN HB.out q) p)
        have hO := H1.out k
        clear x2 hq BQ HQ
        generalize hm : (cl L 0).length = m0 at *
        cases ho : okS (cl L k)
        · rw [ho] at C
          clear ho hO hm
          generalize (cl L k).length = mk at *
          go_wp2_with fail
          go_quiet ((go_at_call 14; exact Calls.quiet_of (C.out _)))
          go_wp2_with fail
          go_ret2
          exact ⟨_, rfl, RN.out nq, BN.out nq⟩
        · rw [ho] at C hO
          by_cases he : (cl L k).length = m0
          · have HF : Hid (∀ j, j < k + 1 → ok1 L j = true) := fun j hj => by
              by_cases e : j = k
              · subst e; rw [hO, he]; simp
              · exact HA.out j (by omega)
            rw [he] at C x1
            clear ho hO he hm
            go_wp2_with fail
            go_quiet ((go_at_call 14; exact Calls.quiet_of (C.out _)))
            go_wp2_with fail
            go_roundw
            case rel => exact ⟨k + 1, by omega, by go_num, HF, HE.out nq⟩
            case measure => simp [intOf]; omega
          · have ne1 : ((((cl L k).length : Nat) : Int) != (m0 : Int)) = true := by simp; omega
            have ne2 : ¬ (((cl L k).length : Nat) : Int) = (m0 : Int) := by omega
            clear ho hO hm
            generalize (cl L k).length = mk at *
            go_wp2_with fail
            go_quiet ((go_at_call 14; exact Calls.quiet_of (C.out _)))
            go_wp2_with fail
            go_ret2
            exact ⟨_, rfl, RN.out nq, BN.out nq⟩
      · exact (HY.out (fun i hi => HA.out i (by omega))).elim
def ansX (L : Ls) : List Int := if okY L then np L (cl L 0).length else []
theorem ansX_len (L : Ls) : (ansX L).length ≤ 500 := by
  unfold ansX
  cases h : okY L
  · simp
  · obtain ⟨l1, _, hz⟩ := okY_parts h
    rw [if_pos rfl, np_len]
    exact (okS_parts (hz 0 (by omega)).1).2.1
theorem snorm_any (L : Ls) (v : Value) (w : World) (hL : Ll.Reads w v L) :
    Calls Try.prog 5 #[v] w fun e w' => ∃ u0, e = .returned (.tuple #[u0, .bool (okY L)]) ∧ w'.ownsRow w.heap.size 2 1 u0 (ansX L).length (ints (ansX L)) ∧ Below w.heap.size w w' := by
  unfold ansX
  cases h : okY L
  · exact snorm_no L v w hL h
  · rw [if_pos rfl, np_len]; exact snorm_yes L v w hL h
theorem inorm_any (L : Ls) (v : Value) (w : World) (hL : Ll.Reads w v L) :
    Calls Try.prog 7 #[v] w fun e w' => ∃ u0, e = .returned (.tuple #[u0, .bool (okY L)]) ∧ w'.ownsRow w.heap.size 2 1 u0 (ansX L).length (ints (ansX L)) ∧ Below w.heap.size w w' := by
  unfold ansX
  cases h : okY L
  · exact inorm_no L v w hL h
  · rw [if_pos rfl, np_len]
    have := inorm_yes L v w hL h
    rw [fn_full] at this
    exact this
end Go.Proofs.Ytjoijffjnlencaa.No
