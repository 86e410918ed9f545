/- The groups made. -/
import Derived.Test.YtfhpomfdkpfooaaTy
namespace Go.Proofs.Ytfhpomfdkpfooaa.Ty
open Go.ChangeShapes Go.WideShapes Go.ChangeAt Go.RowKit
open Go.Proofs.Ytfhpomfdkpfooaa.Lists Go.Proofs.Ytfhpomfdkpfooaa.Tm Go.Proofs.Ytfhpomfdkpfooaa.Rk Go.Proofs.Ytfhpomfdkpfooaa.Ru

theorem Try.info63 : (Try.prog.info? 63).map (fun i => (i.zero, i.size, i.bytes)) = some (some (.pointer none), 1, 8) := by kernel_rfl
def gmid (h n k : Nat) : List Value := (List.range n).map fun g => if g < k then .pointer (some ⟨h + 1 + g, 0, none⟩) else .pointer none
def gptrs (h n : Nat) : List Value := (List.range n).map fun g => .pointer (some ⟨h + 1 + g, 0, none⟩)
theorem gmid_zero (h n : Nat) : (madeCells (Value.pointer none).cells (n * 1)).toList = gmid h n 0 := by
  apply List.ext_getElem
  · simp [madeCells, gmid]
  · intro i h1 h2
    simp [madeCells, gmid, Value.cells, Nat.mod_one]
theorem gmid_all (h n : Nat) : gmid h n n = gptrs h n := by
  unfold gmid gptrs
  exact List.map_congr_left (fun g hg => by rw [if_pos (by simpa using hg)])
theorem gmid_set (h n k : Nat) : (gmid h n k).set k (.pointer (some ⟨h + 1 + k, 0, none⟩)) = gmid h n (k + 1) := by
  apply List.ext_getElem (by simp [gmid])
  intro i h1 h2
  rw [List.getElem_set]
  by_cases e : k = i
  · subst e; simp [gmid]
  · rw [if_neg e]
    simp only [gmid, List.getElem_map, List.getElem_range]
    by_cases x : i < k
    · rw [if_pos x, if_pos (by omega)]
    · rw [if_neg x, if_neg (by omega)]
theorem gmid_at (h n k : Nat) (hk : k < n) : (gmid h n k)[k]? = some (.pointer none) := by simp [gmid, hk]

set_option maxHeartbeats 2000000 in
theorem groups_any (X : List Int) (vx : Value) (w : World) (hX : Lists.Reads w vx X) (h6 : X.length ≤ 6) :
    Calls Try.prog 45 #[vx] w fun e w' => e = .returned (.slice (some ⟨w.heap.size, 0, none⟩) X.length X.length) ∧ w'.ownsRow w.heap.size 63 1 (.slice (some ⟨w.heap.size, 0, none⟩) X.length X.length) X.length (gptrs w.heap.size X.length) ∧
      (∀ g, g < X.length → Bl w' (w.heap.size + 1 + g) 99 (gcs (X.getD g 0) 0)) ∧ w'.heap.size = w.heap.size + 1 + X.length ∧ Below w.heap.size w w' := by
  obtain ⟨i0, hi, hz0, hz1, hz2⟩ := info_parts Try.info63
  obtain ⟨b, o, hc, hv⟩ : ∃ b o, (∀ w', Below w.heap.size w w' → ∀ i, i < X.length → w'.cell? ⟨b, o + i, none⟩ = some (.int .i64 (X.getD i 0))) ∧ (0 < X.length → b < w.heap.size ∧ ∃ cap, vx = .slice (some ⟨b, o, none⟩) X.length cap) := by
    rcases hX with ⟨rfl, _⟩ | ⟨b, o, cap, h1, h2, h3, h4, h5⟩
    · exact ⟨0, 0, fun _ _ i hi => by simp at hi, fun hi => by simp at hi⟩
    · exact ⟨b, o, fun w' hb i hi => (hb.cell (p := ⟨b, o + i, none⟩) h4).trans (h5 i hi), fun _ => ⟨h4, cap, h1⟩⟩
  obtain ⟨a, cap, rfl⟩ := hX.form
  have HC : Hid (∀ w', Below w.heap.size w w' → ∀ i, i < X.length → w'.cell? ⟨b, o + i, none⟩ = some (.int .i64 (X.getD i 0))) := hc
  have HV : Hid (0 < X.length → b < w.heap.size ∧ a = some ⟨b, o, none⟩) := fun hi => by
    obtain ⟨h1, c, h2⟩ := hv hi
    simp at h2
    exact ⟨h1, h2.1⟩
  have FZ : Hid ((madeCells (Value.pointer none).cells (X.length * 1)).toList = gmid w.heap.size X.length 0) := gmid_zero _ _
  have FA : Hid (gmid w.heap.size X.length X.length = gptrs w.heap.size X.length) := gmid_all _ _
  obtain ⟨n, hn⟩ : ∃ n, X.length = n := ⟨_, rfl⟩
  rw [hn] at HC HV FZ FA h6 ⊢
  clear hc hv hX hn
  obtain ⟨ZC, hZC⟩ : ∃ ZC, ZC = madeCells (Value.pointer none).cells (n * 1) := ⟨_, rfl⟩
  have hmk : ∀ w, (Instr.makeSlice 80 (.int .i64 (n : Int)) (.int .i64 (n : Int))).run Try.prog w = .ok (.slice (some ⟨w.heap.size, 0, none⟩) n n) (w.alloc (.cells ZC 63)) := fun w => by
    have := run_make (P := Try.prog) w 80 63 i0 (.pointer none) Try.underlying80 hi hz0 .i64 .i64 (n : Int) (n : Int) (by omega) (Int.le_refl _) (by rw [hz2]; omega) (by omega)
    rw [hz1] at this
    simp only [Int.toNat_natCast] at this
    rw [hZC]
    exact this
  obtain ⟨w4, hw4⟩ : ∃ y, y = w.alloc (.cells ZC 63) := ⟨_, rfl⟩
  have HW4 : Hid (w4 = w.alloc (.cells ZC 63)) := hw4
  have R0 : Hid (w4.ownsRow w.heap.size 63 1 (.slice (some ⟨w.heap.size, 0, none⟩) n n) n (gmid w.heap.size n 0)) := (by
    show World.ownsRow _ _ _ _ _ _ _
    have hl : ZC.size = n * 1 := by rw [hZC]; simp [madeCells]
    refine ⟨by simp [gmid], Or.inr ⟨w.heap.size, n, ZC, rfl, Nat.le_refl _, by rw [hw4]; exact Bl.new w 63 ZC, Nat.le_refl _, by unfold maxLen; omega, hl, ?_⟩⟩
    rw [← FZ.out, ← hZC]
    exact List.take_of_length_le (by simp [hl]))
  have B0 : Hid (Below w.heap.size w w4) := (by show Below _ _ _; rw [hw4]; exact (Below.refl _ _).alloc (Nat.le_refl _) _)
  have Z0 : Hid (w4.heap.size = w.heap.size + 1 + 0) := (by show _ = _; rw [hw4]; simp)
  clear hZC hw4 FZ
  go_enter Try.func45, Try.ntmps45
  go_upto_region 2 with fail
  rw [← HW4.out]
  clear hmk HW4
  go_wp2_with fail
  go_loopw [11] (fun c wr => ∃ j : Nat, j ≤ n ∧ c = .int .i64 j ∧ Hid (wr.ownsRow w.heap.size 63 1 (.slice (some ⟨w.heap.size, 0, none⟩) n n) n (gmid w.heap.size n j)) ∧ Hid (∀ g, g < j → Bl wr (w.heap.size + 1 + g) 99 (gcs (X.getD g 0) 0)) ∧ Hid (wr.heap.size = w.heap.size + 1 + j) ∧ Hid (Below w.heap.size w wr)) (fun c _ => n - (intOf c).toNat)
  case atStart => exact ⟨0, Nat.zero_le _, rfl, R0, fun g hg => absurd hg (by omega), Z0, B0⟩
  case round =>
    clear R0 B0 Z0
    obtain ⟨j, hj, rfl, RW, GS, ZW, BB⟩ := hrel
    by_cases hlt : j < n
    · obtain ⟨v1, v2⟩ := HV.out (by omega)
      subst v2
      have i0 : (0 : Int) ≤ (j : Int) := by omega
      have i1 : (j : Int) < (n : Int) := by omega
      have q0 := HC.out wr BB.out j hlt
      have GN : Hid (∀ g, g < j + 1 → Bl (wr.alloc (.cells (gcs (X.getD j 0) 0) 99)) (w.heap.size + 1 + g) 99 (gcs (X.getD g 0) 0)) := fun g hg => (by
        by_cases e : g = j
        · subst e
          have := Bl.new wr 99 (gcs (X.getD g 0) 0)
          rw [ZW.out] at this
          exact this
        · exact (GS.out g (by omega)).on ((Below.refl _ _).alloc (Nat.le_refl _) _))
      generalize X.getD j 0 = lim at *
      obtain ⟨W, hW⟩ : ∃ W, W = wr.alloc (.cells (gcs lim 0) 99) := ⟨_, rfl⟩
      have HW : Hid (W = wr.alloc (.cells (gcs lim 0) 99)) := hW
      have RA : Hid (W.ownsRow w.heap.size 63 1 (.slice (some ⟨w.heap.size, 0, none⟩) n n) n (gmid w.heap.size n j)) := (by show World.ownsRow _ _ _ _ _ _ _; rw [hW]; exact RW.out.alloc _)
      have ZA : Hid (W.heap.size = w.heap.size + 1 + (j + 1)) := (by show _ = _; rw [hW]; simp; rw [ZW.out]; omega)
      have BA : Hid (Below w.heap.size w W) := (by show Below _ _ _; rw [hW]; exact BB.out.alloc BB.out.size _)
      have GA : Hid (∀ g, g < j + 1 → Bl W (w.heap.size + 1 + g) 99 (gcs (X.getD g 0) 0)) := (by rw [hW]; exact GN.out)
      have PV : Hid (Value.pointer (some ⟨wr.heap.size, 0, none⟩) = Value.pointer (some ⟨w.heap.size + 1 + j, 0, none⟩)) := (by show _ = _; rw [ZW.out])
      have q1 : W.cell? ⟨w.heap.size, j, none⟩ = some (.pointer none) := (RA.out.cellAt j (by omega)).trans (gmid_at _ _ _ hlt)
      have q2 : W.frozen? ⟨w.heap.size, j, none⟩ = false := RA.out.frozenAt j
      have RB : Hid ((W.setCell ⟨w.heap.size, j, none⟩ (.pointer (some ⟨wr.heap.size, 0, none⟩))).ownsRow w.heap.size 63 1 (.slice (some ⟨w.heap.size, 0, none⟩) n n) n (gmid w.heap.size n (j + 1))) := (by
        show World.ownsRow _ _ _ _ _ _ _
        rw [PV.out, ← gmid_set]
        exact (RA.out.stored j _).1)
      have ZB : Hid ((W.setCell ⟨w.heap.size, j, none⟩ (.pointer (some ⟨wr.heap.size, 0, none⟩))).heap.size = w.heap.size + 1 + (j + 1)) := (by show _ = _; simp; exact ZA.out)
      have BB2 : Hid (Below w.heap.size w (W.setCell ⟨w.heap.size, j, none⟩ (.pointer (some ⟨wr.heap.size, 0, none⟩)))) := BA.out.setCell (p := ⟨w.heap.size, j, none⟩) (Nat.le_refl _) _
      have GB : Hid (∀ g, g < j + 1 → Bl (W.setCell ⟨w.heap.size, j, none⟩ (.pointer (some ⟨wr.heap.size, 0, none⟩))) (w.heap.size + 1 + g) 99 (gcs (X.getD g 0) 0)) := fun g hg => (GA.out g hg).kb (kb_set _ _ _ _) (fun e => by have e' : w.heap.size + 1 + g = w.heap.size := e; omega)
      clear hW GN RW GS ZW BB PV
      go_wp2_with (rw [← HW.out])
      go_roundw
      case rel => exact ⟨j + 1, by omega, by go_num, RB, GB, ZB, BB2⟩
      case measure => simp [intOf]; omega
    · have ej : j = n := by omega
      subst ej
      rw [FA.out] at RW
      have i1 : ¬ (j : Int) < (j : Int) := by omega
      go_wp2_with fail
      go_ret
      exact ⟨rfl, RW.out, GS.out, ZW.out, BB.out⟩
end Go.Proofs.Ytfhpomfdkpfooaa.Ty
