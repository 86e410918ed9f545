/- The first read of each station and time: the program's map. -/
import Derived.Test.YtkgciiabehlpfaaBiM
import Derived.Test.YtkgciiabehlpfaaBiK
namespace Go.Proofs.Ytkgciiabehlpfaa.Bi
open Go.ChangeShapes Go.WideShapes Go.ChangeAt Go.RowKit
attribute [local go_sem] Rd.run_store_float

set_option maxHeartbeats 400000 in
theorem spot_any (s t : Int) (x : Nat) (w : World) : Calls Try.prog 27 #[.agg #[.int .i64 s, .int .i64 t, .float .f64 x]] w fun e w' => e = .returned (sp s t) ∧ Below w.heap.size w w' := by
  go_enter Try.func27, Try.ntmps27
  go_wp2
  refine bodyPost_ret (v := sp s t) (by simp [results, Try.results27, go_sem]) rfl ⟨rfl, ?_⟩
  exact ((Below.refl _ _).alloc (Nat.le_refl _) _).alloc (by simp) _

theorem below_drewN {B : Nat} {a w : World} (h : Below B a w) (n : Nat) : Below B a (w.drewN n) := h.trans ⟨rfl, rfl, rfl, Nat.le_refl _, fun _ _ => rfl⟩
def Oks (L : Rd.Ls) : Prop := ∀ i, i < L.length → ok (Rd.c0 L i) ∧ ok (Rd.c1 L i) ∧ Rd.c2 L i < 18446744073709551616

set_option maxHeartbeats 1000000 in
theorem first_any (w : World) (v : Value) (L : Rd.Ls) (h : Rd.Reads w v L) (hl : L.length ≤ 300) (hk : Oks L) :
    Calls Try.prog 26 #[v] w fun e w' => e = .returned (.map (some w.heap.size)) ∧ FM w' w.heap.size 300 L ∧ Below w.heap.size w w' := by
  have HF := h.fits
  have hcell : ∃ b o, (∀ i, i < L.length → Rd.Cs w b o L i) ∧ (0 < L.length → b < w.heap.size ∧ ∃ cap, v = .slice (some ⟨b, o, none⟩) L.length cap) := by
    rcases h with ⟨rfl, _⟩ | ⟨b, o, cap, h1, h2, h3, h4, h5⟩
    · exact ⟨0, 0, fun i hi => by simp at hi, fun hi => by simp at hi⟩
    · exact ⟨b, o, h5, fun _ => ⟨h4, cap, h1⟩⟩
  obtain ⟨b, o, hc, hv⟩ := hcell
  obtain ⟨a, cap, rfl⟩ := h.form
  have HC : Hid (∀ i, i < L.length → Rd.Cs w b o L i) := hc
  have HK : Hid (Oks L) := hk
  have HV : Hid (0 < L.length → b < w.heap.size ∧ a = some ⟨b, o, none⟩) := fun hi => by
    obtain ⟨h1, c, h2⟩ := hv hi
    simp at h2
    exact ⟨h1, h2.1⟩
  obtain ⟨n, hn⟩ : ∃ n, n = L.length := ⟨_, rfl⟩
  rw [← hn] at hl HF ⊢
  have HN : Hid (n = L.length) := hn
  have M0 : Hid (FM (w.alloc (.map #[] 0)) w.heap.size 0 (L.take 0)) := FM.made w
  have B0 : Hid (Below w.heap.size w (w.alloc (.map #[] 0))) := (Below.refl _ _).alloc (Nat.le_refl _) _
  have hmm := @run_makeMap Try.prog
  clear h hc hv hn hk
  go_enter Try.func26, Try.ntmps26
  go_wp2_with fail
  go_loopw [11] (fun i wr => ∃ k : Nat, k ≤ n ∧ i = .int .i64 k ∧ Hid (FM wr w.heap.size k (L.take k)) ∧ Hid (Below w.heap.size w wr)) (fun i _ => n - (intOf i).toNat)
  case atStart => exact ⟨0, Nat.zero_le _, rfl, M0, B0⟩
  case round =>
    obtain ⟨k, hk, rfl, M, BB⟩ := hrel
    by_cases hlt : k < n
    · have hkl : k < L.length := by have := HN.out; omega
      obtain ⟨hb, hx⟩ := HV.out (by omega)
      subst hx
      obtain ⟨q0, q1, q2⟩ : Rd.Cs wr b o L k := (HC.out k hkl).below BB.out hb
      obtain ⟨k0, k1, k2⟩ := HK.out k hkl
      have K0 : Hid (ok (Rd.c0 L k)) := k0
      have K1 : Hid (ok (Rd.c1 L k)) := k1
      have TK : Hid (L.take (k + 1) = L.take k ++ [(Rd.c0 L k, Rd.c1 L k, Rd.c2 L k)]) := (by
        show _ = _
        have e : (Rd.c0 L k, Rd.c1 L k, Rd.c2 L k) = L[k] := by simp [Rd.c0, Rd.c1, Rd.c2, List.getD_eq_getElem?_getD, hkl]
        rw [List.take_succ_eq_append_getElem hkl, e])
      have i1 : (0 : Int) ≤ (k : Int) := by omega
      have i2 : (k : Int) < (n : Int) := by omega
      have zr := BB.out.size
      have zm := M.out.lt
      clear k0 k1 k2
      generalize Rd.c0 L k = x0 at *
      generalize Rd.c1 L k = x1 at *
      generalize Rd.c2 L k = x2 at *
      generalize L.take k = T at *
      go_wp2_with fail
      refine (spot_any _ _ _ _).mono ?_
      rintro e w1 ⟨rfl, hb1⟩
      have z1 := hb1.size
      simp at z1
      have M1 : Hid (FM w1 w.heap.size k T) := (M.out.alloc _).on hb1 (by simp; omega)
      have B1 : Hid (Below w.heap.size w w1) := (BB.out.alloc BB.out.size _).trans (hb1.mono (by simp; omega))
      have e0 : w1.cell? ⟨wr.heap.size, 0, none⟩ = some (.int .i64 x0) := (hb1.cell (p := ⟨wr.heap.size, 0, none⟩) (by simp)).trans (by simp [go_sem])
      have e1 : w1.cell? ⟨wr.heap.size, 1, none⟩ = some (.int .i64 x1) := (hb1.cell (p := ⟨wr.heap.size, 1, none⟩) (by simp)).trans (by simp [go_sem])
      have e2 : w1.cell? ⟨wr.heap.size, 2, none⟩ = some (.float .f64 x2) := (hb1.cell (p := ⟨wr.heap.size, 2, none⟩) (by simp)).trans (by simp [go_sem])
      have hlk := M1.out.look x0 x1 K0.out K1.out
      clear hb1 M BB q0 q1 q2
      cases hf : fst T x0 x1 with
      | some y =>
        rw [hf] at hlk
        have hlk' : (Instr.lookup 53 (.map (some w.heap.size)) (sp x0 x1) true).run Try.prog w1 = .ok (.tuple #[.float .f64 y, .bool true]) w1 := hlk
        have M2 : Hid (FM w1 w.heap.size (k + 1) (L.take (k + 1))) := (by show FM _ _ _ _; rw [TK.out]; exact (M1.out.skip x0 x1 x2 (by rw [hf]; simp)).mono (Nat.le_succ _))
        clear hlk hf TK M1
        go_wp2_with fail
        go_roundw
        case rel => exact ⟨k + 1, by omega, by go_num, M2, B1⟩
        case measure => simp [intOf]; omega
      | none =>
        rw [hf] at hlk
        have hlk' : (Instr.lookup 53 (.map (some w.heap.size)) (sp x0 x1) true).run Try.prog w1 = .ok (.tuple #[.float .f64 0, .bool false]) w1 := hlk
        have HFN : Hid (fst T x0 x1 = none) := hf
        clear hlk hf
        go_wp2_with fail
        go_region_held3 (fun w' => w'.cell? ⟨wr.heap.size, 0, none⟩ = some (.int .i64 x0) ∧ w'.cell? ⟨wr.heap.size, 1, none⟩ = some (.int .i64 x1) ∧ w'.cell? ⟨wr.heap.size, 2, none⟩ = some (.float .f64 x2)) (go_keep)
          (first
          | (go_at_call 27; refine (spot_any _ _ _ _).mono ?_; rintro e w2 ⟨rfl, hb2⟩; have z2 : w1.heap.size ≤ w2.heap.size := hb2.size; have g0 := (hb2.cell (p := ⟨wr.heap.size, 0, none⟩) (by show wr.heap.size < w1.heap.size; omega)).trans e0; have g1 := (hb2.cell (p := ⟨wr.heap.size, 1, none⟩) (by show wr.heap.size < w1.heap.size; omega)).trans e1; have g2 := (hb2.cell (p := ⟨wr.heap.size, 2, none⟩) (by show wr.heap.size < w1.heap.size; omega)).trans e2; have M2 : FM w2 w.heap.size k T := FM.on (w := w1.drew) M1.out hb2 (by show w.heap.size < w1.heap.size; omega); obtain ⟨w3, hst, M3, hg3⟩ := M2.store (by unfold maxLen; omega) x0 x1 x2 K0.out K1.out HFN.out; have h0 := hg3.cell g0 (by simp; omega); have h1 := hg3.cell g1 (by simp; omega); have h2 := hg3.cell g2 (by simp; omega); have B3 : Hid (Below w.heap.size w w3) := ((below_drewN B1.out 1).trans (hb2.mono (by show w.heap.size ≤ w1.heap.size; omega))).grown hg3 (by omega) (fun j hj => by cases hj; exact Nat.le_refl _); have M4 : Hid (FM w3 w.heap.size (k + 1) (L.take (k + 1))) := (by show FM _ _ _ _; rw [TK.out]; exact M3); clear M2 M3 hb2 hg3))
        go_wp2_with fail
        go_roundw
        case rel => exact ⟨k + 1, by omega, by go_num, M4, B3⟩
        case measure => simp [intOf]; omega
    · have hkn : k = n := by omega
      subst hkn
      have ME : Hid (FM wr w.heap.size 300 L) := (by
        have e : L.take k = L := List.take_of_length_le (by rw [← HN.out]; exact Nat.le_refl _)
        have := M.out
        rw [e] at this
        exact this.mono hl)
      clear M
      go_wp2_with fail
      go_ret
      exact ⟨rfl, ME.out, BB.out⟩
end Go.Proofs.Ytkgciiabehlpfaa.Bi
