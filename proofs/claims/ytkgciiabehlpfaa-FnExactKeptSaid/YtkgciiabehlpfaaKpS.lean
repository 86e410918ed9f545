/- What is kept: the model. -/
import Derived.Test.YtkgciiabehlpfaaKpP
namespace Go.Proofs.Ytkgciiabehlpfaa.Kp
open Go.ChangeShapes Go.WideShapes Go.ChangeAt Go.RowKit
attribute [local go_sem] Jd.run_store_float

theorem cell_three (w : World) (x y z : Value) (t : TypeId) : ∀ j u, [x, y, z][j]? = some u → (w.alloc (Obj.cells #[x, y, z] t)).cell? ((⟨w.heap.size, 0, none⟩ : Addr).add j) = some u := by
  intro j u hj
  match j, hj with
  | 0, hj => simp at hj; subst hj; simp [Addr.add]
  | 1, hj => simp at hj; subst hj; simp [Addr.add]
  | 2, hj => simp at hj; subst hj; simp [Addr.add]
theorem below_drewN {B : Nat} {a w : World} (h : Below B a w) (n : Nat) : Below B a (w.drewN n) := h.trans ⟨rfl, rfl, rfl, Nat.le_refl _, fun _ _ => rfl⟩

set_option maxHeartbeats 1000000 in
theorem skept_long (w : World) (v : Value) (L : Jd.Ls) (h : Jd.Reads w v L) (hl : L.length ≤ 300) :
    Calls Try.prog 6 #[v] w fun e w' => ∃ v', e = .returned v' ∧ Rd.Row w' w.heap.size v' (kp L L.length) ∧ Below w.heap.size w w' := by
  have HF := h.fits
  have hcell : ∃ b o, (∀ i, i < L.length → Jd.Cs w b o L i) ∧ (0 < L.length → b < w.heap.size ∧ ∃ cap, v = .slice (some ⟨b, o, none⟩) L.length cap) := by
    rcases h with ⟨rfl, _⟩ | ⟨b, o, cap, h1, h2, h3, h4, h5⟩
    · exact ⟨0, 0, fun i hi => by simp at hi, fun hi => by simp at hi⟩
    · exact ⟨b, o, h5, fun _ => ⟨h4, cap, h1⟩⟩
  obtain ⟨b, o, hc, hv⟩ := hcell
  obtain ⟨a, cap, rfl⟩ := h.form
  have HC : Hid (∀ i, i < L.length → Jd.Cs w b o L i) := hc
  have HV : Hid (0 < L.length → b < w.heap.size ∧ a = some ⟨b, o, none⟩) := fun hi => by
    obtain ⟨h1, c, h2⟩ := hv hi
    simp at h2
    exact ⟨h1, h2.1⟩
  obtain ⟨i0, hi, hz0, hz1, hz2⟩ := info_parts Rd.Try.infoE
  obtain ⟨n, hn⟩ : ∃ n, n = L.length := ⟨_, rfl⟩
  rw [← hn] at hl HF ⊢
  have HN : Hid (n = L.length) := hn
  have R0 : Hid (Rd.Row (w.alloc (Obj.cells #[] 44)) w.heap.size (.slice (some ⟨w.heap.size, 0, none⟩) 0 0) (kp L 0)) := ⟨[], World.ownsRow_lit w #[] 0 (Nat.le_refl _) (Nat.zero_le _) rfl, fun i hi => absurd hi (by simp [kp])⟩
  have B0 : Hid (Below w.heap.size w (w.alloc (Obj.cells #[] 44))) := (Below.refl _ _).alloc (Nat.le_refl _) _
  clear h hc hv hn
  go_enter Try.func6, Try.ntmps6
  go_wp2_with fail
  go_loopw [3, 4] (fun v i wr => ∃ k : Nat, k ≤ n ∧ i = .int .i64 k ∧ Hid (Rd.Row wr w.heap.size v (kp L k)) ∧ Hid (Below w.heap.size w wr)) (fun _ i _ => n - (intOf i).toNat)
  case atStart => exact ⟨0, Nat.zero_le _, rfl, R0, B0⟩
  case round =>
    obtain ⟨k, hk, rfl, R, BB⟩ := hrel
    have KL := kp_le L k
    have KA : Hid (Jd.c3 L k = 0 → kp L (k + 1) = kp L k ++ [(Jd.c0 L k, Jd.c1 L k, Jd.c2 L k)]) := fun h => by show kp L (k + 1) = _; unfold kp; rw [if_pos h]; cases k <;> rfl
    have KB : Hid (Jd.c3 L k ≠ 0 → kp L (k + 1) = kp L k) := fun h => by show kp L (k + 1) = _; rw [kp]; rw [if_neg h]
    have j0 : (n : Int) ≤ 300 := by omega
    obtain ⟨sa, sc, hv⟩ := R.out.form
    subst hv
    by_cases hlt : k < n
    · obtain ⟨hb, hx⟩ := HV.out (by have := HN.out; omega)
      subst hx
      obtain ⟨q0, q1, q2, q3⟩ : Jd.Cs wr b o L k := (HC.out k (by have := HN.out; omega)).below BB.out hb
      have i1 : (0 : Int) ≤ (k : Int) := by omega
      have i2 : (k : Int) < (n : Int) := by omega
      have HVV : ∀ gb, (Value.slice sa (kp L k).length sc).ownBlock = some gb → w.heap.size ≤ gb := fun gb h => (R.out.lt gb h).1
      obtain ⟨xs, O, G⟩ := R.out
      have O' : Hid (wr.ownsRow w.heap.size 44 3 (.slice sa (kp L k).length sc) (kp L k).length xs) := O
      have G' : Hid (Rd.Good xs (kp L k) (kp L k).length) := G
      generalize hx0 : Jd.c0 L k = x0 at *
      generalize hx1 : Jd.c1 L k = x1 at *
      generalize hx2 : Jd.c2 L k = x2 at *
      generalize hx3 : Jd.c3 L k = x3 at *
      clear O G R
      by_cases hz : x3 = 0
      · have KN : Hid (kp L (k + 1) = kp L k ++ [(x0, x1, x2)]) := KA.out hz
        subst hz
        generalize kp L k = C at *
        clear hx0 hx1 hx2 hx3 KA KB
        go_wp2_with fail
        have zr := BB.out.size
        go_region_held_law (fun w' => w'.cell? ⟨b, o + k * 4, none⟩ = some (.int .i64 x0) ∧ w'.cell? ⟨b, o + k * 4 + 1, none⟩ = some (.int .i64 x1) ∧ w'.cell? ⟨b, o + k * 4 + 2, none⟩ = some (.float .f64 x2)) (first | go_keep | (go_split_ands; refine ⟨?_, ?_, ?_⟩ <;> (rw [hgrow.cell_far _ (by simp; omega) (fun h => by have := HVV _ h.symm; simp at this; omega)]; assumption))) ((refine step_append_lies _ (by rfl) _ _ 24 (by rfl) w.heap.size 44 i0 (.agg #[.int .i64 0, .int .i64 0, .float .f64 0]) 3 24 Try.underlying24 hi hz0 hz1 hz2 rfl (by decide) _ _ _ (by rfl) (O'.out.alloc _) ⟨wr.heap.size, 0, none⟩ 1 1 [.int .i64 x0, .int .i64 x1, .float .f64 x2] (by rfl) rfl (cell_three wr (.int .i64 x0) (.int .i64 x1) (.float .f64 x2) 44) (by intro u hu; simp at hu; rcases hu with rfl | rfl | rfl <;> rfl) (by decide) (by unfold maxLen; omega) (by omega) (by simp; omega) (wr.heap.size + 1) (by simp) ?_; intro g2 cap3 w2 hown hgrow hat hlt2))
        have R2 : Hid (Rd.Row w2 w.heap.size (.slice (some ⟨g2, 0, none⟩) (C.length + 1) cap3) (kp L (k + 1))) := (by
          show Rd.Row _ _ _ _
          rw [KN.out]
          exact ⟨_, by simpa using hown, good_snoc G'.out (by exact O'.out.1)⟩)
        have B2 : Hid (Below w.heap.size w w2) := (below_drewN (BB.out.alloc BB.out.size _) 1).grown hgrow (by simp; omega) (fun b hb => (O'.out.lt b hb).1)
        clear hown hgrow hat O' G' BB HVV
        go_wp2_with fail
        go_roundw
        case rel => exact ⟨k + 1, by omega, by go_num, R2, B2⟩
        case measure => simp [intOf]; omega
      · have KN : Hid (kp L (k + 1) = kp L k) := KB.out hz
        clear hx0 hx1 hx2 hx3 KA KB
        go_wp2_with fail
        go_roundw
        case rel => exact ⟨k + 1, by omega, by go_num, by show Hid (Rd.Row _ _ _ _); rw [KN.out]; exact ⟨xs, O'.out, G'.out⟩, BB⟩
        case measure => simp [intOf]; omega
    · have hkn : k = n := by omega
      subst hkn
      go_wp2_with fail
      go_ret
      exact ⟨_, rfl, R.out, BB.out⟩

set_option maxHeartbeats 1000000 in
theorem skept_short (a : Option Addr) (n cap : Nat) (w : World) (hl : 300 < n) (hn : n < 9223372036854775808) :
    Calls Try.prog 6 #[.slice a n cap] w fun e w' => ∃ v', e = .returned v' ∧ Rd.Row w' w.heap.size v' [] ∧ Below w.heap.size w w' := by
  have R0 : Hid (Rd.Row (w.alloc (Obj.cells #[] 44)) w.heap.size (.slice (some ⟨w.heap.size, 0, none⟩) 0 0) []) := ⟨[], World.ownsRow_lit w #[] 0 (Nat.le_refl _) (Nat.zero_le _) rfl, fun i hi => absurd hi (by simp)⟩
  have B0 : Hid (Below w.heap.size w (w.alloc (Obj.cells #[] 44))) := (Below.refl _ _).alloc (Nat.le_refl _) _
  have i1 : ¬ (n : Int) ≤ 300 := by omega
  have i2 : (0 : Int) < (n : Int) := by omega
  go_enter Try.func6, Try.ntmps6
  go_wp2_with fail
  go_loop [3, 4] (fun v i => v = .slice (some ⟨w.heap.size, 0, none⟩) 0 0 ∧ i = .int .i64 0) (fun _ _ => 0)
  case atStart => exact ⟨rfl, rfl⟩
  case round =>
    obtain ⟨rfl, rfl⟩ := hrel
    go_wp2_with fail
    go_ret
    exact ⟨_, rfl, R0.out, B0.out⟩
theorem skept_any (w : World) (v : Value) (L : Jd.Ls) (h : Jd.Reads w v L) : Calls Try.prog 6 #[v] w fun e w' => ∃ v', e = .returned v' ∧ Rd.Row w' w.heap.size v' (kept L) ∧ Below w.heap.size w w' := by
  unfold kept
  by_cases hl : L.length ≤ 300
  · rw [if_pos hl]; exact skept_long w v L h hl
  · rw [if_neg hl]
    have hf := h.fits
    obtain ⟨a, cap, rfl⟩ := h.form
    exact skept_short a L.length cap w (by omega) hf
end Go.Proofs.Ytkgciiabehlpfaa.Kp
