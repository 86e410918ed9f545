/- The numbers by which At works, in order; what lies in memory. -/
import Derived.Test.YtknkmkhnakcjiaaAtI
namespace Go.Proofs.Ytknkmkhnakcjiaa.Gd
open Go.ChangeShapes Go.WideShapes Go.ChangeAt Go.RowKit
open Go.Proofs.Ytknkmkhnakcjiaa.Flt

theorem atIn_nat {c st i j dy dx : Int} {L : List Nat} {k k2 : Nat} (h : i * c + j = (k : Int)) (h2 : (k : Int) + c = (k2 : Int)) :
    atIn c st i j dy dx L = if kn (L.getD k 0) && (kn (L.getD (k + 1) 0) && (kn (L.getD k2 0) && kn (L.getD (k2 + 1) 0))) then
      ble (ble (cn (L.getD k 0)) (cn (L.getD (k + 1) 0)) (opF .quo (cn (fi dx)) (cn (fi st)))) (ble (cn (L.getD k2 0)) (cn (L.getD (k2 + 1) 0)) (opF .quo (cn (fi dx)) (cn (fi st)))) (opF .quo (cn (fi dy)) (cn (fi st)))
    else cn (L.getD ((if st < 2 * dy then k2 else k) + (if st < 2 * dx then 1 else 0)) 0) := by
  have t0 : ((k : Int)).toNat = k := by omega
  have t1 : ((k : Int) + 1).toNat = k + 1 := by omega
  have t2 : ((k2 : Int)).toNat = k2 := by omega
  have t3 : ((k2 : Int) + 1).toNat = k2 + 1 := by omega
  have t4 : ((k : Int) + (if st < 2 * dy then c else 0) + (if st < 2 * dx then 1 else 0)).toNat = (if st < 2 * dy then k2 else k) + (if st < 2 * dx then 1 else 0) := by
    split <;> split <;> omega
  unfold atIn
  rw [h, h2, t0, t1, t2, t3, t4]

/-- All that At asks of its numbers. -/
structure Geo (r c s ws st lat lon : Int) (n : Nat) (i j : Int) : Prop where
  r0 : 2 ≤ r ∧ r ≤ 64
  c0 : 2 ≤ c ∧ c ≤ 64
  st0 : 1 ≤ st ∧ st ≤ 3000
  s0 : -9000 ≤ s ∧ s ≤ 9000
  ws0 : -18000 ≤ ws ∧ ws ≤ 18000
  n0 : (n : Int) = r * c ∧ n ≤ 4096
  i0 : 0 ≤ i ∧ i ≤ r - 2
  j0 : 0 ≤ j ∧ j ≤ c - 2
  y0 : 0 ≤ i * st ∧ i * st ≤ lat - s ∧ lat - s ≤ i * st + st
  x0 : 0 ≤ j * st ∧ j * st ≤ lon - ws ∧ lon - ws ≤ j * st + st
  p0 : 0 ≤ i * c ∧ i * c + 2 * c ≤ (n : Int)
  q1 : 0 ≤ (r - 1) * st ∧ (r - 1) * st ≤ 189000 ∧ lat - s ≤ (r - 1) * st
  q2 : 0 ≤ (c - 1) * st ∧ (c - 1) * st ≤ 189000 ∧ lon - ws ≤ (c - 1) * st
theorem geo {r c s ws st lat lon : Int} {n : Nat} (h : okAt r c s ws st n lat lon = true) : Geo r c s ws st lat lon n (cellOf (lat - s) st r) (cellOf (lon - ws) st c) := by
  unfold okAt right at h
  simp only [Bool.and_eq_true, inn_iff, decide_eq_true_eq] at h
  obtain ⟨⟨hg, hn⟩, ⟨a1, a2⟩, b1, b2⟩ := h
  obtain ⟨h1, h2, h3, h4, h5⟩ := gok_parts hg
  have m1 := prod_le h1 h3
  have m2 := prod_le h2 h3
  have f := cell_fit (off := lat - s) h3.1 h1.1 (by omega) (by omega)
  have g := cell_fit (off := lon - ws) h3.1 h2.1 (by omega) (by omega)
  have p := row_le (r := r) h2.1 f.1 f.2.1
  have pl := prod_le2 h1 h2
  exact ⟨h1, h2, h3, h4, h5, ⟨hn, by omega⟩, ⟨f.1, f.2.1⟩, ⟨g.1, g.2.1⟩, ⟨Int.mul_nonneg f.1 (by omega), f.2.2.1, f.2.2.2⟩, ⟨Int.mul_nonneg g.1 (by omega), g.2.2.1, g.2.2.2⟩, ⟨p.1, by omega⟩, ⟨m1.1, m1.2, by omega⟩, ⟨m2.1, m2.2, by omega⟩⟩

def Gx (w : World) (b : Nat) (r c s ws st : Int) : Prop := w.cell? ⟨b, 0, none⟩ = some (.int .i64 r) ∧ w.cell? ⟨b, 1, none⟩ = some (.int .i64 c) ∧ w.cell? ⟨b, 2, none⟩ = some (.int .i64 s) ∧ w.cell? ⟨b, 3, none⟩ = some (.int .i64 ws) ∧ w.cell? ⟨b, 4, none⟩ = some (.int .i64 st)
theorem Gx.on {w w' : World} {B b : Nat} {r c s ws st : Int} (h : Gx w b r c s ws st) (hb : Below B w w') (hl : b < B) : Gx w' b r c s ws st :=
  ⟨(hb.cell (p := ⟨b, 0, none⟩) hl).trans h.1, (hb.cell (p := ⟨b, 1, none⟩) hl).trans h.2.1, (hb.cell (p := ⟨b, 2, none⟩) hl).trans h.2.2.1, (hb.cell (p := ⟨b, 3, none⟩) hl).trans h.2.2.2.1, (hb.cell (p := ⟨b, 4, none⟩) hl).trans h.2.2.2.2⟩
def V4 (w : World) (b o k k2 : Nat) (v0 v1 v2 v3 : Nat) : Prop := w.cell? ⟨b, o + k, none⟩ = some (.float .f64 v0) ∧ w.cell? ⟨b, o + (k + 1), none⟩ = some (.float .f64 v1) ∧ w.cell? ⟨b, o + k2, none⟩ = some (.float .f64 v2) ∧ w.cell? ⟨b, o + (k2 + 1), none⟩ = some (.float .f64 v3)
theorem below_drewN {B : Nat} {a w : World} (h : Below B a w) (n : Nat) : Below B a (w.drewN n) := h.trans ⟨rfl, rfl, rfl, Nat.le_refl _, fun _ _ => rfl⟩
theorem reads_at {w : World} {v : Value} {L : List Nat} (hL : Fls.Reads w v L) : ∃ b o, (∀ i, i < L.length → w.cell? ⟨b, o + i, none⟩ = some (.float .f64 (L.getD i 0))) ∧ (0 < L.length → b < w.heap.size ∧ ∃ cap, v = .slice (some ⟨b, o, none⟩) L.length cap) := by
  rcases hL with ⟨rfl, _⟩ | ⟨b, o, cap, h1, h2, h3, h4, h5⟩
  · exact ⟨0, 0, fun i hi => by simp at hi, fun hi => by simp at hi⟩
  · exact ⟨b, o, h5, fun _ => ⟨h4, cap, h1⟩⟩
end Go.Proofs.Ytknkmkhnakcjiaa.Gd
