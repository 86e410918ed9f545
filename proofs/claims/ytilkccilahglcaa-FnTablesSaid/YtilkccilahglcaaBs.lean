/- Brier: the model, the program, the law. -/
import Derived.Test.YtilkccilahglcaaBr
namespace Go.Proofs.Ytilkccilahglcaa.Br
open Go.ChangeShapes Go.WideShapes Go.ChangeAt Go.RowKit
open Go.Proofs.Ytilkccilahglcaa.Al Go.Proofs.Ytilkccilahglcaa.Su

def pen (z : Int) (h : Bool) : Int := if h then (z - 100) * (z - 100) else z * z
theorem sq_bd {z : Int} (h : -100 ≤ z ∧ z ≤ 100) : 0 ≤ z * z ∧ z * z ≤ 10000 := by
  have e : ((z.natAbs * z.natAbs : Nat) : Int) = z * z := Int.natAbs_mul_self
  have hn : z.natAbs ≤ 100 := by omega
  have hm : z.natAbs * z.natAbs ≤ 100 * 100 := Nat.mul_le_mul hn hn
  generalize z.natAbs * z.natAbs = q at *
  rw [← e]
  omega
theorem pen_bd {z : Int} (h : 0 ≤ z ∧ z ≤ 100) (b : Bool) : 0 ≤ pen z b ∧ pen z b ≤ 10000 := by
  unfold pen
  cases b
  · exact sq_bd (by omega)
  · exact sq_bd (by omega)
def bsum (L : Ls) (k : Nat) : Int := sm k fun i => pen (Pb.c0 L i) (Pb.c1 L i)
theorem sm_nn {n : Nat} {f : Nat → Int} {M : Int} (h : ∀ i, i < n → 0 ≤ f i ∧ f i ≤ M) : ∀ k, k ≤ n → 0 ≤ sm k f ∧ sm k f ≤ M * k := by
  intro k hk
  induction k with
  | zero => simp [sm]
  | succ k ih =>
    have a := ih (by omega)
    have b := h k (by omega)
    unfold sm
    have e : M * ((k + 1 : Nat) : Int) = M * (k : Int) + M := by rw [Int.natCast_add, Int.mul_add]; simp
    rw [e]
    omega
theorem bsum_bd {L : Ls} (h : ∀ j, j < L.length → 0 ≤ Pb.c0 L j ∧ Pb.c0 L j ≤ 100) (hl : L.length ≤ 1000) (k : Nat) (hk : k ≤ L.length) : 0 ≤ bsum L k ∧ bsum L k ≤ 10000000 := by
  have := sm_nn (n := L.length) (f := fun i => pen (Pb.c0 L i) (Pb.c1 L i)) (M := 10000) (fun i hi => pen_bd (h i hi) _) k hk
  unfold bsum
  omega
def bri (L : Ls) : Int := if okT L then bsum L L.length else -1

set_option maxHeartbeats 1000000 in
theorem squared_any (y : Int) (w : World) (h : IntKind.i64.wrap (y * y) = y * y) : Calls Try.prog 22 #[.int .i64 y] w fun e w' => e = .returned (.int .i64 (y * y)) ∧ w' = w := by
  go_enter Try.func22, Try.ntmps22
  go_wp2_with fail
  go_ret
  exact ⟨rfl, rfl⟩

set_option maxHeartbeats 1000000 in
theorem penalty_any (z : Int) (h : Bool) (w : World) (hz : 0 ≤ z ∧ z ≤ 100) : Calls Try.prog 17 #[.agg #[.int .i64 z, .bool h]] w fun e w' => e = .returned (.int .i64 (pen z h)) ∧ Below w.heap.size w w' := by
  have B0 : Hid (Below w.heap.size w (w.alloc (Obj.cells #[.int .i64 z, .bool h] 34))) := (Below.refl _ _).alloc (Nat.le_refl _) _
  have p1 := pen_bd hz h
  cases h
  · have ep : pen z false = z * z := rfl
    rw [ep] at p1 ⊢
    have C : Hid (∀ w, Calls Try.prog 22 #[.int .i64 z] w fun e w' => e = .returned (.int .i64 (z * z)) ∧ w' = w) := fun w => squared_any z w (IntWalk.i64_in _ (by omega))
    clear ep p1
    generalize z * z = y at *
    go_enter Try.func17, Try.ntmps17
    go_wp2_with fail
    refine (C.out _).mono ?_
    rintro e w1 ⟨rfl, hw⟩
    subst hw
    go_wp2_with fail
    go_ret
    exact ⟨rfl, B0.out⟩
  · have ep : pen z true = (z - 100) * (z - 100) := rfl
    rw [ep] at p1 ⊢
    have J0 : IntKind.i64.wrap (z - 100) = z - 100 := IntWalk.i64_in _ (by omega)
    have C : Hid (∀ w, Calls Try.prog 22 #[.int .i64 (z - 100)] w fun e w' => e = .returned (.int .i64 ((z - 100) * (z - 100))) ∧ w' = w) := fun w => squared_any (z - 100) w (IntWalk.i64_in _ (by omega))
    clear ep p1
    generalize (z - 100) * (z - 100) = y at *
    go_enter Try.func17, Try.ntmps17
    go_wp2_with fail
    refine (C.out _).mono ?_
    rintro e w1 ⟨rfl, hw⟩
    subst hw
    go_wp2_with fail
    go_ret
    exact ⟨rfl, B0.out⟩

set_option maxHeartbeats 1000000 in
theorem cl24 (b0 bl o n cap i : Nat) (z : Int) (h : Bool) (w : World) (hi : i < n)
    (q0 : w.cell? ⟨b0, 0, none⟩ = some (.slice (some ⟨bl, o, none⟩) n cap)) (q1 : w.cell? ⟨bl, o + i * 2, none⟩ = some (.int .i64 z)) (q2 : w.cell? ⟨bl, o + i * 2 + 1, none⟩ = some (.bool h)) (hz : 0 ≤ z ∧ z ≤ 100) :
    Calls Try.prog 16 #[.int .i64 (i : Int), .pointer (some ⟨b0, 0, none⟩)] w fun e w' => e = .returned (.int .i64 (pen z h)) ∧ Below w.heap.size w w' := by
  have C : Hid (∀ w, Calls Try.prog 17 #[.agg #[.int .i64 z, .bool h]] w fun e w' => e = .returned (.int .i64 (pen z h)) ∧ Below w.heap.size w w') := fun w => penalty_any z h w hz
  have i1 : (0 : Int) ≤ (i : Int) := by omega
  have i2 : (i : Int) < (n : Int) := by omega
  generalize pen z h = r at *
  go_enter Try.func16, Try.ntmps16
  go_wp2_with fail
  refine (C.out _).mono ?_
  rintro e w1 ⟨rfl, hb⟩
  have B1 : Hid (Below w.heap.size w w1) := hb
  clear hb
  go_wp2_with fail
  go_ret
  exact ⟨rfl, B1.out⟩

set_option maxHeartbeats 1000000 in
theorem ibrier_any (L : Ls) (v : Value) (w : World) (hL : Pb.Reads w v L) :
    Calls Try.prog 9 #[v] w fun e w' => e = .returned (.int .i64 (bri L)) ∧ Below w.heap.size w w' := by
  have hf := hL.fits
  obtain ⟨W, hW⟩ : ∃ W, W = w.alloc (Obj.cells #[v] 24) := ⟨_, rfl⟩
  have HW : Hid (W = w.alloc (Obj.cells #[v] 24)) := hW
  have B0 : Below w.heap.size w W := (by rw [hW]; exact (Below.refl _ _).alloc (Nat.le_refl _) _)
  have zW : W.heap.size = w.heap.size + 1 := by rw [hW]; simp
  have d0 : W.cell? ⟨w.heap.size, 0, none⟩ = some v := by rw [hW]; simp [go_sem]
  have HB : Hid (Below w.heap.size w W) := B0
  have C : Hid (Calls Try.prog 13 #[v] W fun e w' => e = .returned (.bool (okT L)) ∧ Below W.heap.size W w') := iok_any L v W (hL.on B0)
  have D : Hid (∀ w', Below W.heap.size W w' → w'.cell? ⟨w.heap.size, 0, none⟩ = some v) := fun w' hb => (hb.cell (p := ⟨w.heap.size, 0, none⟩) (by show w.heap.size < _; omega)).trans d0
  have S : Hid (okT L = true → ∀ w', Below W.heap.size W w' → Calls Try.prog 15 #[.int .i64 (L.length : Int), .func (.func 16) #[] #[.pointer (some ⟨w.heap.size, 0, none⟩)]] w' fun e w'' => e = .returned (.int .i64 (bsum L L.length)) ∧ Below W.heap.size W w'') := fun ho w' hb => by
    have r := (okT_iff L).mp ho
    refine summed24 (fun y => Below W.heap.size W y) L.length _ (fun i => pen (Pb.c0 L i) (Pb.c1 L i)) w' hb (by omega) (fun i hi x hx => ?_) (fun j hj => ?_)
    · obtain ⟨b, o, hcell, hvv⟩ := reads_at (hL.on B0)
      obtain ⟨hbl, cap, e⟩ := hvv (by omega)
      obtain ⟨q0, q1⟩ := (hcell i hi).below hx hbl
      refine (cl24 w.heap.size b o L.length cap i _ _ x hi (by rw [← e]; exact D.out x hx) q0 q1 (r.2 i hi)).mono ?_
      rintro e x' ⟨rfl, h⟩
      exact ⟨rfl, hx.trans (h.mono hx.size)⟩
    · have := bsum_bd r.2 r.1 j hj
      unfold bsum at this
      omega
  obtain ⟨a, cap, rfl⟩ := hL.form
  unfold bri
  clear hL hW B0 zW hf
  generalize bsum L L.length = t at *
  generalize L.length = n at *
  cases ho : okT L
  · rw [ho] at C
    have e0 : (if false = true then t else (-1 : Int)) = -1 := rfl
    rw [e0]
    clear ho e0 S
    go_enter Try.func9, Try.ntmps9
    go_wp2_with fail
    rw [← HW.out]
    go_wp2_with fail
    refine C.out.mono ?_
    rintro e w1 ⟨rfl, hb⟩
    have B1 : Hid (Below w.heap.size w w1) := HB.out.trans (hb.mono HB.out.size)
    clear hb
    go_wp2_with fail
    go_ret
    exact ⟨rfl, B1.out⟩
  · rw [ho] at C
    have e0 : (if true = true then t else (-1 : Int)) = t := rfl
    rw [e0]
    have K : Hid (∀ w', Below W.heap.size W w' → Calls Try.prog 15 #[.int .i64 (n : Int), .func (.func 16) #[] #[.pointer (some ⟨w.heap.size, 0, none⟩)]] w' fun e w'' => e = .returned (.int .i64 t) ∧ Below W.heap.size W w'') := S.out ho
    clear ho e0 S
    go_enter Try.func9, Try.ntmps9
    go_wp2_with fail
    rw [← HW.out]
    go_wp2_with fail
    refine C.out.mono ?_
    rintro e w1 ⟨rfl, hb⟩
    have d1 := D.out w1 hb
    have BB : Hid (Below W.heap.size W w1) := hb
    clear hb d0
    go_wp2_with fail
    refine (K.out w1 BB.out).mono ?_
    rintro e w2 ⟨rfl, hb⟩
    have B2 : Hid (Below w.heap.size w w2) := HB.out.trans (hb.mono HB.out.size)
    clear hb
    go_wp2_with fail
    go_ret
    exact ⟨rfl, B2.out⟩

end Go.Proofs.Ytilkccilahglcaa.Br
