/- Rings: the sums: the model and the program; both laws with their answers. -/
import Derived.Test.YtfanoegokiodoaaRi
import Derived.Test.YtfanoegokiodoaaRs
import Derived.Test.YtfanoegokiodoaaRkL
import Derived.Test.YtfanoegokiodoaaMoL
namespace Go.Proofs.Ytfanoegokiodoaa.Rg
open Go.ChangeShapes Go.WideShapes Go.ChangeAt Go.RowKit
open Go.Proofs.Ytfanoegokiodoaa.Lists Go.Proofs.Ytfanoegokiodoaa.Al

theorem ringAll (w : World) (v : Value) (L : List Int) (hL : Lists.Reads w v L) (hf : L.length < 9223372036854775808) (u : Value) (M : List Int) (hM : Lists.Reads w u M) (hg : M.length < 9223372036854775808) :
    Calls Try.prog 3 #[sv v u] w fun e w' => e = .returned (.bool true) ∧ Below w.heap.size w w' :=
  lawRkL L M v u w hL hM hf hg (okR L M) (fun w v u h h' => sring_any L M v u w h h' hf) (fun w v u h h' => iring_any L M v u w h h' hf hg)

def sumR (L M X : List Int) : Int := if okR L M then tot X X.length else 0

set_option maxHeartbeats 1000000 in
theorem imoment_any (L M : List Int) (v u : Value) (w : World) (hL : Lists.Reads w v L) (hM : Lists.Reads w u M) (hf : L.length < 9223372036854775808) (hg : M.length < 9223372036854775808) :
    Calls Try.prog 11 #[sv v u] w fun e w' => e = .returned (.tuple #[.int .i64 (sumR L M L), .int .i64 (sumR L M M)]) ∧ Below w.heap.size w w' := by
  obtain ⟨W, hW⟩ : ∃ W, W = w.alloc (Obj.cells #[v, u] 27) := ⟨_, rfl⟩
  have B0 : Below w.heap.size w W := (by rw [hW]; exact (Below.refl _ _).alloc (Nat.le_refl _) _)
  have zW : W.heap.size = w.heap.size + 1 := by rw [hW]; simp
  have d0 : W.cell? ⟨w.heap.size, 0, none⟩ = some v := by rw [hW]; simp [go_sem]
  have d1 : W.cell? ⟨w.heap.size, 1, none⟩ = some u := by rw [hW]; simp [go_sem]
  have C1 : Hid (Calls Try.prog 8 #[sv v u] W fun e w' => e = .returned (.bool (okR L M)) ∧ Below W.heap.size W w') := iring_any L M v u W (hL.on B0) (hM.on B0) hf hg
  have C2 : Hid (right L M → ∀ w', Below W.heap.size W w' → Calls Try.prog 18 #[v] w' fun e w'' => e = .returned (.int .i64 (tot L L.length)) ∧ w'' = w') := fun r w' hb => total_any L v w' ((hL.on B0).on hb) r.2.1 fun j hj => (r.2.2.2.1 j hj).1
  have C3 : Hid (right L M → ∀ w', Below W.heap.size W w' → Calls Try.prog 18 #[u] w' fun e w'' => e = .returned (.int .i64 (tot M M.length)) ∧ w'' = w') := fun r w' hb => total_any M u w' ((hM.on B0).on hb) (by have := r.2.1; have := r.2.2.1; omega) fun j hj => (by have := r.2.2.2.1 j (by have := r.2.2.1; omega); omega)
  have HB : Hid (Below w.heap.size w W) := B0
  have D : Hid (∀ w', Below W.heap.size W w' → w'.cell? ⟨w.heap.size, 0, none⟩ = some v ∧ w'.cell? ⟨w.heap.size, 1, none⟩ = some u) := fun w' hb => ⟨(hb.cell (p := ⟨w.heap.size, 0, none⟩) (by show w.heap.size < _; omega)).trans d0, (hb.cell (p := ⟨w.heap.size, 1, none⟩) (by show w.heap.size < _; omega)).trans d1⟩
  have HW : Hid (W = w.alloc (Obj.cells #[v, u] 27)) := hW
  obtain ⟨a, cap, rfl⟩ := hL.form
  obtain ⟨a', cap', rfl⟩ := hM.form
  unfold sumR
  generalize tot L L.length = t0 at *
  generalize tot M M.length = t1 at *
  clear hL hM hf hg
  generalize L.length = n at *
  generalize M.length = n' at *
  clear hW B0 zW
  cases ho : okR L M
  · rw [ho] at C1
    have e0 : (if false = true then t0 else (0 : Int)) = 0 := rfl
    have e1 : (if false = true then t1 else (0 : Int)) = 0 := rfl
    rw [e0, e1]
    clear e0 e1 ho C2 C3
    go_enter Try.func11, Try.ntmps11
    go_wp2_with fail
    rw [← HW.out]
    go_wp2_with fail
    refine C1.out.mono ?_
    rintro e w1 ⟨rfl, hb⟩
    have B1 : Hid (Below w.heap.size w w1) := HB.out.trans (hb.mono HB.out.size)
    clear hb
    go_wp2_with fail
    exact bodyPost_ret (v := .tuple #[.int .i64 0, .int .i64 0]) (by simp [results, Try.results11, go_sem]) rfl ⟨rfl, B1.out⟩
  · have r := (okR_iff L M).mp ho
    rw [ho] at C1
    have e0 : (if true = true then t0 else (0 : Int)) = t0 := rfl
    have e1 : (if true = true then t1 else (0 : Int)) = t1 := rfl
    rw [e0, e1]
    have K2 : Hid (∀ w', Below W.heap.size W w' → Calls Try.prog 18 #[.slice a n cap] w' fun e w'' => e = .returned (.int .i64 t0) ∧ w'' = w') := C2.out r
    have K3 : Hid (∀ w', Below W.heap.size W w' → Calls Try.prog 18 #[.slice a' n' cap'] w' fun e w'' => e = .returned (.int .i64 t1) ∧ w'' = w') := C3.out r
    clear e0 e1 ho C2 C3 r
    go_enter Try.func11, Try.ntmps11
    go_wp2_with fail
    rw [← HW.out]
    go_wp2_with fail
    refine C1.out.mono ?_
    rintro e w1 ⟨rfl, hb⟩
    have B1 : Hid (Below w.heap.size w w1) := HB.out.trans (hb.mono HB.out.size)
    have BB : Hid (Below W.heap.size W w1) := hb
    clear d0 d1
    obtain ⟨d0, d1⟩ := D.out w1 hb
    clear hb
    go_wp2_with fail
    go_quiet (first | (go_at_call_of 18 (Value.slice a n cap); exact Calls.quiet_of_same (K2.out _ (below_drewN BB.out _))) | (go_at_call_of 18 (Value.slice a' n' cap'); exact Calls.quiet_of_same (K3.out _ (below_drewN BB.out _))))
    go_wp2_with fail
    exact bodyPost_ret (v := .tuple #[.int .i64 t0, .int .i64 t1]) (by simp [results, Try.results11, go_sem]) rfl ⟨rfl, below_drewN B1.out _⟩

set_option maxHeartbeats 1000000 in
theorem smoment_any (L M : List Int) (v u : Value) (w : World) (hL : Lists.Reads w v L) (hM : Lists.Reads w u M) (hf : L.length < 9223372036854775808) :
    Calls Try.prog 10 #[sv v u] w fun e w' => e = .returned (.tuple #[.int .i64 (sumR L M L), .int .i64 (sumR L M M)]) ∧ Below w.heap.size w w' := by
  obtain ⟨W, hW⟩ : ∃ W, W = w.alloc (Obj.cells #[v, u] 27) := ⟨_, rfl⟩
  have B0 : Below w.heap.size w W := (by rw [hW]; exact (Below.refl _ _).alloc (Nat.le_refl _) _)
  have zW : W.heap.size = w.heap.size + 1 := by rw [hW]; simp
  have d0 : W.cell? ⟨w.heap.size, 0, none⟩ = some v := by rw [hW]; simp [go_sem]
  have d1 : W.cell? ⟨w.heap.size, 1, none⟩ = some u := by rw [hW]; simp [go_sem]
  have C1 : Hid (∀ w', Below W.heap.size W w' → Calls Try.prog 6 #[sv v u] w' fun e w'' => e = .returned (.bool (okR L M)) ∧ Below W.heap.size W w'') := fun w' hb => by
    refine (sring_any L M v u w' ((hL.on B0).on hb) ((hM.on B0).on hb) hf).mono ?_
    rintro e w'' ⟨rfl, h⟩
    exact ⟨rfl, hb.trans (h.mono hb.size)⟩
  have HB : Hid (Below w.heap.size w W) := B0
  have D : Hid (∀ w', Below W.heap.size W w' → w'.cell? ⟨w.heap.size, 0, none⟩ = some v ∧ w'.cell? ⟨w.heap.size, 1, none⟩ = some u) := fun w' hb => ⟨(hb.cell (p := ⟨w.heap.size, 0, none⟩) (by show w.heap.size < _; omega)).trans d0, (hb.cell (p := ⟨w.heap.size, 1, none⟩) (by show w.heap.size < _; omega)).trans d1⟩
  obtain ⟨b, o, hcell, hvv⟩ := reads_at (hL.on B0)
  obtain ⟨b', o', hcell', hvv'⟩ := reads_at (hM.on B0)
  obtain ⟨a, cap, rfl⟩ := hL.form
  obtain ⟨a', cap', rfl⟩ := hM.form
  have HW : Hid (W = w.alloc (Obj.cells #[.slice a L.length cap, .slice a' M.length cap'] 27)) := hW
  have HA : Hid (0 < L.length → b < W.heap.size ∧ a = some ⟨b, o, none⟩) := fun hi => by
    obtain ⟨h1, c, h2⟩ := hvv hi
    simp at h2
    exact ⟨h1, h2.1⟩
  have HA' : Hid (0 < M.length → b' < W.heap.size ∧ a' = some ⟨b', o', none⟩) := fun hi => by
    obtain ⟨h1, c, h2⟩ := hvv' hi
    simp at h2
    exact ⟨h1, h2.1⟩
  have HC : Hid (∀ w', Below W.heap.size W w' → ∀ i, i < L.length → w'.cell? ⟨b, o + i, none⟩ = some (.int .i64 (L.getD i 0))) := fun w' hb i hi => by
    rw [hb.cell (p := ⟨b, o + i, none⟩) (HA.out (by omega)).1]
    exact hcell i hi
  have HC' : Hid (∀ w', Below W.heap.size W w' → ∀ i, i < M.length → w'.cell? ⟨b', o' + i, none⟩ = some (.int .i64 (M.getD i 0))) := fun w' hb i hi => by
    rw [hb.cell (p := ⟨b', o' + i, none⟩) (HA'.out (by omega)).1]
    exact hcell' i hi
  clear hL hM hcell hvv hcell' hvv' hW B0 zW d0 d1
  cases ho : okR L M
  · have E : Hid (sumR L M L = 0 ∧ sumR L M M = 0) := (by show _ ∧ _; unfold sumR; rw [ho]; exact ⟨rfl, rfl⟩)
    rw [E.out.1, E.out.2]
    rw [ho] at C1
    obtain ⟨d0, d1⟩ := D.out W (Below.refl _ _)
    clear ho
    generalize L.length = n at *
    generalize M.length = n' at *
    by_cases hz : (0 : Int) < n
    · go_enter Try.func10, Try.ntmps10
      go_wp2_with fail
      rw [← HW.out]
      go_loopw [4, 5, 6] (fun s t i wr => i = .int .i64 0 ∧ s = .int .i64 0 ∧ t = .int .i64 0 ∧ wr = W) (fun _ _ _ _ => 0)
      case atStart => exact ⟨rfl, rfl, rfl, rfl⟩
      case round =>
        obtain ⟨rfl, rfl, rfl, rfl⟩ := hrel
        go_wp2_with fail
        refine (C1.out _ (Below.refl _ _)).mono ?_
        rintro e w1 ⟨rfl, hb⟩
        have B1 : Hid (Below w.heap.size w w1) := HB.out.trans (hb.mono HB.out.size)
        clear hb
        go_wp2_with fail
        exact bodyPost_ret (v := .tuple #[.int .i64 0, .int .i64 0]) (by simp [results, Try.results10, go_sem]) rfl ⟨rfl, B1.out⟩
    · go_enter Try.func10, Try.ntmps10
      go_wp2_with fail
      rw [← HW.out]
      go_loopw [4, 5, 6] (fun s t i wr => i = .int .i64 0 ∧ s = .int .i64 0 ∧ t = .int .i64 0 ∧ wr = W) (fun _ _ _ _ => 0)
      case atStart => exact ⟨rfl, rfl, rfl, rfl⟩
      case round =>
        obtain ⟨rfl, rfl, rfl, rfl⟩ := hrel
        go_wp2_with fail
        exact bodyPost_ret (v := .tuple #[.int .i64 0, .int .i64 0]) (by simp [results, Try.results10, go_sem]) rfl ⟨rfl, HB.out⟩
  · have r := (okR_iff L M).mp ho
    have ML := r.2.2.1
    have E : Hid (sumR L M L = tot L L.length ∧ sumR L M M = tot M L.length) := (by show _ ∧ _; unfold sumR; rw [ho, ML]; exact ⟨rfl, rfl⟩)
    rw [E.out.1, E.out.2]
    rw [ho] at C1
    rw [ML] at HA' HC' HW D C1 ⊢
    have n2 := r.2.1
    have n1 := r.1
    have BL : Hid (∀ j, j < L.length → 0 ≤ L.getD j 0 ∧ L.getD j 0 ≤ 1000000000) := fun j hj => (r.2.2.2.1 j hj).1
    have BM : Hid (∀ j, j < L.length → 0 ≤ M.getD j 0 ∧ M.getD j 0 ≤ 1000000000) := fun j hj => (by have := r.2.2.2.1 j hj; omega)
    have E0 := (HA.out (by omega)).2
    have E1 := (HA'.out (by omega)).2
    subst E0 E1
    clear ho HA HA' ML r E hf
    obtain ⟨n, hn⟩ : ∃ n, n = L.length := ⟨_, rfl⟩
    rw [← hn] at n1 n2 BL BM C1 HC HC' HW D ⊢
    clear hn
    go_enter Try.func10, Try.ntmps10
    go_wp2_with fail
    rw [← HW.out]
    go_loopw [4, 5, 6] (fun s t i wr => ∃ k : Nat, k ≤ n ∧ i = .int .i64 k ∧ s = .int .i64 (tot L k) ∧ t = .int .i64 (tot M k) ∧ Hid (Below W.heap.size W wr)) (fun _ _ i _ => n - (intOf i).toNat)
    case atStart => exact ⟨0, by omega, rfl, rfl, rfl, Below.refl _ _⟩
    case round =>
      obtain ⟨k, hk, rfl, rfl, rfl, BR⟩ := hrel
      obtain ⟨d0, d1⟩ := D.out wr BR.out
      by_cases hlt : k < n
      · have i1 : (0 : Int) ≤ (k : Int) := by omega
        have i2 : (k : Int) < (n : Int) := by omega
        have t0 := tot_bd n BL.out k (by omega)
        have t1 := tot_bd n BM.out k (by omega)
        have z0 := BL.out k hlt
        have z1 := BM.out k hlt
        have F0 : Hid (tot L (k + 1) = tot L k + L.getD k 0) := rfl
        have F1 : Hid (tot M (k + 1) = tot M k + M.getD k 0) := rfl
        generalize tot L k = s0 at *
        generalize tot M k = s1 at *
        go_wp2_with fail
        refine (C1.out _ BR.out).mono ?_
        rintro e w1 ⟨rfl, hb⟩
        have B1 : Hid (Below W.heap.size W w1) := hb
        have q0 := HC.out w1 hb k hlt
        have q1 := HC'.out w1 hb k hlt
        clear d0 d1
        obtain ⟨d0, d1⟩ := D.out w1 hb
        clear hb
        generalize L.getD k 0 = y0 at *
        generalize M.getD k 0 = y1 at *
        go_wp2_with fail
        go_roundw
        case rel => exact ⟨k + 1, by omega, by go_num, by rw [F0.out], by rw [F1.out], B1⟩
        case measure => simp [intOf]; omega
      · have hkn : k = n := by omega
        subst hkn
        have B1 : Hid (Below w.heap.size w wr) := HB.out.trans (BR.out.mono HB.out.size)
        go_wp2_with fail
        exact bodyPost_ret (v := .tuple #[.int .i64 (tot L k), .int .i64 (tot M k)]) (by simp [results, Try.results10, go_sem]) rfl ⟨rfl, B1.out⟩

theorem momentAll (w : World) (v : Value) (L : List Int) (hL : Lists.Reads w v L) (hf : L.length < 9223372036854775808) (u : Value) (M : List Int) (hM : Lists.Reads w u M) (hg : M.length < 9223372036854775808) :
    Calls Try.prog 4 #[sv v u] w fun e w' => e = .returned (.bool true) ∧ Below w.heap.size w w' :=
  lawMoL L M v u w hL hM hf hg (sumR L M L) (sumR L M M) (fun w v u h h' => smoment_any L M v u w h h' hf) (fun w v u h h' => imoment_any L M v u w h h' hf hg)
end Go.Proofs.Ytfanoegokiodoaa.Rg
