/- Degree days: the program, the law. -/
import Derived.Test.YtlebcdjobgibgaaDg
import Derived.Test.YtlebcdjobgibgaaDgL
namespace Go.Proofs.Ytlebcdjobgibgaa.Dg
open Go.ChangeShapes Go.WideShapes Go.ChangeAt Go.RowKit
open Go.Proofs.Ytlebcdjobgibgaa.Lists Go.Proofs.Ytlebcdjobgibgaa.Al Go.Proofs.Ytlebcdjobgibgaa.Su Go.Proofs.Ytlebcdjobgibgaa.Se

theorem below_drewN {B : Nat} {a w : World} (h : Below B a w) (n : Nat) : Below B a (w.drewN n) := h.trans ⟨rfl, rfl, rfl, Nat.le_refl _, fun _ _ => rfl⟩
set_option maxHeartbeats 1000000 in
theorem ideg_any (L : List Int) (x : Int) (v : Value) (w : World) (hL : Lists.Reads w v L) (hf : L.length < 9223372036854775808) :
    Calls Try.prog 10 #[v, .int .i64 x] w fun e w' => e = .returned (.int .i64 (ans L x)) ∧ Below w.heap.size w w' := by
  obtain ⟨W, hW⟩ : ∃ W, W = (w.alloc (Obj.cells #[v] 22)).alloc (Obj.cells #[.int .i64 x] 2) := ⟨_, rfl⟩
  have HW : Hid (W = (w.alloc (Obj.cells #[v] 22)).alloc (Obj.cells #[.int .i64 x] 2)) := hW
  have B0 : Below w.heap.size w W := (by rw [hW]; exact ((Below.refl _ _).alloc (Nat.le_refl _) _).alloc (by simp) _)
  have zW : W.heap.size = w.heap.size + 2 := by rw [hW]; simp
  have d0 : W.cell? ⟨w.heap.size, 0, none⟩ = some v := by rw [hW]; simp [go_sem]
  have d1 : W.cell? ⟨w.heap.size + 1, 0, none⟩ = some (.int .i64 x) := by rw [hW]; simp [go_sem]
  have HB : Hid (Below w.heap.size w W) := B0
  have C : Hid (Calls Try.prog 24 #[v] W fun e w' => e = .returned (.bool (okS L)) ∧ w' = W) := iok_any L v W (hL.on B0) hf
  have C2 : Hid (Calls Try.prog 25 #[.int .i64 x, .int .i64 (-100000), .int .i64 100000] W fun e w' => e = .returned (.bool (inn x (-100000) 100000)) ∧ w' = W) := i_in _ _ _ _
  have S : Hid (okS L = true → inn x (-100000) 100000 = true → Calls Try.prog 26 #[.int .i64 (L.length : Int), .func (.func 27) #[] #[.pointer (some ⟨w.heap.size, 0, none⟩), .pointer (some ⟨w.heap.size + 1, 0, none⟩)]] W fun e w'' => e = .returned (.int .i64 (dg L x L.length)) ∧ Below W.heap.size W w'') := fun ho hi => by
    obtain ⟨l1, l2, hz⟩ := okS_parts ho
    have hx := (inn_iff _ _ _).1 hi
    refine summed27 (fun y => Below W.heap.size W y) L.length _ _ (fun i => up (L.getD i 0) x) W (Below.refl _ _) hf (fun i hi y hy => ?_) (fun j hj => ?_)
    · obtain ⟨b, o, hcell, hvv⟩ := reads_at ((hL.on B0).on hy)
      obtain ⟨hbl, cap, e⟩ := hvv (by omega)
      refine (cl27 w.heap.size (w.heap.size + 1) b o L.length cap i x _ y hi (by rw [← e]; exact (hy.cell (p := ⟨w.heap.size, 0, none⟩) (by show w.heap.size < _; omega)).trans d0) ((hy.cell (p := ⟨w.heap.size + 1, 0, none⟩) (by show w.heap.size + 1 < _; omega)).trans d1) (hcell i hi) (hz i hi) hx).mono ?_
      rintro e x' ⟨rfl, m, rfl⟩
      exact ⟨rfl, below_drewN hy m⟩
    · have := sm_bound (fun i hi => up_bd (hz i hi) hx) j hj
      omega
  obtain ⟨a, cap, rfl⟩ := hL.form
  unfold ans
  clear hL hW B0 zW
  generalize dg L x L.length = t at *
  generalize L.length = n at *
  cases ho : okS L
  · rw [ho] at C
    clear ho S
    go_enter Try.func10, Try.ntmps10
    go_wp2_with fail
    rw [← HW.out]
    go_wp2_with fail
    refine C.out.mono ?_
    rintro e w1 ⟨rfl, hb⟩
    subst hb
    go_wp2_with fail
    go_ret
    exact ⟨rfl, HB.out⟩
  · rw [ho] at C
    cases hi : inn x (-100000) 100000
    · rw [hi] at C2
      clear ho hi S
      go_enter Try.func10, Try.ntmps10
      go_wp2_with fail
      rw [← HW.out]
      go_wp2_with fail
      refine C.out.mono ?_
      rintro e w1 ⟨rfl, hb⟩
      subst hb
      go_wp2_with fail
      refine C2.out.mono ?_
      rintro e w1 ⟨rfl, hb⟩
      subst hb
      go_wp2_with fail
      go_ret
      exact ⟨rfl, HB.out⟩
    · rw [hi] at C2
      have K : Hid (Calls Try.prog 26 #[.int .i64 (n : Int), .func (.func 27) #[] #[.pointer (some ⟨w.heap.size, 0, none⟩), .pointer (some ⟨w.heap.size + 1, 0, none⟩)]] W fun e w'' => e = .returned (.int .i64 t) ∧ Below W.heap.size W w'') := S.out ho hi
      clear ho hi S
      go_enter Try.func10, Try.ntmps10
      go_wp2_with fail
      rw [← HW.out]
      go_wp2_with fail
      refine C.out.mono ?_
      rintro e w1 ⟨rfl, hb⟩
      subst hb
      go_wp2_with fail
      refine C2.out.mono ?_
      rintro e w1 ⟨rfl, hb⟩
      subst hb
      go_wp2_with fail
      refine K.out.mono ?_
      rintro e w2 ⟨rfl, hb⟩
      have B2 : Hid (Below w.heap.size w w2) := HB.out.trans (hb.mono HB.out.size)
      clear hb
      go_wp2_with fail
      go_ret
      exact ⟨rfl, B2.out⟩

theorem degreesAll (w : World) (v : Value) (L : List Int) (hL : Lists.Reads w v L) (hf : L.length < 9223372036854775808) (x : Int) :
    Calls Try.prog 3 #[v, .int .i64 x] w fun e w' => e = .returned (.bool true) ∧ Below w.heap.size w w' :=
  LawDgL.degLaw w v L hL hf x (ans L x) (fun w t h => by
    refine (sdeg_any L x t w h hf).mono ?_
    rintro e w' ⟨rfl, m, rfl⟩
    exact ⟨rfl, below_drewN (Below.refl _ _) m⟩) (fun w t h => ideg_any L x t w h hf)
end Go.Proofs.Ytlebcdjobgibgaa.Dg
