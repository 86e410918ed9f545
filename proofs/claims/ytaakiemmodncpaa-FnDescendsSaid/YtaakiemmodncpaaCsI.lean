/- The cost of a point: the program. -/
import Derived.Test.YtaakiemmodncpaaCsP
import Derived.Deep.RegionHeld3
import Derived.Deep.RegionWith
import Derived.BigQuiet
namespace Go.Proofs.Ytaakiemmodncpaa.Cs
open Go.ChangeShapes Go.WideShapes Go.ChangeAt Go.RowKit
open Go.Proofs.Ytaakiemmodncpaa.Lists Go.Proofs.Ytaakiemmodncpaa.Al Go.Proofs.Ytaakiemmodncpaa.Su Go.Proofs.Ytaakiemmodncpaa.Po

theorem at_of {w : World} {v : Value} {L : List Int} {n : Nat} (h : Lists.Reads w v L) (e : L.length = n) (h0 : 0 < n) : ∃ b o c, v = .slice (some ⟨b, o, none⟩) n c ∧ b < w.heap.size ∧ ∀ i, i < n → w.cell? ⟨b, o + i, none⟩ = some (.int .i64 (L.getD i 0)) := by
  subst e
  obtain ⟨b, o, h1, h2⟩ := reads_at h
  obtain ⟨h3, c, h4⟩ := h2 h0
  exact ⟨b, o, c, h4, h3, h1⟩

set_option maxHeartbeats 1000000 in
theorem sq_any (a : Int) (w : World) (h : IntKind.i64.wrap (a * a) = a * a) : Calls Try.prog 50 #[.int .i64 a] w fun e w' => e = .returned (.int .i64 (a * a)) ∧ w' = w := by
  go_enter Try.func50, Try.ntmps50
  go_wp2_with fail
  go_ret
  exact ⟨rfl, rfl⟩

set_option maxHeartbeats 1000000 in
theorem cl57 (b1 b2 bh oh bx ox n ch cx i : Nat) (p q : Int) (w : World) (hi : i < n)
    (q1 : w.cell? ⟨b1, 0, none⟩ = some (.slice (some ⟨bh, oh, none⟩) n ch)) (q2 : w.cell? ⟨b2, 0, none⟩ = some (.slice (some ⟨bx, ox, none⟩) n cx))
    (qx : w.cell? ⟨bh, oh + i, none⟩ = some (.int .i64 p)) (qy : w.cell? ⟨bx, ox + i, none⟩ = some (.int .i64 q))
    (h2 : IntKind.i64.wrap (p * q) = p * q) :
    Calls Try.prog 62 #[.int .i64 (i : Int), .pointer (some ⟨b1, 0, none⟩), .pointer (some ⟨b2, 0, none⟩)] w fun e w' => e = .returned (.int .i64 (p * q)) ∧ ∃ m, w' = w.drewN m := by
  have i1 : (0 : Int) ≤ (i : Int) := by omega
  have i2 : (i : Int) < (n : Int) := by omega
  go_enter Try.func62, Try.ntmps62
  go_wp2_with fail
  go_region
  go_wp2_with fail
  go_ret
  exact ⟨rfl, _, rfl⟩

set_option maxHeartbeats 1000000 in
theorem cl48 (b1 b2 bt ot bg og bx ox n c0 c1 c2 i : Nat) (t g x : Int) (w : World) (hi : i < n)
    (q0 : w.cell? ⟨b1, 1, none⟩ = some (.slice (some ⟨bg, og, none⟩) n c0)) (q1 : w.cell? ⟨b1, 2, none⟩ = some (.slice (some ⟨bt, ot, none⟩) n c1)) (q2 : w.cell? ⟨b2, 0, none⟩ = some (.slice (some ⟨bx, ox, none⟩) n c2))
    (qt : w.cell? ⟨bt, ot + i, none⟩ = some (.int .i64 t)) (qg : w.cell? ⟨bg, og + i, none⟩ = some (.int .i64 g)) (qx : w.cell? ⟨bx, ox + i, none⟩ = some (.int .i64 x))
    (h1 : IntKind.i64.wrap (x - g) = x - g) (h2 : IntKind.i64.wrap ((x - g) * (x - g)) = (x - g) * (x - g)) (h3 : IntKind.i64.wrap (t * ((x - g) * (x - g))) = t * ((x - g) * (x - g))) :
    Calls Try.prog 55 #[.int .i64 (i : Int), .pointer (some ⟨b1, 0, none⟩), .pointer (some ⟨b2, 0, none⟩)] w fun e w' => e = .returned (.int .i64 (t * ((x - g) * (x - g)))) ∧ ∃ m, w' = w.drewN m := by
  have C : Hid (∀ w, Calls Try.prog 50 #[.int .i64 (x - g)] w fun e w' => e = .returned (.int .i64 ((x - g) * (x - g))) ∧ w' = w) := fun w => sq_any _ w h2
  have i1 : (0 : Int) ≤ (i : Int) := by omega
  have i2 : (i : Int) < (n : Int) := by omega
  clear h2
  generalize hz : (x - g) * (x - g) = z at *
  have HZ : Hid ((x - g) * (x - g) = z) := hz
  clear hz
  go_enter Try.func55, Try.ntmps55
  go_wp2_with fail
  go_quiet ((go_at_call 50; exact Calls.quiet_of_same (C.out _)))
  go_wp2_with fail
  go_ret
  exact ⟨rfl, _, rfl⟩

set_option maxHeartbeats 1000000 in
theorem missed_any (H X : List Int) (y wt : Int) (n : Nat) (vh vx : Value) (w : World) (hH : Lists.Reads w vh H) (hX : Lists.Reads w vx X) (lH : H.length = n) (lX : X.length = n) (n1 : 1 ≤ n) (n6 : n ≤ 6)
    (hb : ∀ j, j < n → -5000000 ≤ H.getD j 0 * X.getD j 0 ∧ H.getD j 0 * X.getD j 0 ≤ 5000000) (hy : -500 ≤ y ∧ y ≤ 500) :
    Calls Try.prog 52 #[.agg #[vh, .int .i64 y, .int .i64 wt], vx] w fun e w' => e = .returned (.int .i64 (hx H X n - y)) ∧ Below w.heap.size w w' := by
  obtain ⟨bh, oh, ch, rfl, bhl, hch⟩ := at_of hH lH (by omega)
  obtain ⟨bx, ox, cx, rfl, bxl, hcx⟩ := at_of hX lX (by omega)
  obtain ⟨W, hW⟩ : ∃ W, W = (w.alloc (Obj.cells #[.slice (some ⟨bh, oh, none⟩) n ch, .int .i64 y, .int .i64 wt] 51)).alloc (Obj.cells #[.slice (some ⟨bx, ox, none⟩) n cx] 22) := ⟨_, rfl⟩
  have HW : Hid (W = (w.alloc (Obj.cells #[.slice (some ⟨bh, oh, none⟩) n ch, .int .i64 y, .int .i64 wt] 51)).alloc (Obj.cells #[.slice (some ⟨bx, ox, none⟩) n cx] 22)) := hW
  have B0 : Below w.heap.size w W := (by rw [hW]; exact ((Below.refl _ _).alloc (Nat.le_refl _) _).alloc (by simp) _)
  have d0 : W.cell? ⟨w.heap.size, 0, none⟩ = some (.slice (some ⟨bh, oh, none⟩) n ch) := by rw [hW]; simp [go_sem]
  have d1 : W.cell? ⟨w.heap.size, 1, none⟩ = some (.int .i64 y) := by rw [hW]; simp [go_sem]
  have d2 : W.cell? ⟨w.heap.size + 1, 0, none⟩ = some (.slice (some ⟨bx, ox, none⟩) n cx) := by rw [hW]; simp [go_sem]
  have sb := sm_bound (n := n) (f := fun i => H.getD i 0 * X.getD i 0) (M := 5000000) hb
  have S1 : Hid (∀ m, Calls Try.prog 54 #[.int .i64 (n : Int), .func (.func 62) #[] #[.pointer (some ⟨w.heap.size, 0, none⟩), .pointer (some ⟨w.heap.size + 1, 0, none⟩)]] (W.drewN m) fun e w' => e = .returned (.int .i64 (hx H X n)) ∧ ∃ m', w' = W.drewN m') := fun m => by
    refine summed57 (fun x => ∃ m', x = W.drewN m') n _ _ _ _ ⟨m, rfl⟩ (by omega) (fun i hi w' hw' => ?_) (fun j hj => ?_)
    · obtain ⟨m', rfl⟩ := hw'
      have c := hb i hi
      refine (cl57 w.heap.size (w.heap.size + 1) bh oh bx ox n ch cx i (H.getD i 0) (X.getD i 0) (W.drewN m') hi d0 d2 ((B0.cell (p := ⟨bh, oh + i, none⟩) bhl).trans (hch i hi)) ((B0.cell (p := ⟨bx, ox + i, none⟩) bxl).trans (hcx i hi)) (IntWalk.i64_in _ (by omega))).mono ?_
      rintro e w' ⟨rfl, m2, rfl⟩
      exact ⟨rfl, m' + m2, by simp⟩
    · have := sb j hj
      omega
  have sn := sb n (Nat.le_refl _)
  have e0 : hx H X n = sm n (fun i => H.getD i 0 * X.getD i 0) := rfl
  rw [← e0] at sn
  have s1 : -30000000 ≤ hx H X n ∧ hx H X n ≤ 30000000 := by omega
  have DB : Hid (∀ m, Below w.heap.size w (W.drewN m)) := fun m => below_drewN B0 m
  obtain ⟨hy1, hy2⟩ := hy
  obtain ⟨s1a, s1b⟩ := s1
  have wz : IntKind.i64.wrap (hx H X n - y) = hx H X n - y := IntWalk.i64_in _ (by omega)
  clear hH hX lH lX hb sb sn e0 hW B0 hch hcx bhl bxl
  generalize hx H X n = S at *
  go_enter Try.func52, Try.ntmps52
  go_wp2_with fail
  rw [← HW.out]
  go_region_held3 (fun w' => w'.cell? ⟨w.heap.size, 0, none⟩ = some (.slice (some ⟨bh, oh, none⟩) n ch) ∧ w'.cell? ⟨w.heap.size, 1, none⟩ = some (.int .i64 y) ∧ w'.cell? ⟨w.heap.size + 1, 0, none⟩ = some (.slice (some ⟨bx, ox, none⟩) n cx)) (go_keep)
    ((go_at_call 54; refine (S1.out 1).mono ?_; rintro e w5 ⟨rfl, m5, rfl⟩))
  go_wp2_with fail
  go_ret
  exact ⟨rfl, DB.out _⟩
end Go.Proofs.Ytaakiemmodncpaa.Cs
