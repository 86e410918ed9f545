/- Soils: the step: the program. -/
import Derived.Test.YtgimdhdioigmiaaDoorSq
import Derived.Deep.DeepCutAuto
namespace Go.Proofs.YtgimdhdioigmiaaDoor.So
open Go.ChangeShapes Go.WideShapes Go.ChangeAt Go.RowKit

/-- The soil that is turned, and the box of the answer, behind a call. -/
structure SB (w wx : World) (a b c d f : Int) : Prop where
  r : wx.cell? ⟨w.heap.size, 0, none⟩ = some (.int .i64 a) ∧ wx.cell? ⟨w.heap.size, 1, none⟩ = some (.int .i64 b) ∧ wx.cell? ⟨w.heap.size, 2, none⟩ = some (.int .i64 c) ∧ wx.cell? ⟨w.heap.size, 3, none⟩ = some (.int .i64 d) ∧ wx.cell? ⟨w.heap.size, 4, none⟩ = some (.int .i64 f)
  h : wx.cell? ⟨w.heap.size + 1, 0, none⟩ = some (.int .i64 0) ∧ wx.cell? ⟨w.heap.size + 1, 1, none⟩ = some (.int .i64 0) ∧ wx.cell? ⟨w.heap.size + 1, 2, none⟩ = some (.int .i64 0) ∧ wx.cell? ⟨w.heap.size + 1, 3, none⟩ = some (.int .i64 0) ∧ wx.cell? ⟨w.heap.size + 1, 4, none⟩ = some (.int .i64 0)
  k : ∀ o, wx.frozen? ⟨w.heap.size, o, none⟩ = false
  g : ∀ o, wx.frozen? ⟨w.heap.size + 1, o, none⟩ = false
  z : w.heap.size + 2 ≤ wx.heap.size
  b : Below w.heap.size w wx
theorem SB.on {w wx wy : World} {a b c d f : Int} (h : SB w wx a b c d f) (hb : Below wx.heap.size wx wy) : SB w wy a b c d f := by
  have z := h.z
  have L0 : ∀ o, wy.cell? ⟨w.heap.size, o, none⟩ = wx.cell? ⟨w.heap.size, o, none⟩ := fun o => hb.cell (p := ⟨w.heap.size, o, none⟩) (by show w.heap.size < _; omega)
  have L1 : ∀ o, wy.cell? ⟨w.heap.size + 1, o, none⟩ = wx.cell? ⟨w.heap.size + 1, o, none⟩ := fun o => hb.cell (p := ⟨w.heap.size + 1, o, none⟩) (by show w.heap.size + 1 < _; omega)
  have F0 : ∀ o, wy.frozen? ⟨w.heap.size, o, none⟩ = wx.frozen? ⟨w.heap.size, o, none⟩ := fun o => hb.frozen (p := ⟨w.heap.size, o, none⟩) (by show w.heap.size < _; omega)
  have F1 : ∀ o, wy.frozen? ⟨w.heap.size + 1, o, none⟩ = wx.frozen? ⟨w.heap.size + 1, o, none⟩ := fun o => hb.frozen (p := ⟨w.heap.size + 1, o, none⟩) (by show w.heap.size + 1 < _; omega)
  refine ⟨by rw [L0, L0, L0, L0, L0]; exact h.r, by rw [L1, L1, L1, L1, L1]; exact h.h, fun o => by rw [F0]; exact h.k o, fun o => by rw [F1]; exact h.g o, ?_, h.b.trans (hb.mono h.b.size)⟩
  have := hb.size
  omega
theorem SB.put {w wx : World} {a b c d f : Int} (h : SB w wx a b c d f) (a' b' c' d' f' : Int) :
    SB w (((((wx.setCell ⟨w.heap.size, 0, none⟩ (.int .i64 a')).setCell ⟨w.heap.size, 1, none⟩ (.int .i64 b')).setCell ⟨w.heap.size, 2, none⟩ (.int .i64 c')).setCell ⟨w.heap.size, 3, none⟩ (.int .i64 d')).setCell ⟨w.heap.size, 4, none⟩ (.int .i64 f')) a' b' c' d' f' := by
  obtain ⟨r0, r1, r2, r3, r4⟩ := h.r
  obtain ⟨h0, h1, h2, h3, h4⟩ := h.h
  have k := h.k
  have g := h.g
  refine ⟨?_, ?_, fun o => ?_, fun o => ?_, by simpa using h.z, ?_⟩
  · simp [go_sem, r0, r1, r2, r3, r4]
  · simp [go_sem, h0, h1, h2, h3, h4]
  · simp [go_sem, k]
  · simp [go_sem, g]
  · exact ((((h.b.setCell (Nat.le_refl _) _).setCell (Nat.le_refl _) _).setCell (Nat.le_refl _) _).setCell (Nat.le_refl _) _).setCell (Nat.le_refl _) _
theorem SB.start (w : World) (a b c d f : Int) : SB w ((w.alloc (Obj.cells #[.int .i64 a, .int .i64 b, .int .i64 c, .int .i64 d, .int .i64 f] 25)).alloc (Obj.cells #[.int .i64 0, .int .i64 0, .int .i64 0, .int .i64 0, .int .i64 0] 25)) a b c d f := by
  refine ⟨?_, ?_, fun o => ?_, fun o => ?_, by simp, ((Below.refl _ _).alloc (Nat.le_refl _) _).alloc (by simp) _⟩
  · simp [go_sem]
  · simp [go_sem]
  · simp [go_sem]
  · simp [go_sem]

def okT (a b c d f t r : Int) : Bool := okB a b c d f && (inn t (-800) 800 && (inn r 0 5000 && decide (f ≤ 1000000000000 - r)))
def a1 (a t r : Int) : Int := if t < 0 then a + r else a
def b1 (b t r : Int) : Int := if t < 0 then b else b + r
def ml1 (a t r : Int) : Int := if 0 < t then ml (a1 a t r) t else 0
def b2 (a b t r : Int) : Int := b1 b t r + ml1 a t r
def dr1 (a b t r : Int) : Int := if 0 < t then dr (b2 a b t r) t else 0
def b3 (a b t r : Int) : Int := b2 a b t r - dr1 a b t r
def d3 (a b d t r : Int) : Int := d + dr1 a b t r
def res (a b c d f t r : Int) : Value :=
  sv (a1 a t r - ml1 a t r) (b3 a b t r - dn (b3 a b t r) c - ov (b3 a b t r - dn (b3 a b t r) c)) (c + dn (b3 a b t r) c - (c + dn (b3 a b t r) c) / 50) (d3 a b d t r + (ov (b3 a b t r - dn (b3 a b t r) c) + (c + dn (b3 a b t r) c) / 50)) (f + r)


set_option maxHeartbeats 1000000 in
theorem istep_no (a b c d f t r : Int) (w : World) (h : okT a b c d f t r = false) : Calls Tryd.prog 7 #[sv a b c d f, .int .i64 t, .int .i64 r] w fun e w' => e = .returned (.tuple #[sv 0 0 0 0 0, .bool false]) ∧ Below w.heap.size w w' := by
  obtain ⟨W, hW⟩ : ∃ W, W = (w.alloc (Obj.cells #[.int .i64 a, .int .i64 b, .int .i64 c, .int .i64 d, .int .i64 f] 25)).alloc (Obj.cells #[.int .i64 0, .int .i64 0, .int .i64 0, .int .i64 0, .int .i64 0] 25) := ⟨_, rfl⟩
  have HW : Hid (W = (w.alloc (Obj.cells #[.int .i64 a, .int .i64 b, .int .i64 c, .int .i64 d, .int .i64 f] 25)).alloc (Obj.cells #[.int .i64 0, .int .i64 0, .int .i64 0, .int .i64 0, .int .i64 0] 25)) := hW
  have S0 : Hid (SB w W a b c d f) := (by show SB _ _ _ _ _ _ _; rw [hW]; exact SB.start w a b c d f)
  have P0 : Hid (Calls Tryd.prog 15 #[sv a b c d f] W fun e w' => e = .returned (.bool (okB a b c d f)) ∧ SB w w' a b c d f) := by
    refine (iok_any a b c d f W).mono ?_
    rintro e w' ⟨rfl, hb⟩
    exact ⟨rfl, S0.out.on hb⟩
  have P1 : Hid (∀ w, Calls Tryd.prog 16 #[.int .i64 t, .int .i64 (-800), .int .i64 800] w fun e w' => e = .returned (.bool (inn t (-800) 800)) ∧ w' = w) := fun w => i_in _ _ _ w
  have P2 : Hid (∀ w, Calls Tryd.prog 16 #[.int .i64 r, .int .i64 0, .int .i64 5000] w fun e w' => e = .returned (.bool (inn r 0 5000)) ∧ w' = w) := fun w => i_in _ _ _ w
  clear hW
  have FB : Hid (okB a b c d f = true → 0 ≤ f ∧ f ≤ 1000000000000) := fun h => (okB_parts h).2.2.2.2.1
  have RB : Hid (inn r 0 5000 = true → 0 ≤ r ∧ r ≤ 5000) := fun h => (inn_iff _ _ _).mp h
  unfold okT at h
  generalize okB a b c d f = g0 at *
  generalize inn t (-800) 800 = g1 at *
  generalize inn r 0 5000 = g2 at *
  cases g0
  · clear h
    go_enter Tryd.func7, Tryd.ntmps7
    obtain ⟨r0, r1, r2, r3, r4⟩ := S0.out.r
    obtain ⟨h0, h1, h2, h3, h4⟩ := S0.out.h
    have rk := S0.out.k
    have rg := S0.out.g
    go_wp2_with fail
    rw [← HW.out]
    go_wp2_with fail
    clear r0 r1 r2 r3 r4 h0 h1 h2 h3 h4 rk rg
    refine P0.out.mono ?_
    rintro e w1 ⟨rfl, hb⟩
    have S1 : Hid (SB w w1 a b c d f) := hb
    clear hb
    obtain ⟨r0, r1, r2, r3, r4⟩ := S1.out.r
    obtain ⟨h0, h1, h2, h3, h4⟩ := S1.out.h
    have rk := S1.out.k
    have rg := S1.out.g
    go_wp2_with fail
    refine bodyPost_ret (v := .tuple #[sv 0 0 0 0 0, .bool false]) (by simp [results, Tryd.results7, go_sem, h0, h1, h2, h3, h4]) rfl ⟨rfl, ?_⟩
    have hb := S1.out.b
    repeat' first | exact hb | refine Below.setCell ?_ (by simp <;> omega) _
  · skip
    cases g1
    · clear h
      go_enter Tryd.func7, Tryd.ntmps7
      obtain ⟨r0, r1, r2, r3, r4⟩ := S0.out.r
      obtain ⟨h0, h1, h2, h3, h4⟩ := S0.out.h
      have rk := S0.out.k
      have rg := S0.out.g
      go_wp2_with fail
      rw [← HW.out]
      go_wp2_with fail
      clear r0 r1 r2 r3 r4 h0 h1 h2 h3 h4 rk rg
      refine P0.out.mono ?_
      rintro e w1 ⟨rfl, hb⟩
      have S1 : Hid (SB w w1 a b c d f) := hb
      clear hb
      obtain ⟨r0, r1, r2, r3, r4⟩ := S1.out.r
      obtain ⟨h0, h1, h2, h3, h4⟩ := S1.out.h
      have rk := S1.out.k
      have rg := S1.out.g
      go_wp2_with fail
      refine (P1.out _).mono ?_
      rintro e w2 ⟨rfl, hw⟩
      subst hw
      go_wp2_with fail
      refine bodyPost_ret (v := .tuple #[sv 0 0 0 0 0, .bool false]) (by simp [results, Tryd.results7, go_sem, h0, h1, h2, h3, h4]) rfl ⟨rfl, ?_⟩
      have hb := S1.out.b
      repeat' first | exact hb | refine Below.setCell ?_ (by simp <;> omega) _
    · skip
      cases g2
      · clear h
        go_enter Tryd.func7, Tryd.ntmps7
        obtain ⟨r0, r1, r2, r3, r4⟩ := S0.out.r
        obtain ⟨h0, h1, h2, h3, h4⟩ := S0.out.h
        have rk := S0.out.k
        have rg := S0.out.g
        go_wp2_with fail
        rw [← HW.out]
        go_wp2_with fail
        clear r0 r1 r2 r3 r4 h0 h1 h2 h3 h4 rk rg
        refine P0.out.mono ?_
        rintro e w1 ⟨rfl, hb⟩
        have S1 : Hid (SB w w1 a b c d f) := hb
        clear hb
        obtain ⟨r0, r1, r2, r3, r4⟩ := S1.out.r
        obtain ⟨h0, h1, h2, h3, h4⟩ := S1.out.h
        have rk := S1.out.k
        have rg := S1.out.g
        go_wp2_with fail
        refine (P1.out _).mono ?_
        rintro e w2 ⟨rfl, hw⟩
        subst hw
        go_wp2_with fail
        refine (P2.out _).mono ?_
        rintro e w3 ⟨rfl, hw⟩
        subst hw
        go_wp2_with fail
        refine bodyPost_ret (v := .tuple #[sv 0 0 0 0 0, .bool false]) (by simp [results, Tryd.results7, go_sem, h0, h1, h2, h3, h4]) rfl ⟨rfl, ?_⟩
        have hb := S1.out.b
        repeat' first | exact hb | refine Below.setCell ?_ (by simp <;> omega) _
      · skip
        have hz : ¬ f ≤ 1000000000000 - r := by simpa using h
        have fb := FB.out rfl
        have rb := RB.out rfl
        clear h
        have gz : 1000000000000 - r < f := by omega
        go_enter Tryd.func7, Tryd.ntmps7
        obtain ⟨r0, r1, r2, r3, r4⟩ := S0.out.r
        obtain ⟨h0, h1, h2, h3, h4⟩ := S0.out.h
        have rk := S0.out.k
        have rg := S0.out.g
        go_wp2_with fail
        rw [← HW.out]
        go_wp2_with fail
        clear r0 r1 r2 r3 r4 h0 h1 h2 h3 h4 rk rg
        refine P0.out.mono ?_
        rintro e w1 ⟨rfl, hb⟩
        have S1 : Hid (SB w w1 a b c d f) := hb
        clear hb
        obtain ⟨r0, r1, r2, r3, r4⟩ := S1.out.r
        obtain ⟨h0, h1, h2, h3, h4⟩ := S1.out.h
        have rk := S1.out.k
        have rg := S1.out.g
        go_wp2_with fail
        refine (P1.out _).mono ?_
        rintro e w2 ⟨rfl, hw⟩
        subst hw
        go_wp2_with fail
        refine (P2.out _).mono ?_
        rintro e w3 ⟨rfl, hw⟩
        subst hw
        go_wp2_with fail
        refine bodyPost_ret (v := .tuple #[sv 0 0 0 0 0, .bool false]) (by simp [results, Tryd.results7, go_sem, h0, h1, h2, h3, h4]) rfl ⟨rfl, ?_⟩
        have hb := S1.out.b
        repeat' first | exact hb | refine Below.setCell ?_ (by simp <;> omega) _

set_option maxHeartbeats 1000000 in
theorem sstep_no (a b c d f t r : Int) (w : World) (h : okT a b c d f t r = false) : Calls Tryd.prog 6 #[sv a b c d f, .int .i64 t, .int .i64 r] w fun e w' => e = .returned (.tuple #[sv 0 0 0 0 0, .bool false]) ∧ Below w.heap.size w w' := by
  obtain ⟨W, hW⟩ : ∃ W, W = (w.alloc (Obj.cells #[.int .i64 a, .int .i64 b, .int .i64 c, .int .i64 d, .int .i64 f] 25)).alloc (Obj.cells #[.int .i64 0, .int .i64 0, .int .i64 0, .int .i64 0, .int .i64 0] 25) := ⟨_, rfl⟩
  have HW : Hid (W = (w.alloc (Obj.cells #[.int .i64 a, .int .i64 b, .int .i64 c, .int .i64 d, .int .i64 f] 25)).alloc (Obj.cells #[.int .i64 0, .int .i64 0, .int .i64 0, .int .i64 0, .int .i64 0] 25)) := hW
  have S0 : Hid (SB w W a b c d f) := (by show SB _ _ _ _ _ _ _; rw [hW]; exact SB.start w a b c d f)
  have P0 : Hid (Calls Tryd.prog 13 #[sv a b c d f] W fun e w' => e = .returned (.bool (okB a b c d f)) ∧ SB w w' a b c d f) := by
    refine (sok_any a b c d f W).mono ?_
    rintro e w' ⟨rfl, hb⟩
    exact ⟨rfl, S0.out.on hb⟩
  have P1 : Hid (∀ w, Calls Tryd.prog 14 #[.int .i64 t, .int .i64 (-800), .int .i64 800] w fun e w' => e = .returned (.bool (inn t (-800) 800)) ∧ w' = w) := fun w => s_in _ _ _ w
  have P2 : Hid (∀ w, Calls Tryd.prog 14 #[.int .i64 r, .int .i64 0, .int .i64 5000] w fun e w' => e = .returned (.bool (inn r 0 5000)) ∧ w' = w) := fun w => s_in _ _ _ w
  clear hW
  have FB : Hid (okB a b c d f = true → 0 ≤ f ∧ f ≤ 1000000000000) := fun h => (okB_parts h).2.2.2.2.1
  have RB : Hid (inn r 0 5000 = true → 0 ≤ r ∧ r ≤ 5000) := fun h => (inn_iff _ _ _).mp h
  unfold okT at h
  generalize okB a b c d f = g0 at *
  generalize inn t (-800) 800 = g1 at *
  generalize inn r 0 5000 = g2 at *
  cases g0
  · clear h
    go_enter Tryd.func6, Tryd.ntmps6
    obtain ⟨r0, r1, r2, r3, r4⟩ := S0.out.r
    obtain ⟨h0, h1, h2, h3, h4⟩ := S0.out.h
    have rk := S0.out.k
    have rg := S0.out.g
    go_wp2_with fail
    rw [← HW.out]
    go_wp2_with fail
    clear r0 r1 r2 r3 r4 h0 h1 h2 h3 h4 rk rg
    refine P0.out.mono ?_
    rintro e w1 ⟨rfl, hb⟩
    have S1 : Hid (SB w w1 a b c d f) := hb
    clear hb
    obtain ⟨r0, r1, r2, r3, r4⟩ := S1.out.r
    obtain ⟨h0, h1, h2, h3, h4⟩ := S1.out.h
    have rk := S1.out.k
    have rg := S1.out.g
    go_wp2_with fail
    refine bodyPost_ret (v := .tuple #[sv 0 0 0 0 0, .bool false]) (by simp [results, Tryd.results6, go_sem, h0, h1, h2, h3, h4]) rfl ⟨rfl, ?_⟩
    have hb := S1.out.b
    repeat' first | exact hb | refine Below.setCell ?_ (by simp <;> omega) _
  · skip
    cases g1
    · clear h
      go_enter Tryd.func6, Tryd.ntmps6
      obtain ⟨r0, r1, r2, r3, r4⟩ := S0.out.r
      obtain ⟨h0, h1, h2, h3, h4⟩ := S0.out.h
      have rk := S0.out.k
      have rg := S0.out.g
      go_wp2_with fail
      rw [← HW.out]
      go_wp2_with fail
      clear r0 r1 r2 r3 r4 h0 h1 h2 h3 h4 rk rg
      refine P0.out.mono ?_
      rintro e w1 ⟨rfl, hb⟩
      have S1 : Hid (SB w w1 a b c d f) := hb
      clear hb
      obtain ⟨r0, r1, r2, r3, r4⟩ := S1.out.r
      obtain ⟨h0, h1, h2, h3, h4⟩ := S1.out.h
      have rk := S1.out.k
      have rg := S1.out.g
      go_wp2_with fail
      refine (P1.out _).mono ?_
      rintro e w2 ⟨rfl, hw⟩
      subst hw
      go_wp2_with fail
      refine bodyPost_ret (v := .tuple #[sv 0 0 0 0 0, .bool false]) (by simp [results, Tryd.results6, go_sem, h0, h1, h2, h3, h4]) rfl ⟨rfl, ?_⟩
      have hb := S1.out.b
      repeat' first | exact hb | refine Below.setCell ?_ (by simp <;> omega) _
    · skip
      cases g2
      · clear h
        go_enter Tryd.func6, Tryd.ntmps6
        obtain ⟨r0, r1, r2, r3, r4⟩ := S0.out.r
        obtain ⟨h0, h1, h2, h3, h4⟩ := S0.out.h
        have rk := S0.out.k
        have rg := S0.out.g
        go_wp2_with fail
        rw [← HW.out]
        go_wp2_with fail
        clear r0 r1 r2 r3 r4 h0 h1 h2 h3 h4 rk rg
        refine P0.out.mono ?_
        rintro e w1 ⟨rfl, hb⟩
        have S1 : Hid (SB w w1 a b c d f) := hb
        clear hb
        obtain ⟨r0, r1, r2, r3, r4⟩ := S1.out.r
        obtain ⟨h0, h1, h2, h3, h4⟩ := S1.out.h
        have rk := S1.out.k
        have rg := S1.out.g
        go_wp2_with fail
        refine (P1.out _).mono ?_
        rintro e w2 ⟨rfl, hw⟩
        subst hw
        go_wp2_with fail
        refine (P2.out _).mono ?_
        rintro e w3 ⟨rfl, hw⟩
        subst hw
        go_wp2_with fail
        refine bodyPost_ret (v := .tuple #[sv 0 0 0 0 0, .bool false]) (by simp [results, Tryd.results6, go_sem, h0, h1, h2, h3, h4]) rfl ⟨rfl, ?_⟩
        have hb := S1.out.b
        repeat' first | exact hb | refine Below.setCell ?_ (by simp <;> omega) _
      · skip
        have hz : ¬ f ≤ 1000000000000 - r := by simpa using h
        have fb := FB.out rfl
        have rb := RB.out rfl
        clear h
        have gz : 1000000000000 - r < f := by omega
        go_enter Tryd.func6, Tryd.ntmps6
        obtain ⟨r0, r1, r2, r3, r4⟩ := S0.out.r
        obtain ⟨h0, h1, h2, h3, h4⟩ := S0.out.h
        have rk := S0.out.k
        have rg := S0.out.g
        go_wp2_with fail
        rw [← HW.out]
        go_wp2_with fail
        clear r0 r1 r2 r3 r4 h0 h1 h2 h3 h4 rk rg
        refine P0.out.mono ?_
        rintro e w1 ⟨rfl, hb⟩
        have S1 : Hid (SB w w1 a b c d f) := hb
        clear hb
        obtain ⟨r0, r1, r2, r3, r4⟩ := S1.out.r
        obtain ⟨h0, h1, h2, h3, h4⟩ := S1.out.h
        have rk := S1.out.k
        have rg := S1.out.g
        go_wp2_with fail
        refine (P1.out _).mono ?_
        rintro e w2 ⟨rfl, hw⟩
        subst hw
        go_wp2_with fail
        refine (P2.out _).mono ?_
        rintro e w3 ⟨rfl, hw⟩
        subst hw
        go_wp2_with fail
        refine bodyPost_ret (v := .tuple #[sv 0 0 0 0 0, .bool false]) (by simp [results, Tryd.results6, go_sem, h0, h1, h2, h3, h4]) rfl ⟨rfl, ?_⟩
        have hb := S1.out.b
        repeat' first | exact hb | refine Below.setCell ?_ (by simp <;> omega) _
end Go.Proofs.YtgimdhdioigmiaaDoor.So