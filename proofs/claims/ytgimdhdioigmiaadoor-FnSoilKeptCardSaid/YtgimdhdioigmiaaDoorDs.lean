/- A soil drawn of a code. -/
import Derived.Test.YtgimdhdioigmiaaDoorSt
import Derived.Test.YtgimdhdioigmiaaDoorRdJ
import Derived.Deep.RegionWith
namespace Go.Proofs.YtgimdhdioigmiaaDoor.Ds
open Go.ChangeShapes Go.WideShapes Go.ChangeAt Go.RowKit
open Go.Proofs.YtgimdhdioigmiaaDoor.So Go.Proofs.YtgimdhdioigmiaaDoor.Rd

/-- A box of five numbers. -/
structure Bq (g : Nat) (a b c d f : Int) (w : World) : Prop where
  r : w.cell? ⟨g, 0, none⟩ = some (.int .i64 a) ∧ w.cell? ⟨g, 1, none⟩ = some (.int .i64 b) ∧ w.cell? ⟨g, 2, none⟩ = some (.int .i64 c) ∧ w.cell? ⟨g, 3, none⟩ = some (.int .i64 d) ∧ w.cell? ⟨g, 4, none⟩ = some (.int .i64 f)
  k : ∀ o, w.frozen? ⟨g, o, none⟩ = false
  lt : g < w.heap.size
theorem Bq.block {g : Nat} {a b c d f : Int} {w w' : World} (h : Bq g a b c d f w) (e : w'.heap[g]? = w.heap[g]?) (hs : w.heap.size ≤ w'.heap.size) : Bq g a b c d f w' := by
  obtain ⟨r0, r1, r2, r3, r4⟩ := h.r
  exact ⟨⟨(World.cell?_of_block e).trans r0, (World.cell?_of_block e).trans r1, (World.cell?_of_block e).trans r2, (World.cell?_of_block e).trans r3, (World.cell?_of_block e).trans r4⟩, fun o => (World.frozen?_of_block e).trans (h.k o), Nat.lt_of_lt_of_le h.lt hs⟩
theorem Bq.turn {g r : Nat} {a b c d f : Int} {w w' : World} (h : Bq g a b c d f w) (t : Turn r w w') (hg : r < g) : Bq g a b c d f w' := h.block (t.abv g hg h.lt) t.size
theorem Bq.on {g : Nat} {a b c d f : Int} {w w' : World} (h : Bq g a b c d f w) (hb : Below w.heap.size w w') : Bq g a b c d f w' := h.block (hb.block g h.lt) hb.size
theorem Bq.new (w : World) (a b c d f : Int) : Bq w.heap.size a b c d f (w.alloc (Obj.cells #[.int .i64 a, .int .i64 b, .int .i64 c, .int .i64 d, .int .i64 f] 25)) := ⟨by simp [go_sem], fun o => by simp [go_sem], by simp⟩
theorem Bq.put {g : Nat} {a b c d f : Int} {w : World} (h : Bq g a b c d f w) (a' b' c' d' f' : Int) :
    Bq g a' b' c' d' f' (((((w.setCell ⟨g, 0, none⟩ (.int .i64 a')).setCell ⟨g, 1, none⟩ (.int .i64 b')).setCell ⟨g, 2, none⟩ (.int .i64 c')).setCell ⟨g, 3, none⟩ (.int .i64 d')).setCell ⟨g, 4, none⟩ (.int .i64 f')) := by
  obtain ⟨r0, r1, r2, r3, r4⟩ := h.r
  have k := h.k
  exact ⟨by simp [go_sem, r0, r1, r2, r3, r4], fun o => by simp [go_sem, k], by simpa using h.lt⟩
theorem Bq.p0 {g : Nat} {a b c d f : Int} {w : World} (h : Bq g a b c d f w) (x : Int) : Bq g x b c d f (w.setCell ⟨g, 0, none⟩ (.int .i64 x)) := by
  obtain ⟨r0, r1, r2, r3, r4⟩ := h.r
  have k := h.k
  exact ⟨by simp [go_sem, r0, r1, r2, r3, r4], fun o => by simp [go_sem, k], by simpa using h.lt⟩
theorem Bq.p1 {g : Nat} {a b c d f : Int} {w : World} (h : Bq g a b c d f w) (x : Int) : Bq g a x c d f (w.setCell ⟨g, 1, none⟩ (.int .i64 x)) := by
  obtain ⟨r0, r1, r2, r3, r4⟩ := h.r
  have k := h.k
  exact ⟨by simp [go_sem, r0, r1, r2, r3, r4], fun o => by simp [go_sem, k], by simpa using h.lt⟩
theorem Bq.p4 {g : Nat} {a b c d f : Int} {w : World} (h : Bq g a b c d f w) (x : Int) : Bq g a b c d x (w.setCell ⟨g, 4, none⟩ (.int .i64 x)) := by
  obtain ⟨r0, r1, r2, r3, r4⟩ := h.r
  have k := h.k
  exact ⟨by simp [go_sem, r0, r1, r2, r3, r4], fun o => by simp [go_sem, k], by simpa using h.lt⟩
theorem Bq.far {g p : Nat} {a b c d f : Int} {w : World} (h : Bq g a b c d f w) (hp : p ≠ g) (o : Nat) (u : Value) : Bq g a b c d f (w.setCell ⟨p, o, none⟩ u) := h.block (Below.heap_setCell w ⟨p, o, none⟩ _ g (by simpa using Ne.symm hp)) (by simp)
/-- The answer's box, a box of its own, the reader. -/
structure TS (r : Nat) (w wx : World) (g : Nat) (a b c d f : Int) : Prop where
  z : ∃ a0 b0 c0 d0 f0, Bq w.heap.size a0 b0 c0 d0 f0 wx
  x : Bq g a b c d f wx
  rd : Rd r wx
  tn : Turn r w wx
  gz : w.heap.size < g
  rz : r < w.heap.size
theorem TS.turn {r : Nat} {w wx wy : World} {g : Nat} {a b c d f : Int} (h : TS r w wx g a b c d f) (t : Turn r wx wy) (k : Rd r wy) : TS r w wy g a b c d f := by
  obtain ⟨a0, b0, c0, d0, f0, hz⟩ := h.z
  have := h.rz
  have := h.gz
  exact ⟨⟨a0, b0, c0, d0, f0, hz.turn t (by omega)⟩, h.x.turn t (by omega), k, h.tn.trans t, h.gz, h.rz⟩
theorem TS.on {r : Nat} {w wx wy : World} {g : Nat} {a b c d f : Int} (h : TS r w wx g a b c d f) (hb : Below wx.heap.size wx wy) : TS r w wy g a b c d f :=
  h.turn (Turn.of hb (Nat.le_refl _) (by have := h.rd.lt; omega)) (h.rd.kept (B := wx.heap.size) hb h.rd.lt)
theorem TS.set1 {r : Nat} {w wx : World} {g : Nat} {a b c d f a' b' c' d' f' : Int} (h : TS r w wx g a b c d f) (o : Nat) (u : Value) (hx : Bq g a' b' c' d' f' (wx.setCell ⟨g, o, none⟩ u)) : TS r w (wx.setCell ⟨g, o, none⟩ u) g a' b' c' d' f' := by
  obtain ⟨a0, b0, c0, d0, f0, hz⟩ := h.z
  have h1 := h.rz
  have h2 := h.gz
  exact ⟨⟨a0, b0, c0, d0, f0, hz.far (by omega) o u⟩, hx, h.rd.kept (B := r + 1) ((Below.refl (r + 1) wx).setCell (p := ⟨g, o, none⟩) (by show r + 1 ≤ g; omega) _) (by omega), h.tn.setCell (p := ⟨g, o, none⟩) (by show w.heap.size ≤ g; omega) h1 _, h.gz, h.rz⟩
theorem TS.put {r : Nat} {w wx : World} {g : Nat} {a b c d f : Int} (h : TS r w wx g a b c d f) (a' b' c' d' f' : Int) :
    TS r w (((((wx.setCell ⟨g, 0, none⟩ (.int .i64 a')).setCell ⟨g, 1, none⟩ (.int .i64 b')).setCell ⟨g, 2, none⟩ (.int .i64 c')).setCell ⟨g, 3, none⟩ (.int .i64 d')).setCell ⟨g, 4, none⟩ (.int .i64 f')) g a' b' c' d' f' := by
  obtain ⟨a0, b0, c0, d0, f0, hz⟩ := h.z
  have h1 := h.rz
  have h2 := h.gz
  exact ⟨⟨a0, b0, c0, d0, f0, ((((hz.far (by omega) 0 _).far (by omega) 1 _).far (by omega) 2 _).far (by omega) 3 _).far (by omega) 4 _⟩, h.x.put a' b' c' d' f',
    h.rd.kept (B := r + 1) ((((((Below.refl (r + 1) wx).setCell (p := ⟨g, 0, none⟩) (by show r + 1 ≤ g; omega) _).setCell (p := ⟨g, 1, none⟩) (by show r + 1 ≤ g; omega) _).setCell (p := ⟨g, 2, none⟩) (by show r + 1 ≤ g; omega) _).setCell (p := ⟨g, 3, none⟩) (by show r + 1 ≤ g; omega) _).setCell (p := ⟨g, 4, none⟩) (by show r + 1 ≤ g; omega) _) (by omega),
    ((((h.tn.setCell (p := ⟨g, 0, none⟩) (by show w.heap.size ≤ g; omega) h1 _).setCell (p := ⟨g, 1, none⟩) (by show w.heap.size ≤ g; omega) h1 _).setCell (p := ⟨g, 2, none⟩) (by show w.heap.size ≤ g; omega) h1 _).setCell (p := ⟨g, 3, none⟩) (by show w.heap.size ≤ g; omega) h1 _).setCell (p := ⟨g, 4, none⟩) (by show w.heap.size ≤ g; omega) h1 _, h.gz, h.rz⟩
/-- What lies behind: the answer in its box. -/
structure TE (r : Nat) (w wx : World) (a b c d f : Int) : Prop where
  x : Bq w.heap.size a b c d f wx
  rd : Rd r wx
  tn : Turn r w wx
theorem TS.out {r : Nat} {w wx : World} {g : Nat} {a b c d f : Int} (h : TS r w wx g a b c d f) :
    TE r w (((((wx.setCell ⟨w.heap.size, 0, none⟩ (.int .i64 a)).setCell ⟨w.heap.size, 1, none⟩ (.int .i64 b)).setCell ⟨w.heap.size, 2, none⟩ (.int .i64 c)).setCell ⟨w.heap.size, 3, none⟩ (.int .i64 d)).setCell ⟨w.heap.size, 4, none⟩ (.int .i64 f)) a b c d f := by
  obtain ⟨a0, b0, c0, d0, f0, hz⟩ := h.z
  have h1 := h.rz
  exact ⟨hz.put a b c d f,
    h.rd.kept (B := r + 1) ((((((Below.refl (r + 1) wx).setCell (p := ⟨w.heap.size, 0, none⟩) (by show r + 1 ≤ w.heap.size; omega) _).setCell (p := ⟨w.heap.size, 1, none⟩) (by show r + 1 ≤ w.heap.size; omega) _).setCell (p := ⟨w.heap.size, 2, none⟩) (by show r + 1 ≤ w.heap.size; omega) _).setCell (p := ⟨w.heap.size, 3, none⟩) (by show r + 1 ≤ w.heap.size; omega) _).setCell (p := ⟨w.heap.size, 4, none⟩) (by show r + 1 ≤ w.heap.size; omega) _) (by omega),
    ((((h.tn.setCell (p := ⟨w.heap.size, 0, none⟩) (Nat.le_refl _) h1 _).setCell (p := ⟨w.heap.size, 1, none⟩) (Nat.le_refl _) h1 _).setCell (p := ⟨w.heap.size, 2, none⟩) (Nat.le_refl _) h1 _).setCell (p := ⟨w.heap.size, 3, none⟩) (Nat.le_refl _) h1 _).setCell (p := ⟨w.heap.size, 4, none⟩) (Nat.le_refl _) h1 _⟩
theorem step_any (a b c d f t r : Int) (w : World) : Calls Tryd.prog 6 #[sv a b c d f, .int .i64 t, .int .i64 r] w fun e w' => (∃ a' b' c' d' f' B, e = .returned (.tuple #[sv a' b' c' d' f', .bool B])) ∧ Below w.heap.size w w' := by
  cases h : okT a b c d f t r
  · exact (sstep_no a b c d f t r w h).mono (by rintro e w' ⟨rfl, hb⟩; exact ⟨⟨_, _, _, _, _, _, rfl⟩, hb⟩)
  · exact (sstep_yes a b c d f t r w h).mono (by rintro e w' ⟨rfl, hb⟩; exact ⟨⟨_, _, _, _, _, _, rfl⟩, hb⟩)
set_option maxRecDepth 20000 in
set_option maxHeartbeats 2000000 in
theorem soil_any (r : Nat) (w : World) (h : Rd r w) : Calls Tryd.prog 24 #[.pointer (some ⟨r, 0, none⟩)] w fun e w' => (∃ a b c d f : Int, e = .returned (sv a b c d f)) ∧ Rd r w' ∧ Turn r w w' := by
  have hr := h.lt
  obtain ⟨w0, hw0⟩ : ∃ w0, w0 = (w.alloc (Obj.cells #[.int .i64 0, .int .i64 0, .int .i64 0, .int .i64 0, .int .i64 0] 25)).alloc (Obj.cells #[.int .i64 0, .int .i64 0, .int .i64 0, .int .i64 0, .int .i64 0] 25) := ⟨_, rfl⟩
  have HW0 : Hid (w0 = (w.alloc (Obj.cells #[.int .i64 0, .int .i64 0, .int .i64 0, .int .i64 0, .int .i64 0] 25)).alloc (Obj.cells #[.int .i64 0, .int .i64 0, .int .i64 0, .int .i64 0, .int .i64 0] 25)) := hw0
  have T0 : Hid (TS r w w0 (w.heap.size + 1) 0 0 0 0 0) := (by
    show TS _ _ _ _ _ _ _ _ _
    have hb : Below w.heap.size w w0 := by rw [hw0]; exact ((Below.refl _ _).alloc (Nat.le_refl _) _).alloc (by simp) _
    refine ⟨⟨0, 0, 0, 0, 0, ?_⟩, ?_, h.kept hb hr, Turn.of hb (Nat.le_refl _) (by omega), by omega, hr⟩
    · rw [hw0]; exact (Bq.new w 0 0 0 0 0).on ((Below.refl _ _).alloc (Nat.le_refl _) _)
    · rw [hw0]; have := Bq.new (w.alloc (Obj.cells #[.int .i64 0, .int .i64 0, .int .i64 0, .int .i64 0, .int .i64 0] 25)) 0 0 0 0 0; rwa [World.size_alloc] at this)
  have BE : Hid (∀ (n : Nat) (u : World), Rd r u → 1 ≤ n → n ≤ 60000 → Calls Tryd.prog 12 #[.pointer (some ⟨r, 0, none⟩), .int .i64 n] u (Drawn r u fun x => 0 ≤ x ∧ x < n)) := fun n u hu h1 h2 => below_all r u hu n h1 h2
  have SS : Hid (∀ (a b c d f t p : Int) (w : World), Calls Tryd.prog 6 #[sv a b c d f, .int .i64 t, .int .i64 p] w fun e w' => (∃ a' b' c' d' f' B, e = .returned (.tuple #[sv a' b' c' d' f', .bool B])) ∧ Below w.heap.size w w') := fun a b c d f t p w => step_any a b c d f t p w
  clear hw0 h
  go_enter Tryd.func24, Tryd.ntmps24
  go_wp2_with fail
  rw [← HW0.out]
  refine (BE.out 9 w0 T0.out.rd (by omega) (by omega)).mono ?_
  rintro e w1 ⟨⟨n, hn, rfl⟩, k1, t1⟩
  have T1 : Hid (TS r w w1 (w.heap.size + 1) 0 0 0 0 0) := T0.out.turn t1 k1
  clear k1 t1 T0 HW0
  go_wp2_with fail
  go_loopw [5] (fun i wr => ∃ (k : Nat) (a b c d f : Int), (k : Int) ≤ n ∧ i = .int .i64 k ∧ Hid (TS r w wr (w.heap.size + 1) a b c d f)) (fun i _ => n.toNat - (intOf i).toNat)
  case atStart => exact ⟨0, 0, 0, 0, 0, 0, by omega, rfl, T1⟩
  case round =>
    obtain ⟨k, a, b, c, d, f, hk, rfl, TK⟩ := hrel
    clear T1
    by_cases hlt : (k : Int) < n
    · have TD : Hid (TS r w wr.drew (w.heap.size + 1) a b c d f) := TK.out.on ⟨rfl, rfl, rfl, Nat.le_refl _, fun _ _ => rfl⟩
      obtain ⟨c0, c1, c2, c3, c4⟩ := TD.out.x.r
      have fz := TD.out.x.k
      have f0 := fz 0
      have f1 := fz 1
      have f2 := fz 2
      have f3 := fz 3
      have f4 := fz 4
      clear fz
      go_upto_region 6 with fail
      go_region_with (first
        | (go_at_call_of 12 (Value.int .i64 500); refine (BE.out 500 _ TD.out.rd (by omega) (by omega)).mono ?_; rintro e w2 ⟨⟨u, hu, rfl⟩, k2, t2⟩; have T2 : Hid (TS r w w2 (w.heap.size + 1) a b c d f) := TD.out.turn t2 k2; obtain ⟨m0, m1, m2, m3, m4⟩ := T2.out.x.r; clear k2 t2)
        | (go_at_call_of 12 (Value.int .i64 700); refine (BE.out 700 _ T2.out.rd (by omega) (by omega)).mono ?_; rintro e w3 ⟨⟨v, hv, rfl⟩, k3, t3⟩; have T3 : Hid (TS r w w3 (w.heap.size + 1) a b c d f) := T2.out.turn t3 k3; obtain ⟨n0, n1, n2, n3, n4⟩ := T3.out.x.r; clear k3 t3)
        | (go_at_call 6; refine (SS.out _ _ _ _ _ _ _ _).mono ?_; rintro e w4 ⟨⟨a', b', c', d', f', B, rfl⟩, b4⟩; have T4 : Hid (TS r w w4 (w.heap.size + 1) a b c d f) := T3.out.on b4; obtain ⟨j0, j1, j2, j3, j4⟩ := T4.out.x.r; have fz := T4.out.x.k; have h0 := fz 0; have h1 := fz 1; have h2 := fz 2; have h3 := fz 3; have h4 := fz 4; clear fz b4))
      all_goals
        have T5 : Hid (TS r w _ (w.heap.size + 1) a' b' c' d' f') := T4.out.put a' b' c' d' f'
        clear j0 j1 j2 j3 j4 h0 h1 h2 h3 h4 n0 n1 n2 n3 n4 m0 m1 m2 m3 m4 c0 c1 c2 c3 c4 f0 f1 f2 f3 f4 T2 T3 T4 TD TK
        generalize World.setCell _ _ _ = w5 at T5 ⊢
        go_wp2_with fail
        go_roundw
        case rel => exact ⟨k + 1, a', b', c', d', f', by omega, by go_num, T5⟩
        case measure => simp [intOf]; omega
    · go_upto_region 7 with fail
      obtain ⟨c0, c1, c2, c3, c4⟩ := TK.out.x.r
      obtain ⟨a0, b0, c00, d0, f00, hz⟩ := TK.out.z
      obtain ⟨e0, e1, e2, e3, e4⟩ := hz.r
      have gz := hz.k
      have g0 := gz 0
      have g1 := gz 1
      have g2 := gz 2
      have g3 := gz 3
      have g4 := gz 4
      clear gz hz
      go_wp2_with fail
      have V : Hid (TE r w _ a b c d f) := TS.out TK.out
      clear c0 c1 c2 c3 c4 e0 e1 e2 e3 e4 g0 g1 g2 g3 g4
      generalize World.setCell _ _ _ = wz at V ⊢
      obtain ⟨r0, r1, r2, r3, r4⟩ := V.out.x.r
      exact bodyPost_ret (v := sv a b c d f) (by simp [results, Tryd.results24, go_sem, r0, r1, r2, r3, r4]) rfl ⟨⟨_, _, _, _, _, rfl⟩, V.out.rd, V.out.tn⟩
set_option maxRecDepth 20000 in
set_option maxHeartbeats 2000000 in
theorem draw_any (r : Nat) (w : World) (h : Rd r w) : Calls Tryd.prog 11 #[.pointer (some ⟨r, 0, none⟩)] w fun e w' => (∃ a b c d f : Int, e = .returned (sv a b c d f)) ∧ Rd r w' ∧ Turn r w w' := by
  have hr := h.lt
  obtain ⟨w0, hw0⟩ : ∃ w0, w0 = w.alloc (Obj.cells #[.int .i64 0, .int .i64 0, .int .i64 0, .int .i64 0, .int .i64 0] 25) := ⟨_, rfl⟩
  have HW0 : Hid (w0 = w.alloc (Obj.cells #[.int .i64 0, .int .i64 0, .int .i64 0, .int .i64 0, .int .i64 0] 25)) := hw0
  have hb0 : Below w.heap.size w w0 := by rw [hw0]; exact (Below.refl _ _).alloc (Nat.le_refl _) _
  have K0 : Hid (Rd r w0) := h.kept hb0 hr
  have Z0 : Hid (Bq w.heap.size 0 0 0 0 0 w0) := (by show Bq _ _ _ _ _ _ _; rw [hw0]; exact Bq.new w 0 0 0 0 0)
  have N0 : Hid (Turn r w w0) := Turn.of hb0 (Nat.le_refl _) (by omega)
  have BE : Hid (∀ (n : Nat) (u : World), Rd r u → 1 ≤ n → n ≤ 60000 → Calls Tryd.prog 12 #[.pointer (some ⟨r, 0, none⟩), .int .i64 n] u (Drawn r u fun x => 0 ≤ x ∧ x < n)) := fun n u hu h1 h2 => below_all r u hu n h1 h2
  have SO : Hid (Calls Tryd.prog 24 #[.pointer (some ⟨r, 0, none⟩)] w0 fun e w' => (∃ a b c d f : Int, e = .returned (sv a b c d f)) ∧ Rd r w' ∧ Turn r w0 w') := soil_any r w0 K0.out
  clear hw0 h hb0 K0
  go_enter Tryd.func11, Tryd.ntmps11
  go_wp2_with fail
  rw [← HW0.out]
  refine SO.out.mono ?_
  rintro e w1 ⟨⟨a, b, c, d, f, rfl⟩, k1, t1⟩
  obtain ⟨w2, hw2⟩ : ∃ w2, w2 = w1.alloc (Obj.cells #[.int .i64 a, .int .i64 b, .int .i64 c, .int .i64 d, .int .i64 f] 25) := ⟨_, rfl⟩
  have HW2 : Hid (w2 = w1.alloc (Obj.cells #[.int .i64 a, .int .i64 b, .int .i64 c, .int .i64 d, .int .i64 f] 25)) := hw2
  have T2 : Hid (TS r w w2 w1.heap.size a b c d f) := (by
    show TS _ _ _ _ _ _ _ _ _
    have hb : Below w1.heap.size w1 w2 := by rw [hw2]; exact (Below.refl _ _).alloc (Nat.le_refl _) _
    have z1 := t1.size
    have z2 := Z0.out.lt
    exact ⟨⟨0, 0, 0, 0, 0, (Z0.out.turn t1 hr).on hb⟩, by rw [hw2]; exact Bq.new w1 a b c d f, k1.kept hb k1.lt, (N0.out.trans t1).trans (Turn.of hb (Nat.le_refl _) (by have := k1.lt; omega)), by omega, hr⟩)
  clear hw2 k1 t1 HW0 Z0 N0 SO
  go_wp2_with fail
  rw [← HW2.out]
  clear HW2
  generalize w1.heap.size = g at *
  refine (BE.out 20 w2 T2.out.rd (by omega) (by omega)).mono ?_
  rintro e w3 ⟨⟨u, hu, rfl⟩, k3, t3⟩
  have T3 : Hid (TS r w w3 g a b c d f) := T2.out.turn t3 k3
  clear k3 t3 T2
  by_cases h0 : u = 0
  · subst h0
    obtain ⟨y, hy⟩ : ∃ y, IntKind.i64.wrap (b + 1) = y := ⟨_, rfl⟩
    have T4 : Hid (TS r w (w3.setCell ⟨g, 1, none⟩ (.int .i64 y)) g a y c d f) := T3.out.set1 1 _ (T3.out.x.p1 y)
    obtain ⟨c0, c1, c2, c3, c4⟩ := T3.out.x.r
    have fz := T3.out.x.k
    have f0 := fz 0
    have f1 := fz 1
    have f2 := fz 2
    have f3 := fz 3
    have f4 := fz 4
    clear fz
    go_upto_region 14 with fail
    clear c0 c1 c2 c3 c4 f0 f1 f2 f3 f4
    clear T3 hy
    generalize World.setCell _ _ _ = w4 at T4 ⊢
    obtain ⟨c0, c1, c2, c3, c4⟩ := T4.out.x.r
    obtain ⟨a0, b0, c00, d0, f00, hz⟩ := T4.out.z
    obtain ⟨e0, e1, e2, e3, e4⟩ := hz.r
    have gz := hz.k
    have g0 := gz 0
    have g1 := gz 1
    have g2 := gz 2
    have g3 := gz 3
    have g4 := gz 4
    clear gz hz
    go_wp2_with fail
    have V : Hid (TE r w _ a y c d f) := TS.out T4.out
    clear c0 c1 c2 c3 c4 e0 e1 e2 e3 e4 g0 g1 g2 g3 g4
    generalize World.setCell _ _ _ = wz at V ⊢
    obtain ⟨r0, r1, r2, r3, r4⟩ := V.out.x.r
    exact bodyPost_ret (v := sv a y c d f) (by simp [results, Tryd.results11, go_sem, r0, r1, r2, r3, r4]) rfl ⟨⟨_, _, _, _, _, rfl⟩, V.out.rd, V.out.tn⟩
  by_cases h1 : u = 1
  · subst h1
    have T4 : Hid (TS r w _ g 0 0 0 999999997000 999999997000) := T3.out.put 0 0 0 999999997000 999999997000
    obtain ⟨c0, c1, c2, c3, c4⟩ := T3.out.x.r
    have fz := T3.out.x.k
    have f0 := fz 0
    have f1 := fz 1
    have f2 := fz 2
    have f3 := fz 3
    have f4 := fz 4
    clear fz
    go_upto_region 14 with fail
    clear c0 c1 c2 c3 c4 f0 f1 f2 f3 f4
    clear T3
    generalize World.setCell _ _ _ = w4 at T4 ⊢
    obtain ⟨c0, c1, c2, c3, c4⟩ := T4.out.x.r
    obtain ⟨a0, b0, c00, d0, f00, hz⟩ := T4.out.z
    obtain ⟨e0, e1, e2, e3, e4⟩ := hz.r
    have gz := hz.k
    have g0 := gz 0
    have g1 := gz 1
    have g2 := gz 2
    have g3 := gz 3
    have g4 := gz 4
    clear gz hz
    go_wp2_with fail
    have V : Hid (TE r w _ 0 0 0 999999997000 999999997000) := TS.out T4.out
    clear c0 c1 c2 c3 c4 e0 e1 e2 e3 e4 g0 g1 g2 g3 g4
    generalize World.setCell _ _ _ = wz at V ⊢
    obtain ⟨r0, r1, r2, r3, r4⟩ := V.out.x.r
    exact bodyPost_ret (v := sv 0 0 0 999999997000 999999997000) (by simp [results, Tryd.results11, go_sem, r0, r1, r2, r3, r4]) rfl ⟨⟨_, _, _, _, _, rfl⟩, V.out.rd, V.out.tn⟩
  by_cases h2 : u = 2
  · subst h2
    have T4 : Hid (TS r w _ g 0 400 1500 0 1900) := T3.out.put 0 400 1500 0 1900
    obtain ⟨c0, c1, c2, c3, c4⟩ := T3.out.x.r
    have fz := T3.out.x.k
    have f0 := fz 0
    have f1 := fz 1
    have f2 := fz 2
    have f3 := fz 3
    have f4 := fz 4
    clear fz
    go_upto_region 14 with fail
    clear c0 c1 c2 c3 c4 f0 f1 f2 f3 f4
    clear T3
    generalize World.setCell _ _ _ = w4 at T4 ⊢
    obtain ⟨c0, c1, c2, c3, c4⟩ := T4.out.x.r
    obtain ⟨a0, b0, c00, d0, f00, hz⟩ := T4.out.z
    obtain ⟨e0, e1, e2, e3, e4⟩ := hz.r
    have gz := hz.k
    have g0 := gz 0
    have g1 := gz 1
    have g2 := gz 2
    have g3 := gz 3
    have g4 := gz 4
    clear gz hz
    go_wp2_with fail
    have V : Hid (TE r w _ 0 400 1500 0 1900) := TS.out T4.out
    clear c0 c1 c2 c3 c4 e0 e1 e2 e3 e4 g0 g1 g2 g3 g4
    generalize World.setCell _ _ _ = wz at V ⊢
    obtain ⟨r0, r1, r2, r3, r4⟩ := V.out.x.r
    exact bodyPost_ret (v := sv 0 400 1500 0 1900) (by simp [results, Tryd.results11, go_sem, r0, r1, r2, r3, r4]) rfl ⟨⟨_, _, _, _, _, rfl⟩, V.out.rd, V.out.tn⟩
  by_cases h3 : u = 3
  · subst h3
    have T4 : Hid (TS r w _ g 0 401 0 0 401) := T3.out.put 0 401 0 0 401
    obtain ⟨c0, c1, c2, c3, c4⟩ := T3.out.x.r
    have fz := T3.out.x.k
    have f0 := fz 0
    have f1 := fz 1
    have f2 := fz 2
    have f3 := fz 3
    have f4 := fz 4
    clear fz
    go_upto_region 14 with fail
    clear c0 c1 c2 c3 c4 f0 f1 f2 f3 f4
    clear T3
    generalize World.setCell _ _ _ = w4 at T4 ⊢
    obtain ⟨c0, c1, c2, c3, c4⟩ := T4.out.x.r
    obtain ⟨a0, b0, c00, d0, f00, hz⟩ := T4.out.z
    obtain ⟨e0, e1, e2, e3, e4⟩ := hz.r
    have gz := hz.k
    have g0 := gz 0
    have g1 := gz 1
    have g2 := gz 2
    have g3 := gz 3
    have g4 := gz 4
    clear gz hz
    go_wp2_with fail
    have V : Hid (TE r w _ 0 401 0 0 401) := TS.out T4.out
    clear c0 c1 c2 c3 c4 e0 e1 e2 e3 e4 g0 g1 g2 g3 g4
    generalize World.setCell _ _ _ = wz at V ⊢
    obtain ⟨r0, r1, r2, r3, r4⟩ := V.out.x.r
    exact bodyPost_ret (v := sv 0 401 0 0 401) (by simp [results, Tryd.results11, go_sem, r0, r1, r2, r3, r4]) rfl ⟨⟨_, _, _, _, _, rfl⟩, V.out.rd, V.out.tn⟩
  by_cases h4 : u = 4
  · subst h4
    obtain ⟨y, hy⟩ : ∃ y, IntKind.i64.wrap (f - 1) = y := ⟨_, rfl⟩
    have T4 : Hid (TS r w (w3.setCell ⟨g, 0, none⟩ (.int .i64 (-1))) g (-1) b c d f) := T3.out.set1 0 _ (T3.out.x.p0 (-1))
    have T5 : Hid (TS r w ((w3.setCell ⟨g, 0, none⟩ (.int .i64 (-1))).setCell ⟨g, 4, none⟩ (.int .i64 y)) g (-1) b c d y) := T4.out.set1 4 _ (T4.out.x.p4 y)
    obtain ⟨c0, c1, c2, c3, c4⟩ := T3.out.x.r
    have fz := T3.out.x.k
    have f0 := fz 0
    have f1 := fz 1
    have f2 := fz 2
    have f3 := fz 3
    have f4 := fz 4
    clear fz
    go_upto_region 14 with fail
    clear c0 c1 c2 c3 c4 f0 f1 f2 f3 f4
    clear T3 T4 hy
    generalize World.setCell _ _ _ = w4 at T5 ⊢
    obtain ⟨c0, c1, c2, c3, c4⟩ := T5.out.x.r
    obtain ⟨a0, b0, c00, d0, f00, hz⟩ := T5.out.z
    obtain ⟨e0, e1, e2, e3, e4⟩ := hz.r
    have gz := hz.k
    have g0 := gz 0
    have g1 := gz 1
    have g2 := gz 2
    have g3 := gz 3
    have g4 := gz 4
    clear gz hz
    go_wp2_with fail
    have V : Hid (TE r w _ (-1) b c d y) := TS.out T5.out
    clear c0 c1 c2 c3 c4 e0 e1 e2 e3 e4 g0 g1 g2 g3 g4
    generalize World.setCell _ _ _ = wz at V ⊢
    obtain ⟨r0, r1, r2, r3, r4⟩ := V.out.x.r
    exact bodyPost_ret (v := sv (-1) b c d y) (by simp [results, Tryd.results11, go_sem, r0, r1, r2, r3, r4]) rfl ⟨⟨_, _, _, _, _, rfl⟩, V.out.rd, V.out.tn⟩
  have i0 : (u == 0) = false := by simpa using h0
  have i1 : (u == 1) = false := by simpa using h1
  have i2 : (u == 2) = false := by simpa using h2
  have i3 : (u == 3) = false := by simpa using h3
  have i4 : (u == 4) = false := by simpa using h4
  go_upto_region 14 with fail
  clear i0 i1 i2 i3 i4
  obtain ⟨c0, c1, c2, c3, c4⟩ := T3.out.x.r
  obtain ⟨a0, b0, c00, d0, f00, hz⟩ := T3.out.z
  obtain ⟨e0, e1, e2, e3, e4⟩ := hz.r
  have gz := hz.k
  have g0 := gz 0
  have g1 := gz 1
  have g2 := gz 2
  have g3 := gz 3
  have g4 := gz 4
  clear gz hz
  go_wp2_with fail
  have V : Hid (TE r w _ a b c d f) := TS.out T3.out
  clear c0 c1 c2 c3 c4 e0 e1 e2 e3 e4 g0 g1 g2 g3 g4
  generalize World.setCell _ _ _ = wz at V ⊢
  obtain ⟨r0, r1, r2, r3, r4⟩ := V.out.x.r
  exact bodyPost_ret (v := sv a b c d f) (by simp [results, Tryd.results11, go_sem, r0, r1, r2, r3, r4]) rfl ⟨⟨_, _, _, _, _, rfl⟩, V.out.rd, V.out.tn⟩
end Go.Proofs.YtgimdhdioigmiaaDoor.Ds
