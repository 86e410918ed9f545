/- FlowStep of the program: its head, where it is granted. -/
import Derived.Test.YtjhoagbcfpbelaaFsI
import Derived.Test.YtjhoagbcfpbelaaBk
import Derived.Test.YtjhoagbcfpbelaaCtT
import Derived.Deep.DeepCutAuto
namespace Go.Proofs.Ytjhoagbcfpbelaa.Fs
open Go.ChangeShapes Go.WideShapes Go.ChangeAt Go.RowKit
open Go.Proofs.Ytjhoagbcfpbelaa.Lists
/-- what lies behind the head: the answer's box at A, its row at g; below c all is as it was -/
structure St (c : Nat) (w wx : World) (A g n : Nat) (Q : List Int) (o z : Int) : Prop where
  bl : Below c w wx
  bx : Bk.Box wx A (.slice (some ⟨g, 0, none⟩) n n) (.int .i64 o) (.int .i64 z)
  fz : ∀ j, wx.frozen? ⟨A, j, none⟩ = false
  row : wx.ownsRow c 2 1 (.slice (some ⟨g, 0, none⟩) n n) n (ints Q)
  ne : A ≠ g
  ge : c ≤ A

/-- how great things may get -/
theorem pfl_bd (N W R : List Int) (out : Int) (h0 : 0 ≤ out) (hW : ∀ i, i < N.length → 0 ≤ W.getD i 0 ∧ W.getD i 0 ≤ 1000000000000) (hR : ∀ i, i < N.length → 0 ≤ R.getD i 0 ∧ R.getD i 0 ≤ 1000000000000) : ∀ k, k ≤ N.length →
    (pfl N W R out k).1.length = N.length ∧ out ≤ (pfl N W R out k).2 ∧ (pfl N W R out k).2 ≤ out + 2000000000000 * k ∧ ∀ j, j < N.length → 0 ≤ (pfl N W R out k).1.getD j 0 ∧ (pfl N W R out k).1.getD j 0 ≤ 2000000000000 * k
  | 0, _ => by
    refine ⟨by simp [pfl], by simp [pfl], by simp [pfl], fun j hj => ?_⟩
    simp [pfl, List.getD_eq_getElem?_getD, hj]
  | k + 1, hk => by
    obtain ⟨l1, o1, o2, ih⟩ := pfl_bd N W R out h0 hW hR k (by omega)
    have a1 := hW k (by omega)
    have a2 := hR k (by omega)
    rw [pfl_succ]
    generalize pfl N W R out k = P at *
    unfold pst hf hs
    generalize W.getD k 0 = x at *
    generalize R.getD k 0 = y at *
    by_cases e : N.getD k 0 = -1
    · rw [if_pos e]
      refine ⟨by rw [up_len]; exact l1, by show out ≤ P.2 + _; omega, by show P.2 + _ ≤ _; omega, fun j hj => ?_⟩
      show 0 ≤ (up P.1 k _).getD j 0 ∧ (up P.1 k _).getD j 0 ≤ _
      rw [up_get _ _ _ _ (by omega)]
      have := ih j hj
      by_cases ej : j = k
      · rw [if_pos ej]; omega
      · rw [if_neg ej]; omega
    · rw [if_neg e]
      refine ⟨by rw [up_len, up_len]; exact l1, by show out ≤ P.2; omega, by show P.2 ≤ _; omega, fun j hj => ?_⟩
      show 0 ≤ (up (up P.1 k _) _ _).getD j 0 ∧ (up (up P.1 k _) _ _).getD j 0 ≤ _
      rw [up_get _ _ _ _ (by rw [up_len]; omega), up_get _ _ _ _ (by omega)]
      have := ih j hj
      by_cases ej : j = k
      · rw [if_pos ej]
        by_cases et : j = (N.getD k 0).toNat
        · rw [if_pos et]; omega
        · rw [if_neg et]; omega
      · rw [if_neg ej]
        by_cases et : j = (N.getD k 0).toNat
        · rw [if_pos et]; omega
        · rw [if_neg et]; omega
theorem St.gg {c : Nat} {w wx : World} {A g n : Nat} {Q : List Int} {o z : Int} (h : St c w wx A g n Q o z) : c ≤ g := (h.row.lt g rfl).1
theorem St.drewN {c : Nat} {w wx : World} {A g n : Nat} {Q : List Int} {o z : Int} (h : St c w wx A g n Q o z) (m : Nat) : St c w (wx.drewN m) A g n Q o z :=
  ⟨Bk.below_drewN h.bl m, h.bx, h.fz, h.row, h.ne, h.ge⟩
theorem St.put {c : Nat} {w wx : World} {A g n : Nat} {Q : List Int} {o z : Int} (h : St c w wx A g n Q o z) (x : Nat) (v : Int) : St c w (wx.setCell ⟨g, x, none⟩ (.int .i64 v)) A g n (Q.set x v) o z := by
  have hg := grown_setCell (World.grownBy.refl wx (some g)) x (.int .i64 v)
  refine ⟨h.bl.setCell (p := ⟨g, x, none⟩) h.gg _, h.bx.apart hg (fun k hk => by cases hk; exact h.ne), fun j => ?_, ?_, h.ne, h.ge⟩
  · rw [World.frozen?_setCell]; exact h.fz j
  · exact Ct.row_put h.row x v
theorem St.out {c : Nat} {w wx : World} {A g n : Nat} {Q : List Int} {o z : Int} (h : St c w wx A g n Q o z) (v : Int) : St c w (wx.setCell ⟨A, 1, none⟩ (.int .i64 v)) A g n Q v z := by
  obtain ⟨b0, b1, b2⟩ := h.bx
  refine ⟨h.bl.setCell (p := ⟨A, 1, none⟩) h.ge _, ⟨?_, ?_, ?_⟩, fun j => ?_, ?_, h.ne, h.ge⟩
  · simp [go_sem, b0]
  · simp [go_sem, b1]
  · simp [go_sem, b2]
  · rw [World.frozen?_setCell]; exact h.fz j
  · exact Ct.row_keep h.row A 1 _ (fun k hk e => h.ne (by cases hk; exact e.symm))
/-- a row's places -/
theorem St.get {c : Nat} {w wx : World} {A g n : Nat} {Q : List Int} {o z : Int} (h : St c w wx A g n Q o z) (hQ : Q.length = n) (x : Nat) (hx : x < n) : wx.cell? ⟨g, x, none⟩ = some (.int .i64 (Q.getD x 0)) ∧ wx.frozen? ⟨g, x, none⟩ = false :=
  ⟨Ct.row_get h.row hQ x hx, h.row.frozenAt x⟩
theorem st_make1 (c n : Nat) (w1 : World) (ZC : Array Value) (o z : Int) (hc : c ≤ w1.heap.size) (hr : (w1.alloc (Obj.cells ZC 2)).ownsRow c 2 1 (.slice (some ⟨w1.heap.size, 0, none⟩) n n) n (ints (Ct.zeros n))) :
    St c w1 ((w1.alloc (Obj.cells ZC 2)).alloc (Obj.cells #[.slice (some ⟨w1.heap.size, 0, none⟩) n n, .int .i64 o, .int .i64 z] 26)).drew (w1.heap.size + 1) w1.heap.size n (Ct.zeros n) o z := by
  have m1 : (w1.alloc (Obj.cells ZC 2)).heap.size = w1.heap.size + 1 := by simp
  refine ⟨?_, ?_, ?_, ?_, by omega, by omega⟩
  · exact (((Below.refl _ w1).alloc hc _).alloc (by rw [m1]; omega) _).drew
  · unfold Bk.Box; simp [go_sem]
  · intro j; simp [go_sem]
  · exact Bk.row_on hr ((Below.refl _ _).alloc (Nat.le_refl _) _).drew
theorem st_make2 (c n : Nat) (w1 : World) (ZC : Array Value) (o z : Int) (hc : c ≤ w1.heap.size)
    (hr : ∀ W : World, c ≤ W.heap.size → (W.alloc (Obj.cells ZC 2)).ownsRow c 2 1 (.slice (some ⟨W.heap.size, 0, none⟩) n n) n (ints (Ct.zeros n))) :
    St c w1 ((w1.alloc (Obj.cells #[.slice (some ⟨w1.heap.size + 1, 0, none⟩) n n, .int .i64 o, .int .i64 z] 26)).alloc (Obj.cells ZC 2)).drew w1.heap.size (w1.heap.size + 1) n (Ct.zeros n) o z := by
  have m1 : (w1.alloc (Obj.cells #[.slice (some ⟨w1.heap.size + 1, 0, none⟩) n n, .int .i64 o, .int .i64 z] 26)).heap.size = w1.heap.size + 1 := by simp
  refine ⟨?_, ?_, ?_, ?_, by omega, by omega⟩
  · exact (((Below.refl _ w1).alloc hc _).alloc (by rw [m1]; omega) _).drew
  · unfold Bk.Box; simp [go_sem]
  · intro j; simp [go_sem]
  · have := hr (w1.alloc (Obj.cells #[.slice (some ⟨w1.heap.size + 1, 0, none⟩) n n, .int .i64 o, .int .i64 z] 26)) (by rw [m1]; omega)
    rw [m1] at this
    exact this
set_option maxHeartbeats 2000000 in
set_option maxRecDepth 20000 in
theorem iflow_yes (N W R : List Int) (na wa ra : Option Addr) (nn nk wk rk : Nat) (z1 z2 sR zz : Int) (w : World) (hnn : nn ≤ 1048576) (hN : nn = N.length)
    (HA : Hid (∀ i, i < nn → ∃ b o, na = some ⟨b, o, none⟩ ∧ b < w.heap.size ∧ w.cell? ⟨b, o + i, none⟩ = some (.int .i64 (N.getD i 0))))
    (HB : Hid (∀ i, i < nn → ∃ b o, wa = some ⟨b, o, none⟩ ∧ b < w.heap.size ∧ w.cell? ⟨b, o + i, none⟩ = some (.int .i64 (W.getD i 0))))
    (HC : Hid (∀ i, i < nn → ∃ b o, ra = some ⟨b, o, none⟩ ∧ b < w.heap.size ∧ w.cell? ⟨b, o + i, none⟩ = some (.int .i64 (R.getD i 0))))
    (HV : Hid (∀ i, i < nn → -1 ≤ N.getD i 0 ∧ N.getD i 0 < nn))
    (HW0 : Hid (∀ i, i < nn → 0 ≤ W.getD i 0 ∧ W.getD i 0 ≤ 1000000000000)) (HR0 : Hid (∀ i, i < nn → 0 ≤ R.getD i 0 ∧ R.getD i 0 ≤ 1000000000000))
    (hz : 0 ≤ z1 ∧ z1 ≤ 1000000000000)
    (CO : Hid (∀ X, Below w.heap.size w X → Calls Try.prog 17 #[.slice na nn nk, .agg #[.slice wa nn wk, .int .i64 z1, .int .i64 z2], .slice ra nn rk] X fun e w' => e = .returned (.bool true) ∧ Below X.heap.size X w'))
    (CT : Hid (∀ X, Below w.heap.size w X → Calls Try.prog 18 #[.slice ra nn rk] X fun e w' => e = .returned (.int .i64 sR) ∧ w' = X))
    (e1 : IntKind.i64.wrap (z2 + sR) = zz) :
    Calls Try.prog 7 #[.slice na nn nk, .agg #[.slice wa nn wk, .int .i64 z1, .int .i64 z2], .slice ra nn rk] w fun e w' => ∃ u, e = .returned (.tuple #[.agg #[u, .int .i64 (pfl N W R z1 nn).2, .int .i64 zz], .bool true]) ∧ w'.ownsRow w.heap.size 2 1 u nn (ints (pfl N W R z1 nn).1) ∧ Below w.heap.size w w' := by
  have PB : Hid (∀ k, k ≤ nn → (pfl N W R z1 k).1.length = nn ∧ z1 ≤ (pfl N W R z1 k).2 ∧ (pfl N W R z1 k).2 ≤ z1 + 2000000000000 * k ∧ ∀ j, j < nn → 0 ≤ (pfl N W R z1 k).1.getD j 0 ∧ (pfl N W R z1 k).1.getD j 0 ≤ 2000000000000 * k) := (by rw [hN] at HW0 HR0 ⊢; exact pfl_bd N W R z1 hz.1 HW0.out HR0.out)
  have PS : Hid (∀ k, pfl N W R z1 (k + 1) = pst N W R (pfl N W R z1 k) k) := pfl_succ N W R z1
  have P0 : Hid (pfl N W R z1 0 = (Ct.zeros nn, z1)) := (by show _ = _; rw [hN]; unfold pfl Ct.zeros; simp [List.map_const'])
  clear hN
  obtain ⟨w0, hw0⟩ : ∃ w0, w0 = (w.alloc (.cells #[.slice wa nn wk, .int .i64 z1, .int .i64 z2] 26)).alloc (.cells #[.slice none 0 0, .int .i64 0, .int .i64 0] 26) := ⟨_, rfl⟩
  have HW : Hid (w0 = (w.alloc (.cells #[.slice wa nn wk, .int .i64 z1, .int .i64 z2] 26)).alloc (.cells #[.slice none 0 0, .int .i64 0, .int .i64 0] 26)) := hw0
  have B0 : Hid (Below w.heap.size w w0) := (by show Below _ _ _; rw [hw0]; exact ((Below.refl _ _).alloc (Nat.le_refl _) _).alloc (by simp) _)
  have X0 : Hid (Bk.Box w0 w.heap.size (.slice wa nn wk) (.int .i64 z1) (.int .i64 z2)) := (by show Bk.Box _ _ _ _ _; rw [hw0]; unfold Bk.Box; simp [go_sem])
  have Y0 : Hid (Bk.Box w0 (w.heap.size + 1) (.slice none 0 0) (.int .i64 0) (.int .i64 0)) := (by show Bk.Box _ _ _ _ _; rw [hw0]; unfold Bk.Box; simp [go_sem])
  have F0 : Hid (∀ j, w0.frozen? ⟨w.heap.size + 1, j, none⟩ = false) := fun j => (by rw [hw0]; simp [go_sem])
  have S0 : Hid (w0.heap.size = w.heap.size + 2) := (by show _ = _; rw [hw0]; simp)
  obtain ⟨i0, hi, hz0, hz1, hz2⟩ := info_parts Lists.Try.info2
  obtain ⟨ZC, hZC⟩ : ∃ ZC, ZC = madeCells (Value.int .i64 0).cells (nn * 1) := ⟨_, rfl⟩
  have hmk : ∀ w, (Instr.makeSlice 24 (.int .i64 (nn : Int)) (.int .i64 (nn : Int))).run Try.prog w = .ok (.slice (some ⟨w.heap.size, 0, none⟩) nn nn) (w.alloc (.cells ZC 2)) := fun w => by
    have := run_make (P := Try.prog) w 24 2 i0 (.int .i64 0) Try.underlying24 hi hz0 .i64 .i64 (nn : Int) (nn : Int) (by omega) (Int.le_refl _) (by rw [hz2]; omega) (by omega)
    rw [hz1] at this
    simp only [Int.toNat_natCast] at this
    rw [hZC]
    exact this
  have MR : Hid (∀ (W : World) (b : Nat), b ≤ W.heap.size → (W.alloc (.cells ZC 2)).ownsRow b 2 1 (.slice (some ⟨W.heap.size, 0, none⟩) nn nn) nn (ints (Ct.zeros nn))) := fun W b hb => by
    rw [← Ct.zeros_made nn, hZC]
    exact World.ownsRow_lit W _ nn hb (by unfold maxLen; omega) (size_madeCells _ _)
  clear hw0 hZC
  obtain ⟨c0, c1, c2⟩ := X0.out
  go_enter Try.func7, Try.ntmps7
  go_upto_region 1 with fail
  rw [← HW.out]
  go_wp2_with fail
  refine (CO.out _ B0.out).mono ?_
  rintro e w1 ⟨rfl, hb⟩
  clear c0 c1 c2
  have X1 : Hid (Bk.Box w1 w.heap.size (.slice wa nn wk) (.int .i64 z1) (.int .i64 z2)) := X0.out.on hb (by have := S0.out; omega)
  have Y1 : Hid (Bk.Box w1 (w.heap.size + 1) (.slice none 0 0) (.int .i64 0) (.int .i64 0)) := Y0.out.on hb (by have := S0.out; omega)
  have F1 : Hid (∀ j, w1.frozen? ⟨w.heap.size + 1, j, none⟩ = false) := fun j => (hb.frozen (p := ⟨w.heap.size + 1, j, none⟩) (by have := S0.out; show w.heap.size + 1 < _; omega)).trans (F0.out j)
  have B1 : Hid (Below w.heap.size w w1) := B0.out.trans (hb.mono B0.out.size)
  have S1 : Hid (w.heap.size + 2 ≤ w1.heap.size) := (by have := S0.out; have := hb.size; show _ ≤ _; omega)
  clear hb X0 Y0 F0 S0 B0 HW CO
  obtain ⟨k0, k1, k2⟩ := X1.out
  go_upto_region 3 with fail
  have hs0 : w.heap.size < w1.heap.size := (by have := S1.out; omega)
  have CT' : ∀ X : World, Below w1.heap.size w1 X → Calls Try.prog 18 #[.slice ra nn rk] X fun e w' => e = .returned (.int .i64 sR) ∧ w' = X := fun X hb => CT.out X (B1.out.trans (hb.mono B1.out.size))
  go_cut [8] (fun x wx => ∃ A g, x = .pointer (some ⟨A, 0, none⟩) ∧ Hid (St (w.heap.size + 2) w1 wx A g nn (Ct.zeros nn) z1 zz))
  case first =>
    go_region_held3 (fun w' => w'.cell? ⟨w.heap.size, 0, none⟩ = some (.slice wa nn wk) ∧ w'.cell? ⟨w.heap.size, 1, none⟩ = some (.int .i64 z1) ∧ w'.cell? ⟨w.heap.size, 2, none⟩ = some (.int .i64 z2))
      (go_keep)
      ((go_at_call 18; refine (CT' _ (by first | exact (Below.refl _ _).drew | exact ((Below.refl _ _).alloc (Nat.le_refl _) _).drew | exact (((Below.refl _ _).alloc (Nat.le_refl _) _).alloc (by simp) _).drew)).mono ?_; rintro e x ⟨rfl, hx⟩; subst x))
    all_goals go_wp2_with fail
    all_goals go_meet
    all_goals first
      | exact ⟨_, _, rfl, st_make1 _ _ _ _ _ _ S1.out (MR.out w1 _ S1.out)⟩
      | exact ⟨_, _, rfl, st_make2 _ _ _ _ _ _ S1.out (fun W hW => MR.out W _ hW)⟩
  case rest =>
    obtain ⟨wo, hwo⟩ : ∃ x : World, x = wc := ⟨_, rfl⟩
    subst hwo
    obtain ⟨A, g, rfl, T0⟩ := hcut
    clear e1 k0 k1 k2 hmk MR CT CT'
    have U0 : Hid (St (w.heap.size + 2) w1 wo A g nn (pfl N W R z1 0).1 (pfl N W R z1 0).2 zz) := (by show St _ _ _ _ _ _ _ _ _; rw [P0.out]; exact T0.out)
    clear T0 P0
    go_wp2_with fail
    go_loopw [32] (fun i wr => ∃ k : Nat, k ≤ nn ∧ i = .int .i64 k ∧ Hid (St (w.heap.size + 2) w1 wr A g nn (pfl N W R z1 k).1 (pfl N W R z1 k).2 zz)) (fun i _ => nn - (intOf i).toNat)
    case atStart => exact ⟨0, Nat.zero_le _, rfl, U0⟩
    case round =>
      obtain ⟨k, hk, rfl, U⟩ := hrel
      by_cases hlt : k < nn
      · have j0 : (0 : Int) ≤ (k : Int) := by omega
        have j1 : (k : Int) < (nn : Int) := by omega
        obtain ⟨b1, o1, r1, v1, d1⟩ := HA.out k hlt
        obtain ⟨b2, o2, r2, v2, d2⟩ := HB.out k hlt
        obtain ⟨b3, o3, r3, v3, d3⟩ := HC.out k hlt
        subst r1 r2 r3
        have bw := U.out.bl
        have d1' := (bw.cell (p := ⟨b1, o1 + k, none⟩) (by show b1 < _; omega)).trans ((B1.out.cell (p := ⟨b1, o1 + k, none⟩) v1).trans d1)
        have d2' := (bw.cell (p := ⟨b2, o2 + k, none⟩) (by show b2 < _; omega)).trans ((B1.out.cell (p := ⟨b2, o2 + k, none⟩) v2).trans d2)
        have d3' := (bw.cell (p := ⟨b3, o3 + k, none⟩) (by show b3 < _; omega)).trans ((B1.out.cell (p := ⟨b3, o3 + k, none⟩) v3).trans d3)
        obtain ⟨c0, c1, c2⟩ := X1.out.on bw (by omega)
        obtain ⟨L0, oo1, oo2, QB⟩ := PB.out k hk
        have QH : Hid (∀ j, j < nn → 0 ≤ (pfl N W R z1 k).1.getD j 0 ∧ (pfl N W R z1 k).1.getD j 0 ≤ 2000000000000 * k) := QB
        have a1 := HW0.out k hlt
        have a2 := HR0.out k hlt
        have a3 := HV.out k hlt
        have NX : Hid (pfl N W R z1 (k + 1) = pst N W R (pfl N W R z1 k) k) := PS.out k
        have HL : Hid ((pfl N W R z1 k).1.length = nn) := L0
        clear d1 d2 d3 v1 v2 v3 bw QB L0
        generalize hQ : pfl N W R z1 k = Q at *
        obtain ⟨qk, hqk⟩ : ∃ qk, qk = Q.1.getD k 0 := ⟨_, rfl⟩
        have a4 := QH.out k hlt
        obtain ⟨g0, f0⟩ := U.out.get HL.out k hlt
        rw [← hqk] at g0 a4
        have HQ : Hid (qk = Q.1.getD k 0) := hqk
        have XS : Hid (N.getD k 0 = -1 → pst N W R Q k = (Q.1.set k (qk + (W.getD k 0 + R.getD k 0) / 2), Q.2 + ((W.getD k 0 + R.getD k 0) - (W.getD k 0 + R.getD k 0) / 2))) := fun h => by
          unfold pst hf hs up; rw [if_pos h, hqk]
        have XN : Hid (N.getD k 0 ≠ -1 → pst N W R Q k = (up (Q.1.set k (qk + (W.getD k 0 + R.getD k 0) / 2)) (N.getD k 0).toNat ((W.getD k 0 + R.getD k 0) - (W.getD k 0 + R.getD k 0) / 2), Q.2)) := fun h => by
          unfold pst hf hs; rw [if_neg h]; unfold up; rw [hqk]
        clear hqk hQ
        generalize W.getD k 0 = x at *
        generalize R.getD k 0 = y at *
        generalize N.getD k 0 = tt at *
        obtain ⟨h, hh⟩ : ∃ h, h = x + y := ⟨_, rfl⟩
        obtain ⟨st, hst⟩ : ∃ st, st = (x + y) / 2 := ⟨_, rfl⟩
        rw [← hst, ← hh] at XS XN
        have HH : Hid (h = x + y) := hh
        have HS : Hid (st = (x + y) / 2) := hst
        have w1' : IntKind.i64.wrap (x + y) = h := (IntWalk.i64_in _ (by omega)).trans hh.symm
        have w2' : IntKind.i64.wrap (h.tdiv 2) = st := by rw [Int.tdiv_eq_ediv_of_nonneg (by omega), hh, ← hst]; exact IntWalk.i64_in _ (by omega)
        have w3' : IntKind.i64.wrap (qk + st) = qk + st := IntWalk.i64_in _ (by omega)
        have w4' : IntKind.i64.wrap (h - st) = h - st := IntWalk.i64_in _ (by omega)
        have ha : 0 ≤ h - st ∧ h - st ≤ 2000000000000 := by omega
        clear hh hst
        have U2 : Hid (∀ m, St (w.heap.size + 2) w1 ((wr.drewN m).setCell ⟨g, k, none⟩ (.int .i64 (qk + st))) A g nn (Q.1.set k (qk + st)) Q.2 zz) := fun m => (U.out.drewN m).put k _
        obtain ⟨y0, y1, y2⟩ := U.out.bx
        have y3 := U.out.ne
        have y4 : ¬ g = A := fun h => y3 h.symm
        go_upto_region 7 with fail
        go_quiet (fail)
        go_upto_region 10 with fail
        obtain ⟨w2, hw2⟩ : ∃ w2, w2 = (wr.drewN nq).setCell ⟨g, k, none⟩ (.int .i64 (qk + st)) := ⟨_, rfl⟩
        have V := U2.out nq
        rw [← hw2] at V ⊢
        have VH : Hid (St (w.heap.size + 2) w1 w2 A g nn (Q.1.set k (qk + st)) Q.2 zz) := V
        have VL : Hid ((Q.1.set k (qk + st)).length = nn) := (by show _ = _; rw [List.length_set]; exact HL.out)
        clear hw2 U2 U V d1' d2' d3' c0 c1 c2 y0 y1 y2 g0 f0 w1' w2' w3' X1 Y1 F1 B1
        by_cases ht : tt = -1
        · have XE := XS.out ht
          have XH : Hid (pst N W R Q k = (Q.1.set k (qk + st), Q.2 + (h - st))) := XE
          obtain ⟨y0, y1, y2⟩ := VH.out.bx
          have y5 := VH.out.fz 1
          have w5 : IntKind.i64.wrap (Q.2 + (h - st)) = Q.2 + (h - st) := IntWalk.i64_in _ (by omega)
          have VV : Hid (St (w.heap.size + 2) w1 (w2.setCell ⟨A, 1, none⟩ (.int .i64 (Q.2 + (h - st)))) A g nn (pfl N W R z1 (k + 1)).1 (pfl N W R z1 (k + 1)).2 zz) := (by show St _ _ _ _ _ _ _ _ _; rw [NX.out, XH.out]; exact VH.out.out _)
          have tb : (tt == -1) = true := by simp [ht]
          clear XE XS XN VH NX XH ht
          go_wp2_with fail
          go_roundw
          case rel => exact ⟨k + 1, by omega, by go_num, VV⟩
          case measure => simp [intOf]; omega
        · have XE := XN.out ht
          obtain ⟨j, hj⟩ : ∃ j : Nat, tt = (j : Int) := ⟨tt.toNat, by omega⟩
          subst hj
          have jl : j < nn := by omega
          have j2 : (0 : Int) ≤ (j : Int) := by omega
          have j3 : (j : Int) < (nn : Int) := by omega
          obtain ⟨y0, y1, y2⟩ := VH.out.bx
          obtain ⟨g0, f0⟩ := VH.out.get VL.out j jl
          have bq : 0 ≤ (Q.1.set k (qk + st)).getD j 0 ∧ (Q.1.set k (qk + st)).getD j 0 ≤ 2000000000000 * k + 2000000000000 := by
            rw [Ct.getD_set _ _ _ _ (by rw [HL.out]; exact hlt)]
            have := QH.out j jl
            by_cases e : j = k
            · rw [if_pos e]; have := HH.out; have := HS.out; omega
            · rw [if_neg e]; omega
          have VV : Hid (St (w.heap.size + 2) w1 (w2.setCell ⟨g, j, none⟩ (.int .i64 ((Q.1.set k (qk + st)).getD j 0 + (h - st)))) A g nn (pfl N W R z1 (k + 1)).1 (pfl N W R z1 (k + 1)).2 zz) := (by
            show St _ _ _ _ _ _ _ _ _
            rw [NX.out, XE]
            unfold up
            rw [Int.toNat_natCast]
            exact VH.out.put j _)
          have tb : ((j : Int) == -1) = false := by simp
          generalize (Q.1.set k (qk + st)).getD j 0 = qj at *
          have w5 : IntKind.i64.wrap (qj + (h - st)) = qj + (h - st) := IntWalk.i64_in _ (by omega)
          clear XE XS XN VH NX ht
          go_wp2_with fail
          go_roundw
          case rel => exact ⟨k + 1, by omega, by go_num, VV⟩
          case measure => simp [intOf]; omega
      · have hkn : k = nn := by omega
        subst hkn
        have jj : ¬ (k : Int) < (k : Int) := by omega
        have bw := U.out.bl
        obtain ⟨y0, y1, y2⟩ := U.out.bx
        obtain ⟨r0, r1, r2⟩ := Y1.out.on bw (by omega)
        have f1 : ∀ j, wr.frozen? ⟨w.heap.size + 1, j, none⟩ = false := fun j => (bw.frozen (p := ⟨w.heap.size + 1, j, none⟩) (by show w.heap.size + 1 < _; omega)).trans (F1.out j)
        have f10 := f1 0
        have f11 := f1 1
        have f12 := f1 2
        have nA : ¬ A = w.heap.size + 1 := by have := U.out.ge; omega
        have nA' : ¬ w.heap.size + 1 = A := by omega
        clear f1 bw
        go_wp2_with fail
        refine bodyPost_ret (v := .tuple #[.agg #[.slice (some ⟨g, 0, none⟩) k k, .int .i64 (pfl N W R z1 k).2, .int .i64 zz], .bool true]) (by simp [results, Try.results7, go_sem, r0, r1, r2]) rfl ⟨_, rfl, ?_, ?_⟩
        · have rr := U.out.row
          have gg := U.out.gg
          refine Bk.own_down (B := w.heap.size + 2) ?_ (by omega)
          exact (Bk.row_set (Bk.row_set (Bk.row_set rr _ _ _ (by omega)) _ _ _ (by omega)) _ _ _ (by omega))
        · have bb : Below w.heap.size w wr := B1.out.trans ((U.out.bl.mono (by omega)))
          exact ((bb.setCell (p := ⟨w.heap.size + 1, 0, none⟩) (Nat.le_succ _) _).setCell (p := ⟨w.heap.size + 1, 1, none⟩) (Nat.le_succ _) _).setCell (p := ⟨w.heap.size + 1, 2, none⟩) (Nat.le_succ _) _
theorem reads_low {w : World} {v : Value} {L : List Int} {a : Option Addr} {cap : Nat} (h : Lists.Reads w v L) (e : v = .slice a L.length cap) : ∀ i, i < L.length → ∃ b o, a = some ⟨b, o, none⟩ ∧ b < w.heap.size ∧ w.cell? ⟨b, o + i, none⟩ = some (.int .i64 (L.getD i 0)) := by
  intro i hi
  rcases h with ⟨rfl, _⟩ | ⟨b, o, c, e', _, _, x, y⟩
  · simp at hi
  · rw [e] at e'; simp at e'; exact ⟨b, o, e'.1, x, y i hi⟩
/-- what FlowStep answers: the list, the two numbers -/
def anL (N W R : List Int) (z1 z2 : Int) : List Int := if stp N W z1 z2 R then (pfl N W R z1 N.length).1 else []
def anO (N W R : List Int) (z1 z2 : Int) : Int := if stp N W z1 z2 R then (pfl N W R z1 N.length).2 else 0
def anR (N W R : List Int) (z1 z2 : Int) : Int := if stp N W z1 z2 R then z2 + sm R R.length else 0
structure Ok (N W R : List Int) (z1 z2 : Int) : Prop where
  ok : Ct.okN N = true
  lw : W.length = N.length
  lr : R.length = N.length
  ww : wat W = true
  wr : wat R = true
  h1 : 0 ≤ z1 ∧ z1 ≤ 1000000000000
  h2 : 0 ≤ z2 ∧ z2 ≤ 1000000000000 - sm R R.length
  h3 : sm W W.length + z1 = z2
theorem stp_ok {N W R : List Int} {z1 z2 : Int} : stp N W z1 z2 R = true ↔ Ok N W R z1 z2 := by
  unfold stp Ct.inn
  simp only [Bool.and_eq_true, decide_eq_true_eq]
  constructor
  · rintro ⟨a, b, c, d, e, f, g, h⟩; exact ⟨a, b, c, d, e, f, g, h⟩
  · rintro ⟨a, b, c, d, e, f, g, h⟩; exact ⟨a, b, c, d, e, f, g, h⟩
theorem Ok.len {N W R : List Int} {z1 z2 : Int} (h : Ok N W R z1 z2) : N.length ≤ 576 := ((Ct.ok_iff N).1 h.ok).1
theorem iflow_any (N W R : List Int) (z1 z2 : Int) (vN vW vR : Value) (w : World) (hN : Lists.Reads w vN N) (hW : Lists.Reads w vW W) (hR : Lists.Reads w vR R) (ln : N.length < 9223372036854775808) (lw : W.length < 9223372036854775808) (lr : R.length < 9223372036854775808) :
    Calls Try.prog 7 #[vN, Bk.sv z1 z2 vW, vR] w fun e w' => ∃ u, e = .returned (.tuple #[Bk.sv (anO N W R z1 z2) (anR N W R z1 z2) u, .bool (stp N W z1 z2 R)]) ∧ w'.ownsRow w.heap.size 2 1 u (anL N W R z1 z2).length (ints (anL N W R z1 z2)) ∧ Below w.heap.size w w' := by
  have CO : ∀ X, Below w.heap.size w X → Calls Try.prog 17 #[vN, .agg #[vW, .int .i64 z1, .int .i64 z2], vR] X fun e w' => e = .returned (.bool (stp N W z1 z2 R)) ∧ Below X.heap.size X w' := fun X hb => istep_any N W R z1 z2 vN vW vR X (hN.on hb) (hW.on hb) (hR.on hb) ln lw lr
  obtain ⟨na, nc, e1⟩ := hN.form
  obtain ⟨wa, wc, e2⟩ := hW.form
  obtain ⟨ra, rc, e3⟩ := hR.form
  cases hq : stp N W z1 z2 R with
  | false =>
    rw [hq] at CO
    unfold anL anO anR
    rw [hq]
    subst e1 e2 e3
    refine (iflow_no na wa ra N.length nc W.length wc R.length rc z1 z2 w CO).mono ?_
    rintro e w' ⟨rfl, hb⟩
    exact ⟨_, rfl, ⟨rfl, .inl ⟨rfl, rfl⟩⟩, hb⟩
  | true =>
    rw [hq] at CO
    have K := stp_ok.1 hq
    have n5 := K.len
    have lr : R.length ≤ 1048576 := by have := K.lr; omega
    have CT : ∀ X, Below w.heap.size w X → Calls Try.prog 18 #[vR] X fun e w' => e = .returned (.int .i64 (sm R R.length)) ∧ w' = X := fun X hb => itotal_any R vR X (hR.on hb) lr K.wr
    have A1 := reads_low hN e1
    have A2 := reads_low hW e2
    have A3 := reads_low hR e3
    have B2 := (wat_iff W).1 K.ww
    have B3 := (wat_iff R).1 K.wr
    have l1 := K.lw
    have l2 := K.lr
    rw [l1] at e2 A2 B2
    rw [l2] at e3 A3 B3
    subst e1 e2 e3
    have s := sm_all R lr K.wr
    have h2 := K.h2
    have h1 := K.h1
    have pb := pfl_bd N W R z1 K.h1.1 B2 B3 N.length (Nat.le_refl _)
    refine (iflow_yes N W R na wa ra N.length nc wc rc z1 z2 (sm R R.length) (z2 + sm R R.length) w (by omega) rfl A1 A2 A3 ((Ct.ok_iff N).1 K.ok).2.1 B2 B3 K.h1 CO CT (IntWalk.i64_in _ (by omega))).mono ?_
    rintro e w' ⟨u, rfl, hr, hb⟩
    refine ⟨u, ?_, ?_, hb⟩
    · unfold anO anR; rw [hq]; rfl
    · unfold anL; rw [hq]
      show w'.ownsRow w.heap.size 2 1 u (pfl N W R z1 N.length).1.length (ints (pfl N W R z1 N.length).1)
      rw [pb.1]; exact hr
end Go.Proofs.Ytjhoagbcfpbelaa.Fs
