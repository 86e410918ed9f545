/- FlowStep of the model: where it is granted. -/
import Derived.Test.YtjhoagbcfpbelaaFsM
import Derived.Deep.AppendLies
import Derived.Maps.AppendAt
namespace Go.Proofs.Ytjhoagbcfpbelaa.Fs
open Go.ChangeShapes Go.WideShapes Go.ChangeAt Go.RowKit
open Go.Proofs.Ytjhoagbcfpbelaa.Lists
/-- the answer's box at A (made at the end of w), its row above it -/
structure Mt (w wx : World) (A : Nat) (v : Value) (n : Nat) (Q : List Int) (o z : Int) : Prop where
  bl : Below A w wx
  bx : Bk.Box wx A v (.int .i64 o) (.int .i64 z)
  fz : ∀ j, wx.frozen? ⟨A, j, none⟩ = false
  row : wx.ownsRow (A + 1) 2 1 v n (ints Q)
theorem Mt.sz {w wx : World} {A n : Nat} {v : Value} {Q : List Int} {o z : Int} (h : Mt w wx A v n Q o z) : A < wx.heap.size := World.block_lt_of_cell? wx ⟨A, 0, none⟩ h.bx.1
theorem Mt.drewN {w wx : World} {A n : Nat} {v : Value} {Q : List Int} {o z : Int} (h : Mt w wx A v n Q o z) (m : Nat) : Mt w (wx.drewN m) A v n Q o z := ⟨Bk.below_drewN h.bl m, h.bx, h.fz, h.row⟩
/-- one more appended, the list laid back into the box -/
theorem Mt.more {w wx w5 : World} {A n g c : Nat} {v : Value} {Q : List Int} {o z x : Int} {ob : Obj} (h : Mt w wx A v n Q o z)
    (hr : w5.ownsRow (A + 1) 2 1 (.slice (some ⟨g, 0, none⟩) (n + 1) c) (n + 1) (ints Q ++ [.int .i64 x])) (hg : (wx.alloc ob).grownBy w5 v.ownBlock) :
    Mt w (w5.setCell ⟨A, 0, none⟩ (.slice (some ⟨g, 0, none⟩) (n + 1) c)) A (.slice (some ⟨g, 0, none⟩) (n + 1) c) (n + 1) (Q ++ [x]) o z := by
  have sz := h.sz
  have bA : Below (A + 1) (wx.alloc ob) w5 := (Below.refl _ _).grown hg (by simp; omega) (fun k hk => (h.row.lt k hk).1)
  have bB : Below (A + 1) wx w5 := ((Below.refl (A + 1) wx).alloc sz _).trans bA
  obtain ⟨b0, b1, b2⟩ := h.bx.on bB (Nat.lt_succ_self _)
  have fz : ∀ j, w5.frozen? ⟨A, j, none⟩ = false := fun j => (bB.frozen (p := ⟨A, j, none⟩) (Nat.lt_succ_self _)).trans (h.fz j)
  refine ⟨(h.bl.trans (bB.mono (Nat.le_succ _))).setCell (p := ⟨A, 0, none⟩) (Nat.le_refl _) _, ⟨?_, ?_, ?_⟩, fun j => ?_, ?_⟩
  · simp [go_sem, b0]
  · simp [go_sem, b1]
  · simp [go_sem, b2]
  · rw [World.frozen?_setCell]; exact fz j
  · have e : ints (Q ++ [x]) = ints Q ++ [.int .i64 x] := by simp [ints]
    rw [e]
    exact Bk.row_set hr A 0 _ (Nat.lt_succ_self _)
theorem cell_one_new (w : World) (v0 : Value) (t : TypeId) : ∀ j u, [v0][j]? = some u → (w.alloc (Obj.cells #[v0] t)).cell? ((⟨w.heap.size, 0, none⟩ : Addr).add j) = some u := by
  intro j u hj
  match j, hj with
  | 0, hj => simp at hj; subst hj; simp [Addr.add]
theorem cell_al {w : World} {g x : Nat} {u : Value} {ob : Obj} (h : w.cell? ⟨g, x, none⟩ = some u) : (w.alloc ob).cell? ⟨g, x, none⟩ = some u := by
  rw [World.cell?_alloc_some w _ ob (by rw [h]; rfl)]; exact h
/-- the first k of what each cell has -/
def hl (W R : List Int) (k : Nat) : List Int := (List.range k).map (hs W R)
theorem hl_succ (W R : List Int) (k : Nat) : hl W R (k + 1) = hl W R k ++ [W.getD k 0 + R.getD k 0] := by unfold hl hs; rw [List.range_succ]; simp
theorem hl_len (W R : List Int) (k : Nat) : (hl W R k).length = k := by simp [hl]
theorem Mt.put {w wx : World} {A n g c : Nat} {Q : List Int} {o z : Int} (h : Mt w wx A (.slice (some ⟨g, 0, none⟩) n c) n Q o z) (x : Nat) (y : Int) : Mt w (wx.setCell ⟨g, x, none⟩ (.int .i64 y)) A (.slice (some ⟨g, 0, none⟩) n c) n (Q.set x y) o z := by
  have gg := (h.row.lt g rfl).1
  have hg := grown_setCell (World.grownBy.refl wx (some g)) x (.int .i64 y)
  refine ⟨h.bl.setCell (p := ⟨g, x, none⟩) (by show A ≤ g; omega) _, h.bx.apart hg (fun k hk => by cases hk; omega), fun j => ?_, ?_⟩
  · rw [World.frozen?_setCell]; exact h.fz j
  · exact Ct.row_put h.row x y
theorem Mt.out {w wx : World} {A n : Nat} {v : Value} {Q : List Int} {o z : Int} (h : Mt w wx A v n Q o z) (y : Int) : Mt w (wx.setCell ⟨A, 1, none⟩ (.int .i64 y)) A v n Q y z := by
  obtain ⟨b0, b1, b2⟩ := h.bx
  refine ⟨h.bl.setCell (p := ⟨A, 1, none⟩) (Nat.le_refl _) _, ⟨?_, ?_, ?_⟩, fun j => ?_, ?_⟩
  · simp [go_sem, b0]
  · simp [go_sem, b1]
  · simp [go_sem, b2]
  · rw [World.frozen?_setCell]; exact h.fz j
  · exact Bk.row_set h.row A 1 _ (Nat.lt_succ_self _)
/-- the second loop's state: what was lies beside -/
structure Nt (w wx : World) (A g c gw n : Nat) (H Q : List Int) (o z : Int) : Prop where
  mt : Mt w wx A (.slice (some ⟨g, 0, none⟩) n c) n Q o z
  was : ∀ i, i < n → wx.cell? ⟨gw, i, none⟩ = some (.int .i64 (H.getD i 0))
  ne : gw ≠ g
  na : gw ≠ A
theorem Nt.drewN {w wx : World} {A g c gw n : Nat} {H Q : List Int} {o z : Int} (h : Nt w wx A g c gw n H Q o z) (m : Nat) : Nt w (wx.drewN m) A g c gw n H Q o z := ⟨h.mt.drewN m, h.was, h.ne, h.na⟩
theorem Nt.put {w wx : World} {A g c gw n : Nat} {H Q : List Int} {o z : Int} (h : Nt w wx A g c gw n H Q o z) (x : Nat) (y : Int) : Nt w (wx.setCell ⟨g, x, none⟩ (.int .i64 y)) A g c gw n H (Q.set x y) o z := by
  refine ⟨h.mt.put x y, fun i hi => ?_, h.ne, h.na⟩
  have hg := grown_setCell (World.grownBy.refl wx (some g)) x (.int .i64 y)
  exact hg.cell (h.was i hi) (fun e => h.ne (by cases e; rfl))
theorem Nt.out {w wx : World} {A g c gw n : Nat} {H Q : List Int} {o z : Int} (h : Nt w wx A g c gw n H Q o z) (y : Int) : Nt w (wx.setCell ⟨A, 1, none⟩ (.int .i64 y)) A g c gw n H Q y z := by
  refine ⟨h.mt.out y, fun i hi => ?_, h.ne, h.na⟩
  have hg := grown_setCell (World.grownBy.refl wx (some A)) 1 (.int .i64 y)
  exact hg.cell (h.was i hi) (fun e => h.na (by cases e; rfl))
theorem Nt.get {w wx : World} {A g c gw n : Nat} {H Q : List Int} {o z : Int} (h : Nt w wx A g c gw n H Q o z) (hQ : Q.length = n) (x : Nat) (hx : x < n) : wx.cell? ⟨g, x, none⟩ = some (.int .i64 (Q.getD x 0)) ∧ wx.frozen? ⟨g, x, none⟩ = false :=
  ⟨Ct.row_get h.mt.row hQ x hx, h.mt.row.frozenAt x⟩
theorem empty_row (W : World) (b : Nat) (h : b ≤ W.heap.size) : (W.alloc (.cells #[] 2)).ownsRow b 2 1 (.slice (some ⟨W.heap.size, 0, none⟩) 0 0) 0 [] := World.ownsRow_lit W #[] 0 h (by unfold maxLen; omega) rfl
theorem one_cell (L : List Int) : ∀ u ∈ ints L, u.oneCell' = true := by
  intro u hu
  simp [ints] at hu
  obtain ⟨x, _, rfl⟩ := hu
  rfl
/-- the row's own cells, as they are appended to another row -/
theorem row_news {w : World} {B g c n : Nat} {Q : List Int} (h : w.ownsRow B 2 1 (.slice (some ⟨g, 0, none⟩) n c) n (ints Q)) (hQ : Q.length = n) : ∀ j u, (ints Q)[j]? = some u → w.cell? ((⟨g, 0, none⟩ : Addr).add j) = some u := by
  intro j u hu
  have hj : j < n := by
    by_cases x : j < n
    · exact x
    · rw [List.getElem?_eq_none (by simp [ints]; omega)] at hu; cases hu
  have := Ct.row_get h hQ j hj
  have e : (ints Q)[j]? = some (.int .i64 (Q.getD j 0)) := by simp [ints, List.getD_eq_getElem?_getD, show j < Q.length by omega]
  rw [e] at hu
  cases hu
  have ea : (⟨g, 0, none⟩ : Addr).add j = ⟨g, j, none⟩ := by unfold Addr.add; split <;> simp_all
  rw [ea]
  exact this
theorem Mt.below {w wx wy : World} {A n : Nat} {v : Value} {Q : List Int} {o z : Int} (h : Mt w wx A v n Q o z) (hb : Below wx.heap.size wx wy) : Mt w wy A v n Q o z :=
  ⟨h.bl.trans (hb.mono (Nat.le_of_lt h.sz)), h.bx.on hb h.sz, fun j => (hb.frozen (p := ⟨A, j, none⟩) h.sz).trans (h.fz j), Bk.row_on h.row hb⟩
set_option maxHeartbeats 2000000 in
set_option maxRecDepth 20000 in
theorem sflow_yes (N W R : List Int) (na wa ra : Option Addr) (n2 c1 c2 c3 : Nat) (z1 z2 s1 s2 zz : Int) (w : World) (hnn : n2 ≤ 576)
    (HA : Hid (∀ i, i < n2 → ∃ b o, na = some ⟨b, o, none⟩ ∧ b < w.heap.size ∧ w.cell? ⟨b, o + i, none⟩ = some (.int .i64 (N.getD i 0))))
    (HB : Hid (∀ i, i < n2 → ∃ b o, wa = some ⟨b, o, none⟩ ∧ b < w.heap.size ∧ w.cell? ⟨b, o + i, none⟩ = some (.int .i64 (W.getD i 0))))
    (HC : Hid (∀ i, i < n2 → ∃ b o, ra = some ⟨b, o, none⟩ ∧ b < w.heap.size ∧ w.cell? ⟨b, o + i, none⟩ = some (.int .i64 (R.getD i 0))))
    (HV : Hid (∀ i, i < n2 → -1 ≤ N.getD i 0 ∧ N.getD i 0 < n2))
    (HW0 : Hid (∀ i, i < n2 → 0 ≤ W.getD i 0 ∧ W.getD i 0 ≤ 1000000000000)) (HR0 : Hid (∀ i, i < n2 → 0 ≤ R.getD i 0 ∧ R.getD i 0 ≤ 1000000000000))
    (PB : Hid (∀ k, k ≤ n2 → (qfl N W R z1 k).1.length = n2 ∧ z1 ≤ (qfl N W R z1 k).2 ∧ (qfl N W R z1 k).2 ≤ z1 + 2000000000000 * k ∧ ∀ j, j < n2 → -2000000000000 ≤ (qfl N W R z1 k).1.getD j 0 ∧ (qfl N W R z1 k).1.getD j 0 ≤ 2000000000000 * k + 2000000000000))
    (QZ : qfl N W R z1 0 = (hl W R n2, z1)) (QS : Hid (∀ k, qfl N W R z1 (k + 1) = qst N W R (qfl N W R z1 k) k))
    (hz : 0 ≤ z1 ∧ z1 ≤ 1000000000000)
    (A0 : Hid (∀ X, Below w.heap.size w X → Calls Try.prog 14 #[.slice na n2 c1] X fun e w' => e = .returned (.bool true) ∧ w' = X))
    (A1 : Hid (∀ X, Below w.heap.size w X → Calls Try.prog 15 #[.int .i64 z1, .int .i64 0, .int .i64 1000000000000] X fun e w' => e = .returned (.bool true) ∧ w' = X))
    (A2 : Hid (∀ X, Below w.heap.size w X → Calls Try.prog 15 #[.int .i64 z2, .int .i64 0, .int .i64 1000000000000] X fun e w' => e = .returned (.bool true) ∧ w' = X))
    (A3 : Hid (∀ X, Below w.heap.size w X → Calls Try.prog 16 #[.slice wa n2 c2] X fun e w' => e = .returned (.tuple #[.int .i64 s1, .bool true]) ∧ w' = X))
    (A4 : Hid (∀ X, Below w.heap.size w X → Calls Try.prog 16 #[.slice ra n2 c3] X fun e w' => e = .returned (.tuple #[.int .i64 s2, .bool true]) ∧ w' = X))
    (w1 : IntKind.i64.wrap (s1 + z1) = z2) (w2 : IntKind.i64.wrap (1000000000000 - s2) = 1000000000000 - s2) (h4 : ¬ 1000000000000 - s2 < z2) (w3 : IntKind.i64.wrap (z2 + s2) = zz) :
    Calls Try.prog 6 #[.slice na n2 c1, .agg #[.slice wa n2 c2, .int .i64 z1, .int .i64 z2], .slice ra n2 c3] w fun e w' => ∃ u, e = .returned (.tuple #[.agg #[u, .int .i64 (qfl N W R z1 n2).2, .int .i64 zz], .bool true]) ∧ w'.ownsRow w.heap.size 2 1 u n2 (ints (qfl N W R z1 n2).1) ∧ Below w.heap.size w w' := by
  obtain ⟨i0, hi, hz0, hz1, hz2⟩ := info_parts Lists.Try.info2
  obtain ⟨w0, hw0⟩ : ∃ w0, w0 = (w.alloc (.cells #[.slice wa n2 c2, .int .i64 z1, .int .i64 z2] 26)).alloc (.cells #[.slice none 0 0, .int .i64 0, .int .i64 0] 26) := ⟨_, rfl⟩
  have HW : Hid (w0 = (w.alloc (.cells #[.slice wa n2 c2, .int .i64 z1, .int .i64 z2] 26)).alloc (.cells #[.slice none 0 0, .int .i64 0, .int .i64 0] 26)) := hw0
  have B0 : Hid (Below w.heap.size w w0) := (by show Below _ _ _; rw [hw0]; exact ((Below.refl _ _).alloc (Nat.le_refl _) _).alloc (by simp) _)
  have X0 : Bk.Box w0 w.heap.size (.slice wa n2 c2) (.int .i64 z1) (.int .i64 z2) := by rw [hw0]; unfold Bk.Box; simp [go_sem]
  have Y0 : Bk.Box w0 (w.heap.size + 1) (.slice none 0 0) (.int .i64 0) (.int .i64 0) := by rw [hw0]; unfold Bk.Box; simp [go_sem]
  have f0 : w0.frozen? ⟨w.heap.size + 1, 0, none⟩ = false := by rw [hw0]; simp [go_sem]
  have f1 : w0.frozen? ⟨w.heap.size + 1, 1, none⟩ = false := by rw [hw0]; simp [go_sem]
  have f2 : w0.frozen? ⟨w.heap.size + 1, 2, none⟩ = false := by rw [hw0]; simp [go_sem]
  have S0 : Hid (w0.heap.size = w.heap.size + 2) := (by show _ = _; rw [hw0]; simp)
  have XH : Hid (Bk.Box w0 w.heap.size (.slice wa n2 c2) (.int .i64 z1) (.int .i64 z2)) := X0
  have YH : Hid (Bk.Box w0 (w.heap.size + 1) (.slice none 0 0) (.int .i64 0) (.int .i64 0)) := Y0
  have FH : Hid (∀ j, w0.frozen? ⟨w.heap.size + 1, j, none⟩ = false) := fun j => (by rw [hw0]; simp [go_sem])
  obtain ⟨x0, x1, x2⟩ := X0
  clear hw0 Y0 f0 f1 f2
  go_enter Try.func6, Try.ntmps6
  go_upto_region 1 with fail
  rw [← HW.out]
  go_wp2_with fail
  refine (A0.out _ B0.out).mono ?_
  rintro e x ⟨rfl, hx⟩
  subst x
  go_wp2_with fail
  refine (A1.out _ B0.out).mono ?_
  rintro e x ⟨rfl, hx⟩
  subst x
  go_wp2_with fail
  refine (A2.out _ B0.out).mono ?_
  rintro e x ⟨rfl, hx⟩
  subst x
  go_wp2_with fail
  refine (A3.out _ B0.out).mono ?_
  rintro e x ⟨rfl, hx⟩
  subst x
  go_wp2_with fail
  refine (A4.out _ B0.out).mono ?_
  rintro e x ⟨rfl, hx⟩
  subst x
  clear A0 A1 A2 A3 A4
  obtain ⟨A, hA⟩ : ∃ A, A = w0.heap.size := ⟨_, rfl⟩
  obtain ⟨wb, hwb⟩ : ∃ wb, wb = w0.alloc (.cells #[.slice none 0 0, .int .i64 z1, .int .i64 zz] 26) := ⟨_, rfl⟩
  have HWB : Hid (wb = w0.alloc (.cells #[.slice none 0 0, .int .i64 z1, .int .i64 zz] 26)) := hwb
  have HAE : Hid (A = w0.heap.size) := hA
  have M0 : Hid (Mt w0 wb A (.slice none 0 0) 0 (hl W R 0) z1 zz) := ⟨by rw [hA, hwb]; exact (Below.refl _ _).alloc (Nat.le_refl _) _, by rw [hA, hwb]; unfold Bk.Box; simp [go_sem], fun j => by rw [hA, hwb]; simp [go_sem], ⟨rfl, .inl ⟨rfl, rfl⟩⟩⟩
  clear hwb
  go_upto_region 8 with fail
  rw [← HWB.out, ← hA]
  have hA2 : w.heap.size + 2 ≤ A := by have := S0.out; omega
  clear hA
  go_wp2_with fail
  clear x0 x1 x2
  go_loopw [13] (fun i wr => ∃ (k : Nat) (v : Value), k ≤ n2 ∧ i = .int .i64 k ∧ Hid (Mt w0 wr A v k (hl W R k) z1 zz)) (fun i _ => n2 - (intOf i).toNat)
  case atStart => exact ⟨0, _, Nat.zero_le _, rfl, M0⟩
  case round =>
    obtain ⟨k, v, hk, rfl, U⟩ := hrel
    by_cases hlt : k < n2
    · have j0 : (0 : Int) ≤ (k : Int) := by omega
      have j1 : (k : Int) < (n2 : Int) := by omega
      obtain ⟨b2, o2, r2, v2, d2⟩ := HB.out k hlt
      obtain ⟨b3, o3, r3, v3, d3⟩ := HC.out k hlt
      subst r2 r3
      have bw : Below A w0 wr := U.out.bl
      have d2' := (bw.cell (p := ⟨b2, o2 + k, none⟩) (by show b2 < _; omega)).trans ((B0.out.cell (p := ⟨b2, o2 + k, none⟩) v2).trans d2)
      have d3' := (bw.cell (p := ⟨b3, o3 + k, none⟩) (by show b3 < _; omega)).trans ((B0.out.cell (p := ⟨b3, o3 + k, none⟩) v3).trans d3)
      have lt0 : w.heap.size < A + 1 := by omega
      have lt2 : b2 < A + 1 := by omega
      have lt3 : b3 < A + 1 := by omega
      obtain ⟨c0, c1, c2'⟩ := XH.out.on bw (by omega)
      have a1 := HW0.out k hlt
      have a2 := HR0.out k hlt
      have HS : Hid (hl W R (k + 1) = hl W R k ++ [W.getD k 0 + R.getD k 0]) := hl_succ W R k
      clear d2 d3 c1 c2' bw
      have d2 := d2'
      have d3 := d3'
      clear d2' d3'
      generalize W.getD k 0 = x at *
      generalize R.getD k 0 = y at *
      obtain ⟨h, hh⟩ : ∃ h, h = x + y := ⟨_, rfl⟩
      rw [← hh] at HS
      have w1' : IntKind.i64.wrap (x + y) = h := (IntWalk.i64_in _ (by omega)).trans hh.symm
      have hh' : 0 ≤ h ∧ h ≤ 2000000000000 := by omega
      clear hh
      obtain ⟨va, vc, ev⟩ := Ct.row_form U.out.row
      subst ev
      have RD : Hid (wr.drew.ownsRow (A + 1) 2 1 (.slice va k vc) k (ints (hl W R k))) := U.out.row
      have UD : Hid (Mt w0 wr.drew A (.slice va k vc) k (hl W R k) z1 zz) := U.out.drewN 1
      have BX : Hid (Bk.Box wr.drew A (.slice va k vc) (.int .i64 z1) (.int .i64 zz)) := U.out.bx
      have FX : Hid (∀ j, wr.drew.frozen? ⟨A, j, none⟩ = false) := U.out.fz
      have szA : A + 1 ≤ wr.heap.size := U.out.sz
      obtain ⟨t0, t1, t2⟩ := U.out.bx
      clear U M0
      go_upto_region 11 with fail
      refine wp_region_held_drew (S := fun w' => w'.cell? ⟨w.heap.size, 0, none⟩ = some (.slice (some ⟨b2, o2, none⟩) n2 c2) ∧ w'.cell? ⟨b2, o2 + k, none⟩ = some (.int .i64 x) ∧ w'.cell? ⟨b3, o3 + k, none⟩ = some (.int .i64 y)) (by kernel_rfl) ⟨c0, d2, d3⟩ (fun hHeld => ?_)
      refine wpAnyH_take (i := 0) (oi := { dst := some 95, op := Go.Op.fieldAddr 26 (Go.Operand.tmp 12) 0, type := 0, pos := "l13_waters.go:141", after := #[], guard := none }) (v := ?_) rfl (by kernel_rfl) (by kernel_rfl) (by kernel_rfl) (fun _ _ _ h => h) (Or.inl ⟨by rfl, ?_⟩) (by assumption) ?_
      rotate_left 1
      · (intro w hSw; (try dsimp only at hSw); go_simp); all_goals (with_reducible rfl)
      try simp only [Act.put, List.setIfInBounds_toArray, List.set_cons_zero, List.set_cons_succ]
      refine wpAnyH_take (i := 2) (oi := { dst := some 97, op := Go.Op.fieldAddr 26 (Go.Operand.tmp 4) 0, type := 0, pos := "l13_waters.go:141", after := #[], guard := none }) (v := ?_) rfl (by kernel_rfl) (by kernel_rfl) (by kernel_rfl) (fun _ _ _ h => h) (Or.inl ⟨by rfl, ?_⟩) (by assumption) ?_
      rotate_left 1
      · (intro w hSw; (try dsimp only at hSw); go_simp); all_goals (with_reducible rfl)
      try simp only [Act.put, List.setIfInBounds_toArray, List.set_cons_zero, List.set_cons_succ]
      refine wpAnyH_take (i := 3) (oi := { dst := some 98, op := Go.Op.load 24 (Go.Operand.tmp 97), type := 24, pos := "l13_waters.go:141", after := #[{ on := 2, ground := Go.Ground.data }], guard := none }) (v := ?_) rfl (by kernel_rfl) (by kernel_rfl) (by kernel_rfl) (fun _ _ _ h => h) (Or.inl ⟨by rfl, ?_⟩) (by assumption) ?_
      rotate_left 1
      · (intro w hSw; (try dsimp only at hSw); go_simp); all_goals (with_reducible rfl)
      try simp only [Act.put, List.setIfInBounds_toArray, List.set_cons_zero, List.set_cons_succ]
      refine wpAnyH_take (i := 4) (oi := { dst := some 99, op := Go.Op.move (Go.Operand.tmp 13), type := 3, pos := "l13_waters.go:141", after := #[], guard := none }) (v := ?_) rfl (by kernel_rfl) (by kernel_rfl) (by kernel_rfl) (fun _ _ _ h => h) (Or.inl ⟨by rfl, ?_⟩) (by assumption) ?_
      rotate_left 1
      · (intro w hSw; (try dsimp only at hSw); go_simp); all_goals (with_reducible rfl)
      try simp only [Act.put, List.setIfInBounds_toArray, List.set_cons_zero, List.set_cons_succ]
      refine wpAnyH_take (i := 5) (oi := { dst := some 100, op := Go.Op.indexAddr 24 (Go.Operand.tmp 98) (Go.Operand.tmp 99), type := 0, pos := "l13_waters.go:141", after := #[{ on := 3, ground := Go.Ground.data }, { on := 4, ground := Go.Ground.data }], guard := none }) (v := ?_) rfl (by kernel_rfl) (by kernel_rfl) (by kernel_rfl) (fun _ _ _ h => h) (Or.inl ⟨by rfl, ?_⟩) (by assumption) ?_
      rotate_left 1
      · (intro w hSw; (try dsimp only at hSw); go_simp); all_goals (with_reducible rfl)
      try simp only [Act.put, List.setIfInBounds_toArray, List.set_cons_zero, List.set_cons_succ]
      refine wpAnyH_take (i := 6) (oi := { dst := some 101, op := Go.Op.load 2 (Go.Operand.tmp 100), type := 2, pos := "l13_waters.go:141", after := #[{ on := 5, ground := Go.Ground.data }], guard := none }) (v := ?_) rfl (by kernel_rfl) (by kernel_rfl) (by kernel_rfl) (fun _ _ _ h => h) (Or.inl ⟨by rfl, ?_⟩) (by assumption) ?_
      rotate_left 1
      · (intro w hSw; (try dsimp only at hSw); go_simp); all_goals (with_reducible rfl)
      try simp only [Act.put, List.setIfInBounds_toArray, List.set_cons_zero, List.set_cons_succ]
      refine wpAnyH_take (i := 7) (oi := { dst := some 102, op := Go.Op.move (Go.Operand.tmp 2), type := 24, pos := "l13_waters.go:141", after := #[], guard := none }) (v := ?_) rfl (by kernel_rfl) (by kernel_rfl) (by kernel_rfl) (fun _ _ _ h => h) (Or.inl ⟨by rfl, ?_⟩) (by assumption) ?_
      rotate_left 1
      · (intro w hSw; (try dsimp only at hSw); go_simp); all_goals (with_reducible rfl)
      try simp only [Act.put, List.setIfInBounds_toArray, List.set_cons_zero, List.set_cons_succ]
      refine wpAnyH_take (i := 8) (oi := { dst := some 103, op := Go.Op.move (Go.Operand.tmp 13), type := 3, pos := "l13_waters.go:141", after := #[], guard := none }) (v := ?_) rfl (by kernel_rfl) (by kernel_rfl) (by kernel_rfl) (fun _ _ _ h => h) (Or.inl ⟨by rfl, ?_⟩) (by assumption) ?_
      rotate_left 1
      · (intro w hSw; (try dsimp only at hSw); go_simp); all_goals (with_reducible rfl)
      try simp only [Act.put, List.setIfInBounds_toArray, List.set_cons_zero, List.set_cons_succ]
      refine wpAnyH_take (i := 9) (oi := { dst := some 104, op := Go.Op.indexAddr 24 (Go.Operand.tmp 102) (Go.Operand.tmp 103), type := 0, pos := "l13_waters.go:141", after := #[{ on := 7, ground := Go.Ground.data }, { on := 8, ground := Go.Ground.data }], guard := none }) (v := ?_) rfl (by kernel_rfl) (by kernel_rfl) (by kernel_rfl) (fun _ _ _ h => h) (Or.inl ⟨by rfl, ?_⟩) (by assumption) ?_
      rotate_left 1
      · (intro w hSw; (try dsimp only at hSw); go_simp); all_goals (with_reducible rfl)
      try simp only [Act.put, List.setIfInBounds_toArray, List.set_cons_zero, List.set_cons_succ]
      refine wpAnyH_take (i := 10) (oi := { dst := some 105, op := Go.Op.load 2 (Go.Operand.tmp 104), type := 2, pos := "l13_waters.go:141", after := #[{ on := 9, ground := Go.Ground.data }], guard := none }) (v := ?_) rfl (by kernel_rfl) (by kernel_rfl) (by kernel_rfl) (fun _ _ _ h => h) (Or.inl ⟨by rfl, ?_⟩) (by assumption) ?_
      rotate_left 1
      · (intro w hSw; (try dsimp only at hSw); go_simp); all_goals (with_reducible rfl)
      try simp only [Act.put, List.setIfInBounds_toArray, List.set_cons_zero, List.set_cons_succ]
      refine wpAnyH_take (i := 11) (oi := { dst := some 106, op := Go.Op.binOp Go.BinOp.add 2 (Go.Operand.tmp 101) (Go.Operand.tmp 105) 2, type := 2, pos := "l13_waters.go:141", after := #[{ on := 6, ground := Go.Ground.data }, { on := 10, ground := Go.Ground.data }], guard := none }) (v := ?_) rfl (by kernel_rfl) (by kernel_rfl) (by kernel_rfl) (fun _ _ _ h => h) (Or.inl ⟨by rfl, ?_⟩) (by assumption) ?_
      rotate_left 1
      · (intro w hSw; (try dsimp only at hSw); go_simp); all_goals (with_reducible rfl)
      try simp only [Act.put, List.setIfInBounds_toArray, List.set_cons_zero, List.set_cons_succ]
      refine wpAnyH_ready (rs := [1, 12]) (by kernel_rfl) (by simp) ?_
      refine AllReadyH.cons (o := { dst := some 96, op := Go.Op.load 24 (Go.Operand.tmp 95), type := 24, pos := "l13_waters.go:141", after := #[{ on := 0, ground := Go.Ground.data }], guard := none }) rfl (fun K hK => ?_) (AllReadyH.cons (o := { dst := some 107, op := Go.Op.buildSlice 24 1 #[(0, Go.Operand.tmp 106)], type := 24, pos := "l13_waters.go:141", after := #[{ on := 11, ground := Go.Ground.data }], guard := none }) rfl (fun K hK => ?_) AllReadyH.nil)
      · go_simp
        refine hK.out _ _ (⟨c0, d2, d3⟩) (fun hHeld2 => ?_)
        clear hK K hHeld
        have hHeld := hHeld2
        clear hHeld2
        try simp only [Act.put, List.setIfInBounds_toArray, List.set_cons_zero, List.set_cons_succ]
        refine wpAnyH_ready (rs := [12]) (by kernel_rfl) (by simp) ?_
        refine AllReadyH.cons (o := { dst := some 107, op := Go.Op.buildSlice 24 1 #[(0, Go.Operand.tmp 106)], type := 24, pos := "l13_waters.go:141", after := #[{ on := 11, ground := Go.Ground.data }], guard := none }) rfl (fun K hK => ?_) AllReadyH.nil
        go_simp
        refine hK.out _ _ (⟨cell_al c0, cell_al d2, cell_al d3⟩) (fun hHeld2 => ?_)
        clear hK K hHeld
        have hHeld := hHeld2
        clear hHeld2
        try simp only [Act.put, List.setIfInBounds_toArray, List.set_cons_zero, List.set_cons_succ]
        refine wpAnyH_ready (rs := [13]) (by kernel_rfl) (by simp) ?_
        refine AllReadyH.cons (o := { dst := some 108, op := Go.Op.call { callee := Go.Callee.builtin Go.Builtin.append, args := #[Go.Operand.tmp 96, Go.Operand.tmp 107], argTypes := #[24, 24] }, type := 24, pos := "l13_waters.go:141", after := #[{ on := 1, ground := Go.Ground.data }, { on := 12, ground := Go.Ground.data }], guard := none }) rfl (fun K hK => ?_) AllReadyH.nil
        refine step_append_lies _ (by rfl) _ _ 24 (by rfl) (A + 1) 2 i0 (.int .i64 0) 1 8 Try.underlying24 hi hz0 hz1 hz2 rfl (by decide) _ _ _ (by rfl) (RD.out.alloc _) ⟨wr.heap.size, 0, none⟩ 1 1 [.int .i64 h] (by rfl) rfl (cell_one_new wr.drew (.int .i64 h) 2) (by intro u hu; simp at hu; subst hu; rfl) (by decide) (by unfold maxLen; omega) (by omega) (by simp; omega) (wr.heap.size + 1) (by simp) ?_
        intro g2 cap3 w5 hown hgrow hat hlt5
        have q5 : Below (A + 1) wr.drew w5 := ((Below.refl (A + 1) wr.drew).alloc szA _).trans ((Below.refl _ _).grown hgrow (by simp; omega) (fun k hk => (RD.out.lt k hk).1))
        have e0 := (q5.cell (p := ⟨w.heap.size, 0, none⟩) lt0).trans c0
        have e2 := (q5.cell (p := ⟨b2, o2 + k, none⟩) lt2).trans d2
        have e3 := (q5.cell (p := ⟨b3, o3 + k, none⟩) lt3).trans d3
        obtain ⟨s0, s1, s2⟩ := (BX.out).on q5 (Nat.lt_succ_self _)
        have s3 := (q5.frozen (p := ⟨A, 0, none⟩) (Nat.lt_succ_self _)).trans (FX.out 0)
        refine hK.out _ _ (⟨e0, e2, e3⟩) (fun hHeld2 => ?_)
        clear hK K hHeld
        have hHeld := hHeld2
        clear hHeld2
        try simp only [Act.put, List.setIfInBounds_toArray, List.set_cons_zero, List.set_cons_succ]
        refine wpAnyH_take (i := 14) (oi := { dst := some 109, op := Go.Op.fieldAddr 26 (Go.Operand.tmp 12) 0, type := 0, pos := "l13_waters.go:141", after := #[{ on := 0, ground := Go.Ground.phase }, { on := 1, ground := Go.Ground.phase }, { on := 2, ground := Go.Ground.phase }, { on := 3, ground := Go.Ground.phase }, { on := 4, ground := Go.Ground.phase }, { on := 5, ground := Go.Ground.phase }, { on := 6, ground := Go.Ground.phase }, { on := 7, ground := Go.Ground.phase }, { on := 8, ground := Go.Ground.phase }, { on := 9, ground := Go.Ground.phase }, { on := 10, ground := Go.Ground.phase }, { on := 11, ground := Go.Ground.phase }, { on := 12, ground := Go.Ground.phase }, { on := 13, ground := Go.Ground.phase }], guard := none }) (v := ?_) rfl (by kernel_rfl) (by kernel_rfl) (by kernel_rfl) (fun _ _ _ h => h) (Or.inl ⟨by rfl, ?_⟩) (by assumption) ?_
        rotate_left 1
        · (intro w hSw; (try dsimp only at hSw); go_simp); all_goals (with_reducible rfl)
        try simp only [Act.put, List.setIfInBounds_toArray, List.set_cons_zero, List.set_cons_succ]
        refine wpAnyH_ready (rs := [15]) (by kernel_rfl) (by simp) ?_
        refine AllReadyH.cons (o := { dst := none, op := Go.Op.store 24 (Go.Operand.tmp 109) (Go.Operand.tmp 108), type := 0, pos := "l13_waters.go:141", after := #[{ on := 14, ground := Go.Ground.data }, { on := 13, ground := Go.Ground.data }, { on := 13, ground := Go.Ground.chain }, { on := 0, ground := Go.Ground.phase }, { on := 1, ground := Go.Ground.phase }, { on := 2, ground := Go.Ground.phase }, { on := 3, ground := Go.Ground.phase }, { on := 4, ground := Go.Ground.phase }, { on := 5, ground := Go.Ground.phase }, { on := 6, ground := Go.Ground.phase }, { on := 7, ground := Go.Ground.phase }, { on := 8, ground := Go.Ground.phase }, { on := 9, ground := Go.Ground.phase }, { on := 10, ground := Go.Ground.phase }, { on := 11, ground := Go.Ground.phase }, { on := 12, ground := Go.Ground.phase }, { on := 13, ground := Go.Ground.phase }], guard := none }) rfl (fun K hK => ?_) AllReadyH.nil
        go_simp
        refine hK.out _ _ (⟨by simp [go_sem, e0], by simp [go_sem, e2], by simp [go_sem, e3]⟩) (fun hHeld2 => ?_)
        clear hK K hHeld
        have hHeld := hHeld2
        clear hHeld2
        try simp only [Act.put, List.setIfInBounds_toArray, List.set_cons_zero, List.set_cons_succ]
        refine wpAnyH_done (by kernel_rfl) ?_ _
        have M5 : Hid (Mt w0 (w5.setCell ⟨A, 0, none⟩ (.slice (some ⟨g2, 0, none⟩) (k + 1) cap3)) A (.slice (some ⟨g2, 0, none⟩) (k + 1) cap3) (k + 1) (hl W R (k + 1)) z1 zz) := (by show Mt _ _ _ _ _ _ _ _; rw [HS.out]; exact Mt.more (w := w0) (UD.out) hown hgrow)
        generalize World.setCell w5 _ _ = w6 at M5 ⊢
        clear hown hgrow hat q5 e0 e2 e3 s0 s1 s2 s3 hlt5 RD BX FX UD
        go_wp2_with fail
        go_roundw
        case rel => exact ⟨k + 1, _, by omega, by go_num, M5⟩
        case measure => simp [intOf]; omega
      · go_simp
        refine hK.out _ _ (⟨cell_al c0, cell_al d2, cell_al d3⟩) (fun hHeld2 => ?_)
        clear hK K hHeld
        have hHeld := hHeld2
        clear hHeld2
        try simp only [Act.put, List.setIfInBounds_toArray, List.set_cons_zero, List.set_cons_succ]
        refine wpAnyH_ready (rs := [1]) (by kernel_rfl) (by simp) ?_
        refine AllReadyH.cons (o := { dst := some 96, op := Go.Op.load 24 (Go.Operand.tmp 95), type := 24, pos := "l13_waters.go:141", after := #[{ on := 0, ground := Go.Ground.data }], guard := none }) rfl (fun K hK => ?_) AllReadyH.nil
        have hAlt : A < wr.heap.size := szA
        have hAne : ¬ A = wr.heap.size := Nat.ne_of_lt szA
        go_simp
        clear hAlt hAne
        refine hK.out _ _ (⟨cell_al c0, cell_al d2, cell_al d3⟩) (fun hHeld2 => ?_)
        clear hK K hHeld
        have hHeld := hHeld2
        clear hHeld2
        try simp only [Act.put, List.setIfInBounds_toArray, List.set_cons_zero, List.set_cons_succ]
        refine wpAnyH_ready (rs := [13]) (by kernel_rfl) (by simp) ?_
        refine AllReadyH.cons (o := { dst := some 108, op := Go.Op.call { callee := Go.Callee.builtin Go.Builtin.append, args := #[Go.Operand.tmp 96, Go.Operand.tmp 107], argTypes := #[24, 24] }, type := 24, pos := "l13_waters.go:141", after := #[{ on := 1, ground := Go.Ground.data }, { on := 12, ground := Go.Ground.data }], guard := none }) rfl (fun K hK => ?_) AllReadyH.nil
        refine step_append_lies _ (by rfl) _ _ 24 (by rfl) (A + 1) 2 i0 (.int .i64 0) 1 8 Try.underlying24 hi hz0 hz1 hz2 rfl (by decide) _ _ _ (by rfl) (RD.out.alloc _) ⟨wr.heap.size, 0, none⟩ 1 1 [.int .i64 h] (by rfl) rfl (cell_one_new wr.drew (.int .i64 h) 2) (by intro u hu; simp at hu; subst hu; rfl) (by decide) (by unfold maxLen; omega) (by omega) (by simp; omega) (wr.heap.size + 1) (by simp) ?_
        intro g2 cap3 w5 hown hgrow hat hlt5
        have q5 : Below (A + 1) wr.drew w5 := ((Below.refl (A + 1) wr.drew).alloc szA _).trans ((Below.refl _ _).grown hgrow (by simp; omega) (fun k hk => (RD.out.lt k hk).1))
        have e0 := (q5.cell (p := ⟨w.heap.size, 0, none⟩) lt0).trans c0
        have e2 := (q5.cell (p := ⟨b2, o2 + k, none⟩) lt2).trans d2
        have e3 := (q5.cell (p := ⟨b3, o3 + k, none⟩) lt3).trans d3
        obtain ⟨s0, s1, s2⟩ := (BX.out).on q5 (Nat.lt_succ_self _)
        have s3 := (q5.frozen (p := ⟨A, 0, none⟩) (Nat.lt_succ_self _)).trans (FX.out 0)
        refine hK.out _ _ (⟨e0, e2, e3⟩) (fun hHeld2 => ?_)
        clear hK K hHeld
        have hHeld := hHeld2
        clear hHeld2
        try simp only [Act.put, List.setIfInBounds_toArray, List.set_cons_zero, List.set_cons_succ]
        refine wpAnyH_take (i := 14) (oi := { dst := some 109, op := Go.Op.fieldAddr 26 (Go.Operand.tmp 12) 0, type := 0, pos := "l13_waters.go:141", after := #[{ on := 0, ground := Go.Ground.phase }, { on := 1, ground := Go.Ground.phase }, { on := 2, ground := Go.Ground.phase }, { on := 3, ground := Go.Ground.phase }, { on := 4, ground := Go.Ground.phase }, { on := 5, ground := Go.Ground.phase }, { on := 6, ground := Go.Ground.phase }, { on := 7, ground := Go.Ground.phase }, { on := 8, ground := Go.Ground.phase }, { on := 9, ground := Go.Ground.phase }, { on := 10, ground := Go.Ground.phase }, { on := 11, ground := Go.Ground.phase }, { on := 12, ground := Go.Ground.phase }, { on := 13, ground := Go.Ground.phase }], guard := none }) (v := ?_) rfl (by kernel_rfl) (by kernel_rfl) (by kernel_rfl) (fun _ _ _ h => h) (Or.inl ⟨by rfl, ?_⟩) (by assumption) ?_
        rotate_left 1
        · (intro w hSw; (try dsimp only at hSw); go_simp); all_goals (with_reducible rfl)
        try simp only [Act.put, List.setIfInBounds_toArray, List.set_cons_zero, List.set_cons_succ]
        refine wpAnyH_ready (rs := [15]) (by kernel_rfl) (by simp) ?_
        refine AllReadyH.cons (o := { dst := none, op := Go.Op.store 24 (Go.Operand.tmp 109) (Go.Operand.tmp 108), type := 0, pos := "l13_waters.go:141", after := #[{ on := 14, ground := Go.Ground.data }, { on := 13, ground := Go.Ground.data }, { on := 13, ground := Go.Ground.chain }, { on := 0, ground := Go.Ground.phase }, { on := 1, ground := Go.Ground.phase }, { on := 2, ground := Go.Ground.phase }, { on := 3, ground := Go.Ground.phase }, { on := 4, ground := Go.Ground.phase }, { on := 5, ground := Go.Ground.phase }, { on := 6, ground := Go.Ground.phase }, { on := 7, ground := Go.Ground.phase }, { on := 8, ground := Go.Ground.phase }, { on := 9, ground := Go.Ground.phase }, { on := 10, ground := Go.Ground.phase }, { on := 11, ground := Go.Ground.phase }, { on := 12, ground := Go.Ground.phase }, { on := 13, ground := Go.Ground.phase }], guard := none }) rfl (fun K hK => ?_) AllReadyH.nil
        go_simp
        refine hK.out _ _ (⟨by simp [go_sem, e0], by simp [go_sem, e2], by simp [go_sem, e3]⟩) (fun hHeld2 => ?_)
        clear hK K hHeld
        have hHeld := hHeld2
        clear hHeld2
        try simp only [Act.put, List.setIfInBounds_toArray, List.set_cons_zero, List.set_cons_succ]
        refine wpAnyH_done (by kernel_rfl) ?_ _
        have M5 : Hid (Mt w0 (w5.setCell ⟨A, 0, none⟩ (.slice (some ⟨g2, 0, none⟩) (k + 1) cap3)) A (.slice (some ⟨g2, 0, none⟩) (k + 1) cap3) (k + 1) (hl W R (k + 1)) z1 zz) := (by show Mt _ _ _ _ _ _ _ _; rw [HS.out]; exact Mt.more (w := w0) (UD.out) hown hgrow)
        generalize World.setCell w5 _ _ = w6 at M5 ⊢
        clear hown hgrow hat q5 e0 e2 e3 s0 s1 s2 s3 hlt5 RD BX FX UD
        go_wp2_with fail
        go_roundw
        case rel => exact ⟨k + 1, _, by omega, by go_num, M5⟩
        case measure => simp [intOf]; omega
    · have hkn : k = n2 := by omega
      subst hkn
      have jj : ¬ (k : Int) < (k : Int) := by omega
      by_cases hk0 : 0 < k
      · obtain ⟨g, vc, ev⟩ : ∃ g vc, v = .slice (some ⟨g, 0, none⟩) k vc := by
          have rr := U.out.row
          rcases rr.2 with ⟨_, h'⟩ | ⟨g, c, cur, e, _⟩
          · omega
          · exact ⟨g, c, e⟩
        subst ev
        obtain ⟨t0, t1, t2⟩ := U.out.bx
        obtain ⟨we, hwe⟩ : ∃ we, we = wr.alloc (.cells #[] 2) := ⟨_, rfl⟩
        have HWE : Hid (we = wr.alloc (.cells #[] 2)) := hwe
        have be : Below wr.heap.size wr we := by rw [hwe]; exact (Below.refl _ _).alloc (Nat.le_refl _) _
        have ER : Hid (we.ownsRow wr.heap.size 2 1 (.slice (some ⟨wr.heap.size, 0, none⟩) 0 0) 0 []) := (by show World.ownsRow _ _ _ _ _ _ _; rw [hwe]; exact empty_row wr _ (Nat.le_refl _))
        have UE : Hid (Mt w0 we A (.slice (some ⟨g, 0, none⟩) k vc) k (hl W R k) z1 zz) := U.out.below be
        have NW : Hid (∀ j u, (ints (hl W R k))[j]? = some u → we.cell? ((⟨g, 0, none⟩ : Addr).add j) = some u) := row_news UE.out.row (hl_len W R k)
        have ZE : Hid (wr.heap.size ≤ we.heap.size) := be.size
        have GL : Hid (A + 1 ≤ g ∧ g < wr.heap.size) := U.out.row.lt g rfl
        have SZ : Hid (A < wr.heap.size) := U.out.sz
        have LL : Hid ((ints (hl W R k)).length = k * 1) := (by show _ = _; rw [List.length_map, hl_len]; omega)
        have hAlt : A < wr.heap.size := U.out.sz
        have hAne : ¬ A = wr.heap.size := Nat.ne_of_lt hAlt
        have Q0 : Hid (qfl N W R z1 0 = (hl W R k, z1)) := QZ
        have UR : Hid (Mt w0 wr A (.slice (some ⟨g, 0, none⟩) k vc) k (hl W R k) z1 zz) := U
        clear hwe be U M0
        go_wp2_with (at_builtin; rw [← HWE.out]; refine wpList_append_own_at _ rfl _ _ 24 rfl wr.heap.size 2 i0 (.int .i64 0) 1 8 Try.underlying24 hi hz0 hz1 hz2 rfl (by decide) _ _ _ rfl ER.out ⟨g, 0, none⟩ k vc (ints (hl W R k)) rfl LL.out NW.out (one_cell _) (by unfold maxLen; omega) (by omega) ZE.out ?_)
        rintro vw wf hown hgrow hnil hat
        have bf : Below wr.heap.size we wf := (Below.refl _ _).grown hgrow ZE.out (fun j hj => (ER.out.lt j hj).1)
        obtain ⟨gw, cw, evw⟩ : ∃ gw cw, vw = .slice (some ⟨gw, 0, none⟩) k cw := by
          rcases hown.2 with ⟨_, h'⟩ | ⟨gw, c, cur, e, _⟩
          · omega
          · exact ⟨gw, c, by rw [e]⟩
        subst evw
        have V0 : Hid (Nt w0 wf A g vc gw k (hl W R k) (qfl N W R z1 0).1 (qfl N W R z1 0).2 zz) := (by
          show Nt _ _ _ _ _ _ _ _ _ _ _
          rw [Q0.out]
          have gl := GL.out
          have sz := SZ.out
          have gwl := hown.lt gw rfl
          have b2 : Below wr.heap.size wr wf := (by rw [HWE.out] at bf; exact ((Below.refl _ _).alloc (Nat.le_refl _) _).trans bf)
          refine ⟨UR.out.below b2, fun i hi => ?_, by omega, by omega⟩
          exact Ct.row_get hown (hl_len W R k) i hi)
        clear hown hgrow hnil hat bf ER UE NW ZE GL SZ LL hAlt hAne HWE Q0 t0 t1 t2 UR
        go_wp2_with fail
        go_loopw [15] (fun i wr => ∃ m : Nat, m ≤ k ∧ i = .int .i64 m ∧ Hid (Nt w0 wr A g vc gw k (hl W R k) (qfl N W R z1 m).1 (qfl N W R z1 m).2 zz)) (fun i _ => k - (intOf i).toNat)
        case atStart => exact ⟨0, Nat.zero_le _, rfl, V0⟩
        case round =>
          clear V0
          obtain ⟨m, hm, rfl, V⟩ := hrel
          by_cases hlm : m < k
          · have j0 : (0 : Int) ≤ (m : Int) := by omega
            have j1 : (m : Int) < (k : Int) := by omega
            obtain ⟨b1, o1, r1, v1, d1⟩ := HA.out m hlm
            subst r1
            have bw : Below A w0 wr := V.out.mt.bl
            have d1' := (bw.cell (p := ⟨b1, o1 + m, none⟩) (by show b1 < _; omega)).trans ((B0.out.cell (p := ⟨b1, o1 + m, none⟩) v1).trans d1)
            have BN : Hid (∀ wy : World, Below A w0 wy → wy.cell? ⟨b1, o1 + m, none⟩ = some (.int .i64 (N.getD m 0))) := fun wy hb => (hb.cell (p := ⟨b1, o1 + m, none⟩) (by show b1 < _; omega)).trans ((B0.out.cell (p := ⟨b1, o1 + m, none⟩) v1).trans d1)
            obtain ⟨L0, oo1, oo2, QB⟩ := PB.out m hm
            have QH : Hid (∀ j, j < k → -2000000000000 ≤ (qfl N W R z1 m).1.getD j 0 ∧ (qfl N W R z1 m).1.getD j 0 ≤ 2000000000000 * m + 2000000000000) := QB
            have a1 := HW0.out m hlm
            have a2 := HR0.out m hlm
            have a3 := HV.out m hlm
            have NX : Hid (qfl N W R z1 (m + 1) = qst N W R (qfl N W R z1 m) m) := QS.out m
            have HL : Hid ((qfl N W R z1 m).1.length = k) := L0
            have cw0 : wr.cell? ⟨gw, m, none⟩ = some (.int .i64 (W.getD m 0 + R.getD m 0)) := by
              rw [V.out.was m hlm]
              unfold hl hs
              simp [List.getD_eq_getElem?_getD, hlm]
            clear d1 bw QB L0
            generalize hQ : qfl N W R z1 m = Q at *
            obtain ⟨qk, hqk⟩ : ∃ qk, qk = Q.1.getD m 0 := ⟨_, rfl⟩
            have a4 := QH.out m hlm
            obtain ⟨g0, f0⟩ := V.out.get HL.out m hlm
            rw [← hqk] at g0 a4
            have XS : Hid (N.getD m 0 < 0 → qst N W R Q m = (Q.1.set m (qk - ((W.getD m 0 + R.getD m 0) - (W.getD m 0 + R.getD m 0) / 2)), Q.2 + ((W.getD m 0 + R.getD m 0) - (W.getD m 0 + R.getD m 0) / 2))) := fun h => by
              unfold qst hf hs up; rw [if_pos h, hqk]; rfl
            have XN : Hid (¬ N.getD m 0 < 0 → qst N W R Q m = (up (Q.1.set m (qk - ((W.getD m 0 + R.getD m 0) - (W.getD m 0 + R.getD m 0) / 2))) (N.getD m 0).toNat ((W.getD m 0 + R.getD m 0) - (W.getD m 0 + R.getD m 0) / 2), Q.2)) := fun h => by
              unfold qst hf hs; rw [if_neg h]; unfold up; rw [hqk]; rfl
            clear hqk hQ
            obtain ⟨h, hh⟩ : ∃ h, h = W.getD m 0 + R.getD m 0 := ⟨_, rfl⟩
            rw [← hh] at cw0 XS XN
            have hb : 0 ≤ h ∧ h ≤ 2000000000000 := by omega
            clear hh a1 a2
            generalize N.getD m 0 = tt at *
            obtain ⟨st, hst⟩ : ∃ st, st = h / 2 := ⟨_, rfl⟩
            obtain ⟨ha, hha⟩ : ∃ ha, ha = h - h / 2 := ⟨_, rfl⟩
            rw [← hha] at XS XN
            have w2' : IntKind.i64.wrap (h.tdiv 2) = st := by rw [Int.tdiv_eq_ediv_of_nonneg (by omega), ← hst]; exact IntWalk.i64_in _ (by omega)
            have w4' : IntKind.i64.wrap (h - st) = ha := by rw [hst, ← hha]; exact IntWalk.i64_in _ (by omega)
            have hb2 : 0 ≤ ha ∧ ha ≤ 2000000000000 := by omega
            have w3' : IntKind.i64.wrap (qk - ha) = qk - ha := IntWalk.i64_in _ (by omega)
            clear hst hha
            have V2 : Hid (∀ q, Nt w0 ((wr.drewN q).setCell ⟨g, m, none⟩ (.int .i64 (qk - ha))) A g vc gw k (hl W R k) (Q.1.set m (qk - ha)) Q.2 zz) := fun q => (V.out.drewN q).put m _
            have y3 : ¬ A = g := by have := (V.out.mt.row.lt g rfl).1; omega
            have y4 : ¬ g = A := fun h => y3 h.symm
            obtain ⟨y0, y1, y2⟩ := V.out.mt.bx
            go_upto_region 16 with fail
            go_quiet (fail)
            go_upto_region 17 with fail
            go_region
            obtain ⟨w2, hw2⟩ : ∃ w2, w2 = (wr.drewN (nq + 1)).setCell ⟨g, m, none⟩ (.int .i64 (qk - ha)) := ⟨_, rfl⟩
            have U := V2.out (nq + 1)
            rw [← hw2] at U ⊢
            have UH : Hid (Nt w0 w2 A g vc gw k (hl W R k) (Q.1.set m (qk - ha)) Q.2 zz) := U
            have UL : Hid ((Q.1.set m (qk - ha)).length = k) := (by show _ = _; rw [List.length_set]; exact HL.out)
            have d2 := BN.out w2 U.mt.bl
            clear hw2 V2 V U d1' g0 f0 w2' w3' w4' y0 y1 y2 cw0 BN
            by_cases ht : tt < 0
            · have XE := XS.out ht
              have XH : Hid (qst N W R Q m = (Q.1.set m (qk - ha), Q.2 + ha)) := XE
              obtain ⟨y0, y1, y2⟩ := UH.out.mt.bx
              have y5 := UH.out.mt.fz 1
              have w5 : IntKind.i64.wrap (Q.2 + ha) = Q.2 + ha := IntWalk.i64_in _ (by omega)
              have VV : Hid (Nt w0 (w2.setCell ⟨A, 1, none⟩ (.int .i64 (Q.2 + ha))) A g vc gw k (hl W R k) (qfl N W R z1 (m + 1)).1 (qfl N W R z1 (m + 1)).2 zz) := (by show Nt _ _ _ _ _ _ _ _ _ _ _; rw [NX.out, XH.out]; exact UH.out.out _)
              clear XE XS XN UH NX XH
              go_wp2_with fail
              go_roundw
              case rel => exact ⟨m + 1, by omega, by go_num, VV⟩
              case measure => simp [intOf]; omega
            · have XE := XN.out ht
              obtain ⟨j, hj⟩ : ∃ j : Nat, tt = (j : Int) := ⟨tt.toNat, by omega⟩
              subst hj
              have jl : j < k := by omega
              have j2 : (0 : Int) ≤ (j : Int) := by omega
              have j3 : (j : Int) < (k : Int) := by omega
              have j4 : ¬ (j : Int) < 0 := by omega
              obtain ⟨y0, y1, y2⟩ := UH.out.mt.bx
              obtain ⟨g0, f0⟩ := UH.out.get UL.out j jl
              have bq : -4000000000000 ≤ (Q.1.set m (qk - ha)).getD j 0 ∧ (Q.1.set m (qk - ha)).getD j 0 ≤ 2000000000000 * m + 2000000000000 := by
                rw [Ct.getD_set _ _ _ _ (by rw [HL.out]; exact hlm)]
                have := QH.out j jl
                by_cases e : j = m
                · rw [if_pos e]; omega
                · rw [if_neg e]; omega
              have VV : Hid (∀ q, Nt w0 ((w2.drewN q).setCell ⟨g, j, none⟩ (.int .i64 ((Q.1.set m (qk - ha)).getD j 0 + ha))) A g vc gw k (hl W R k) (qfl N W R z1 (m + 1)).1 (qfl N W R z1 (m + 1)).2 zz) := fun q => (by
                rw [NX.out, XE]
                unfold up
                rw [Int.toNat_natCast]
                exact (UH.out.drewN q).put j _)
              generalize (Q.1.set m (qk - ha)).getD j 0 = qj at *
              have w5 : IntKind.i64.wrap (qj + ha) = qj + ha := IntWalk.i64_in _ (by omega)
              clear XE XS XN UH NX ht
              go_upto_region 20 with fail
              go_region
              have VW := VV.out 1
              go_wp2_with fail
              go_roundw
              case rel => exact ⟨m + 1, by omega, by go_num, VW⟩
              case measure => simp [intOf]; omega
          · have hmk : m = k := by omega
            subst hmk
            have jm : ¬ (m : Int) < (m : Int) := by omega
            have bw : Below A w0 wr := V.out.mt.bl
            obtain ⟨y0, y1, y2⟩ := V.out.mt.bx
            obtain ⟨r0, r1, r2⟩ := YH.out.on bw (by omega)
            have f1 : ∀ j, wr.frozen? ⟨w.heap.size + 1, j, none⟩ = false := fun j => (bw.frozen (p := ⟨w.heap.size + 1, j, none⟩) (by show w.heap.size + 1 < _; omega)).trans (FH.out j)
            have f10 := f1 0
            have f11 := f1 1
            have f12 := f1 2
            have nA : ¬ A = w.heap.size + 1 := by omega
            have nA' : ¬ w.heap.size + 1 = A := by omega
            clear f1 bw
            go_wp2_with fail
            refine bodyPost_ret (v := .tuple #[.agg #[.slice (some ⟨g, 0, none⟩) m vc, .int .i64 (qfl N W R z1 m).2, .int .i64 zz], .bool true]) (by simp [results, Try.results6, go_sem, r0, r1, r2]) rfl ⟨_, rfl, ?_, ?_⟩
            · have rr := V.out.mt.row
              refine Bk.own_down (B := A + 1) ?_ (by omega)
              exact (Bk.row_set (Bk.row_set (Bk.row_set rr _ _ _ (by omega)) _ _ _ (by omega)) _ _ _ (by omega))
            · have bb : Below w.heap.size w wr := B0.out.trans ((V.out.mt.bl.mono (by omega)))
              exact ((bb.setCell (p := ⟨w.heap.size + 1, 0, none⟩) (Nat.le_succ _) _).setCell (p := ⟨w.heap.size + 1, 1, none⟩) (Nat.le_succ _) _).setCell (p := ⟨w.heap.size + 1, 2, none⟩) (Nat.le_succ _) _
      · have hk00 : k = 0 := by omega
        subst hk00
        obtain ⟨va, vc, ev⟩ := Ct.row_form U.out.row
        subst ev
        have U0 : Hid (Mt w0 wr A (.slice va 0 vc) 0 (qfl N W R z1 0).1 (qfl N W R z1 0).2 zz) := (by show Mt _ _ _ _ _ _ _ _; rw [QZ]; exact U.out)
        have SZ : Hid (A < wr.heap.size) := U.out.sz
        obtain ⟨t0, t1, t2⟩ := U.out.bx
        have hAlt : A < wr.heap.size := U.out.sz
        have hAne : ¬ A = wr.heap.size := Nat.ne_of_lt hAlt
        have UA : Hid (Mt w0 (wr.alloc (.cells #[] 2)) A (.slice va 0 vc) 0 (qfl N W R z1 0).1 (qfl N W R z1 0).2 zz) := U0.out.below ((Below.refl _ _).alloc (Nat.le_refl _) _)
        clear U M0 U0
        cases va with
        | none =>
          go_wp2_with fail
          go_loopw [15] (fun i wr => i = .int .i64 0 ∧ Hid (Mt w0 wr A (.slice none 0 vc) 0 (qfl N W R z1 0).1 (qfl N W R z1 0).2 zz)) (fun _ _ => 0)
          case atStart => exact ⟨rfl, UA⟩
          case round =>
            clear t0 t1 t2 UA SZ hAlt hAne
            obtain ⟨rfl, V⟩ := hrel
            have bw : Below A w0 wr := V.out.bl
            obtain ⟨y0, y1, y2⟩ := V.out.bx
            obtain ⟨r0, r1, r2⟩ := YH.out.on bw (by omega)
            have f1 : ∀ j, wr.frozen? ⟨w.heap.size + 1, j, none⟩ = false := fun j => (bw.frozen (p := ⟨w.heap.size + 1, j, none⟩) (by show w.heap.size + 1 < _; omega)).trans (FH.out j)
            have f10 := f1 0
            have f11 := f1 1
            have f12 := f1 2
            have nA : ¬ A = w.heap.size + 1 := by omega
            have nA' : ¬ w.heap.size + 1 = A := by omega
            clear f1 bw
            go_wp2_with fail
            refine bodyPost_ret (v := .tuple #[.agg #[.slice none 0 vc, .int .i64 (qfl N W R z1 0).2, .int .i64 zz], .bool true]) (by simp [results, Try.results6, go_sem, r0, r1, r2, QZ]) rfl ⟨_, rfl, ?_, ?_⟩
            · have rr := V.out.row
              refine Bk.own_down (B := A + 1) ?_ (by omega)
              exact (Bk.row_set (Bk.row_set (Bk.row_set rr _ _ _ (by omega)) _ _ _ (by omega)) _ _ _ (by omega))
            · have bb : Below w.heap.size w wr := B0.out.trans ((V.out.bl.mono (by omega)))
              exact ((bb.setCell (p := ⟨w.heap.size + 1, 0, none⟩) (Nat.le_succ _) _).setCell (p := ⟨w.heap.size + 1, 1, none⟩) (Nat.le_succ _) _).setCell (p := ⟨w.heap.size + 1, 2, none⟩) (Nat.le_succ _) _
        | some va =>
          go_wp2_with fail
          go_loopw [15] (fun i wr => i = .int .i64 0 ∧ Hid (Mt w0 wr A (.slice (some va) 0 vc) 0 (qfl N W R z1 0).1 (qfl N W R z1 0).2 zz)) (fun _ _ => 0)
          case atStart => exact ⟨rfl, UA⟩
          case round =>
            clear t0 t1 t2 UA SZ hAlt hAne
            obtain ⟨rfl, V⟩ := hrel
            have bw : Below A w0 wr := V.out.bl
            obtain ⟨y0, y1, y2⟩ := V.out.bx
            obtain ⟨r0, r1, r2⟩ := YH.out.on bw (by omega)
            have f1 : ∀ j, wr.frozen? ⟨w.heap.size + 1, j, none⟩ = false := fun j => (bw.frozen (p := ⟨w.heap.size + 1, j, none⟩) (by show w.heap.size + 1 < _; omega)).trans (FH.out j)
            have f10 := f1 0
            have f11 := f1 1
            have f12 := f1 2
            have nA : ¬ A = w.heap.size + 1 := by omega
            have nA' : ¬ w.heap.size + 1 = A := by omega
            clear f1 bw
            go_wp2_with fail
            refine bodyPost_ret (v := .tuple #[.agg #[.slice (some va) 0 vc, .int .i64 (qfl N W R z1 0).2, .int .i64 zz], .bool true]) (by simp [results, Try.results6, go_sem, r0, r1, r2, QZ]) rfl ⟨_, rfl, ?_, ?_⟩
            · have rr := V.out.row
              refine Bk.own_down (B := A + 1) ?_ (by omega)
              exact (Bk.row_set (Bk.row_set (Bk.row_set rr _ _ _ (by omega)) _ _ _ (by omega)) _ _ _ (by omega))
            · have bb : Below w.heap.size w wr := B0.out.trans ((V.out.bl.mono (by omega)))
              exact ((bb.setCell (p := ⟨w.heap.size + 1, 0, none⟩) (Nat.le_succ _) _).setCell (p := ⟨w.heap.size + 1, 1, none⟩) (Nat.le_succ _) _).setCell (p := ⟨w.heap.size + 1, 2, none⟩) (Nat.le_succ _) _
theorem qfl_bd (N W R : List Int) (out : Int) (h0 : 0 ≤ out) (hv : ∀ c, c < N.length → -1 ≤ N.getD c 0 ∧ N.getD c 0 < N.length) (hW : ∀ i, i < N.length → 0 ≤ W.getD i 0 ∧ W.getD i 0 ≤ 1000000000000) (hR : ∀ i, i < N.length → 0 ≤ R.getD i 0 ∧ R.getD i 0 ≤ 1000000000000) (k : Nat) (hk : k ≤ N.length) :
    (qfl N W R out k).1.length = N.length ∧ out ≤ (qfl N W R out k).2 ∧ (qfl N W R out k).2 ≤ out + 2000000000000 * k ∧ ∀ j, j < N.length → -2000000000000 ≤ (qfl N W R out k).1.getD j 0 ∧ (qfl N W R out k).1.getD j 0 ≤ 2000000000000 * k + 2000000000000 := by
  obtain ⟨a1, a2, a3, a4⟩ := pfl_bd N W R out h0 hW hR k hk
  obtain ⟨b1, b2, b3, b4⟩ := same N W R out hv k hk
  refine ⟨b2, by rw [← b3]; exact a2, by rw [← b3]; exact a3, fun j hj => ?_⟩
  have c1 := a4 j hj
  have c2 := b4 j hj
  have c3 := hW j hj
  have c4 := hR j hj
  rw [c2]
  by_cases e : j < k
  · rw [if_pos e]; omega
  · rw [if_neg e]; unfold hs; omega
theorem sflow_any (N W R : List Int) (z1 z2 : Int) (vN vW vR : Value) (w : World) (hN : Lists.Reads w vN N) (hW : Lists.Reads w vW W) (hR : Lists.Reads w vR R) (ln : N.length < 9223372036854775808) :
    Calls Try.prog 6 #[vN, Bk.sv z1 z2 vW, vR] w fun e w' => ∃ u, e = .returned (.tuple #[Bk.sv (anO N W R z1 z2) (anR N W R z1 z2) u, .bool (stp N W z1 z2 R)]) ∧ w'.ownsRow w.heap.size 2 1 u (anL N W R z1 z2).length (ints (anL N W R z1 z2)) ∧ Below w.heap.size w w' := by
  have C0 : ∀ X, Below w.heap.size w X → Calls Try.prog 14 #[vN] X fun e w' => e = .returned (.bool (Ct.okN N)) ∧ w' = X := fun X hb => Ct.sok_any N vN X (hN.on hb) (by omega)
  have C1 : ∀ X, Below w.heap.size w X → Calls Try.prog 15 #[.int .i64 z1, .int .i64 0, .int .i64 1000000000000] X fun e w' => e = .returned (.bool (Ct.inn z1 0 1000000000000)) ∧ w' = X := fun X _ => Ct.s_in z1 0 1000000000000 X
  have C2 : ∀ X, Below w.heap.size w X → Calls Try.prog 15 #[.int .i64 z2, .int .i64 0, .int .i64 1000000000000] X fun e w' => e = .returned (.bool (Ct.inn z2 0 1000000000000)) ∧ w' = X := fun X _ => Ct.s_in z2 0 1000000000000 X
  obtain ⟨na, nc, e1⟩ := hN.form
  obtain ⟨wa, wc, e2⟩ := hW.form
  obtain ⟨ra, rc, e3⟩ := hR.form
  have NO : stp N W z1 z2 R = false → (∀ (e : Ending) (w' : World), (e = .returned (.tuple #[.agg #[.slice none 0 0, .int .i64 0, .int .i64 0], .bool false]) ∧ Below w.heap.size w w') → ∃ u, e = .returned (.tuple #[Bk.sv (anO N W R z1 z2) (anR N W R z1 z2) u, .bool (stp N W z1 z2 R)]) ∧ w'.ownsRow w.heap.size 2 1 u (anL N W R z1 z2).length (ints (anL N W R z1 z2)) ∧ Below w.heap.size w w') := by
    intro hq e w' ⟨he, hb⟩
    refine ⟨.slice none 0 0, ?_, ?_, hb⟩
    · unfold anO anR; rw [hq]; exact he
    · unfold anL; rw [hq]; exact ⟨rfl, .inl ⟨rfl, rfl⟩⟩
  have NOK : ¬ Ok N W R z1 z2 → stp N W z1 z2 R = false := fun h => by
    cases hq : stp N W z1 z2 R
    · rfl
    · exact absurd (stp_ok.1 hq) h
  by_cases k0 : Ct.okN N = true
  case neg =>
    have k0' : Ct.okN N = false := by simpa using k0
    rw [k0'] at C0
    subst e1 e2 e3
    exact (sno0 na wa ra _ nc _ wc _ rc z1 z2 w C0).mono (NO (NOK fun h => k0 h.ok))
  rw [k0] at C0
  by_cases k1 : W.length = N.length
  case neg =>
    subst e1 e2 e3
    exact (sno1 na wa ra _ nc _ wc _ rc z1 z2 w C0 k1).mono (NO (NOK fun h => k1 h.lw))
  by_cases k2 : R.length = N.length
  case neg =>
    subst e1 e2 e3
    exact (sno2 na wa ra _ nc _ wc _ rc z1 z2 w C0 k1 k2).mono (NO (NOK fun h => k2 h.lr))
  have n5 := ((Ct.ok_iff N).1 k0).1
  have lw : W.length ≤ 1048576 := by omega
  have lr : R.length ≤ 1048576 := by omega
  have C3 : ∀ X, Below w.heap.size w X → Calls Try.prog 16 #[vW] X fun e w' => e = .returned (.tuple #[.int .i64 (if wat W then sm W W.length else 0), .bool (wat W)]) ∧ w' = X := fun X hb => ssum_any W vW X (hW.on hb) lw
  have C4 : ∀ X, Below w.heap.size w X → Calls Try.prog 16 #[vR] X fun e w' => e = .returned (.tuple #[.int .i64 (if wat R then sm R R.length else 0), .bool (wat R)]) ∧ w' = X := fun X hb => ssum_any R vR X (hR.on hb) lr
  have sW : wat W = true → 0 ≤ sm W W.length ∧ sm W W.length ≤ 1048576000000000000 := sm_all W lw
  have sR : wat R = true → 0 ≤ sm R R.length ∧ sm R R.length ≤ 1048576000000000000 := sm_all R lr
  by_cases k3 : Ct.inn z1 0 1000000000000 = true
  case neg =>
    have k3' : Ct.inn z1 0 1000000000000 = false := by simpa using k3
    rw [k3'] at C1
    subst e1 e2 e3
    exact (sno3 na wa ra _ nc _ wc _ rc z1 z2 w C0 k1 k2 C1).mono (NO (NOK fun h => k3 ((Ct.inn_iff _ _ _).2 h.h1)))
  rw [k3] at C1
  by_cases k4 : Ct.inn z2 0 1000000000000 = true
  case neg =>
    have k4' : Ct.inn z2 0 1000000000000 = false := by simpa using k4
    rw [k4'] at C2
    subst e1 e2 e3
    exact (sno4 na wa ra _ nc _ wc _ rc z1 z2 w C0 k1 k2 C1 C2).mono (NO (NOK fun h => k4 ((Ct.inn_iff _ _ _).2 ⟨h.h2.1, by have := h.h2.2; have := (sR h.wr).1; omega⟩)))
  rw [k4] at C2
  by_cases k5 : wat W = true
  case neg =>
    have k5' : wat W = false := by simpa using k5
    rw [k5'] at C3
    subst e1 e2 e3
    exact (sno5 na wa ra _ nc _ wc _ rc z1 z2 _ _ w C0 k1 k2 C1 C2 _ C3 C4).mono (NO (NOK fun h => k5 h.ww))
  rw [k5] at C3
  by_cases k6 : wat R = true
  case neg =>
    have k6' : wat R = false := by simpa using k6
    rw [k6'] at C4
    subst e1 e2 e3
    exact (sno6 na wa ra _ nc _ wc _ rc z1 z2 _ _ w C0 k1 k2 C1 C2 C3 C4).mono (NO (NOK fun h => k6 h.wr))
  rw [k6] at C4
  have b1 := (Ct.inn_iff _ _ _).1 k3
  have b2 := (Ct.inn_iff _ _ _).1 k4
  have b3 := sW k5
  have b4 := sR k6
  simp only [if_true] at C3 C4
  by_cases k7 : sm W W.length + z1 = z2
  case neg =>
    subst e1 e2 e3
    exact (sno7 na wa ra _ nc _ wc _ rc z1 z2 _ _ w C0 k1 k2 C1 C2 C3 C4 (IntWalk.i64_in _ (by omega)) k7).mono (NO (NOK fun h => k7 h.h3))
  by_cases k8 : 1000000000000 - sm R R.length < z2
  case pos =>
    subst e1 e2 e3
    exact (sno8 na wa ra _ nc _ wc _ rc z1 z2 _ _ w C0 k1 k2 C1 C2 C3 C4 ((IntWalk.i64_in _ (by omega)).trans k7) (IntWalk.i64_in _ (by omega)) k8).mono (NO (NOK fun h => by have := h.h2.2; omega))
  have K : Ok N W R z1 z2 := ⟨k0, k1, k2, k5, k6, b1, by omega, k7⟩
  have hq := stp_ok.2 K
  have A1 := reads_low hN e1
  have A2 := reads_low hW e2
  have A3 := reads_low hR e3
  have B2 := (wat_iff W).1 k5
  have B3 := (wat_iff R).1 k6
  have hv := ((Ct.ok_iff N).1 k0).2.1
  rw [k1] at e2 A2 B2
  rw [k2] at e3 A3 B3
  have pb := pfl_bd N W R z1 b1.1 B2 B3 N.length (Nat.le_refl _)
  have fl := flows N W R z1 hv
  subst e1 e2 e3
  refine (sflow_yes N W R na wa ra N.length nc wc rc z1 z2 (sm W W.length) (sm R R.length) (z2 + sm R R.length) w K.len A1 A2 A3 hv B2 B3 (qfl_bd N W R z1 b1.1 hv B2 B3) rfl (qfl_succ N W R z1) b1 C0 C1 C2 C3 C4 ((IntWalk.i64_in _ (by omega)).trans k7) (IntWalk.i64_in _ (by omega)) k8 (IntWalk.i64_in _ (by omega))).mono ?_
  rintro e w' ⟨u, rfl, hr, hb⟩
  rw [fl] at hr ⊢
  refine ⟨u, ?_, ?_, hb⟩
  · unfold anO anR; rw [hq]; rfl
  · unfold anL; rw [hq]
    show w'.ownsRow w.heap.size 2 1 u (pfl N W R z1 N.length).1.length (ints (pfl N W R z1 N.length).1)
    rw [pb.1]; exact hr
end Go.Proofs.Ytjhoagbcfpbelaa.Fs
