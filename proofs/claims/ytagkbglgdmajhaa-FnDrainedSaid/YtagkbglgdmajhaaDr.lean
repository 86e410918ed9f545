/- A box drawn. -/
import Derived.Test.YtagkbglgdmajhaaRdF
import Derived.Test.YtagkbglgdmajhaaWn
import Derived.Test.YtagkbglgdmajhaaSd
import Derived.Test.YtagkbglgdmajhaaCa
import Derived.Test.YtagkbglgdmajhaaBo
import Derived.Deep.RegionLaw
import Derived.Deep.RegionHeldLaw
import Derived.Deep.AppendLies
import Derived.Deep.DeepCutAuto
namespace Go.Proofs.Ytagkbglgdmajhaa.Dr
open Go.ChangeShapes Go.WideShapes Go.ChangeAt Go.RowKit
open Go.Proofs.Ytagkbglgdmajhaa.Lists Go.Proofs.Ytagkbglgdmajhaa.Rd Go.Proofs.Ytagkbglgdmajhaa.Wn

theorem turn_out {r : Nat} {w w' : World} (h : Turn r w w') : Out (fun k => k = r) w w' :=
  ⟨h.bel.os, h.bel.tape, h.bel.output, h.bel.size, fun k hk hn => by
    by_cases e : k < r
    · exact h.bel.block k e
    · exact h.abv k (by omega) hk⟩
/-- A box that is being drawn: B, and where it will be told: R. -/
structure BS (w : World) (r R B : Nat) (wx : World) (a b : Int) (v : Value) (L : List Int) : Prop where
  rd : Rd.Rd r wx
  tn : Turn r w wx
  bx : Bo.Box wx B (.int .i64 a) (.int .i64 b) v
  fz : ∀ i, wx.frozen? ⟨B, i, none⟩ = false
  rc : (∃ u0 u1 u2, Bo.Box wx R u0 u1 u2) ∧ ∀ i, wx.frozen? ⟨R, i, none⟩ = false
  lt : w.heap.size ≤ R ∧ R < B ∧ B < wx.heap.size
  row : wx.ownsRow (B + 1) 2 1 v L.length (ints L)
theorem BS.turn {w : World} {r R B : Nat} {wx w2 : World} {a b : Int} {v : Value} {L : List Int} (h : BS w r R B wx a b v L) (hr : r < w.heap.size) (k : Rd.Rd r w2) (t : Turn r wx w2) : BS w r R B w2 a b v L := by
  obtain ⟨l1, l2, l3⟩ := h.lt
  have o := turn_out t
  have eB := o.block B l3 (by omega)
  have eR := o.block R (by omega) (by omega)
  obtain ⟨b0, b1, b2⟩ := h.bx
  obtain ⟨⟨u0, u1, u2, c0, c1, c2⟩, cf⟩ := h.rc
  refine ⟨k, h.tn.trans t, ⟨(World.cell?_of_block eB).trans b0, (World.cell?_of_block eB).trans b1, (World.cell?_of_block eB).trans b2⟩, fun i => (World.frozen?_of_block eB).trans (h.fz i),
    ⟨⟨u0, u1, u2, (World.cell?_of_block eR).trans c0, (World.cell?_of_block eR).trans c1, (World.cell?_of_block eR).trans c2⟩, fun i => (World.frozen?_of_block eR).trans (cf i)⟩, ⟨l1, l2, Nat.lt_of_lt_of_le l3 o.size⟩, o.row h.row (fun k hk => ?_)⟩
  have := (h.row.lt k hk).1
  omega
theorem BS.drew {w : World} {r R B : Nat} {wx : World} {a b : Int} {v : Value} {L : List Int} (h : BS w r R B wx a b v L) (hr : r < w.heap.size) : BS w r R B wx.drew a b v L :=
  h.turn hr (h.rd.drewN 1) ((Turn.refl r wx).drewN 1)
theorem BS.put {w : World} {r R B : Nat} {wx : World} {a b : Int} {v : Value} {L : List Int} (h : BS w r R B wx a b v L) (hr : r < w.heap.size) (i : Nat) (u : Value) (a' b' : Int) (v' : Value) (L' : List Int)
    (hb : Bo.Box (wx.setCell ⟨B, i, none⟩ u) B (.int .i64 a') (.int .i64 b') v') (hrow : wx.ownsRow (B + 1) 2 1 v' L'.length (ints L')) : BS w r R B (wx.setCell ⟨B, i, none⟩ u) a' b' v' L' := by
  obtain ⟨l1, l2, l3⟩ := h.lt
  have eR := Below.heap_setCell wx ⟨B, i, none⟩ u R (by show R ≠ B; omega)
  obtain ⟨⟨u0, u1, u2, c0, c1, c2⟩, cf⟩ := h.rc
  exact ⟨h.rd.kept ((Below.refl (r + 1) wx).setCell (p := ⟨B, i, none⟩) (by show r + 1 ≤ B; omega) u) (Nat.lt_succ_self r), h.tn.setCell (p := ⟨B, i, none⟩) (by show w.heap.size ≤ B; omega) hr u, hb, fun j => by rw [World.frozen?_setCell]; exact h.fz j,
    ⟨⟨u0, u1, u2, (World.cell?_of_block eR).trans c0, (World.cell?_of_block eR).trans c1, (World.cell?_of_block eR).trans c2⟩, fun j => (World.frozen?_of_block eR).trans (cf j)⟩, ⟨l1, l2, by simpa using l3⟩, Bo.row_set hrow B i u (Nat.lt_succ_self B)⟩
theorem box_set0 {w : World} {B : Nat} {x y z : Value} (h : Bo.Box w B x y z) (u : Value) : Bo.Box (w.setCell ⟨B, 0, none⟩ u) B u y z := by
  obtain ⟨h0, h1, h2⟩ := h
  exact ⟨World.cell?_setCell_same' _ _ _ (by rw [h0]; rfl), by rw [World.cell?_setCell_other _ _ _ _ (fun q => by simp at q)]; exact h1, by rw [World.cell?_setCell_other _ _ _ _ (fun q => by simp at q)]; exact h2⟩
theorem box_set1 {w : World} {B : Nat} {x y z : Value} (h : Bo.Box w B x y z) (u : Value) : Bo.Box (w.setCell ⟨B, 1, none⟩ u) B x u z := by
  obtain ⟨h0, h1, h2⟩ := h
  exact ⟨by rw [World.cell?_setCell_other _ _ _ _ (fun q => by simp at q)]; exact h0, World.cell?_setCell_same' _ _ _ (by rw [h1]; rfl), by rw [World.cell?_setCell_other _ _ _ _ (fun q => by simp at q)]; exact h2⟩
theorem box_set2 {w : World} {B : Nat} {x y z : Value} (h : Bo.Box w B x y z) (u : Value) : Bo.Box (w.setCell ⟨B, 2, none⟩ u) B x y u := by
  obtain ⟨h0, h1, h2⟩ := h
  exact ⟨by rw [World.cell?_setCell_other _ _ _ _ (fun q => by simp at q)]; exact h0, by rw [World.cell?_setCell_other _ _ _ _ (fun q => by simp at q)]; exact h1, World.cell?_setCell_same' _ _ _ (by rw [h2]; rfl)⟩
theorem BS.set0 {w : World} {r R B : Nat} {wx : World} {a b : Int} {v : Value} {L : List Int} (h : BS w r R B wx a b v L) (hr : r < w.heap.size) (x : Int) : BS w r R B (wx.setCell ⟨B, 0, none⟩ (.int .i64 x)) x b v L := h.put hr 0 _ x b v L (box_set0 h.bx _) h.row
theorem BS.set1 {w : World} {r R B : Nat} {wx : World} {a b : Int} {v : Value} {L : List Int} (h : BS w r R B wx a b v L) (hr : r < w.heap.size) (x : Int) : BS w r R B (wx.setCell ⟨B, 1, none⟩ (.int .i64 x)) a x v L := h.put hr 1 _ a x v L (box_set1 h.bx _) h.row
theorem BS.set2 {w : World} {r R B : Nat} {wx : World} {a b : Int} {v v' : Value} {L L' : List Int} (h : BS w r R B wx a b v L) (hr : r < w.heap.size) (hrow : wx.ownsRow (B + 1) 2 1 v' L'.length (ints L')) : BS w r R B (wx.setCell ⟨B, 2, none⟩ v') a b v' L' := h.put hr 2 _ a b v' L' (box_set2 h.bx _) hrow

theorem BS.app {w : World} {r R B : Nat} {wx w5 : World} {a b : Int} {v v' : Value} {L L' : List Int} {o : Obj} (h : BS w r R B wx a b v L) (hr : r < w.heap.size) (hg : (wx.alloc o).grownBy w5 v.ownBlock) (hrow : w5.ownsRow (B + 1) 2 1 v' L'.length (ints L')) :
    (w5.cell? ⟨B, 2, none⟩ = some v ∧ w5.frozen? ⟨B, 2, none⟩ = false) ∧ BS w r R B (w5.setCell ⟨B, 2, none⟩ v') a b v' L' := by
  obtain ⟨l1, l2, l3⟩ := h.lt
  have hb : Below (B + 1) wx w5 := ((Below.refl (B + 1) wx).alloc (by omega) o).grown hg (by simp; omega) (fun k hk => (h.row.lt k hk).1)
  have eB := hb.block B (Nat.lt_succ_self B)
  have eR := hb.block R (by omega)
  obtain ⟨b0, b1, b2⟩ := h.bx
  obtain ⟨⟨u0, u1, u2, c0, c1, c2⟩, cf⟩ := h.rc
  have b0' := (World.cell?_of_block eB).trans b0
  have b1' := (World.cell?_of_block eB).trans b1
  have b2' := (World.cell?_of_block eB).trans b2
  have hx : Bo.Box w5 B (.int .i64 a) (.int .i64 b) v := ⟨b0', b1', b2'⟩
  have fB : ∀ i, w5.frozen? ⟨B, i, none⟩ = false := fun i => (World.frozen?_of_block eB).trans (h.fz i)
  have eR2 := (Below.heap_setCell w5 ⟨B, 2, none⟩ v' R (by show R ≠ B; omega)).trans eR
  refine ⟨⟨b2', fB 2⟩, ⟨(h.rd.kept hb (by omega)).kept ((Below.refl (r + 1) w5).setCell (p := ⟨B, 2, none⟩) (by show r + 1 ≤ B; omega) v') (Nat.lt_succ_self r), ?_, box_set2 hx v', fun i => by rw [World.frozen?_setCell]; exact fB i,
    ⟨⟨u0, u1, u2, (World.cell?_of_block eR2).trans c0, (World.cell?_of_block eR2).trans c1, (World.cell?_of_block eR2).trans c2⟩, fun i => (World.frozen?_of_block eR2).trans (cf i)⟩, ⟨l1, l2, by have := hb.size; simp; omega⟩, Bo.row_set hrow B 2 v' (Nat.lt_succ_self B)⟩⟩
  have t5 : Turn r w w5 := ⟨h.tn.bel.trans (hb.mono (by omega)), fun k h1 h2 => (hb.block k (by omega)).trans (h.tn.abv k h1 h2)⟩
  exact t5.setCell (p := ⟨B, 2, none⟩) (by show w.heap.size ≤ B; omega) hr v'
theorem mul90 {x y : Int} (hx : 1 ≤ x ∧ x ≤ 9) (hy : 1 ≤ y ∧ y ≤ 10) : ∃ P : Nat, x * y = (P : Int) ∧ 1 ≤ P ∧ P ≤ 90 := by
  obtain ⟨m, rfl⟩ : ∃ m : Nat, x = (m : Int) := ⟨x.toNat, by omega⟩
  obtain ⟨k, rfl⟩ : ∃ k : Nat, y = (k : Int) := ⟨y.toNat, by omega⟩
  have h1 : m * k ≤ 9 * 10 := Nat.mul_le_mul (by omega) (by omega)
  have h2 : 1 * 1 ≤ m * k := Nat.mul_le_mul (by omega) (by omega)
  exact ⟨m * k, by simp, by omega, by omega⟩
def lenB (w : World) (B : Nat) : Nat := match w.cell? ⟨B, 2, none⟩ with
  | some (.slice _ l _) => l
  | _ => 0
theorem lenB_is {w : World} {r R B : Nat} {wx : World} {a b : Int} {s : Option Addr} {l c : Nat} {L : List Int} (h : BS w r R B wx a b (.slice s l c) L) : lenB wx B = l := by
  unfold lenB
  rw [h.bx.2.2]

set_option maxRecDepth 20000 in
set_option maxHeartbeats 1000000 in
theorem box_any (r : Nat) (w : World) (h : Rd.Rd r w) :
    Calls Try.prog 37 #[.pointer (some ⟨r, 0, none⟩)] w fun e w' => (∃ (a b : Int) (v : Value) (L : List Int), e = .returned (Bx.sv a b v) ∧ (1 ≤ a ∧ a ≤ 9) ∧ (1 ≤ b ∧ b ≤ 10) ∧ (L.length : Int) = a * b ∧ w'.ownsRow w.heap.size 2 1 v L.length (ints L)) ∧ Rd.Rd r w' ∧ Turn r w w' := by
  have hr := h.lt
  have K0 : Hid (Rd.Rd r (w.alloc (Obj.cells #[.int .i64 0, .int .i64 0, .slice none 0 0] 28)) ∧ Turn r w (w.alloc (Obj.cells #[.int .i64 0, .int .i64 0, .slice none 0 0] 28))) := ⟨h.kept ((Below.refl w.heap.size w).alloc (Nat.le_refl _) _) hr, (Turn.refl r w).alloc hr _⟩
  go_enter Try.func37, Try.ntmps37
  go_wp2_with fail
  refine (below_any r _ K0.out.1 5 (by omega) (by omega)).mono ?_
  rintro e w1 ⟨⟨a, ⟨ha1, ha2⟩, rfl⟩, k1, t1⟩
  go_wp2_with fail
  refine (below_any r _ k1 6 (by omega) (by omega)).mono ?_
  rintro e w2 ⟨⟨b, ⟨hb1, hb2⟩, rfl⟩, k2, t2⟩
  go_upto_region 2 with fail
  obtain ⟨w3, hw3⟩ : ∃ w3, w3 = w2.alloc (Obj.cells #[.int .i64 (1 + a), .int .i64 (1 + b), .slice none 0 0] 28) := ⟨_, rfl⟩
  obtain ⟨B, hB⟩ : ∃ B, w2.heap.size = B := ⟨_, rfl⟩
  have S0 : Hid (BS w r w.heap.size B w3 (1 + a) (1 + b) (.slice none 0 0) []) := (by
    show BS _ _ _ _ _ _ _ _ _
    have o1 := turn_out t1
    have o2 := turn_out t2
    have s1 := o1.size
    have s2 := o2.size
    simp at s1
    have eR : w2.heap[w.heap.size]? = some (Obj.cells #[.int .i64 0, .int .i64 0, .slice none 0 0] 28) := by
      rw [o2.block w.heap.size (by omega) (by omega), o1.block w.heap.size (by simp) (by omega)]
      exact World.alloc_heap_new w _
    have hba : Below w2.heap.size w2 w3 := by rw [hw3]; exact (Below.refl _ _).alloc (Nat.le_refl _) _
    have eR3 := (hba.block w.heap.size (by omega)).trans eR
    subst hB
    refine ⟨k2.kept hba k2.lt, by rw [hw3]; exact ((K0.out.2.trans t1).trans t2).alloc hr _, ?_, fun i => ?_, ⟨⟨.int .i64 0, .int .i64 0, .slice none 0 0, ?_⟩, fun i => ?_⟩, ⟨Nat.le_refl _, by omega, ?_⟩, ⟨rfl, .inl ⟨rfl, rfl⟩⟩⟩
    · rw [hw3]; unfold Bo.Box; simp [go_sem]
    · rw [hw3]; simp [go_sem]
    · unfold Bo.Box
      simp only [World.cell?, eR3]
      exact ⟨rfl, rfl, rfl⟩
    · simp [World.frozen?, eR3]
    · rw [hw3]; simp)
  rw [← hw3]
  rw [hB]
  have a1 : 1 ≤ 1 + a ∧ 1 + a ≤ 5 := by omega
  have b1 : 1 ≤ 1 + b ∧ 1 + b ≤ 6 := by omega
  generalize 1 + a = x at *
  generalize 1 + b = y at *
  clear hw3 hB k1 t1 k2 t2 ha1 ha2 hb1 hb2 K0
  go_cut [20] (fun c wx => ∃ q : Bool, c = .bool q ∧ Hid (BS w r w.heap.size B wx x y (.slice none 0 0) []))
  case first =>
    obtain ⟨ra, rn, rcap, rp, z1, z2, _⟩ := S0.out.rd
    by_cases hq : (60 : Int) < rn
    · go_wp2_with fail
      refine (once_any r _ S0.out.rd 2 (by omega) (by omega)).mono ?_
      rintro e w4 ⟨⟨u, rfl⟩, k3, t3⟩
      have S1 : Hid (BS w r w.heap.size B w4 x y (.slice none 0 0) []) := S0.out.turn hr k3 t3
      go_wp2_with fail
      go_meet
      exact ⟨_, rfl, S1⟩
    · go_wp2_with fail
      go_meet
      exact ⟨false, rfl, S0⟩
  case rest =>
    clear S0
    obtain ⟨q, rfl, S1⟩ := hcut
    obtain ⟨wd, hwd⟩ : ∃ q : World, q = wc := ⟨_, rfl⟩
    subst hwd
    go_upto_if 20 with fail
    go_cut [] (fun wx => ∃ x' y' : Int, (1 ≤ x' ∧ x' ≤ 9) ∧ (1 ≤ y' ∧ y' ≤ 10) ∧ Hid (BS w r w.heap.size B wx x' y' (.slice none 0 0) []))
    case first =>
      cases q
      · go_wp2_with fail
        go_meet
        exact ⟨x, y, by omega, by omega, S1⟩
      · obtain ⟨g0, g1, g2⟩ := id S1.out.bx
        have f0 := S1.out.fz 0
        go_upto_region 3 with fail
        go_cut [] (fun wx => ∃ x' : Int, (1 ≤ x' ∧ x' ≤ 9) ∧ Hid (BS w r w.heap.size B wx x' y (.slice none 0 0) []))
        case first =>
          go_region_with (go_at_call 38; refine (below_any r _ (S1.out.drew hr).rd 5 (by omega) (by omega)).mono ?_; rintro e w4 ⟨⟨u, ⟨hu1, hu2⟩, rfl⟩, k6, t4⟩; have T1 : Hid (BS w r w.heap.size B w4 x y (.slice none 0 0) []) := (S1.out.drew hr).turn hr k6 t4; obtain ⟨o1, o2, o3⟩ := id T1.out.bx; have o4 := T1.out.fz 0)
          all_goals
            go_wp2_with fail
            go_meet
            exact ⟨IntKind.i64.wrap (x + u), by rw [IntWalk.i64_in _ (by omega)]; omega, T1.out.set0 hr _⟩
        case rest =>
          clear S1 g0 g1 g2 f0
          obtain ⟨x', hx', S2⟩ := hcut
          obtain ⟨we, hwe⟩ : ∃ q : World, q = wc := ⟨_, rfl⟩
          subst hwe
          obtain ⟨g0, g1, g2⟩ := id S2.out.bx
          have f0 := S2.out.fz 1
          go_upto_region 4 with fail
          go_region_with (go_at_call 38; refine (below_any r _ (S2.out.drew hr).rd 5 (by omega) (by omega)).mono ?_; rintro e w4 ⟨⟨u, ⟨hu1, hu2⟩, rfl⟩, k6, t4⟩; have T1 : Hid (BS w r w.heap.size B w4 x' y (.slice none 0 0) []) := (S2.out.drew hr).turn hr k6 t4; obtain ⟨o1, o2, o3⟩ := id T1.out.bx; have o4 := T1.out.fz 1)
          all_goals
            go_wp2_with fail
            go_meet
            exact ⟨x', IntKind.i64.wrap (y + u), hx', by rw [IntWalk.i64_in _ (by omega)]; omega, T1.out.set1 hr _⟩
    case rest =>
      clear S1 a1 b1
      obtain ⟨x', y', hx', hy', S2⟩ := hcut
      obtain ⟨wf, hwf⟩ : ∃ q : World, q = wc := ⟨_, rfl⟩
      subst hwf
      obtain ⟨P, hP, p1, p2⟩ := mul90 hx' hy'
      have wp : wrap64 (P : Int) = (P : Int) := IntWalk.wrap64_in _ (by omega)
      obtain ⟨i0, hi, hz0, hz1, hz2⟩ := info_parts Lists.Try.info2
      have HP : Hid (x' * y' = (P : Int)) := hP
      have HX : Hid ((1 ≤ x' ∧ x' ≤ 9) ∧ (1 ≤ y' ∧ y' ≤ 10)) := ⟨hx', hy'⟩
      clear hx' hy'
      go_wp2_with fail
      go_loopw [] (fun wx => ∃ v L, Hid (BS w r w.heap.size B wx x' y' v L) ∧ L.length ≤ P) (fun wx => P - lenB wx B)
      case atStart => exact ⟨_, [], S2, Nat.zero_le _⟩
      case round =>
        clear S2
        obtain ⟨v, L, S, hl⟩ := hrel
        obtain ⟨g0, g1, g2⟩ := id S.out.bx
        obtain ⟨sa, sc, hv⟩ := Gd.row_form S.out.row
        subst hv
        have LB : Hid (lenB wr B = L.length) := lenB_is S.out
        by_cases hlt : L.length < P
        · go_upto_region 6 with fail
          go_region_law (first | (refine step_append_lies _ (by rfl) _ _ 22 (by rfl) (B + 1) 2 i0 (.int .i64 0) 1 8 Try.underlying22 hi hz0 hz1 hz2 rfl (by decide) _ _ _ (by rfl) (T1.out.row.alloc _) ⟨w4.heap.size, 0, none⟩ 1 1 [.int .i64 u] (by rfl) rfl (cell_one_new w4 (.int .i64 u) 2) (Gd.one_int _) (by decide) (by unfold maxLen; omega) (by omega) (by simp; omega) (w4.heap.size + 1) (by simp) ?_; intro g5 c5 w5 hown hgrow hat hlt5; obtain ⟨⟨d1, d2⟩, T5'⟩ := BS.app (L' := L ++ [u]) T1.out hr hgrow (Gd.row_snoc rfl hown); have T5 : Hid (BS w r w.heap.size B (w5.setCell ⟨B, 2, none⟩ (.slice (some ⟨g5, 0, none⟩) (L.length + 1) c5)) x' y' (.slice (some ⟨g5, 0, none⟩) (L.length + 1) c5) (L ++ [u])) := T5') | (go_simp; go_at_call 38; refine (below_any r _ (S.out.drew hr).rd 9 (by omega) (by omega)).mono ?_; rintro e w4 ⟨⟨u, ⟨hu1, hu2⟩, rfl⟩, k6, t4⟩; have T1 : Hid (BS w r w.heap.size B w4 x' y' (.slice sa L.length sc) L) := (S.out.drew hr).turn hr k6 t4; obtain ⟨o1, o2, o3⟩ := id T1.out.bx; have o5 := T1.out.lt.2.2))
          all_goals
            clear hown hgrow hat hlt5
            go_wp2_with fail
            go_roundw
            case rel => exact ⟨_, L ++ [u], T5, by simp; omega⟩
            case measure => have h1 := lenB_is T5.out; have h2 := LB.out; rw [h1, h2]; omega
        · have R2 : Hid (wr.ownsRow w.heap.size 2 1 (.slice sa L.length sc) L.length (ints L)) := Bo.own_down S.out.row (by have := S.out.lt; omega)
          have el : L.length = P := Nat.le_antisymm hl (Nat.le_of_not_lt hlt)
          obtain ⟨⟨c0, c1, c2, r0, r1, r2⟩, rf⟩ := S.out.rc
          have f0 := rf 0
          have f1 := rf 1
          have f2 := rf 2
          go_wp2_with fail
          have l2 := S.out.lt.2.1
          refine bodyPost_ret (v := Bx.sv x' y' (.slice sa P sc)) (by simp [results, Try.results37, go_sem, r0, r1, r2]) rfl ⟨⟨x', y', .slice sa P sc, L, rfl, HX.out.1, HX.out.2, by rw [el, HP.out], ?_⟩, ?_, ?_⟩
          · have q := Bo.row_set (Bo.row_set (Bo.row_set S.out.row w.heap.size 0 (.int .i64 x') (by omega)) w.heap.size 1 (.int .i64 y') (by omega)) w.heap.size 2 (.slice sa P sc) (by omega)
            have q2 := Bo.own_down q (B' := w.heap.size) (by omega)
            rw [el] at q2 ⊢
            exact q2
          · exact S.out.rd.kept ((((Below.refl (r + 1) wr).setCell (p := ⟨w.heap.size, 0, none⟩) hr _).setCell (p := ⟨w.heap.size, 1, none⟩) hr _).setCell (p := ⟨w.heap.size, 2, none⟩) hr _) (Nat.lt_succ_self r)
          · exact ((S.out.tn.setCell (p := ⟨w.heap.size, 0, none⟩) (Nat.le_refl _) hr _).setCell (p := ⟨w.heap.size, 1, none⟩) (Nat.le_refl _) hr _).setCell (p := ⟨w.heap.size, 2, none⟩) (Nat.le_refl _) hr _
end Go.Proofs.Ytagkbglgdmajhaa.Dr
