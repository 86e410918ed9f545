/- A tide drawn of a code. -/
import Derived.Test.YtpmgbbhoplicgaaDr
namespace Go.Proofs.Ytpmgbbhoplicgaa.Rd
open Go.ChangeShapes Go.WideShapes Go.ChangeAt Go.RowKit
open Flt Wa
attribute [local go_sem] Flt.run_store_float
theorem Bx.turn {r k : Nat} {w w' : World} {x y : Value} (h : Bx w k x y) (t : Turn r w w') (hk : k ≠ r) : Bx w' k x y :=
  ⟨(t.cell 0 h.2.2.2.2 hk).trans h.1, (t.cell 1 h.2.2.2.2 hk).trans h.2.1, (t.frozen 0 h.2.2.2.2 hk).trans h.2.2.1, (t.frozen 1 h.2.2.2.2 hk).trans h.2.2.2.1, Nat.lt_of_lt_of_le h.2.2.2.2 t.size⟩
theorem code_on {w w' : World} {a : Option Addr} {n cap : Nat} (h : Go.Proofs.Ytpmgbbhoplicgaa.Rd.Code w a n cap) (hb : Below w.heap.size w w') : Go.Proofs.Ytpmgbbhoplicgaa.Rd.Code w' a n cap := by
  rcases h with h | ⟨b, o, h1, h2, h3, h4, h5⟩
  · exact Or.inl h
  · refine Or.inr ⟨b, o, h1, Nat.lt_of_lt_of_le h2 hb.size, h3, h4, fun i hi => ?_⟩
    obtain ⟨u, g1, g2⟩ := h5 i hi
    exact ⟨u, g1, (hb.cell (p := ⟨b, o + i, none⟩) h2).trans g2⟩
theorem Rd.alloc {r : Nat} {w : World} (h : Rd r w) (o : Obj) : Rd r (w.alloc o) := h.kept ((Below.refl w.heap.size w).alloc (Nat.le_refl _) o) h.lt

set_option maxHeartbeats 2000000 in
theorem pair_any (r : Nat) (w : World) (h : Rd r w) : Calls Try.prog 28 #[.pointer (some ⟨r, 0, none⟩)] w fun e w' => (∃ a b, e = .returned (pr a b)) ∧ Rd r w' ∧ Turn r w w' := by
  have hr := h.lt
  have hne : w.heap.size ≠ r := by omega
  obtain ⟨w0, hw0⟩ : ∃ w0, w0 = w.alloc (.cells #[.float .f64 0, .float .f64 0] 31) := ⟨_, rfl⟩
  have HW0 : Hid (w0 = w.alloc (.cells #[.float .f64 0, .float .f64 0] 31)) := hw0
  have X0 : Hid (Bx w0 w.heap.size (.float .f64 0) (.float .f64 0)) := (by show Bx _ _ _ _; rw [hw0]; exact Bx.new w _ _ 31)
  have K0 : Hid (Rd r w0) := (by show Rd _ _; rw [hw0]; exact h.alloc _)
  have T0 : Hid (Turn r w w0) := (by show Turn _ _ _; rw [hw0]; exact (Turn.refl r w).alloc hr _)
  have FIN : Hid (∀ w' (x y : Value), Rd r w' → Turn r w w' → Rd r ((w'.setCell ⟨w.heap.size, 0, none⟩ x).setCell ⟨w.heap.size, 1, none⟩ y) ∧ Turn r w ((w'.setCell ⟨w.heap.size, 0, none⟩ x).setCell ⟨w.heap.size, 1, none⟩ y)) := fun w' x y k t =>
    ⟨k.kept (((Below.refl w.heap.size w').setCell (p := ⟨w.heap.size, 0, none⟩) (Nat.le_refl _) x).setCell (p := ⟨w.heap.size, 1, none⟩) (Nat.le_refl _) y) hr, (t.setCell (p := ⟨w.heap.size, 0, none⟩) (Nat.le_refl _) hr x).setCell (p := ⟨w.heap.size, 1, none⟩) (Nat.le_refl _) hr y⟩
  clear hw0 h
  go_enter Try.func28, Try.ntmps28
  go_wp2_with fail
  rw [← HW0.out]
  refine (float_any r _ K0.out).mono ?_
  rintro e w1 ⟨⟨a, ha, rfl⟩, k1, t1⟩
  have X1 : Hid (Bx w1 w.heap.size (.float .f64 0) (.float .f64 0)) := Bx.turn X0.out t1 hne
  have K1 : Hid (Rd r w1) := k1
  have T1 : Hid (Turn r w w1) := T0.out.trans t1
  clear k1 t1
  go_wp2_with fail
  refine (once_any r _ K1.out 2 (by omega) (by omega)).mono ?_
  rintro e w2 ⟨⟨u, rfl⟩, k2, t2⟩
  have X2 : Hid (Bx w2 w.heap.size (.float .f64 0) (.float .f64 0)) := Bx.turn X1.out t2 hne
  have K2 : Hid (Rd r w2) := k2
  have T2 : Hid (Turn r w w2) := T1.out.trans t2
  clear k2 t2
  cases u
  · go_wp2_with fail
    refine (float_any r _ K2.out).mono ?_
    rintro e w3 ⟨⟨b, hb, rfl⟩, k3, t3⟩
    obtain ⟨c0, c1, f0, f1, _⟩ := Bx.turn X2.out t3 hne
    have F := FIN.out w3 (.float .f64 a) (.float .f64 b) k3 (T2.out.trans t3)
    have HF : Hid (Rd r ((w3.setCell ⟨w.heap.size, 0, none⟩ (.float .f64 a)).setCell ⟨w.heap.size, 1, none⟩ (.float .f64 b)) ∧ Turn r w ((w3.setCell ⟨w.heap.size, 0, none⟩ (.float .f64 a)).setCell ⟨w.heap.size, 1, none⟩ (.float .f64 b))) := F
    clear k3 t3 F
    go_wp2_with fail
    refine bodyPost_ret (v := pr a b) (by simp [results, Try.results28, go_sem, c0, c1]) rfl ⟨⟨a, b, rfl⟩, HF.out.1, HF.out.2⟩
  · go_wp2_with fail
    refine (below_any r _ K2.out 40 (by omega) (by omega)).mono ?_
    rintro e w3 ⟨⟨v, hv, rfl⟩, k3, t3⟩
    have X3 : Hid (Bx w3 w.heap.size (.float .f64 0) (.float .f64 0)) := Bx.turn X2.out t3 hne
    have K3 : Hid (Rd r w3) := k3
    have T3 : Hid (Turn r w w3) := T2.out.trans t3
    clear k3 t3
    go_wp2_with fail
    refine (sturn v _).mono ?_
    rintro e w4 ⟨x, y, rfl, _, _, hb⟩
    have t4 : Turn r w3 w4 := Turn.of hb (Nat.le_refl _) (Nat.le_of_lt K3.out.lt)
    obtain ⟨c0, c1, f0, f1, _⟩ := X3.out.on hb
    have F := FIN.out w4 (.float .f64 x) (.float .f64 y) (K3.out.kept hb K3.out.lt) (T3.out.trans t4)
    have HF : Hid (Rd r ((w4.setCell ⟨w.heap.size, 0, none⟩ (.float .f64 x)).setCell ⟨w.heap.size, 1, none⟩ (.float .f64 y)) ∧ Turn r w ((w4.setCell ⟨w.heap.size, 0, none⟩ (.float .f64 x)).setCell ⟨w.heap.size, 1, none⟩ (.float .f64 y))) := F
    clear hb t4 F
    go_wp2_with fail
    refine bodyPost_ret (v := pr x y) (by simp [results, Try.results28, go_sem, c0, c1]) rfl ⟨⟨x, y, rfl⟩, HF.out.1, HF.out.2⟩


end Go.Proofs.Ytpmgbbhoplicgaa.Rd
namespace Go.Proofs.Ytpmgbbhoplicgaa.Dr
open Go.ChangeShapes Go.WideShapes Go.ChangeAt Go.RowKit
open Go.Proofs.Ytpmgbbhoplicgaa.Rd Flt Wa
attribute [local go_sem] Flt.run_store_float
theorem made_good (n : Nat) : Co.Good (madeCells (Value.agg #[.int .i64 0, .float .f64 0, .float .f64 0]).cells (n * 3)).toList (List.replicate n (0, 0, 0)) (List.replicate n ((0 : Int), (0 : Nat), (0 : Nat))).length := by
  intro i hi
  rw [List.length_replicate] at hi
  have e : ∀ k, k < 3 → (madeCells (Value.agg #[.int .i64 0, .float .f64 0, .float .f64 0]).cells (n * 3)).toList[i * 3 + k]? = some ((#[Value.int .i64 0, .float .f64 0, .float .f64 0] : Array Value)[k]!) := by
    intro k hk
    have h : i * 3 + k < n * 3 := by omega
    have hm : (i * 3 + k) % 3 = k := by omega
    simp [madeCells, h, Value.cells, hm]
  have e0 := e 0 (by omega)
  have e1 := e 1 (by omega)
  have e2 := e 2 (by omega)
  refine ⟨?_, ?_, ?_⟩
  · simpa [Co.c0, hi, List.getD_eq_getElem?_getD] using e0
  · simpa [Co.c1, hi, List.getD_eq_getElem?_getD] using e1
  · simpa [Co.c2, hi, List.getD_eq_getElem?_getD] using e2
theorem rd_set {r : Nat} {w : World} {g : Nat} (hg : r < g) (h : Rd r w) (o : Nat) (x : Value) : Rd r (w.setCell ⟨g, o, none⟩ x) := h.kept ((Below.refl g w).setCell (p := ⟨g, o, none⟩) (Nat.le_refl _) x) hg
set_option maxHeartbeats 2000000 in
theorem ldraw_any (r : Nat) (w : World) (h : Rd r w) : Calls Try.prog 12 #[.pointer (some ⟨r, 0, none⟩)] w fun e w' => ∃ v L, e = .returned v ∧ LR r w' v L ∧ Bd L ∧ Rd r w' ∧ Turn r w w' := by
  have hr := h.lt
  obtain ⟨i0, hi, hz0, hz1, hz2⟩ := info_parts Co.Try.infoE
  go_enter Try.func12, Try.ntmps12
  go_wp2_with fail
  refine (parts_any r _ h).mono ?_
  rintro e w1 ⟨v, L, rfl, R1, ⟨l1, l4⟩, bl, k1, t1⟩
  clear h
  go_wp2_with fail
  refine (below_any r _ k1 20 (by omega) (by omega)).mono ?_
  rintro e w2 ⟨⟨u, ⟨hu1, hu2⟩, rfl⟩, k2, t2⟩
  have R2 : Co.Row w2 w.heap.size v L := Row.turn R1 t2 hr
  have t12 : Turn r w w2 := t1.trans t2
  clear R1 k1 t1 t2
  obtain ⟨y, t, rfl⟩ : ∃ y t, L = y :: t := by
    cases L with
    | nil => simp at l1
    | cons y t => exact ⟨y, t, rfl⟩
  obtain ⟨xs, O, G⟩ := R2
  have xl : xs.length = (y :: t).length * 3 := O.1
  rcases Co.row_cases O with ⟨e, _⟩ | ⟨g, cap, rfl, hb, hs, hc, hm⟩
  · simp at e
  have O2 : Hid (w2.ownsRow w.heap.size 33 3 (.slice (some ⟨g, 0, none⟩) (y :: t).length cap) (y :: t).length xs) := O
  have G2 : Hid (Co.Good xs (y :: t) (y :: t).length) := G
  have K2 : Hid (Rd r w2) := k2
  have T2 : Hid (Turn r w w2) := t12
  have LN : Hid (LR r w2 (.slice (some ⟨g, 0, none⟩) (y :: t).length cap) (y :: t)) := row_lr ⟨xs, O, G⟩ hr
  have z2 := t12.size
  have BL : Hid (Bd (y :: t)) := bl
  have BS : Hid (∀ z q, -200 ≤ z → z ≤ 200 → Bd ((z, q) :: t)) := fun z q z1 z2 e he => (by
    rcases List.mem_cons.1 he with he | he
    · subst he; exact ⟨z1, z2⟩
    · exact bl e (List.mem_cons_of_mem _ he))
  have BY : Hid (-200 ≤ y.1 ∧ y.1 ≤ 200) := bl y (List.mem_cons_self)
  have gr : r < g := by omega
  have gne : g ≠ r := by omega
  have x3 : 3 ≤ xs.length := by rw [xl]; simp; omega
  obtain ⟨n, hn⟩ : ∃ n, n = (y :: t).length := ⟨_, rfl⟩
  have HN : Hid (n = (y :: t).length) := hn
  have n1 : 0 < (n : Int) := by rw [hn]; simp
  have nc : n ≤ cap := by rw [hn]; exact hc
  -- what a store behind a turn gives
  have ST : Hid (∀ w3, Turn r w2 w3 → w3.ownsRow w.heap.size 33 3 (.slice (some ⟨g, 0, none⟩) (y :: t).length cap) (y :: t).length xs) := fun w3 t3 => row_turn O t3 hr
  have CE : Hid (∀ w3, Turn r w2 w3 → (∃ a, w3.cell? ⟨g, 0, none⟩ = some (.int .i64 a)) ∧ (∃ a, w3.cell? ⟨g, 1, none⟩ = some (.float .f64 a)) ∧ (∃ a, w3.cell? ⟨g, 2, none⟩ = some (.float .f64 a)) ∧ (∀ o, w3.frozen? ⟨g, o, none⟩ = false)) := fun w3 t3 => by
    have O3 := row_turn O t3 hr
    obtain ⟨g0, g1, g2⟩ := G 0 (by simp)
    exact ⟨⟨_, (O3.cellAt 0 (by simp)).trans g0⟩, ⟨_, (O3.cellAt 1 (by simp; omega)).trans g1⟩, ⟨_, (O3.cellAt 2 (by simp; omega)).trans g2⟩, fun o => O3.frozenAt o⟩
  rw [← hn] at LN ⊢
  clear O G k2 t12 l1 l4 hn xl bl
  by_cases u0 : u = 0
  · subst u0
    have kA : Hid (Rd r (w2.alloc (Obj.cells #[.int .i64 100, .int .i64 101, .int .i64 (-100), .int .i64 (-101)] 2))) := K2.out.kept ((Below.refl w2.heap.size w2).alloc (Nat.le_refl _) _) K2.out.lt
    have hne : w2.heap.size ≠ r := by have := K2.out.lt; omega
    have tA : Hid (Turn r w2 (w2.alloc (Obj.cells #[.int .i64 100, .int .i64 101, .int .i64 (-100), .int .i64 (-101)] 2))) := (Turn.refl r w2).alloc K2.out.lt _
    go_wp2_with fail
    refine (below_any r _ kA.out 4 (by omega) (by omega)).mono ?_
    rintro e w3 ⟨⟨v, ⟨hv1, hv2⟩, rfl⟩, k3, t3⟩
    have c0 : w3.cell? ⟨w2.heap.size, 0, none⟩ = some (.int .i64 100) := (t3.cell 0 (by simp) hne).trans (by simp [go_sem])
    have c1 : w3.cell? ⟨w2.heap.size, 1, none⟩ = some (.int .i64 101) := (t3.cell 1 (by simp) hne).trans (by simp [go_sem])
    have c2 : w3.cell? ⟨w2.heap.size, 2, none⟩ = some (.int .i64 (-100)) := (t3.cell 2 (by simp) hne).trans (by simp [go_sem])
    have c3 : w3.cell? ⟨w2.heap.size, 3, none⟩ = some (.int .i64 (-101)) := (t3.cell 3 (by simp) hne).trans (by simp [go_sem])
    have t23 : Turn r w2 w3 := tA.out.trans t3
    obtain ⟨⟨a0, d0⟩, _, _, fz⟩ := CE.out w3 t23
    have f0 := fz 0
    have FIN : Hid (∀ z : Int, LR r (w3.setCell ⟨g, 0, none⟩ (.int .i64 z)) (.slice (some ⟨g, 0, none⟩) n cap) ((z, y.2) :: t) ∧ Rd r (w3.setCell ⟨g, 0, none⟩ (.int .i64 z)) ∧ Turn r w (w3.setCell ⟨g, 0, none⟩ (.int .i64 z))) := fun z => by
      have O3 := ((ST.out w3 t23).stored 0 (.int .i64 z)).1
      have q := row_lr (L := (z, y.2) :: t) ⟨_, O3, good_sp z G2.out (by omega)⟩ hr
      rw [HN.out]
      exact ⟨q, rd_set gr k3 _ _, ((T2.out.trans t23).setCell (p := ⟨g, 0, none⟩) hb hr _)⟩
    clear k3 t3 t23 kA tA fz CE ST
    rcases (by omega : v = 0 ∨ v = 1 ∨ v = 2 ∨ v = 3) with rfl | rfl | rfl | rfl
    all_goals
      go_wp2_with fail
      go_ret
      exact ⟨_, _, rfl, (FIN.out _).1, BS.out _ _ (by omega) (by omega), (FIN.out _).2.1, (FIN.out _).2.2⟩
  · by_cases u1 : u = 1
    · subst u1
      go_wp2_with fail
      refine (Rd.pair_any r _ K2.out).mono ?_
      rintro e w3 ⟨⟨p, q, rfl⟩, k3, t3⟩
      obtain ⟨_, ⟨a1, d1⟩, ⟨a2, d2⟩, fz⟩ := CE.out w3 t3
      have f1 := fz 1
      have f2 := fz 2
      have FIN : Hid (LR r ((w3.setCell ⟨g, 1, none⟩ (.float .f64 p)).setCell ⟨g, 2, none⟩ (.float .f64 q)) (.slice (some ⟨g, 0, none⟩) n cap) ((y.1, p, q) :: t) ∧ Rd r ((w3.setCell ⟨g, 1, none⟩ (.float .f64 p)).setCell ⟨g, 2, none⟩ (.float .f64 q)) ∧ Turn r w ((w3.setCell ⟨g, 1, none⟩ (.float .f64 p)).setCell ⟨g, 2, none⟩ (.float .f64 q))) := (by
        have O3 := (((ST.out w3 t3).stored 1 (.float .f64 p)).1.stored 2 (.float .f64 q)).1
        have qq := row_lr (L := (y.1, p, q) :: t) ⟨_, O3, good_am p q G2.out (by omega)⟩ hr
        rw [HN.out]
        exact ⟨qq, rd_set gr (rd_set gr k3 _ _) _ _, (((T2.out.trans t3).setCell (p := ⟨g, 1, none⟩) hb hr _).setCell (p := ⟨g, 2, none⟩) hb hr _)⟩)
      clear k3 t3 fz CE ST
      go_wp2_with fail
      go_ret
      exact ⟨_, _, rfl, FIN.out.1, BS.out _ _ BY.out.1 BY.out.2, FIN.out.2.1, FIN.out.2.2⟩
    · by_cases u2 : u = 2
      · subst u2
        go_wp2_with fail
        refine (below_any r _ K2.out 2 (by omega) (by omega)).mono ?_
        rintro e w3 ⟨⟨v, ⟨hv1, hv2⟩, rfl⟩, k3, t3⟩
        obtain ⟨m, hm'⟩ : ∃ m : Nat, 40 + v = (m : Int) := ⟨(40 + v).toNat, by omega⟩
        have m41 : m ≤ 41 := by omega
        have e1 : IntKind.i64.wrap (40 + v) = (m : Int) := by rw [IntWalk.i64_in _ (by omega)]; exact hm'
        have T3 : Hid (Turn r w w3) := T2.out.trans t3
        have K3 : Hid (Rd r w3) := k3
        have l3 := k3.lt
        clear hm' hv1 hv2 k3 t3 CE ST
        go_wp2_with (at_make; refine wpList_make_full _ rfl _ _ 24 rfl w3.heap.size 33 i0 (.agg #[.int .i64 0, .float .f64 0, .float .f64 0]) 3 Try.underlying24 hi hz0 hz1 .i64 .i64 (m : Int) (m : Int) m rfl rfl rfl rfl (by rw [hz2]; omega) (by unfold maxLen; omega) (Nat.le_refl _) ?_; intro w4 hown hgrow)
        have B34 : Below w3.heap.size w3 w4 := (Below.refl _ _).grown hgrow (Nat.le_refl _) (fun k hk => by cases hk)
        have FIN : Hid (LR r w4 (.slice (some ⟨w3.heap.size, 0, none⟩) m m) (List.replicate m (0, 0, 0)) ∧ Rd r w4 ∧ Turn r w w4) := (by
          have e : (List.replicate m ((0 : Int), (0 : Nat), (0 : Nat))).length = m := List.length_replicate
          have qq := row_lr (L := List.replicate m (0, 0, 0)) (v := .slice (some ⟨w3.heap.size, 0, none⟩) m m) (B := w3.heap.size) (w := w4) ⟨_, by rw [e]; exact hown, made_good m⟩ l3
          exact ⟨qq, K3.out.kept B34 l3, T3.out.trans (Turn.of B34 (Nat.le_refl _) (Nat.le_of_lt l3))⟩)
        clear hown hgrow B34
        go_wp2_with fail
        go_ret
        exact ⟨_, _, rfl, FIN.out.1, fun e he => by rw [List.mem_replicate] at he; rw [he.2]; exact ⟨by decide, by decide⟩, FIN.out.2.1, FIN.out.2.2⟩
      · by_cases u3 : u = 3
        · subst u3
          go_wp2_with fail
          all_goals go_ret
          all_goals exact ⟨_, [], rfl, Or.inl ⟨rfl, _, _, rfl⟩, fun e he => by simp at he, K2.out, T2.out⟩
        · go_wp2_with fail
          go_ret
          exact ⟨_, _, rfl, LN.out, BL.out, K2.out, T2.out⟩
set_option maxHeartbeats 1000000 in
theorem draw_any (a : Option Addr) (n0 cap : Nat) (w : World) (hc : Rd.Code w a n0 cap) (hn0 : n0 ≤ 1048576) : Calls Try.prog 5 #[.slice a n0 cap] w fun e w' => ∃ v L x, e = .returned (.tuple #[v, .int .i64 x]) ∧ Co.Reads w' v L ∧ Bd L ∧ Below w.heap.size w w' := by
  have O : Hid (Calls Try.prog 11 #[.slice a n0 cap] w fun e w' => e = .returned (.pointer (some ⟨w.heap.size, 0, none⟩)) ∧ w' = w.alloc (.cells #[.slice a n0 cap, .int .i64 0] 50)) := open_any _ a n0 cap rfl w
  have K0 : Hid (Rd w.heap.size (w.alloc (.cells #[.slice a n0 cap, .int .i64 0] 50))) := Rd.new hc hn0 (Below.refl _ _)
  have B0 : Hid (Below w.heap.size w (w.alloc (.cells #[.slice a n0 cap, .int .i64 0] 50))) := (Below.refl _ _).alloc (Nat.le_refl _) _
  clear hc
  generalize hw1 : w.alloc (.cells #[.slice a n0 cap, .int .i64 0] 50) = w1 at *
  clear hw1
  go_enter Try.func5, Try.ntmps5
  go_wp2_with fail
  refine O.out.mono ?_
  rintro e w1' ⟨rfl, hw⟩
  subst hw
  go_wp2_with fail
  refine (ldraw_any _ _ K0.out).mono ?_
  rintro e w2 ⟨v, L, rfl, l2, bl, k2, t2⟩
  go_wp2_with fail
  refine (hour_any _ _ k2).mono ?_
  rintro e w3 ⟨⟨x, rfl⟩, k3, t3⟩
  have FIN : Hid (Co.Reads w3 v L ∧ Bd L ∧ Below w.heap.size w w3) := ⟨(l2.turn t3).reads, bl, B0.out.trans ((t2.trans t3).bel)⟩
  clear l2 k2 t2 k3 t3 bl
  go_wp2_with fail
  go_ret2
  exact ⟨v, L, x, rfl, FIN.out.1, FIN.out.2.1, FIN.out.2.2⟩
end Go.Proofs.Ytpmgbbhoplicgaa.Dr
