/- A list of whole numbers drawn. -/
import Derived.Test.YtmopkbkdfipglaaRdJ
import Derived.Test.YtmopkbkdfipglaaWvD
import Derived.Deep.Cut
namespace Go.Proofs.Ytmopkbkdfipglaa.Rd
open Go.ChangeShapes Go.WideShapes Go.ChangeAt Go.RowKit
open Go.Proofs.Ytmopkbkdfipglaa.Lists (ints)

set_option maxHeartbeats 1000000 in
theorem size_any (r : Nat) (w : World) (h : Rd r w) (per most : Nat) (hp : 1 ≤ per ∧ per ≤ 100) (hm : 1 ≤ most ∧ most ≤ 1000) : Calls Try.prog 35 #[.pointer (some ⟨r, 0, none⟩), .int .i64 (per : Int), .int .i64 (most : Int)] w (Drawn r w fun u => 1 ≤ u ∧ u ≤ (most : Int)) := by
  have hh := h
  obtain ⟨a, n, cap, p, h1, h2, h3, h4, h5, h6, h7⟩ := hh
  have H : Hid (Rd r w) := h
  clear h h7
  obtain ⟨q, hq⟩ : ∃ q : Nat, q = n / per := ⟨_, rfl⟩
  have e1 : (n : Int).tdiv (per : Int) = (q : Int) := by rw [Int.tdiv_eq_ediv_of_nonneg (by omega), hq, Int.natCast_ediv]
  have e2 : (n : Int) / (per : Int) = (q : Int) := by rw [hq, Int.natCast_ediv]
  have bq : q ≤ 1048576 := by rw [hq]; exact Nat.le_trans (Nat.div_le_self _ _) h6
  have hp0 : ¬ (per : Int) = 0 := by omega
  clear hq
  by_cases g : (most : Int) < 1 + (q : Int)
  · have C : Hid (Calls Try.prog 31 #[.pointer (some ⟨r, 0, none⟩), .int .i64 (most : Int)] w (Drawn r w fun u => 0 ≤ u ∧ u < (most : Int))) := below_all r w H.out most (by omega) (by omega)
    go_enter Try.func35, Try.ntmps35
    go_wp2_with fail
    refine C.out.mono ?_
    rintro e w1 ⟨⟨u, ⟨hu1, hu2⟩, rfl⟩, k1, k2⟩
    have K : Hid (Rd r w1 ∧ Turn r w w1) := ⟨k1, k2⟩
    clear k1 k2
    go_wp2_with fail
    go_ret
    exact ⟨⟨1 + u, by omega, rfl⟩, K.out.1, K.out.2⟩
  · have C : Hid (Calls Try.prog 31 #[.pointer (some ⟨r, 0, none⟩), .int .i64 (1 + (q : Int))] w (Drawn r w fun u => 0 ≤ u ∧ u < 1 + (q : Int))) := (by
      have := below_all r w H.out (1 + q) (by omega) (by omega)
      rw [Int.natCast_add] at this
      exact this)
    go_enter Try.func35, Try.ntmps35
    go_wp2_with fail
    refine C.out.mono ?_
    rintro e w1 ⟨⟨u, ⟨hu1, hu2⟩, rfl⟩, k1, k2⟩
    have K : Hid (Rd r w1 ∧ Turn r w w1) := ⟨k1, k2⟩
    clear k1 k2
    go_wp2_with fail
    go_ret
    exact ⟨⟨1 + u, by omega, rfl⟩, K.out.1, K.out.2⟩
theorem row_turn {r B n : Nat} {w w' : World} {v : Value} {xs : List Value} (h : w.ownsRow B 2 1 v n xs) (t : Turn r w w') (hr : r < B) : w'.ownsRow B 2 1 v n xs := by
  refine ⟨h.1, ?_⟩
  rcases h.2 with a | ⟨g, cap, cur, a, b, c, d⟩
  · exact .inl a
  · have hl := (h.lt g (by rw [a]; rfl)).2
    exact .inr ⟨g, cap, cur, a, b, (t.abv g (by omega) hl).trans c, d⟩
/-- the list so far, behind the reader -/
structure WS (r : Nat) (w wx : World) (v : Value) (L : List Int) : Prop where
  rd : Rd r wx
  tn : Turn r w wx
  row : wx.ownsRow w.heap.size 2 1 v L.length (ints L)
theorem WS.turn {r : Nat} {w wx wy : World} {v : Value} {L : List Int} (h : WS r w wx v L) (hr : r < w.heap.size) (k : Rd r wy) (t : Turn r wx wy) : WS r w wy v L :=
  ⟨k, h.tn.trans t, row_turn h.row t hr⟩
theorem WS.app {r : Nat} {w wx w5 : World} {v v' : Value} {L : List Int} {o : Obj} {x : Int} (h : WS r w wx v L) (hr : r < w.heap.size) (hg : (wx.alloc o).grownBy w5 v.ownBlock) (hrow : w5.ownsRow w.heap.size 2 1 v' (L.length + 1) (ints L ++ [.int .i64 x])) : WS r w w5 v' (L ++ [x]) := by
  have sz := h.tn.size
  have B5 : Below w.heap.size wx w5 := ((Below.refl w.heap.size wx).alloc sz o).grown hg (by simp; omega) (fun g e => (h.row.lt g e).1)
  refine ⟨h.rd.kept B5 hr, ⟨h.tn.bel.trans (B5.mono (by omega)), fun k h1 h2 => (B5.block k h2).trans (h.tn.abv k h1 h2)⟩, ?_⟩
  rw [List.length_append, List.length_singleton, show ints (L ++ [x]) = ints L ++ [.int .i64 x] by simp [ints]]
  exact hrow
theorem WS.alloc {r : Nat} {w wx : World} {v : Value} {L : List Int} (h : WS r w wx v L) (hr : r < w.heap.size) (o : Obj) : WS r w (wx.alloc o) v L :=
  ⟨h.rd.kept ((Below.refl wx.heap.size wx).alloc (Nat.le_refl _) o) h.rd.lt, h.tn.alloc hr o, h.row.alloc o⟩
theorem pick3 (x y z u : Int) (h0 : 0 ≤ u) (h1 : u < 3) : ∃ q, (q = x ∨ q = y ∨ q = z) ∧ ∀ W : World, (W.alloc (Obj.cells #[.int .i64 x, .int .i64 y, .int .i64 z] 2)).cell? ⟨W.heap.size, u.toNat, none⟩ = some (.int .i64 q) := by
  have : u = 0 ∨ u = 1 ∨ u = 2 := by omega
  rcases this with rfl | rfl | rfl
  · exact ⟨x, .inl rfl, fun W => by simp [go_sem]⟩
  · exact ⟨y, .inr (.inl rfl), fun W => by simp [go_sem]⟩
  · exact ⟨z, .inr (.inr rfl), fun W => by simp [go_sem]⟩
theorem pick2 (x y u : Int) (h0 : 0 ≤ u) (h1 : u < 2) : ∃ q, ∀ W : World, (W.alloc (Obj.cells #[.int .i64 x, .int .i64 y] 2)).cell? ⟨W.heap.size, u.toNat, none⟩ = some (.int .i64 q) := by
  have : u = 0 ∨ u = 1 := by omega
  rcases this with rfl | rfl
  · exact ⟨x, fun W => by simp [go_sem]⟩
  · exact ⟨y, fun W => by simp [go_sem]⟩

set_option maxRecDepth 20000 in
set_option maxHeartbeats 4000000 in
theorem whole_any (r : Nat) (w : World) (h : Rd r w) :
    Calls Try.prog 30 #[.pointer (some ⟨r, 0, none⟩), .int .i64 60] w fun e w' => ∃ v L, e = .returned v ∧ L.length ≤ 60 ∧ 1 ≤ L.length ∧ WS r w w' v L := by
  have hr := h.lt
  obtain ⟨i0, hi, hz0, hz1, hz2⟩ := info_parts Lists.Try.info2
  have SZ : Hid (Calls Try.prog 35 #[.pointer (some ⟨r, 0, none⟩), .int .i64 3, .int .i64 60] w (Drawn r w fun u => 1 ≤ u ∧ u ≤ 60)) := size_any r w h 3 60 (by omega) (by omega)
  clear h
  go_enter Try.func30, Try.ntmps30
  go_wp2_with fail
  refine SZ.out.mono ?_
  rintro e w1 ⟨⟨u, ⟨hu1, hu2⟩, rfl⟩, k1, t1⟩
  obtain ⟨n, rfl⟩ : ∃ n : Nat, u = (n : Int) := ⟨u.toNat, by omega⟩
  have z1 := t1.size
  have S1 : Hid (WS r w (w1.alloc (Obj.cells #[] 2)) (.slice (some ⟨w1.heap.size, 0, none⟩) 0 0) []) := (by
    show WS _ _ _ _ _
    refine ⟨k1.kept ((Below.refl w1.heap.size w1).alloc (Nat.le_refl _) _) k1.lt, t1.alloc hr _, ?_⟩
    exact World.ownsRow_lit w1 #[] 0 z1 (Nat.zero_le _) rfl)
  clear SZ k1 t1
  go_upto_region 3 with fail
  obtain ⟨w2, hw2⟩ : ∃ w2, w2 = w1.alloc (Obj.cells #[] 2) := ⟨_, rfl⟩
  rw [← hw2] at S1 ⊢
  obtain ⟨b1, hb1⟩ : ∃ b1, b1 = w1.heap.size := ⟨_, rfl⟩
  rw [← hb1] at S1 ⊢
  clear hw2 hb1 z1
  have C : Hid (Calls Try.prog 31 #[.pointer (some ⟨r, 0, none⟩), .int .i64 600] w2 (Drawn r w2 fun u => 0 ≤ u ∧ u < 600)) := below_any r w2 S1.out.rd 600 (by omega) (by omega)
  go_wp2_with fail
  refine C.out.mono ?_
  rintro e w3 ⟨⟨x, ⟨x1, x2⟩, rfl⟩, k3, t3⟩
  have S3 : Hid (WS r w w3 (.slice (some ⟨b1, 0, none⟩) 0 0) []) := S1.out.turn hr k3 t3
  clear C k3 t3 S1
  go_wp2_with fail
  go_loopw [6, 7, 8] (fun v x i wr => ∃ (k : Nat) (L : List Int) (xx : Int), k ≤ n ∧ L.length = k ∧ x = .int .i64 xx ∧ i = .int .i64 k ∧ Hid (WS r w wr v L) ∧ (-1099511628100 - 20 * (k : Int) ≤ xx ∧ xx ≤ 1099511628100 + 20 * (k : Int))) (fun _ _ i _ => n - (intOf i).toNat)
  case atStart => exact ⟨0, [], _, Nat.zero_le _, rfl, rfl, rfl, S3, by omega⟩
  case round =>
    obtain ⟨k, L, xx, hk, hL, rfl, rfl, S, x3⟩ := hrel
    clear S3
    obtain ⟨vv, hvv⟩ : ∃ vv, vv = u6 := ⟨_, rfl⟩
    subst hvv
    by_cases hlt : k < n
    · have a1 : (k : Int) < (n : Int) := by omega
      have C : Hid (Calls Try.prog 31 #[.pointer (some ⟨r, 0, none⟩), .int .i64 30] wr (Drawn r wr fun u => 0 ≤ u ∧ u < 30)) := below_any r wr S.out.rd 30 (by omega) (by omega)
      go_wp2_with fail
      refine C.out.mono ?_
      rintro e w4 ⟨⟨u, ⟨u1, u2⟩, rfl⟩, k4, t4⟩
      have S4 : Hid (WS r w w4 vv L) := S.out.turn hr k4 t4
      clear C k4 t4 S
      obtain ⟨xq, hxq⟩ : ∃ xq, xq = xx + u - 15 := ⟨_, rfl⟩
      have wxq : IntKind.i64.wrap (IntKind.i64.wrap (xx + u) - 15) = xq := by rw [IntWalk.i64_in (xx + u) (by omega), IntWalk.i64_in _ (by omega), hxq]
      have wxq2 : IntKind.i64.wrap (xx + u - 15) = xq := by rw [IntWalk.i64_in _ (by omega), hxq]
      have C2 : Hid (Calls Try.prog 36 #[.pointer (some ⟨r, 0, none⟩), .int .i64 25] w4 fun e w' => (∃ u : Bool, e = .returned (.bool u)) ∧ Rd r w' ∧ Turn r w4 w') := once_any r w4 S4.out.rd 25 (by omega) (by omega)
      have xqb : -1099511628100 - 20 * (k : Int) - 15 ≤ xq ∧ xq ≤ 1099511628100 + 20 * (k : Int) + 15 := by omega
      have hxx : xx + u - 15 = xq := hxq.symm
      clear hxq
      go_wp2_with fail
      refine C2.out.mono ?_
      rintro e w5 ⟨⟨b, rfl⟩, k5, t5⟩
      have S5 : Hid (WS r w w5 vv L) := S4.out.turn hr k5 t5
      clear C2 k5 t5 S4 hxx wxq wxq2 x3 u1 u2
      cases b with
      | false =>
        obtain ⟨wq, hwq⟩ : ∃ wq, wq = w5 := ⟨_, rfl⟩
        subst hwq
        have SQ := S5
        clear S5
        obtain ⟨lv, lc, ev⟩ := Lists.row_form SQ.out.row
        subst ev
        have szz := SQ.out.tn.size
        have RQ := SQ.out.row
        rw [hL] at RQ
        go_wp2_with (at_builtin; refine wpList_append_own_at _ rfl _ _ 22 rfl w.heap.size 2 i0 (.int .i64 0) 1 8 Try.underlying22 hi hz0 hz1 hz2 rfl (by decide) _ _ _ rfl (RQ.alloc _) ⟨wq.heap.size, 0, none⟩ 1 1 [.int .i64 xq] rfl rfl (cell_one_new _ _ _) (by intro u hu; simp at hu; subst hu; rfl) (by unfold maxLen; omega) (by omega) (by simp; omega) ?_)
        intro v' w5 hown hgrow _ _
        have S5 : Hid (WS r w w5 v' (L ++ [xq])) := SQ.out.app hr (by rw [hL]; exact hgrow) (by rw [hL]; exact hown)
        clear hown hgrow RQ SQ
        go_wp2_with fail
        go_roundw
        case rel => exact ⟨k + 1, L ++ [xq], xq, hlt, by simp [hL], rfl, by go_num, S5, by omega⟩
        case measure => simp [intOf]; omega
      | true =>
        have C3 : Hid (Calls Try.prog 31 #[.pointer (some ⟨r, 0, none⟩), .int .i64 3] (w5.alloc (Obj.cells #[.int .i64 1099511627776, .int .i64 (-1099511627776), .int .i64 0] 2)) (Drawn r (w5.alloc (Obj.cells #[.int .i64 1099511627776, .int .i64 (-1099511627776), .int .i64 0] 2)) fun u => 0 ≤ u ∧ u < 3)) := below_any r _ (S5.out.alloc hr _).rd 3 (by omega) (by omega)
        go_wp2_with fail
        refine C3.out.mono ?_
        rintro e wq ⟨⟨u, ⟨u1, u2⟩, rfl⟩, k6, t6⟩
        have S6 : Hid (WS r w wq vv L) := (S5.out.alloc hr _).turn hr k6 t6
        obtain ⟨q, hq1, hq2⟩ := pick3 1099511627776 (-1099511627776) 0 u u1 u2
        have cq : wq.cell? ⟨w5.heap.size, u.toNat, none⟩ = some (.int .i64 q) := (t6.cell _ (by simp) (by have := S5.out.rd.lt; omega)).trans (hq2 w5)
        clear k6 t6 C3 hq2
        clear xqb
        have xqb : -1099511627776 ≤ q ∧ q ≤ 1099511627776 := by rcases hq1 with rfl | rfl | rfl <;> omega
        have SQ := S6
        clear S6 S5 hq1
        have u3 : (0 : Int) ≤ u := u1
        obtain ⟨lv, lc, ev⟩ := Lists.row_form SQ.out.row
        subst ev
        have szz := SQ.out.tn.size
        have RQ := SQ.out.row
        rw [hL] at RQ
        go_wp2_with (at_builtin; refine wpList_append_own_at _ rfl _ _ 22 rfl w.heap.size 2 i0 (.int .i64 0) 1 8 Try.underlying22 hi hz0 hz1 hz2 rfl (by decide) _ _ _ rfl (RQ.alloc _) ⟨wq.heap.size, 0, none⟩ 1 1 [.int .i64 q] rfl rfl (cell_one_new _ _ _) (by intro u hu; simp at hu; subst hu; rfl) (by unfold maxLen; omega) (by omega) (by simp; omega) ?_)
        intro v' w5 hown hgrow _ _
        have S5 : Hid (WS r w w5 v' (L ++ [q])) := SQ.out.app hr (by rw [hL]; exact hgrow) (by rw [hL]; exact hown)
        clear hown hgrow RQ SQ
        go_wp2_with fail
        go_roundw
        case rel => exact ⟨k + 1, L ++ [q], q, hlt, by simp [hL], rfl, by go_num, S5, by omega⟩
        case measure => simp [intOf]; omega
    · have hkn : k = n := by omega
      subst hkn
      have jj : ¬ (k : Int) < (k : Int) := by omega
      go_wp2_with fail
      refine bodyPost_ret (v := vv) (by simp [results, Try.results30, go_sem]) rfl ⟨vv, rfl, L, by omega, by omega, S.out⟩
end Go.Proofs.Ytmopkbkdfipglaa.Rd
