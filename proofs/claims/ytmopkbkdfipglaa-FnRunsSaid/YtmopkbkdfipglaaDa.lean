/- DrawPackRuns: a list drawn of bytes. -/
import Derived.Test.YtmopkbkdfipglaaUd
import Derived.Test.YtmopkbkdfipglaaSr
namespace Go.Proofs.Ytmopkbkdfipglaa.Rd
open Go.ChangeShapes Go.WideShapes Go.ChangeAt Go.RowKit
open Go.Proofs.Ytmopkbkdfipglaa.Lists (ints bys_cell)

theorem pick4 (x y z s u : Int) (h0 : 0 ≤ u) (h1 : u < 4) : ∃ q, ∀ W : World, (W.alloc (Obj.cells #[.int .i64 x, .int .i64 y, .int .i64 z, .int .i64 s] 2)).cell? ⟨W.heap.size, u.toNat, none⟩ = some (.int .i64 q) := by
  have : u = 0 ∨ u = 1 ∨ u = 2 ∨ u = 3 := by omega
  rcases this with rfl | rfl | rfl | rfl
  · exact ⟨x, fun W => by simp [go_sem]⟩
  · exact ⟨y, fun W => by simp [go_sem]⟩
  · exact ⟨z, fun W => by simp [go_sem]⟩
  · exact ⟨s, fun W => by simp [go_sem]⟩
def DP (w : World) (e : Ending) (w' : World) : Prop := ∃ v L, e = .returned v ∧ L.length ≤ 4097 ∧ Lists.Reads w' v L ∧ Below w.heap.size w w'

set_option maxRecDepth 20000 in
set_option maxHeartbeats 4000000 in
theorem drawPack_any (a : Option Addr) (n cap : Nat) (w : World) (h : Code w a n cap) (hn : n ≤ 1048576) : Calls Try.prog 19 #[.slice a n cap] w fun e w' => DP w e w' := by
  obtain ⟨i0, hi, hz0, hz1, hz2⟩ := info_parts Lists.Try.info2
  have H : Hid (Code w a n cap) := h
  have HN : Hid (n ≤ 1048576) := hn
  clear h hn
  go_enter Try.func19, Try.ntmps19
  go_wp2_with fail
  refine (open_any _ a n cap rfl _).mono ?_
  rintro e w1 ⟨rfl, hw1⟩
  have K1 : Hid (Rd w.heap.size w1) := (by show Rd _ _; rw [hw1]; exact Rd.new H.out HN.out (Below.refl _ _))
  have B1 : Hid (Below w.heap.size w w1) := (by show Below _ _ _; rw [hw1]; exact (Below.refl _ _).alloc (Nat.le_refl _) _)
  clear hw1 H HN
  obtain ⟨r, hr⟩ : ∃ r, r = w.heap.size := ⟨_, rfl⟩
  have HR : Hid (r = w.heap.size) := hr
  rw [← hr] at K1 ⊢
  clear hr
  have r1 := K1.out.lt
  go_wp2_with fail
  refine (whole_any r w1 K1.out).mono ?_
  rintro e w2 ⟨v, L, rfl, l1, l2, S2⟩
  have S2 : Hid (WS r w1 w2 v L) := S2
  have C : Hid (Calls Try.prog 31 #[.pointer (some ⟨r, 0, none⟩), .int .i64 25] w2 (Drawn r w2 fun u => 0 ≤ u ∧ u < 25)) := below_any r w2 S2.out.rd 25 (by omega) (by omega)
  clear K1
  go_wp2_with fail
  refine C.out.mono ?_
  rintro e w4 ⟨⟨u, ⟨u1, u2⟩, rfl⟩, k3, t3⟩
  have S4 : Hid (WS r w1 w4 v L) := S2.out.turn r1 k3 t3
  clear S2 k3 t3 C
  have FIN : Hid (∀ wx L' v', L'.length ≤ 4097 → Lists.Reads wx v' L' → Turn r w1 wx → DP w (.returned v') wx) := fun wx L' v' hl hli ht =>
    ⟨v', L', rfl, hl, hli, B1.out.trans (by have := ht.bel; rw [HR.out] at this; exact this)⟩
  obtain ⟨g, c, ev, c1, c2, c3, c4⟩ : ∃ g c, v = .slice (some ⟨g, 0, none⟩) L.length c ∧ L.length ≤ c ∧ c ≤ maxLen ∧ g < w4.heap.size ∧ w1.heap.size ≤ g := by
    obtain ⟨g, cap, e, h1, h2, h3, h4⟩ := Lists.row_some S4.out.row (fun e => by subst e; have := S4.out.row.2; rcases this with ⟨_, q⟩ | ⟨_, _, _, q, _⟩ <;> simp_all)
    exact ⟨g, cap, e, h3, h4, h2, h1⟩
  subst ev
  have RL : Hid (Lists.Reads w4 (.slice (some ⟨g, 0, none⟩) L.length c) L) := Lists.reads_row S4.out.row
  by_cases e0 : u = 0
  · subst e0
    have C3 : Hid (Calls Try.prog 31 #[.pointer (some ⟨r, 0, none⟩), .int .i64 4] (w4.alloc (Obj.cells #[.int .i64 1099511627777, .int .i64 (-1099511627777), .int .i64 9223372036854775807, .int .i64 (-9223372036854775808)] 2)) (Drawn r (w4.alloc (Obj.cells #[.int .i64 1099511627777, .int .i64 (-1099511627777), .int .i64 9223372036854775807, .int .i64 (-9223372036854775808)] 2)) fun u => 0 ≤ u ∧ u < 4)) := below_any r _ (S4.out.alloc r1 _).rd 4 (by omega) (by omega)
    clear RL
    go_wp2_with fail
    refine C3.out.mono ?_
    rintro e wq ⟨⟨y, ⟨y1, y2⟩, rfl⟩, k6, t6⟩
    have S6 : Hid (WS r w1 wq (.slice (some ⟨g, 0, none⟩) L.length c) L) := (S4.out.alloc r1 _).turn r1 k6 t6
    obtain ⟨q, hq2⟩ := pick4 1099511627777 (-1099511627777) 9223372036854775807 (-9223372036854775808) y y1 y2
    have cq : wq.cell? ⟨w4.heap.size, y.toNat, none⟩ = some (.int .i64 q) := (t6.cell _ (by simp) (by have := S4.out.rd.lt; omega)).trans (hq2 w4)
    have cg := Lists.row_cell S6.out.row 0 (by omega)
    have fg : wq.frozen? ⟨g, 0, none⟩ = false := S6.out.row.frozenAt 0
    have y3 : (0 : Int) ≤ y := y1
    obtain ⟨nl, hnl⟩ : ∃ nl, nl = L.length := ⟨_, rfl⟩
    have FX : Hid (DP w (.returned (.slice (some ⟨g, 0, none⟩) nl c)) (wq.setCell ⟨g, 0, none⟩ (.int .i64 q))) := (by
      show DP _ _ _
      have h1 := (S6.out.row.stored 0 (.int .i64 q)).1
      rw [Lists.ints_set] at h1
      have h2 : Turn r w1 (wq.setCell ⟨g, 0, none⟩ (.int .i64 q)) := by
        have hb : Below w1.heap.size wq (wq.setCell ⟨g, 0, none⟩ (.int .i64 q)) := (Below.refl _ _).setCell (p := ⟨g, 0, none⟩) c4 _
        exact ⟨S6.out.tn.bel.trans (hb.mono (by omega)), fun k h1 h2 => (hb.block k h2).trans (S6.out.tn.abv k h1 h2)⟩
      have := FIN.out (wq.setCell ⟨g, 0, none⟩ (.int .i64 q)) (L.set 0 q) (.slice (some ⟨g, 0, none⟩) nl c) (by simp; omega) (by
        rw [hnl]
        have := Lists.reads_row (L := L.set 0 q) (w := wq.setCell ⟨g, 0, none⟩ (.int .i64 q)) (base := w1.heap.size) (v := .slice (some ⟨g, 0, none⟩) L.length c) (by rw [List.length_set]; exact h1)
        exact this) h2
      exact this)
    have nl0 : (0 : Int) < (nl : Int) := by omega
    rw [← hnl]
    obtain ⟨cz, hcz⟩ : ∃ cz, cz = L.getD 0 0 := ⟨_, rfl⟩
    rw [← hcz] at cg
    clear k6 t6 C3 hq2 hnl hcz S6 S4
    go_wp2_with fail
    go_ret
    exact FX.out
  · have e0' : (u == 0) = false := beq_eq_false_iff_ne.2 e0
    by_cases e1 : u = 1
    · subst e1
      have FX : Hid (DP w (.returned (.slice (some ⟨g, 0, none⟩) 0 c)) w4) := FIN.out w4 [] _ (by simp) (.inl ⟨rfl, _, _, rfl⟩) S4.out.tn
      unfold maxLen at c2
      clear RL S4
      go_wp2_with fail
      go_ret
      exact FX.out
    · have e1' : (u == 1) = false := beq_eq_false_iff_ne.2 e1
      by_cases e2 : u = 2
      · subst e2
        have C3 : Hid (Calls Try.prog 31 #[.pointer (some ⟨r, 0, none⟩), .int .i64 2] w4 (Drawn r w4 fun u => 0 ≤ u ∧ u < 2)) := below_any r _ S4.out.rd 2 (by omega) (by omega)
        clear RL
        go_wp2_with fail
        refine C3.out.mono ?_
        rintro e wq ⟨⟨y, ⟨y1, y2⟩, rfl⟩, k6, t6⟩
        have S6 : Hid (WS r w1 wq (.slice (some ⟨g, 0, none⟩) L.length c) L) := S4.out.turn r1 k6 t6
        obtain ⟨nz, hnz⟩ : ∃ nz : Nat, nz = (4096 + y).toNat := ⟨_, rfl⟩
        have enz : 4096 + y = (nz : Int) := by omega
        have nzb : nz ≤ 4097 := by omega
        have szz := S6.out.tn.size
        have tn6 := S6.out.tn
        clear k6 t6 C3 S6 S4 hnz
        go_wp2_with (at_make; refine wpList_make_full _ rfl _ _ 22 rfl w1.heap.size 2 i0 (.int .i64 0) 1 Try.underlying22 hi hz0 hz1 .i64 .i64 (nz : Int) (nz : Int) nz rfl rfl rfl rfl (by rw [hz2]; omega) (by unfold maxLen; omega) (by omega) ?_; intro w5 hown hgrow)
        have FX : Hid (DP w (.returned (.slice (some ⟨wq.heap.size, 0, none⟩) nz nz)) w5) := (by
          show DP _ _ _
          have hz := Lists.fill_zero (List.replicate nz 0)
          have ln : (List.replicate nz (0 : Int)).length = nz := List.length_replicate
          rw [ln] at hz
          rw [hz] at hown
          have l2 : (Lists.fill (List.replicate nz 0) 0).length = nz := by rw [Lists.fill_len, ln]
          have hb : Below wq.heap.size wq w5 := (Below.refl _ _).grown hgrow (Nat.le_refl _) (fun k hk => by cases hk)
          exact FIN.out w5 (Lists.fill (List.replicate nz 0) 0) _ (by omega) (by
            have := Lists.reads_row (L := Lists.fill (List.replicate nz 0) 0) (by rw [l2]; exact hown)
            exact this) ⟨tn6.bel.trans (hb.mono (by have := tn6.size; omega)), fun k h1 h2 => (hb.block k (by have := tn6.size; omega)).trans (tn6.abv k h1 h2)⟩)
        clear hown hgrow tn6
        go_wp2_with fail
        go_ret
        exact FX.out
      · have e2' : (u == 2) = false := beq_eq_false_iff_ne.2 e2
        have FX : Hid (DP w (.returned (.slice (some ⟨g, 0, none⟩) L.length c)) w4) := FIN.out w4 L _ (by omega) RL.out S4.out.tn
        clear RL S4
        go_wp2_with fail
        go_ret
        exact FX.out
end Go.Proofs.Ytmopkbkdfipglaa.Rd
