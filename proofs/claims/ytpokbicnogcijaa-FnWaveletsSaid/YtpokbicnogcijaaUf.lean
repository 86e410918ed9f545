/- DrawWave: a list and a number of steps drawn of bytes. -/
import Derived.Test.YtpokbicnogcijaaUd
namespace Go.Proofs.Ytpokbicnogcijaa.Rd
open Go.ChangeShapes Go.WideShapes Go.ChangeAt Go.RowKit
open Go.Proofs.Ytpokbicnogcijaa.Lists (ints)

def Li (w : World) (v : Value) (L : List Int) : Prop := ∃ g c, v = .slice (some ⟨g, 0, none⟩) L.length c ∧ L.length ≤ c ∧ c ≤ maxLen ∧ g < w.heap.size ∧ ∀ i, i < L.length → w.cell? ⟨g, i, none⟩ = some (.int .i64 (L.getD i 0))
theorem Li.on {w w' : World} {v : Value} {L : List Int} (h : Li w v L) (hb : Below w.heap.size w w') : Li w' v L := by
  obtain ⟨g, c, a, b, d, e, f⟩ := h
  exact ⟨g, c, a, b, d, Nat.lt_of_lt_of_le e hb.size, fun i hi => (hb.cell (p := ⟨g, i, none⟩) e).trans (f i hi)⟩
theorem li_row {w : World} {B : Nat} {v : Value} {L : List Int} (h : w.ownsRow B 2 1 v L.length (ints L)) (h1 : 1 ≤ L.length) : Li w v L := by
  obtain ⟨g, c, a, b, d, e, f⟩ := Lists.row_some h (fun e => by subst e; have := h.2; rcases this with ⟨_, q⟩ | ⟨_, _, _, q, _⟩ <;> simp_all)
  subst a
  exact ⟨g, c, rfl, e, f, d, fun i hi => Lists.row_cell h i hi⟩
def DW (w : World) (e : Ending) (w' : World) : Prop := ∃ v L s, e = .returned (.tuple #[v, .int .i64 s]) ∧ L.length ≤ 61 ∧ Li w' v L ∧ Below w.heap.size w w'

set_option maxRecDepth 20000 in
set_option maxHeartbeats 4000000 in
theorem drawWave_any (a : Option Addr) (n cap : Nat) (w : World) (h : Code w a n cap) (hn : n ≤ 1048576) : Calls Try.prog 12 #[.slice a n cap] w fun e w' => DW w e w' := by
  obtain ⟨i0, hi, hz0, hz1, hz2⟩ := info_parts Lists.Try.info2
  have H : Hid (Code w a n cap) := h
  have HN : Hid (n ≤ 1048576) := hn
  clear h hn
  go_enter Try.func12, Try.ntmps12
  go_wp2_with fail
  refine (open_any _ a n cap rfl _).mono ?_
  rintro e w1 ⟨rfl, hw1⟩
  have K1 : Hid (Rd w.heap.size w1) := (by show Rd _ _; rw [hw1]; exact Rd.new H.out HN.out (Below.refl _ _))
  have B1 : Hid (Below w.heap.size w w1) := (by show Below _ _ _; rw [hw1]; exact (Below.refl _ _).alloc (Nat.le_refl _) _)
  clear hw1 H HN
  obtain ⟨r, hr⟩ : ∃ r, r = w.heap.size := ⟨_, rfl⟩
  have HR : Hid (r = w.heap.size) := hr
  rw [← hr] at K1 ⊢
  clear hr
  have r1 := K1.out.lt
  go_wp2_with fail
  refine (whole_any r w1 K1.out).mono ?_
  rintro e w2 ⟨v, L, rfl, l1, l2, S2⟩
  have S2 : Hid (WS r w1 w2 v L) := S2
  have C : Hid (Calls Try.prog 23 #[.pointer (some ⟨r, 0, none⟩), .int .i64 6] w2 (Drawn r w2 fun u => 0 ≤ u ∧ u < 6)) := below_any r w2 S2.out.rd 6 (by omega) (by omega)
  clear K1
  go_wp2_with fail
  refine C.out.mono ?_
  rintro e w3 ⟨⟨s, ⟨s1, s2⟩, rfl⟩, k3, t3⟩
  have S3 : Hid (WS r w1 w3 v L) := S2.out.turn r1 k3 t3
  have C : Hid (Calls Try.prog 23 #[.pointer (some ⟨r, 0, none⟩), .int .i64 20] w3 (Drawn r w3 fun u => 0 ≤ u ∧ u < 20)) := below_any r w3 S3.out.rd 20 (by omega) (by omega)
  clear S2 k3 t3
  go_wp2_with fail
  refine C.out.mono ?_
  rintro e w4 ⟨⟨u, ⟨u1, u2⟩, rfl⟩, k4, t4⟩
  have S4 : Hid (WS r w1 w4 v L) := S3.out.turn r1 k4 t4
  clear C S3 k4 t4
  have FIN : Hid (∀ wx L' v' s', Below w1.heap.size wx wx → L'.length ≤ 61 → Li wx v' L' → Turn r w1 wx → DW w (.returned (.tuple #[v', .int .i64 s'])) wx) := fun wx L' v' s' _ hl hli ht =>
    ⟨v', L', s', rfl, hl, hli, B1.out.trans (by have := ht.bel; rw [HR.out] at this; exact this)⟩
  obtain ⟨g, c, ev, c1, c2, c3, c4⟩ := li_row S4.out.row l2
  subst ev
  by_cases e0 : u = 0
  · subst e0
    have C3 : Hid (Calls Try.prog 23 #[.pointer (some ⟨r, 0, none⟩), .int .i64 3] (w4.alloc (Obj.cells #[.int .i64 0, .int .i64 12, .int .i64 13] 2)) (Drawn r (w4.alloc (Obj.cells #[.int .i64 0, .int .i64 12, .int .i64 13] 2)) fun u => 0 ≤ u ∧ u < 3)) := below_any r _ (S4.out.alloc r1 _).rd 3 (by omega) (by omega)
    clear c4
    go_wp2_with fail
    refine C3.out.mono ?_
    rintro e wq ⟨⟨y, ⟨y1, y2⟩, rfl⟩, k6, t6⟩
    have S6 : Hid (WS r w1 wq (.slice (some ⟨g, 0, none⟩) L.length c) L) := (S4.out.alloc r1 _).turn r1 k6 t6
    obtain ⟨q, _, hq2⟩ := pick3 0 12 13 y y1 y2
    have cq : wq.cell? ⟨w4.heap.size, y.toNat, none⟩ = some (.int .i64 q) := (t6.cell _ (by simp) (by have := S4.out.rd.lt; omega)).trans (hq2 w4)
    clear k6 t6 C3 hq2
    have y3 : (0 : Int) ≤ y := y1
    go_wp2_with fail
    refine bodyPost_ret (v := .tuple #[.slice (some ⟨g, 0, none⟩) L.length c, .int .i64 q]) (by simp [results, Try.results12, go_sem]) rfl (FIN.out _ L _ q (Below.refl _ _) (by omega) (li_row S6.out.row l2) S6.out.tn)
  · have e0' : (u == 0) = false := beq_eq_false_iff_ne.2 e0
    by_cases e1 : u = 1
    · subst e1
      have C3 : Hid (Calls Try.prog 23 #[.pointer (some ⟨r, 0, none⟩), .int .i64 2] (w4.alloc (Obj.cells #[.int .i64 1099511627777, .int .i64 1099511627776] 2)) (Drawn r (w4.alloc (Obj.cells #[.int .i64 1099511627777, .int .i64 1099511627776] 2)) fun u => 0 ≤ u ∧ u < 2)) := below_any r _ (S4.out.alloc r1 _).rd 2 (by omega) (by omega)
      clear c4
      go_wp2_with fail
      refine C3.out.mono ?_
      rintro e wq ⟨⟨y, ⟨y1, y2⟩, rfl⟩, k6, t6⟩
      have S6 : Hid (WS r w1 wq (.slice (some ⟨g, 0, none⟩) L.length c) L) := (S4.out.alloc r1 _).turn r1 k6 t6
      obtain ⟨q, hq2⟩ := pick2 1099511627777 1099511627776 y y1 y2
      have cq : wq.cell? ⟨w4.heap.size, y.toNat, none⟩ = some (.int .i64 q) := (t6.cell _ (by simp) (by have := S4.out.rd.lt; omega)).trans (hq2 w4)
      clear k6 t6 C3 hq2
      have y3 : (0 : Int) ≤ y := y1
      have szz := S6.out.tn.size
      have RQ := S6.out.row
      obtain ⟨nl, hnl⟩ : ∃ nl, nl = L.length := ⟨_, rfl⟩
      have HNL : Hid (nl = L.length) := hnl
      rw [← hnl] at RQ l1 l2 c1 ⊢
      clear hnl
      go_wp2_with (at_builtin; refine wpList_append_own_at _ rfl _ _ 22 rfl w1.heap.size 2 i0 (.int .i64 0) 1 8 Try.underlying22 hi hz0 hz1 hz2 rfl (by decide) _ _ _ rfl (RQ.alloc _) ⟨wq.heap.size, 0, none⟩ 1 1 [.int .i64 q] rfl rfl (cell_one_new _ _ _) (by intro u hu; simp at hu; subst hu; rfl) (by unfold maxLen; omega) (by omega) (by simp; omega) ?_)
      intro v' w5 hown hgrow _ _
      have S5 : Hid (WS r w1 w5 v' (L ++ [q])) := S6.out.app r1 (by rw [← HNL.out]; exact hgrow) (by rw [← HNL.out]; exact hown)
      have ll : (L ++ [q]).length = nl + 1 := by rw [List.length_append, List.length_singleton, HNL.out]
      clear hown hgrow RQ S6 S4
      go_wp2_with fail
      refine bodyPost_ret (v := .tuple #[v', .int .i64 (1 + s)]) (by simp [results, Try.results12, go_sem]) rfl (FIN.out _ (L ++ [q]) _ (1 + s) (Below.refl _ _) (by omega) (li_row S5.out.row (by omega)) S5.out.tn)
    · have e1' : (u == 1) = false := beq_eq_false_iff_ne.2 e1
      by_cases e2 : u = 2
      · subst e2
        have L0 : Hid (Li w4 (.slice (some ⟨g, 0, none⟩) 0 c) []) := ⟨g, c, rfl, Nat.zero_le _, c2, c3, fun i hi => by simp at hi⟩
        clear c4
        unfold maxLen at c2
        go_wp2_with fail
        refine bodyPost_ret (v := .tuple #[.slice (some ⟨g, 0, none⟩) 0 c, .int .i64 (1 + s)]) (by simp [results, Try.results12, go_sem]) rfl (FIN.out _ [] _ (1 + s) (Below.refl _ _) (by simp) L0.out S4.out.tn)
      · have e2' : (u == 2) = false := beq_eq_false_iff_ne.2 e2
        have L0 : Hid (Li w4 (.slice (some ⟨g, 0, none⟩) L.length c) L) := ⟨g, c, rfl, c1, c2, c3, c4⟩
        clear c4
        go_wp2_with fail
        refine bodyPost_ret (v := .tuple #[.slice (some ⟨g, 0, none⟩) L.length c, .int .i64 (1 + s)]) (by simp [results, Try.results12, go_sem]) rfl (FIN.out _ L _ (1 + s) (Below.refl _ _) (by omega) L0.out S4.out.tn)
end Go.Proofs.Ytpokbicnogcijaa.Rd
