/- An ascent drawn, spoilt now and then. -/
import Derived.Test.YtjnjpbbpphklhaaRdH
import Derived.Deep.DeepCutAuto
namespace Go.Proofs.Ytjnjpbbpphklhaa.Rd
open Go.ChangeShapes Go.WideShapes Go.ChangeAt Go.RowKit
open Flt
attribute [local go_sem] run_store_float

/-- A row of levels, the reader, nothing else turned. -/
abbrev Rw (r : Nat) (w : World) (v : Value) (L : Lv) (w' : World) : Prop := w'.ownsRow w.heap.size 32 2 v L.length (flat L) ∧ Rd r w' ∧ Turn r w w'
theorem flat_take (L : Lv) (n : Nat) : (flat L).take (n * 2) = flat (L.take n) := by
  induction L generalizing n with
  | nil => simp [flat]
  | cons z L ih =>
    have e : flat (z :: L) = .int .i64 z.1 :: .float .f64 z.2 :: flat L := rfl
    cases n with
    | zero => rfl
    | succ n =>
      rw [e, show (n + 1) * 2 = n * 2 + 1 + 1 by omega, List.take_succ_cons, List.take_succ_cons, ih n]
      rfl
theorem row_cut {w w' : World} {g n cap : Nat} {L : Lv} (h : w'.ownsRow w.heap.size 32 2 (.slice (some ⟨g, 0, none⟩) n cap) n (flat L)) (m : Nat) (hm : m ≤ n) : w'.ownsRow w.heap.size 32 2 (.slice (some ⟨g, 0, none⟩) m cap) m (flat (L.take m)) := by
  obtain ⟨h1, h2⟩ := h
  have hl : L.length = n := by rw [flat_len] at h1; omega
  refine ⟨by rw [flat_len, List.length_take]; omega, ?_⟩
  rcases h2 with ⟨h2, _⟩ | ⟨g', cap', cur, h2, hb, hg, hc, hmx, hs, ht⟩
  · cases h2
  · cases h2
    refine .inr ⟨g, cap, cur, rfl, hb, hg, Nat.le_trans hm hc, hmx, hs, ?_⟩
    rw [← flat_take, ← ht, List.take_take]
    congr 1
    omega

theorem flat_setF (L : Lv) (i : Nat) (x : Nat) (h : i < L.length) : (flat L).set (i * 2 + 1) (.float .f64 x) = flat (L.set i (pOf L i, x)) := by
  induction L generalizing i with
  | nil => simp at h
  | cons z L ih =>
    cases i with
    | zero => rfl
    | succ i =>
      have := ih i (by simpa using h)
      have e : flat (z :: L) = .int .i64 z.1 :: .float .f64 z.2 :: flat L := rfl
      rw [e, show (i + 1) * 2 + 1 = (i * 2 + 1) + 1 + 1 by omega, List.set_cons_succ, List.set_cons_succ, this]
      rfl
theorem flat_setI (L : Lv) (i : Nat) (x : Int) (h : i < L.length) : (flat L).set (i * 2) (.int .i64 x) = flat (L.set i (x, tOf L i)) := by
  induction L generalizing i with
  | nil => simp at h
  | cons z L ih =>
    cases i with
    | zero => rfl
    | succ i =>
      have := ih i (by simpa using h)
      have e : flat (z :: L) = .int .i64 z.1 :: .float .f64 z.2 :: flat L := rfl
      rw [e, show (i + 1) * 2 = (i * 2) + 1 + 1 by omega, List.set_cons_succ, List.set_cons_succ, this]
      rfl
theorem lv_cells {w : World} {B g n cap : Nat} {L : Lv} (h : w.ownsRow B 32 2 (.slice (some ⟨g, 0, none⟩) n cap) n (flat L)) (i : Nat) (hi : i < n) :
    (w.cell? ⟨g, i * 2, none⟩ = some (.int .i64 (pOf L i)) ∧ w.cell? ⟨g, i * 2 + 1, none⟩ = some (.float .f64 (tOf L i))) ∧ w.frozen? ⟨g, i * 2, none⟩ = false ∧ w.frozen? ⟨g, i * 2 + 1, none⟩ = false := by
  have hn : L.length = n := by have := h.1; rw [flat_len] at this; omega
  obtain ⟨f1, f2⟩ := flat_at L i (by omega)
  have c : ∀ j, (⟨g, 0, none⟩ : Addr).add j = ⟨g, j, none⟩ := fun j => by unfold Addr.add; split <;> simp_all
  refine ⟨⟨?_, ?_⟩, h.frozenAt _, h.frozenAt _⟩
  · rw [← c]; exact h.cells (g := g) rfl _ _ f1
  · rw [← c]; exact h.cells (g := g) rfl _ _ f2
theorem putF {r : Nat} {w w4 : World} {g n cap : Nat} {L : Lv} (R : w4.ownsRow w.heap.size 32 2 (.slice (some ⟨g, 0, none⟩) n cap) n (flat L) ∧ Rd r w4 ∧ Turn r w w4) (hr : r < w.heap.size) (hn : L.length = n) (q : Nat) (hq : q < n) (x : Nat) :
    (w4.setCell ⟨g, q * 2 + 1, none⟩ (.float .f64 x)).ownsRow w.heap.size 32 2 (.slice (some ⟨g, 0, none⟩) n cap) n (flat (L.set q (pOf L q, x))) ∧ Rd r (w4.setCell ⟨g, q * 2 + 1, none⟩ (.float .f64 x)) ∧ Turn r w (w4.setCell ⟨g, q * 2 + 1, none⟩ (.float .f64 x)) := by
  obtain ⟨s1, s2⟩ := R.1.stored (q * 2 + 1) (.float .f64 x)
  have hg := (R.1.lt g rfl).1
  rw [flat_setF L q x (by omega)] at s1
  exact ⟨s1, R.2.1.grown s2 (fun k e => by cases e; omega), R.2.2.grown hr s2 (fun k e => by cases e; omega)⟩
theorem putI {r : Nat} {w w4 : World} {g n cap : Nat} {L : Lv} (R : w4.ownsRow w.heap.size 32 2 (.slice (some ⟨g, 0, none⟩) n cap) n (flat L) ∧ Rd r w4 ∧ Turn r w w4) (hr : r < w.heap.size) (hn : L.length = n) (q : Nat) (hq : q < n) (x : Int) :
    (w4.setCell ⟨g, q * 2, none⟩ (.int .i64 x)).ownsRow w.heap.size 32 2 (.slice (some ⟨g, 0, none⟩) n cap) n (flat (L.set q (x, tOf L q))) ∧ Rd r (w4.setCell ⟨g, q * 2, none⟩ (.int .i64 x)) ∧ Turn r w (w4.setCell ⟨g, q * 2, none⟩ (.int .i64 x)) := by
  obtain ⟨s1, s2⟩ := R.1.stored (q * 2) (.int .i64 x)
  have hg := (R.1.lt g rfl).1
  rw [flat_setI L q x (by omega)] at s1
  exact ⟨s1, R.2.1.grown s2 (fun k e => by cases e; omega), R.2.2.grown hr s2 (fun k e => by cases e; omega)⟩
abbrev four : Obj := .cells #[.float .f64 4641240890982006784, .float .f64 13864612927836782592, .float .f64 4641258483168051200, .float .f64 13864648112208871424] 25
abbrev five : Obj := .cells #[.int .i64 0, .int .i64 1, .int .i64 12000, .int .i64 12001, .int .i64 (-5)] 2
theorem oneOf4 (u : Int) (h0 : 0 ≤ u) (h1 : u < 4) : u = 0 ∨ u = 1 ∨ u = 2 ∨ u = 3 := by omega
theorem oneOf5 (u : Int) (h0 : 0 ≤ u) (h1 : u < 5) : u = 0 ∨ u = 1 ∨ u = 2 ∨ u = 3 ∨ u = 4 := by omega
set_option maxRecDepth 20000 in
set_option maxHeartbeats 2000000 in
theorem drawAny_any (r : Nat) (w : World) (h : Rd r w) :
    Calls Try.prog 12 #[.pointer (some ⟨r, 0, none⟩)] w fun e w' => ∃ v : Value, e = .returned v ∧ ∃ L : Lv, L.length ≤ 401 ∧ Rw r w v L w' := by
  have hr := h.lt
  obtain ⟨i0, hi, hz0, hz1, hz2⟩ := info_parts info32
  go_enter Try.func12, Try.ntmps12
  go_wp2_with fail
  refine (ascent_any r _ h).mono ?_
  rintro e w1 ⟨v, rfl, L, hl1, hl2, o1, k1, t1⟩
  have R1 : Hid (Rw r w v L w1) := ⟨o1, k1, t1⟩
  obtain ⟨g, cap, rfl, hc1, hc2⟩ : ∃ g cap, v = .slice (some ⟨g, 0, none⟩) L.length cap ∧ L.length ≤ cap ∧ cap ≤ maxLen := (by
    rcases row_cases o1 with ⟨q, _⟩ | ⟨g, cap, q, _, _, x, y⟩
    · omega
    · exact ⟨g, cap, q, x, y⟩)
  clear o1 k1 t1
  go_wp2_with fail
  refine (once_any r _ R1.out.2.1 7 (by omega) (by omega)).mono ?_
  rintro e w2 ⟨⟨b, rfl⟩, k2, t2⟩
  obtain ⟨n, hn⟩ : ∃ n, L.length = n := ⟨_, rfl⟩
  have R2 : Hid (w2.ownsRow w.heap.size 32 2 (.slice (some ⟨g, 0, none⟩) n cap) n (flat L) ∧ Rd r w2 ∧ Turn r w w2) := ⟨by rw [← hn]; exact row_turn R1.out.1 hr t2, k2, R1.out.2.2.trans t2⟩
  have HN : Hid (L.length = n) := hn
  rw [hn] at hl1 hl2 hc1 ⊢
  unfold maxLen at hc2
  clear k2 t2 R1 hn
  go_upto_if 10 with fail
  go_cut [3] (fun o wx => ∃ (m g c : Nat) (M : Lv), o = .slice (some ⟨g, 0, none⟩) m c ∧ M.length = m ∧ m ≤ 41 ∧ Hid (wx.ownsRow w.heap.size 32 2 o m (flat M)) ∧ Hid (Rd r wx) ∧ Hid (Turn r w wx))
  case first =>
    cases b
    · go_wp2_with fail
      go_meet
      exact ⟨n, g, cap, L, rfl, HN.out, hl2, R2.out.1, R2.out.2.1, R2.out.2.2⟩
    · go_wp2_with fail
      refine (below_any r _ R2.out.2.1 n (by omega) (by omega)).mono ?_
      rintro e w3 ⟨⟨q0, ⟨hq1, hq2⟩, rfl⟩, k3, t3⟩
      obtain ⟨q, rfl⟩ : ∃ q : Nat, q0 = q := ⟨q0.toNat, by omega⟩
      have R3 : Hid (w3.ownsRow w.heap.size 32 2 (.slice (some ⟨g, 0, none⟩) n cap) n (flat L) ∧ Rd r w3 ∧ Turn r w w3) := ⟨row_turn R2.out.1 hr t3, k3, R2.out.2.2.trans t3⟩
      clear k3 t3 R2
      go_wp2_with fail
      refine (below_any r _ R3.out.2.1 6 (by omega) (by omega)).mono ?_
      rintro e w4 ⟨⟨u, ⟨hu1, hu2⟩, rfl⟩, k4, t4⟩
      have R4 : Hid (w4.ownsRow w.heap.size 32 2 (.slice (some ⟨g, 0, none⟩) n cap) n (flat L) ∧ Rd r w4 ∧ Turn r w w4) := ⟨row_turn R3.out.1 hr t4, k4, R3.out.2.2.trans t4⟩
      clear k4 t4 R3
      rcases oneOf u hu1 hu2 with rfl | rfl | rfl | rfl | rfl | rfl
      · go_wp2_with fail
        refine (none_any _).mono ?_
        rintro e w5 ⟨x, rfl, _, _, hw5⟩
        subst hw5
        have p1 := (lv_cells R4.out.1 q (by omega)).1
        have p2 := (lv_cells R4.out.1 q (by omega)).2
        have q2 : (q : Int) < (n : Int) := hq2
        go_wp2_with fail
        go_meet
        exact ⟨n, g, cap, _, rfl, by rw [List.length_set]; exact HN.out, hl2, (putF R4.out hr HN.out q (by omega) _).1, (putF R4.out hr HN.out q (by omega) _).2.1.drewN 1, (putF R4.out hr HN.out q (by omega) _).2.2.drewN 1⟩
      · go_wp2_with fail
        have s1 := R4.out.2.2.size
        have kA : Rd r (w4.alloc four) := R4.out.2.1.kept ((Below.refl w4.heap.size w4).alloc (Nat.le_refl _) four) (by omega)
        refine (below_any r _ kA 4 (by omega) (by omega)).mono ?_
        rintro e w5 ⟨⟨v, ⟨hv1, hv2⟩, rfl⟩, k5, t5⟩
        have c0 : w5.cell? ⟨w4.heap.size, 0, none⟩ = some (.float .f64 4641240890982006784) := (t5.cell 0 (by simp) (by omega)).trans (by simp [go_sem])
        have c1 : w5.cell? ⟨w4.heap.size, 1, none⟩ = some (.float .f64 13864612927836782592) := (t5.cell 1 (by simp) (by omega)).trans (by simp [go_sem])
        have c2 : w5.cell? ⟨w4.heap.size, 2, none⟩ = some (.float .f64 4641258483168051200) := (t5.cell 2 (by simp) (by omega)).trans (by simp [go_sem])
        have c3 : w5.cell? ⟨w4.heap.size, 3, none⟩ = some (.float .f64 13864648112208871424) := (t5.cell 3 (by simp) (by omega)).trans (by simp [go_sem])
        have R5 : Hid (w5.ownsRow w.heap.size 32 2 (.slice (some ⟨g, 0, none⟩) n cap) n (flat L) ∧ Rd r w5 ∧ Turn r w w5) := ⟨row_turn (R4.out.1.alloc _) hr t5, k5, (R4.out.2.2.alloc hr four).trans t5⟩
        clear kA k5 t5 R4
        have p1 := (lv_cells R5.out.1 q (by omega)).1
        have p2 := (lv_cells R5.out.1 q (by omega)).2
        have q2 : (q : Int) < (n : Int) := hq2
        rcases oneOf4 v hv1 hv2 with rfl | rfl | rfl | rfl
        all_goals
          go_wp2_with fail
          go_meet
          exact ⟨n, g, cap, _, rfl, by rw [List.length_set]; exact HN.out, hl2, (putF R5.out hr HN.out q (by omega) _).1, (putF R5.out hr HN.out q (by omega) _).2.1, (putF R5.out hr HN.out q (by omega) _).2.2⟩
      · go_wp2_with fail
        have s1 := R4.out.2.2.size
        have kA : Rd r (w4.alloc five) := R4.out.2.1.kept ((Below.refl w4.heap.size w4).alloc (Nat.le_refl _) five) (by omega)
        refine (below_any r _ kA 5 (by omega) (by omega)).mono ?_
        rintro e w5 ⟨⟨v, ⟨hv1, hv2⟩, rfl⟩, k5, t5⟩
        have c0 : w5.cell? ⟨w4.heap.size, 0, none⟩ = some (.int .i64 0) := (t5.cell 0 (by simp) (by omega)).trans (by simp [go_sem])
        have c1 : w5.cell? ⟨w4.heap.size, 1, none⟩ = some (.int .i64 1) := (t5.cell 1 (by simp) (by omega)).trans (by simp [go_sem])
        have c2 : w5.cell? ⟨w4.heap.size, 2, none⟩ = some (.int .i64 12000) := (t5.cell 2 (by simp) (by omega)).trans (by simp [go_sem])
        have c3 : w5.cell? ⟨w4.heap.size, 3, none⟩ = some (.int .i64 12001) := (t5.cell 3 (by simp) (by omega)).trans (by simp [go_sem])
        have c4 : w5.cell? ⟨w4.heap.size, 4, none⟩ = some (.int .i64 (-5)) := (t5.cell 4 (by simp) (by omega)).trans (by simp [go_sem])
        have R5 : Hid (w5.ownsRow w.heap.size 32 2 (.slice (some ⟨g, 0, none⟩) n cap) n (flat L) ∧ Rd r w5 ∧ Turn r w w5) := ⟨row_turn (R4.out.1.alloc _) hr t5, k5, (R4.out.2.2.alloc hr five).trans t5⟩
        clear kA k5 t5 R4
        have p1 := (lv_cells R5.out.1 q (by omega)).1
        have p2 := (lv_cells R5.out.1 q (by omega)).2
        have q2 : (q : Int) < (n : Int) := hq2
        rcases oneOf5 v hv1 hv2 with rfl | rfl | rfl | rfl | rfl
        all_goals
          go_wp2_with fail
          go_meet
          exact ⟨n, g, cap, _, rfl, by rw [List.length_set]; exact HN.out, hl2, (putI R5.out hr HN.out q (by omega) _).1, (putI R5.out hr HN.out q (by omega) _).2.1, (putI R5.out hr HN.out q (by omega) _).2.2⟩
      · go_wp2_with fail
        go_meet
        exact ⟨1, g, cap, L.take 1, rfl, by rw [List.length_take, HN.out]; omega, by omega, row_cut R4.out.1 1 (by omega), R4.out.2.1, R4.out.2.2⟩
      · go_wp2_with fail
        go_meet
        exact ⟨0, g, cap, L.take 0, rfl, rfl, by omega, row_cut R4.out.1 0 (by omega), R4.out.2.1, R4.out.2.2⟩
      · obtain ⟨m1, hm1⟩ : ∃ m1 : Nat, (n : Int) - 1 = (m1 : Int) := ⟨n - 1, by omega⟩
        have p1 := (lv_cells R4.out.1 0 (by omega)).1
        have p3 := (lv_cells R4.out.1 m1 (by omega)).1
        have p4 := (lv_cells R4.out.1 m1 (by omega)).2
        have q3 : (m1 : Int) < (n : Int) := by omega
        have q4 : (0 : Int) < (n : Int) := by omega
        simp only [Nat.zero_mul] at p1
        go_wp2_with fail
        go_meet
        exact ⟨n, g, cap, _, rfl, by rw [List.length_set]; exact HN.out, hl2, (putI R4.out hr HN.out m1 (by omega) _).1, (putI R4.out hr HN.out m1 (by omega) _).2.1, (putI R4.out hr HN.out m1 (by omega) _).2.2⟩
  case rest =>
    obtain ⟨m, g2, c2, M, rfl, hM, hm, O, K, T⟩ := hcut
    have HM : Hid (M.length = m) := hM
    clear hM R2
    go_wp2_with fail
    refine (once_any r _ K.out 50 (by omega) (by omega)).mono ?_
    rintro e w4 ⟨⟨b4, rfl⟩, k4, t4⟩
    have O4 : Hid (w4.ownsRow w.heap.size 32 2 (.slice (some ⟨g2, 0, none⟩) m c2) m (flat M)) := row_turn O.out hr t4
    have T4 : Hid (Turn r w w4) := T.out.trans t4
    have K4 : Hid (Rd r w4) := k4
    clear k4 t4 O K T
    cases b4
    · go_wp2_with fail
      go_ret
      exact ⟨_, rfl, M, by rw [HM.out]; omega, by rw [HM.out]; exact O4.out, K4.out, T4.out⟩
    · have z0 : (0 : Int) ≤ (c2 : Int) := by omega
      have O5 : Hid (w4.ownsRow w.heap.size 32 2 (.slice (some ⟨g2, 0, none⟩) 0 c2) 0 (flat (M.take 0))) := row_cut O4.out 0 (Nat.zero_le _)
      clear O4
      go_wp2_with fail
      refine (below_any r _ K4.out 2 (by omega) (by omega)).mono ?_
      rintro e w5 ⟨⟨u, ⟨hu1, hu2⟩, rfl⟩, k5, t5⟩
      obtain ⟨N, hN⟩ : ∃ N : Nat, 400 + u = (N : Int) := ⟨(400 + u).toNat, by omega⟩
      have N1 : N ≤ 401 := by omega
      have O6 : Hid (w5.ownsRow w.heap.size 32 2 (.slice (some ⟨g2, 0, none⟩) 0 c2) 0 (flat [])) := row_turn O5.out hr t5
      have T6 : Hid (Turn r w w5) := T4.out.trans t5
      have K6 : Hid (Rd r w5) := k5
      clear k5 t5 O5 K4 T4
      go_wp2_with fail
      go_loopw [3, 6] (fun o i wr => ∃ (k : Nat) (M : Lv), k ≤ N ∧ M.length = k ∧ i = .int .i64 k ∧ Hid (wr.ownsRow w.heap.size 32 2 o k (flat M)) ∧ Hid (Rd r wr) ∧ Hid (Turn r w wr)) (fun _ i _ => N - (intOf i).toNat)
      case atStart => exact ⟨0, [], Nat.zero_le _, rfl, rfl, O6, K6, T6⟩
      case round =>
        obtain ⟨k, M2, hk, hM2, rfl, O, K, T⟩ := hrel
        have HM2 : Hid (M2.length = k) := hM2
        clear hM2 O6 K6 T6
        by_cases hlt : k < N
        · have a1 : (k : Int) < (N : Int) := by omega
          go_wp2_with (at_builtin; refine wpList_append_own _ rfl _ _ 24 rfl w.heap.size 32 i0 (.agg #[.int .i64 0, .float .f64 0]) 2 16 Try.underlying24 hi hz0 hz1 hz2 rfl (by decide) _ _ _ rfl (O.out.alloc _) ⟨wr.heap.size, 0, none⟩ 1 1 [.int .i64 (10000 - (k : Int)), .float .f64 (floatOfInt .f64 ((k : Int) % 7))] rfl rfl (two_cells _ _ _ _) (two_one _ _) (by unfold maxLen; omega) (by omega) (by have := T.out.size; simp; omega) ?_)
          intro v7 w7 hown hgrow _
          have O7 : Hid (w7.ownsRow w.heap.size 32 2 v7 (k + 1) (flat (M2 ++ [(10000 - (k : Int), floatOfInt .f64 ((k : Int) % 7))]))) := (by show w7.ownsRow _ _ _ _ _ _; rw [flat_app]; exact hown)
          have T7 : Hid (Turn r w w7) := (T.out.alloc hr _).grown hr hgrow (fun g e => (O.out.lt g e).1)
          have K7 : Hid (Rd r w7) := (K.out.kept ((Below.refl wr.heap.size wr).alloc (Nat.le_refl _) _) K.out.lt).grown hgrow (fun g e => Nat.lt_of_lt_of_le hr (O.out.lt g e).1)
          clear hown hgrow O K T
          go_wp2_with fail
          go_roundw
          case rel => exact ⟨k + 1, M2 ++ [(10000 - (k : Int), floatOfInt .f64 ((k : Int) % 7))], by omega, by rw [List.length_append, HM2.out]; rfl, by go_num, O7, K7, T7⟩
          case measure => simp [intOf]; omega
        · have a1 : ¬ ((k : Int) < (N : Int)) := by omega
          go_wp2_with fail
          go_ret
          exact ⟨_, rfl, M2, by rw [HM2.out]; omega, by rw [HM2.out]; exact O.out, K.out, T.out⟩
end Go.Proofs.Ytjnjpbbpphklhaa.Rd
