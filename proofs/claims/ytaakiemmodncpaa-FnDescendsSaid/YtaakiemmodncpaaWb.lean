/- A problem drawn of a code. -/
import Derived.Test.YtaakiemmodncpaaWa
namespace Go.Proofs.Ytaakiemmodncpaa.Wa
open Go.ChangeShapes Go.WideShapes Go.ChangeAt Go.RowKit
open Go.Proofs.Ytaakiemmodncpaa.Lists Go.Proofs.Ytaakiemmodncpaa.Mk Go.Proofs.Ytaakiemmodncpaa.Rd Go.Proofs.Ytaakiemmodncpaa.Cf

theorem infoM : (Try.prog.info? 51).map (fun i => (i.zero, i.size, i.bytes)) = some (some (.agg #[.slice none 0 0, .int .i64 0, .int .i64 0]), 3, 40) := by kernel_rfl
theorem cell_three (w : World) (v0 v1 v2 : Value) (t : TypeId) : ∀ j u, [v0, v1, v2][j]? = some u → (w.alloc (Obj.cells #[v0, v1, v2] t)).cell? ((⟨w.heap.size, 0, none⟩ : Addr).add j) = some u := by
  intro j u hj
  match j, hj with
  | 0, hj => simp at hj; subst hj; simp [Addr.add]
  | 1, hj => simp at hj; subst hj; simp [Addr.add]
  | 2, hj => simp at hj; subst hj; simp [Addr.add]
theorem row_someK {w : World} {base n : Nat} {e : TypeId} {k : Nat} {v : Value} {xs : List Value} (h : w.ownsRow base e k v n xs) (hn : v ≠ .slice none 0 0) : ∃ g cap, v = .slice (some ⟨g, 0, none⟩) n cap ∧ base ≤ g ∧ g < w.heap.size ∧ n ≤ cap ∧ cap ≤ maxLen := by
  rcases Mo.row_cases h with ⟨_, h2⟩ | h
  · exact absurd h2 hn
  · exact h
/-- what a drawn problem is -/
structure DP (r : Nat) (w : World) (n : Int) (g t rv : Value) (ng nr : Nat) (us : Nat → Value) (ls : Nat → Nat) (w' : World) : Prop where
  rd : Rd r w'
  tu : Turn r w w'
  hn : n = (ng : Int)
  n1 : 1 ≤ ng
  n4 : ng ≤ 4
  r1 : 1 ≤ nr
  r8 : nr ≤ 8
  l1 : ∀ i, i < nr → ls i = ng
  ag : AI w' w.heap.size g ng
  at' : AI w' w.heap.size t ng
  rm : RI w' w.heap.size rv nr us ls
theorem RI.down {w : World} {B B' n : Nat} {v : Value} {us : Nat → Value} {ls : Nat → Nat} (h : RI w B v n us ls) (hb : B' ≤ B) : RI w B' v n us ls := by
  obtain ⟨⟨xs, h1, h2⟩, h3⟩ := h
  refine ⟨⟨xs, ⟨h1.1, ?_⟩, h2⟩, fun i hi => (h3 i hi).down hb⟩
  rcases h1.2 with h | ⟨gx, cap, cur, x1, x2, x3⟩
  · exact .inl h
  · exact .inr ⟨gx, cap, cur, x1, by omega, x3⟩
theorem put4_kv (w : World) (b : Nat) (a c d e : Value) : KV (fun k => k = b) w ((((w.setCell ⟨b, 0, none⟩ a).setCell ⟨b, 1, none⟩ c).setCell ⟨b, 2, none⟩ d).setCell ⟨b, 3, none⟩ e) := (((kv_set w b 0 a).trans (kv_set _ b 1 c)).trans (kv_set _ b 2 d)).trans (kv_set _ b 3 e)

set_option maxRecDepth 20000 in
set_option maxHeartbeats 4000000 in
theorem problem_any (r : Nat) (w : World) (h : Rd r w) :
    Calls Try.prog 58 #[.pointer (some ⟨r, 0, none⟩)] w fun e w' => ∃ n g t rv, e = .returned (Pb.pv n g t rv) ∧ ∃ ng nr us ls, DP r w n g t rv ng nr us ls w' := by
  have hr := h.lt
  obtain ⟨i0, hi, hz0, hz1, hz2⟩ := info_parts Lists.Try.info2
  obtain ⟨t0, ht, tz0, tz1, tz2⟩ := info_parts infoM
  obtain ⟨w0, hw0⟩ : ∃ w0, w0 = w.alloc (.cells #[.int .i64 0, .slice none 0 0, .slice none 0 0, .slice none 0 0] 32) := ⟨_, rfl⟩
  have HW0 : Hid (w0 = w.alloc (.cells #[.int .i64 0, .slice none 0 0, .slice none 0 0, .slice none 0 0] 32)) := hw0
  have R0 : Hid (Bl w0 w.heap.size 32 #[.int .i64 0, nilL, nilL, nilL]) := (by show Bl _ _ _ _; rw [hw0]; exact Bl.new w 32 _)
  have B0 : Below w.heap.size w w0 := by rw [hw0]; exact (Below.refl _ _).alloc (Nat.le_refl _) _
  have K0 : Hid (Rd r w0 ∧ Turn r w w0 ∧ w0.heap.size = w.heap.size + 1) := ⟨h.kept B0 hr, Turn.of B0 (Nat.le_refl _) (Nat.le_of_lt hr), by rw [hw0]; simp⟩
  clear hw0 B0
  go_enter Try.func58, Try.ntmps58
  go_upto_region 1 with fail
  rw [← HW0.out]
  clear HW0 h
  go_wp2_with fail
  refine (below_all r w0 K0.out.1 4 (by omega) (by omega)).mono ?_
  rintro e w1 ⟨⟨u, ⟨hu1, hu2⟩, rfl⟩, k1, t1⟩
  obtain ⟨n, hn⟩ : ∃ n : Nat, 1 + u = (n : Int) := ⟨(1 + u).toNat, by omega⟩
  have hn1 : 1 ≤ n := by omega
  have hn4 : n ≤ 4 := by omega
  obtain ⟨pb, hpb⟩ : ∃ y, y = w1.heap.size := ⟨_, rfl⟩
  have HPB : Hid (pb = w1.heap.size) := hpb
  obtain ⟨w2, hw2⟩ : ∃ y, y = w1.alloc (.cells #[.int .i64 (n : Int), .slice none 0 0, .slice none 0 0, .slice none 0 0] 32) := ⟨_, rfl⟩
  have HW2 : Hid (w2 = w1.alloc (.cells #[.int .i64 (n : Int), .slice none 0 0, .slice none 0 0, .slice none 0 0] 32)) := hw2
  have b2 : Below w1.heap.size w1 w2 := by rw [hw2]; exact (Below.refl _ _).alloc (Nat.le_refl _) _
  have S2 : Hid (PB r w pb n nilL nilL nilL 0 0 0 (fun _ => nilL) (fun _ => 0) w2) := (by
    have z1 := t1.size
    have z0 := K0.out.2.2
    refine ⟨k1.kept b2 k1.lt, (K0.out.2.1.trans t1).trans (Turn.of b2 (Nat.le_refl _) (Nat.le_of_lt k1.lt)), by omega, (R0.out.kv (turn_kv t1) (by omega)).on b2, ?_, AI.nil _ _, AI.nil _ _, fun b hb => (by cases hb), RI.nil _ _ _ _⟩
    rw [hw2, hpb]
    exact Bl.new w1 32 _)
  clear hw2 hpb k1 t1 b2 K0 R0
  go_upto_region 2 with fail
  rw [← HW2.out, ← HPB.out]
  clear HW2 HPB hn hu1 hu2
  go_wp2_with fail
  go_loopw [4] (fun c wr => ∃ (k : Nat) (g t : Value), k ≤ n ∧ c = .int .i64 k ∧ Hid (PB r w pb n g t nilL k k 0 (fun _ => nilL) (fun _ => 0) wr)) (fun c _ => n - (intOf c).toNat)
  case atStart => exact ⟨0, nilL, nilL, Nat.zero_le _, rfl, S2⟩
  case round =>
    clear S2
    obtain ⟨k, g, t, hk, rfl, S⟩ := hrel
    obtain ⟨ga, gc, hg⟩ := AI.form S.out.ag
    obtain ⟨ta, tc, ht'⟩ := AI.form S.out.at'
    subst hg ht'
    have g0 : wr.cell? ⟨pb, 0, none⟩ = some (.int .i64 (n : Int)) := by rw [S.out.bx.cell]; rfl
    have g1 : wr.cell? ⟨pb, 1, none⟩ = some (.slice ga k gc) := by rw [S.out.bx.cell]; rfl
    by_cases hlt : k < n
    · have i2 : (k : Int) < (n : Int) := by omega
      obtain ⟨LG, lg, og⟩ := S.out.ag
      have LGH : Hid (LG.length = k) := lg
      clear og lg
      go_upto_region 5 with fail
      go_cut [] (fun wx => ∃ g' : Value, Hid (PB r w pb n g' (.slice ta k tc) nilL (k + 1) k 0 (fun _ => nilL) (fun _ => 0) wx))
      case first =>
        go_region_law (first | (refine step_append_lies _ (by rfl) _ _ 22 (by rfl) (pb + 1) 2 i0 (.int .i64 0) 1 8 Try.underlying22 hi hz0 hz1 hz2 rfl (by decide) _ _ _ (by rfl) (OG.out.alloc _) ⟨w4.heap.size, 0, none⟩ 1 1 [.int .i64 (u - 100)] (by rfl) rfl (cell_new w4 (.int .i64 (u - 100)) 2) (one_int _) (by decide) (by unfold maxLen; omega) (by omega) (by simp; omega) (w4.heap.size + 1) (by simp) ?_; intro g5 c5 w5 hown hgrow hat hlt5; obtain ⟨⟨d1, d2⟩, T5'⟩ := PB.appG (L := LX) (b' := g5) T1.out hr LXH.out hgrow hown rfl hat; have T5 : Hid (PB r w pb n (.slice (some ⟨g5, 0, none⟩) (k + 1) c5) (.slice ta k tc) nilL (k + 1) k 0 (fun _ => nilL) (fun _ => 0) (w5.setCell ⟨pb, 1, none⟩ (.slice (some ⟨g5, 0, none⟩) (k + 1) c5))) := T5') | (go_simp; go_at_call 41; refine (below_any r _ (S.out.drew hr).rd 200 (by omega) (by omega)).mono ?_; rintro e w4 ⟨⟨u, ⟨hu1, hu2⟩, rfl⟩, k6, t4⟩; have T1 : Hid (PB r w pb n (.slice ga k gc) (.slice ta k tc) nilL k k 0 (fun _ => nilL) (fun _ => 0) w4) := (S.out.drew hr).turn hr k6 t4; obtain ⟨LX, lx, ox⟩ := T1.out.ag; have LXH : Hid (LX.length = k) := lx; have OG : Hid (w4.ownsRow (pb + 1) 2 1 (.slice ga k gc) k (ints LX)) := ox; have o1 : w4.cell? ⟨pb, 1, none⟩ = some (.slice ga k gc) := (by rw [T1.out.bx.cell]; rfl); have o5 := T1.out.bx.lt; have wu : IntKind.i64.wrap (u - 100) = u - 100 := IntWalk.i64_in _ (by omega); clear lx ox))
        all_goals
          clear hown hgrow hat hlt5
          go_wp2_with fail
          go_meet
          exact ⟨_, T5⟩
      case rest =>
        obtain ⟨g', T⟩ := hcut
        clear S g0 g1
        obtain ⟨ga', gc', hg'⟩ := AI.form T.out.ag
        subst hg'
        have g2 : wc.cell? ⟨pb, 2, none⟩ = some (.slice ta k tc) := by rw [T.out.bx.cell]; rfl
        go_upto_region 6 with fail
        go_region_law (first | (refine step_append_lies _ (by rfl) _ _ 22 (by rfl) (pb + 1) 2 i0 (.int .i64 0) 1 8 Try.underlying22 hi hz0 hz1 hz2 rfl (by decide) _ _ _ (by rfl) (OG.out.alloc _) ⟨w4.heap.size, 0, none⟩ 1 1 [.int .i64 (1 + u)] (by rfl) rfl (cell_new w4 (.int .i64 (1 + u)) 2) (one_int _) (by decide) (by unfold maxLen; omega) (by omega) (by simp; omega) (w4.heap.size + 1) (by simp) ?_; intro g5 c5 w5 hown hgrow hat hlt5; obtain ⟨⟨d1, d2⟩, T5'⟩ := PB.appT (L := LX) (b' := g5) T1.out hr LXH.out hgrow hown rfl hat; have T5 : Hid (PB r w pb n (.slice ga' (k + 1) gc') (.slice (some ⟨g5, 0, none⟩) (k + 1) c5) nilL (k + 1) (k + 1) 0 (fun _ => nilL) (fun _ => 0) (w5.setCell ⟨pb, 2, none⟩ (.slice (some ⟨g5, 0, none⟩) (k + 1) c5))) := T5') | (go_simp; go_at_call 41; refine (below_any r _ (T.out.drew hr).rd 4 (by omega) (by omega)).mono ?_; rintro e w4 ⟨⟨u, ⟨hu1, hu2⟩, rfl⟩, k6, t4⟩; have T1 : Hid (PB r w pb n (.slice ga' (k + 1) gc') (.slice ta k tc) nilL (k + 1) k 0 (fun _ => nilL) (fun _ => 0) w4) := (T.out.drew hr).turn hr k6 t4; obtain ⟨LX, lx, ox⟩ := T1.out.at'; have LXH : Hid (LX.length = k) := lx; have OG : Hid (w4.ownsRow (pb + 1) 2 1 (.slice ta k tc) k (ints LX)) := ox; have o1 : w4.cell? ⟨pb, 2, none⟩ = some (.slice ta k tc) := (by rw [T1.out.bx.cell]; rfl); have o5 := T1.out.bx.lt; have wu : IntKind.i64.wrap (1 + u) = 1 + u := IntWalk.i64_in _ (by omega); clear lx ox))
        all_goals
          clear hown hgrow hat hlt5
          go_wp2_with fail
          go_roundw
          case rel => exact ⟨k + 1, _, _, by omega, by go_num, T5⟩
          case measure => simp [intOf]; omega
    · have hkn : k = n := by omega
      subst hkn
      have i2 : ¬ (k : Int) < (k : Int) := by omega
      go_wp2_with fail
      refine (size_any r wr S.out.rd 8 8 (by omega) (by omega)).mono ?_
      rintro e w2 ⟨⟨um, ⟨hu1, hu2⟩, rfl⟩, k2, t2⟩
      obtain ⟨m, hm⟩ : ∃ m : Nat, um = (m : Int) := ⟨um.toNat, by omega⟩
      subst hm
      have hm1 : 1 ≤ m := by omega
      have hm8 : m ≤ 8 := by omega
      have S2 : Hid (PB r w pb k (.slice ga k gc) (.slice ta k tc) nilL k k 0 (fun _ => nilL) (fun _ => 0) w2) := S.out.turn hr k2 t2
      clear k2 t2 S hu1 hu2 g0 g1 i2 hlt hk
      go_wp2_with fail
      go_loopw [6] (fun c wr => ∃ (q : Nat) (rv : Value) (us : Nat → Value) (ls : Nat → Nat), q ≤ m ∧ c = .int .i64 q ∧ Hid (∀ i, i < q → ls i = k) ∧ Hid (PB r w pb k (.slice ga k gc) (.slice ta k tc) rv k k q us ls wr)) (fun c _ => m - (intOf c).toNat)
      case atStart => exact ⟨0, nilL, _, _, Nat.zero_le _, rfl, fun i hi => by omega, S2⟩
      case round =>
        clear S2
        obtain ⟨wo, hwo⟩ : ∃ x : World, x = wr := ⟨_, rfl⟩
        subst hwo
        obtain ⟨q, rv, us, ls, hq, rfl, HLS, S⟩ := hrel
        by_cases hlt : q < m
        · have i2 : (q : Int) < (m : Int) := by omega
          have hro : r < wo.heap.size := S.out.rd.lt
          go_wp2_with fail
          refine (below_all r wo S.out.rd 400 (by omega) (by omega)).mono ?_
          rintro e w3 ⟨⟨ug, ⟨hg1, hg2⟩, rfl⟩, k3, t3⟩
          have wg : IntKind.i64.wrap (ug - 200) = ug - 200 := IntWalk.i64_in _ (by omega)
          go_wp2_with fail
          refine (below_all r w3 k3 5 (by omega) (by omega)).mono ?_
          rintro e w4 ⟨⟨um, ⟨hm4, hm5⟩, rfl⟩, k4, t4⟩
          obtain ⟨tb, htb⟩ : ∃ y, y = w4.heap.size := ⟨_, rfl⟩
          have HTB : Hid (tb = w4.heap.size) := htb
          obtain ⟨w5, hw5⟩ : ∃ y, y = w4.alloc (.cells #[.slice none 0 0, .int .i64 (ug - 200), .int .i64 (1 + um)] 51) := ⟨_, rfl⟩
          have HW5 : Hid (w5 = w4.alloc (.cells #[.slice none 0 0, .int .i64 (ug - 200), .int .i64 (1 + um)] 51)) := hw5
          have T5 : Hid (TB r wo tb nilL (ug - 200) (1 + um) 0 w5) := (by
            have b5 : Below w4.heap.size w4 w5 := by rw [hw5]; exact (Below.refl _ _).alloc (Nat.le_refl _) _
            refine ⟨k4.kept b5 k4.lt, (t3.trans t4).trans (Turn.of b5 (Nat.le_refl _) (Nat.le_of_lt k4.lt)), by have := (t3.trans t4).size; omega, ?_, AI.nil _ _⟩
            rw [hw5, htb]
            exact Bl.new w4 51 _)
          clear hw5 htb k3 t3 k4 t4
          go_upto_region 12 with fail
          rw [← HW5.out, ← HTB.out]
          clear HW5 HTB hg1 hg2 hm4 hm5 wg
          generalize ug - 200 = y at *
          generalize 1 + um = z at *
          go_wp2_with fail
          go_loopw [8] (fun c wr => ∃ (j : Nat) (u : Value), j ≤ k ∧ c = .int .i64 j ∧ Hid (TB r wo tb u y z j wr)) (fun c _ => k - (intOf c).toNat)
          case atStart => exact ⟨0, nilL, Nat.zero_le _, rfl, T5⟩
          case round =>
            clear T5
            obtain ⟨j, u, hj, rfl, T⟩ := hrel
            have SX : Hid (PB r w pb k (.slice ga k gc) (.slice ta k tc) rv k k q us ls wr) := S.out.turn hr T.out.rd T.out.tu
            have g0 : wr.cell? ⟨pb, 0, none⟩ = some (.int .i64 (k : Int)) := by rw [SX.out.bx.cell]; rfl
            obtain ⟨ua, uc, hv⟩ := AI.form T.out.row
            subst hv
            by_cases hjk : j < k
            · have i3 : (j : Int) < (k : Int) := by omega
              have g7 : wr.cell? ⟨tb, 0, none⟩ = some (.slice ua j uc) := by rw [T.out.bx.cell]; rfl
              clear SX
              go_upto_region 15 with fail
              go_region_law (first | (refine step_append_lies _ (by rfl) _ _ 22 (by rfl) (tb + 1) 2 i0 (.int .i64 0) 1 8 Try.underlying22 hi hz0 hz1 hz2 rfl (by decide) _ _ _ (by rfl) (OG.out.alloc _) ⟨w4.heap.size, 0, none⟩ 1 1 [.int .i64 (x - 3)] (by rfl) rfl (cell_new w4 (.int .i64 (x - 3)) 2) (one_int _) (by decide) (by unfold maxLen; omega) (by omega) (by simp; omega) (w4.heap.size + 1) (by simp) ?_; intro g5 c5 w5 hown hgrow hat hlt5; obtain ⟨⟨d1, d2⟩, T5'⟩ := TB.app (L := LX) T1.out hro LXH.out hgrow hown; have T5 : Hid (TB r wo tb (.slice (some ⟨g5, 0, none⟩) (j + 1) c5) y z (j + 1) (w5.setCell ⟨tb, 0, none⟩ (.slice (some ⟨g5, 0, none⟩) (j + 1) c5))) := T5') | (go_simp; go_at_call 41; refine (below_any r _ (T.out.drew hro).rd 7 (by omega) (by omega)).mono ?_; rintro e w4 ⟨⟨x, ⟨hu1, hu2⟩, rfl⟩, k6, t4⟩; have T1 : Hid (TB r wo tb (.slice ua j uc) y z j w4) := (T.out.drew hro).turn hro k6 t4; obtain ⟨LX, lx, ox⟩ := T1.out.row; have LXH : Hid (LX.length = j) := lx; have OG : Hid (w4.ownsRow (tb + 1) 2 1 (.slice ua j uc) j (ints LX)) := ox; have o1 : w4.cell? ⟨tb, 0, none⟩ = some (.slice ua j uc) := (by rw [T1.out.bx.cell]; rfl); have o5 := T1.out.bx.lt; have wu : IntKind.i64.wrap (x - 3) = x - 3 := IntWalk.i64_in _ (by omega); clear lx ox))
              all_goals
                clear hown hgrow hat hlt5
                go_wp2_with fail
                go_roundw
                case rel => exact ⟨j + 1, _, by omega, by go_num, T5⟩
                case measure => simp [intOf]; omega
            · have hjk' : j = k := by omega
              subst hjk'
              have i3 : ¬ (j : Int) < (j : Int) := by omega
              have LO : Hid (pb + 1 ≤ tb) := (by have := S.out.bx.lt; have := T.out.lo; show _ ≤ _; omega)
              obtain ⟨xs, hx, hgd⟩ := SX.out.rm.1
              obtain ⟨sa, sc, hv⟩ := row_form hx
              subst hv
              have HX : Hid (wr.ownsRow (pb + 1) 51 3 (.slice sa q sc) q xs) := hx
              have HG : Hid (∀ i, i < q → xs[i * 3]? = some (us i) ∧ (∃ z : Int, xs[i * 3 + 1]? = some (.int .i64 z)) ∧ ∃ z : Int, xs[i * 3 + 2]? = some (.int .i64 z)) := hgd
              have HU : Hid (AI wr (pb + 1) (.slice ua j uc) j) := T.out.row.down (by have := LO.out; omega)
              have y0 : wr.cell? ⟨tb, 0, none⟩ = some (.slice ua j uc) := by rw [T.out.bx.cell]; rfl
              have y1 : wr.cell? ⟨tb, 1, none⟩ = some (.int .i64 y) := by rw [T.out.bx.cell]; rfl
              have y2 : wr.cell? ⟨tb, 2, none⟩ = some (.int .i64 z) := by rw [T.out.bx.cell]; rfl
              have s0 : wr.cell? ⟨pb, 3, none⟩ = some (.slice sa q sc) := by rw [SX.out.bx.cell]; rfl
              obtain ⟨wD, hwD⟩ : ∃ y', y' = wr.alloc (Obj.cells #[.slice ua j uc, .int .i64 y, .int .i64 z] 51) := ⟨_, rfl⟩
              have HWD : Hid (wD = wr.alloc (Obj.cells #[.slice ua j uc, .int .i64 y, .int .i64 z] 51)) := hwD
              have ND : Hid (∀ p x, [Value.slice ua j uc, .int .i64 y, .int .i64 z][p]? = some x → wD.cell? ((⟨wr.heap.size, 0, none⟩ : Addr).add p) = some x) := (by rw [hwD]; exact cell_three wr _ _ _ 51)
              have RD : Hid (wD.ownsRow (pb + 1) 51 3 (.slice sa q sc) q xs) := (by show World.ownsRow _ _ _ _ _ _ _; rw [hwD]; exact Mo.row_below hx ((Below.refl _ _).alloc (Nat.le_refl _) _))
              have ZD : Hid (pb + 1 ≤ wD.heap.size) := (by have := T.out.bx.lt; have := LO.out; show _ ≤ _; rw [hwD]; simp; omega)
              clear hwD hx hgd
              go_wp2_with (at_builtin; rw [← HWD.out]; refine wpList_append_own _ rfl _ _ 30 rfl (pb + 1) 51 t0 (.agg #[.slice none 0 0, .int .i64 0, .int .i64 0]) 3 40 Try.underlying30 ht tz0 tz1 tz2 rfl (by decide) _ _ _ rfl RD.out ⟨wr.heap.size, 0, none⟩ 1 1 [.slice ua j uc, .int .i64 y, .int .i64 z] rfl rfl ND.out (by intro u hu; simp at hu; rcases hu with rfl | rfl | rfl <;> rfl) (by unfold maxLen; omega) (by omega) ZD.out ?_)
              intro v5 w5 hown hgrow hnil5
              obtain ⟨g5, c5, rfl, p1, p2, p3, p4⟩ := row_someK hown (by first | exact hnil5 | (intro e; have := hnil5.1 e; simp at this))
              rw [HWD.out] at hgrow
              obtain ⟨⟨d1, d2⟩, S5'⟩ := PB.appR SX.out hr HX.out HG.out HU.out hgrow hown
              have S5 : Hid (PB r w pb j (.slice ga j gc) (.slice ta j tc) (.slice (some ⟨g5, 0, none⟩) (q + 1) c5) j j (q + 1) (fun i => if i = q then .slice ua j uc else us i) (fun i => if i = q then j else ls i) (w5.setCell ⟨pb, 3, none⟩ (.slice (some ⟨g5, 0, none⟩) (q + 1) c5))) := S5'
              have L5 : Hid (∀ i, i < q + 1 → (if i = q then j else ls i) = j) := fun i hi => by
                by_cases e : i = q
                · rw [if_pos e]
                · rw [if_neg e]; exact HLS.out i (by omega)
              clear hown hgrow hnil5 p1 p2 p3 p4 S5' y0 y1 y2 s0 SX HX HG HU ND RD ZD HWD T
              go_wp2_with fail
              go_roundw
              case rel => exact ⟨q + 1, _, _, _, by omega, by go_num, L5, S5⟩
              case measure => simp [intOf]; omega
        · have hqm : q = m := by omega
          subst hqm
          have i2 : ¬ (q : Int) < (q : Int) := by omega
          have SL := S.out
          obtain ⟨xs, hx, hgd⟩ := SL.rm.1
          obtain ⟨sa, sc, hv⟩ := row_form hx
          subst hv
          have s0 : wo.cell? ⟨pb, 0, none⟩ = some (.int .i64 (k : Int)) := by rw [SL.bx.cell]; rfl
          have s1 : wo.cell? ⟨pb, 1, none⟩ = some (.slice ga k gc) := by rw [SL.bx.cell]; rfl
          have s2 : wo.cell? ⟨pb, 2, none⟩ = some (.slice ta k tc) := by rw [SL.bx.cell]; rfl
          have s3 : wo.cell? ⟨pb, 3, none⟩ = some (.slice sa q sc) := by rw [SL.bx.cell]; rfl
          have q0 : wo.cell? ⟨w.heap.size, 0, none⟩ = some (.int .i64 0) := by rw [SL.rb.cell]; rfl
          have q1 : wo.cell? ⟨w.heap.size, 1, none⟩ = some nilL := by rw [SL.rb.cell]; rfl
          have q2 : wo.cell? ⟨w.heap.size, 2, none⟩ = some nilL := by rw [SL.rb.cell]; rfl
          have q3 : wo.cell? ⟨w.heap.size, 3, none⟩ = some nilL := by rw [SL.rb.cell]; rfl
          have f0 := SL.rb.fz 0
          have f1 := SL.rb.fz 1
          have f2 := SL.rb.fz 2
          have f3 := SL.rb.fz 3
          have PE : Hid (DP r w k (.slice ga k gc) (.slice ta k tc) (.slice sa q sc) k q us ls ((((wo.setCell ⟨w.heap.size, 0, none⟩ (.int .i64 (k : Int))).setCell ⟨w.heap.size, 1, none⟩ (.slice ga k gc)).setCell ⟨w.heap.size, 2, none⟩ (.slice ta k tc)).setCell ⟨w.heap.size, 3, none⟩ (.slice sa q sc))) := (by
            have lo := SL.lo
            have kp := put4_kv wo w.heap.size (.int .i64 (k : Int)) (.slice ga k gc) (.slice ta k tc) (.slice sa q sc)
            exact ⟨rd_kv SL.rd kp (fun b hb => by omega), kv_turn hr SL.tu kp (fun b hb => by omega), rfl, hn1, hn4, hm1, hm8, HLS.out, (SL.ag.kv kp (fun b hb x => by have := (SL.ag.lt b hb).1; omega)).down (by omega), (SL.at'.kv kp (fun b hb x => by have := (SL.at'.lt b hb).1; omega)).down (by omega), (SL.rm.kv kp (fun b hb => by omega)).down (by omega)⟩)
          clear SL hx hgd
          go_wp2_with fail
          refine bodyPost_ret (v := Pb.pv k (.slice ga k gc) (.slice ta k tc) (.slice sa q sc)) (by simp [results, Try.results58, go_sem, q0, q1, q2, q3]) rfl ⟨_, _, _, _, rfl, k, q, us, ls, ?_⟩
          exact PE.out
end Go.Proofs.Ytaakiemmodncpaa.Wa
