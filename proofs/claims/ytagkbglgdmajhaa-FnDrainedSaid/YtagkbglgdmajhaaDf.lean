/- FnDrained: the law. -/
import Derived.Test.YtagkbglgdmajhaaDw
import Derived.Test.YtagkbglgdmajhaaCtJ
import Derived.Test.YtagkbglgdmajhaaDe
namespace Go.Proofs.Ytagkbglgdmajhaa.Hm
open Go.ChangeShapes Go.WideShapes Go.ChangeAt Go.RowKit
open Go.Proofs.Ytagkbglgdmajhaa.Lists Go.Proofs.Ytagkbglgdmajhaa.Dp

theorem cells_of {w : World} {B n : Nat} {v : Value} {L : List Int} (h : w.ownsRow B 2 1 v n (ints L)) (hl : L.length = n) (h0 : 0 < n) : ∃ g cap, v = .slice (some ⟨g, 0, none⟩) n cap ∧ g < w.heap.size ∧ ∀ i, i < n → w.cell? ⟨g, i, none⟩ = some (.int .i64 (L.getD i 0)) := by
  subst hl
  rcases row_cases h with ⟨e, _⟩ | ⟨g, k, e, _⟩
  · subst e; simp at h0
  · subst e
    exact ⟨g, k, rfl, (h.lt g rfl).2, fun i hi => (row_at h i hi).1⟩

set_option maxRecDepth 40000 in
set_option maxHeartbeats 4000000 in
theorem dryLaw (a : Option Addr) (n cap : Nat) (w : World) (h : Rd.Code w a n cap) (hn : n < 9223372036854775808) : Calls Try.prog 4 #[.slice a n cap] w fun e w' => e = .returned (.bool true) ∧ Below w.heap.size w w' := by
  by_cases hb : 1048576 < n
  · have C : Hid (Calls Try.prog 14 #[.slice a n cap] w fun e w' => e = .returned (.bool true) ∧ w' = w) := Rd.big_yes a n cap w hb hn
    clear h hn hb
    go_enter Try.func4, Try.ntmps4
    go_wp2_with fail
    refine Calls.mono C.out ?_
    rintro e w1 ⟨rfl, hw⟩
    have hw' := hw.symm
    subst hw'
    go_wp2_with fail
    go_ret
    exact ⟨rfl, Below.refl _ _⟩
  · have C : Hid (Calls Try.prog 14 #[.slice a n cap] w fun e w' => e = .returned (.bool false) ∧ w' = w) := Rd.big_no a n cap w (by omega)
    have DC : Hid (Calls Try.prog 15 #[.slice a n cap] w fun e w' => (∃ (x y : Int) (v : Value) (L : List Int), e = .returned (Bx.sv x y v) ∧ L.length ≤ 90 ∧ Lists.Reads w' v L) ∧ Below w.heap.size w w') := Dr.drain_any a n cap w h (by omega)
    clear h hn hb
    go_enter Try.func4, Try.ntmps4
    go_wp2_with fail
    refine Calls.mono C.out ?_
    rintro e w1 ⟨rfl, hw⟩
    have hw' := hw.symm
    subst hw'
    clear C
    go_wp2_with fail
    refine Calls.mono DC.out ?_
    rintro e w2 ⟨⟨r, c, v, L, rfl, l9, hL⟩, b2⟩
    clear DC
    obtain ⟨sa, sc, hv⟩ := hL.form
    obtain ⟨V, hV⟩ : ∃ V, V = Value.slice sa L.length sc := ⟨_, rfl⟩
    subst hv
    go_upto_region 4 with fail
    rw [← hV]
    rw [← hV] at hL
    obtain ⟨w3, hw3⟩ : ∃ w3, w3 = w2.alloc (Obj.cells #[.int .i64 r, .int .i64 c, V] 28) := ⟨_, rfl⟩
    have hba : Below w2.heap.size w2 w3 := by rw [hw3]; exact (Below.refl _ _).alloc (Nat.le_refl _) _
    have X3 : Hid (Bo.Box w3 w2.heap.size (.int .i64 r) (.int .i64 c) V) := (by show Bo.Box _ _ _ _ _; rw [hw3]; unfold Bo.Box; simp [go_sem])
    have z3 : Hid (w2.heap.size < w3.heap.size) := (by show _ < _; rw [hw3]; simp)
    have L3 : Hid (Lists.Reads w3 V L) := hL.on hba
    have B3 : Hid (Below w.heap.size w w3) := b2.trans (hba.mono b2.size)
    have fL : L.length < 9223372036854775808 := by omega
    rw [← hw3]
    obtain ⟨B, hB⟩ : ∃ B, w2.heap.size = B := ⟨_, rfl⟩
    rw [hB] at X3 z3 ⊢
    clear hw3 hba hL b2 hB hV
    cases hk : Bx.okB r c L
    · have C6 : Hid (Calls Try.prog 8 #[Bx.sv r c V] w3 fun e w' => e = .returned (.tuple #[.slice none 0 0, .slice none 0 0]) ∧ Below w3.heap.size w3 w') := idrain_no r c V L w3 L3.out fL hk
      have C7 : Hid (∀ w', Below w3.heap.size w3 w' → Calls Try.prog 16 #[Bx.sv r c V] w' fun e w'' => e = .returned (.bool false) ∧ Below w'.heap.size w' w'') := fun w' hb => by have := Bx.sok_any r c L V w' (L3.out.on hb) fL; rwa [hk] at this
      obtain ⟨g0, g1, g2⟩ := id X3.out
      clear fL hk l9
      go_wp2_with fail
      refine Calls.mono C6.out ?_
      rintro e w4 ⟨rfl, b4⟩
      have B4 : Hid (Below w3.heap.size w3 w4) := b4
      clear g0 g1 g2 C6 b4
      obtain ⟨g0, g1, g2⟩ := X3.out.on B4.out z3.out
      go_wp2_with fail
      refine (C7.out _ B4.out).mono ?_
      rintro e w5 ⟨rfl, b5⟩
      have B5 : Hid (Below w.heap.size w w5) := (B3.out.trans (B4.out.mono B3.out.size)).trans (b5.mono (Nat.le_trans B3.out.size B4.out.size))
      clear g0 g1 g2 b5
      go_wp2_with fail
      go_ret
      exact ⟨rfl, B5.out⟩
    · obtain ⟨hr, ⟨c1, c2⟩, hnn⟩ := size_of hk
      have n0 := Bx.mul_le hr ⟨c1, c2⟩
      have C6 : Hid (Calls Try.prog 8 #[Bx.sv r c V] w3 fun e w' => DPo r c L w3 e w') := idrain_yes r c V L w3 L3.out hk
      have C7 : Hid (∀ w', Below w3.heap.size w3 w' → Calls Try.prog 16 #[Bx.sv r c V] w' fun e w'' => e = .returned (.bool true) ∧ Below w'.heap.size w' w'') := fun w' hb => by have := Bx.sok_any r c L V w' (L3.out.on hb) fL; rwa [hk] at this
      have DY : Hid (∀ s, DRes r c L s → Dry r c L s.F s.N) := fun s hs => dry_of c1 hnn (by omega) hs
      obtain ⟨N, hN⟩ : ∃ N, N = L.length := ⟨_, rfl⟩
      have HN : Hid (N = L.length) := hN
      have HE : Hid ((N : Int) = r * c ∧ N ≤ 576) := (by rw [hN]; exact ⟨hnn, by omega⟩)
      have n1 : 1 ≤ N := by omega
      have RC : IntKind.i64.wrap (r * c) = (N : Int) := by rw [← hnn, ← hN]; exact IntWalk.i64_in _ (by omega)
      obtain ⟨vb, vo, vc, hv, hvb, hvc⟩ := reads_at2 L3.out (by omega)
      rw [← hN] at hv hvc
      have HV : Hid (V = .slice (some ⟨vb, vo, none⟩) N vc ∧ vb < w3.heap.size) := ⟨hv, hvb⟩
      have VC : Hid (∀ i, i < N → w3.cell? ⟨vb, vo + i, none⟩ = some (.int .i64 (L.getD i 0))) := hvc
      have CC : Hid ((1 ≤ r ∧ r ≤ 24) ∧ 1 ≤ c ∧ c ≤ 24) := ⟨hr, c1, c2⟩
      obtain ⟨g0, g1, g2⟩ := id X3.out
      clear fL hk l9 hnn n0 hN hv hvb hvc hr
      go_wp2_with fail
      refine Calls.mono C6.out ?_
      rintro e w4 ⟨v1, v2, s, rfl, hs, r1, r2, _, b4⟩
      have dy := DY.out s hs
      rw [← HN.out] at r1 r2
      obtain ⟨gf, cf, e1, lf, ff⟩ := cells_of r1 (by rw [dy.lf, HN.out]) n1
      obtain ⟨gn, cn, e2, ln, nn⟩ := cells_of r2 (by rw [dy.ln, HN.out]) n1
      subst e1 e2
      obtain ⟨F, hF⟩ : ∃ F, F = s.F := ⟨_, rfl⟩
      obtain ⟨M, hM⟩ : ∃ M, M = s.N := ⟨_, rfl⟩
      rw [← hF] at ff r1 dy
      rw [← hM] at nn r2 dy
      have HD : Hid (Dry r c L F M) := dy
      have NR2 : Hid (w4.ownsRow w3.heap.size 2 1 (.slice (some ⟨gn, 0, none⟩) N cn) M.length (ints M)) := (by
        show World.ownsRow _ _ _ _ _ _ _
        rw [dy.ln, ← HN.out]; exact r2)
      have LM : Hid (M.length = N) := (by show _ = _; rw [dy.ln, HN.out])
      have FF : Hid (∀ i, i < N → w4.cell? ⟨gf, i, none⟩ = some (.int .i64 (F.getD i 0))) := ff
      have NN : Hid (∀ i, i < N → w4.cell? ⟨gn, i, none⟩ = some (.int .i64 (M.getD i 0))) := nn
      have GL : Hid (gf < w4.heap.size ∧ gn < w4.heap.size) := ⟨lf, ln⟩
      have B4 : Hid (Below w3.heap.size w3 w4) := b4
      have K4 : Hid (∀ X, Below w4.heap.size w4 X → ∀ i, i < N → X.cell? ⟨gf, i, none⟩ = some (.int .i64 (F.getD i 0)) ∧ X.cell? ⟨gn, i, none⟩ = some (.int .i64 (M.getD i 0)) ∧ X.cell? ⟨vb, vo + i, none⟩ = some (.int .i64 (L.getD i 0))) := fun X hX i hi =>
        ⟨(hX.cell (p := ⟨gf, i, none⟩) lf).trans (ff i hi), (hX.cell (p := ⟨gn, i, none⟩) ln).trans (nn i hi), ((b4.trans (hX.mono b4.size)).cell (p := ⟨vb, vo + i, none⟩) HV.out.2).trans (VC.out i hi)⟩
      have BX : Hid (∀ X, Below w4.heap.size w4 X → X.cell? ⟨B, 0, none⟩ = some (.int .i64 r) ∧ X.cell? ⟨B, 1, none⟩ = some (.int .i64 c) ∧ X.cell? ⟨B, 2, none⟩ = some (.slice (some ⟨vb, vo, none⟩) N vc)) := fun X hX => (by
        have := X3.out.on (b4.trans (hX.mono b4.size)) z3.out
        rw [HV.out.1] at this
        exact this)
      have RM : Hid (∀ X, Below w4.heap.size w4 X → Lists.Reads X (.slice (some ⟨gn, 0, none⟩) N cn) M) := fun X hX => (Lists.reads_row NR2.out).on hX
      have OK : Hid (Ct.okN M = true) := dy.ok
      clear g0 g1 g2 C6 b4 hs r1 r2 dy lf ln ff nn hF hM
      have b44 : Below w4.heap.size w4 w4 := Below.refl _ _
      obtain ⟨g0, g1, g2⟩ := X3.out.on B4.out z3.out
      go_wp2_with fail
      refine (C7.out _ B4.out).mono ?_
      rintro e w5 ⟨rfl, b5⟩
      have D5 : Hid (Below w4.heap.size w4 w5) := b5
      have Z5 : Hid (Below w.heap.size w w5) := (B3.out.trans (B4.out.mono B3.out.size)).trans (b5.mono (Nat.le_trans B3.out.size B4.out.size))
      clear g0 g1 g2 b5 b44 C7
      obtain ⟨g0, g1, g2⟩ := BX.out w5 D5.out
      have CT : Hid (Calls Try.prog 17 #[.slice (some ⟨gn, 0, none⟩) N cn] w5 fun e w' => ∃ u, e = .returned (.tuple #[u, .bool true]) ∧ w'.ownsRow w5.heap.size 2 1 u N (ints (Ct.cat M)) ∧ Below w5.heap.size w5 w') := (by
        have := Ct.icatch_any M (by rw [LM.out]; have := HE.out.2; omega) w5 _ (RM.out w5 D5.out)
        rw [OK.out, (Ct.cat_at OK.out).1, LM.out] at this
        exact this)
      have nb1 : ((N : Int) != (N : Int)) = false := by simp
      go_wp2_with fail
      refine CT.out.mono ?_
      rintro e w6 ⟨u, rfl, r6, b6⟩
      obtain ⟨gc, cc, e3, lc, ck⟩ := cells_of r6 (by rw [(Ct.cat_at OK.out).1, LM.out]) n1
      subst e3
      have CK : Hid (∀ X, Below w6.heap.size w6 X → ∀ i, i < N → X.cell? ⟨gc, i, none⟩ = some (.int .i64 (Ct.F M i))) := fun X hX i hi => (by
        have := (hX.cell (p := ⟨gc, i, none⟩) lc).trans (ck i hi)
        rw [(Ct.cat_at OK.out).2 i (by rw [LM.out]; exact hi)] at this
        exact this)
      have D6 : Hid (Below w4.heap.size w4 w6) := D5.out.trans (b6.mono D5.out.size)
      have Z6 : Hid (Below w.heap.size w w6) := Z5.out.trans (b6.mono Z5.out.size)
      have OU : Hid (∀ X, Below w6.heap.size w6 X → ∀ k : Nat, k < N → ∃ o : Nat, o < N ∧ M.getD o 0 = -1 ∧ Calls Try.prog 18 #[.slice (some ⟨gn, 0, none⟩) N cn, .int .i64 k] X fun e w' => e = .returned (.int .i64 o) ∧ Below X.heap.size X w') := fun X hX k hk => (by
        obtain ⟨o, h1, h2, h3⟩ := Ct.outl_at OK.out (k := k) (by rw [LM.out]; exact hk)
        refine ⟨o, by rw [← LM.out]; exact h2, h3, ?_⟩
        have := Ct.ioutlet_any M k (by rw [LM.out]; have := HE.out.2; omega) X _ (RM.out X (D6.out.trans (hX.mono D6.out.size)))
        rw [h1] at this
        exact this)
      have SP : Hid (∀ k, k ≤ N → 0 ≤ Ct.sm k (Ct.og M) ∧ Ct.sm k (Ct.og M) ≤ 576) := fun k hk => (by
        have := Ct.out_part OK.out (K := k) (by rw [LM.out]; exact hk)
        have h1 := LM.out
        have h2 := HE.out.2
        omega)
      have SA : Hid (Ct.sm N (Ct.og M) = N) := (by
        have := Ct.out_all OK.out
        rw [LM.out] at this
        exact this)
      clear g0 g1 g2 b6 r6 lc ck CT
      go_wp2_with fail
      go_loopw [9, 10, 11, 12, 13] (fun al ki _ _ _ wr => ∃ k : Nat, k ≤ N ∧ al = .int .i64 (Ct.sm k (Ct.og M)) ∧ ki = .int .i64 k ∧ Hid (Below w6.heap.size w6 wr)) (fun _ ki _ _ _ _ => N - (intOf ki).toNat)
      case atStart => exact ⟨0, Nat.zero_le _, rfl, rfl, Below.refl _ _⟩
      case round =>
        obtain ⟨k, hk, rfl, rfl, BW⟩ := hrel
        have n5 := HE.out.2
        have B4w : Hid (Below w4.heap.size w4 wr) := D6.out.trans (BW.out.mono D6.out.size)
        by_cases hlt : k < N
        · have i1 : (0 : Int) ≤ (k : Int) := Int.natCast_nonneg k
          have i2 : (k : Int) < (N : Int) := Int.ofNat_lt.2 hlt
          obtain ⟨xf, xn, xl⟩ := K4.out wr B4w.out k hlt
          obtain ⟨g0, g1, g2⟩ := BX.out wr B4w.out
          have AT := HD.out.at_ k (by rw [← HN.out]; exact hlt)
          have S0 := SP.out k hk
          have S1 := SP.out (k + 1) hlt
          have SS : Ct.sm (k + 1) (Ct.og M) = Ct.sm k (Ct.og M) + Ct.og M k := rfl
          obtain ⟨al, hal⟩ : ∃ al, al = Ct.sm k (Ct.og M) := ⟨_, rfl⟩
          obtain ⟨a2, ha2⟩ : ∃ a2, a2 = Ct.sm (k + 1) (Ct.og M) := ⟨_, rfl⟩
          have HA2 : Hid (a2 = Ct.sm (k + 1) (Ct.og M)) := ha2
          rw [← hal] at S0 SS ⊢
          rw [← ha2] at S1 SS
          clear hal ha2
          obtain ⟨lk, hlk⟩ : ∃ lk, lk = L.getD k 0 := ⟨_, rfl⟩
          obtain ⟨fk, hfk⟩ : ∃ fk, fk = F.getD k 0 := ⟨_, rfl⟩
          rw [← hlk, ← hfk] at AT
          rw [← hlk] at xl
          rw [← hfk] at xf
          clear hlk hfk
          obtain ⟨A1, A2⟩ := AT
          have d1 : decide (fk < lk) = false := by simpa using A1
          rcases A2 with ⟨hm, he⟩ | ⟨t, ht, hm, hft⟩
          · rw [hm] at xn
            have og1 : Ct.og M k = Ct.F M k := if_pos hm
            rw [og1] at SS
            have xc := CK.out wr BW.out k hlt
            obtain ⟨fc, hfc⟩ : ∃ fc, fc = Ct.F M k := ⟨_, rfl⟩
            rw [← hfc] at SS xc
            clear hfc og1
            have sw : IntKind.i64.wrap (al + fc) = a2 := by rw [← SS]; exact IntWalk.i64_in _ (by omega)
            have d2 : decide ((N : Int) ≤ -1) = false := decide_eq_false (by omega)
            have tq : (k : Int).tdiv c = (k : Int) / c := Int.tdiv_eq_ediv_of_nonneg i1
            have tm : (k : Int).tmod c = (k : Int) % c := Int.tmod_eq_emod_of_nonneg i1
            have cz : ¬ c = 0 := by omega
            have ED : ((k : Int) / c = 0 ∨ (k : Int) % c = 0 ∨ (k : Int) / c = r - 1 ∨ (k : Int) % c = c - 1) := by
              have h := he
              unfold edB at h
              simp only [Bool.or_eq_true, beq_iff_eq] at h
              rcases h with ((h | h) | h) | h
              · exact .inl h
              · exact .inr (.inl h)
              · exact .inr (.inr (.inl h))
              · exact .inr (.inr (.inr h))
            have qr : 0 ≤ (k : Int) / c ∧ (k : Int) / c < r := by
              refine ⟨Int.ediv_nonneg i1 (by omega), ?_⟩
              have h := HE.out.1
              exact Int.ediv_lt_of_lt_mul (by omega) (by omega)
            have qm : 0 ≤ (k : Int) % c ∧ (k : Int) % c < c := ⟨Int.emod_nonneg _ (by omega), Int.emod_lt_of_pos _ (by omega)⟩
            obtain ⟨qi, hqi⟩ : ∃ qi, qi = (k : Int) / c := ⟨_, rfl⟩
            obtain ⟨qj, hqj⟩ : ∃ qj, qj = (k : Int) % c := ⟨_, rfl⟩
            rw [← hqi] at tq ED qr
            rw [← hqj] at tm ED qm
            obtain ⟨⟨r1, r2⟩, _, _⟩ := CC.out
            have wr1 : IntKind.i64.wrap (r - 1) = r - 1 := IntWalk.i64_in _ (by omega)
            have wc1 : IntKind.i64.wrap (c - 1) = c - 1 := IntWalk.i64_in _ (by omega)
            have wq1 : IntKind.i64.wrap qi = qi := IntWalk.i64_in _ (by omega)
            have wq2 : IntKind.i64.wrap qj = qj := IntWalk.i64_in _ (by omega)
            clear hqi hqj SS hm he A1
            go_wp2_with fail
            go_quiet (fail)
            clear xl xf
            go_upto_region 23 with fail
            obtain ⟨o, o1, o2, oc⟩ := OU.out (wr.drewN nq) (Bo.below_drewN BW.out nq) k hlt
            have OC : Hid (Calls Try.prog 18 #[.slice (some ⟨gn, 0, none⟩) N cn, .int .i64 k] (wr.drewN nq) fun e w' => e = .returned (.int .i64 o) ∧ Below (wr.drewN nq).heap.size (wr.drewN nq) w') := oc
            clear oc
            by_cases p1 : 0 < qi
            · by_cases p2 : qi < r - 1
              · by_cases p3 : 0 < qj
                · have p4 : ¬ qj < c - 1 := by omega
                  clear ED
                  go_wp2_with fail
                  refine OC.out.mono ?_
                  rintro e w7 ⟨rfl, b7⟩
                  have BW7 : Hid (Below w6.heap.size w6 w7) := (Bo.below_drewN BW.out nq).trans (b7.mono BW.out.size)
                  obtain ⟨_, xo, _⟩ := K4.out w7 (D6.out.trans (BW7.out.mono D6.out.size)) o o1
                  rw [o2] at xo
                  have o0 : (0 : Int) ≤ (o : Int) := by omega
                  have o3 : (o : Int) < (N : Int) := by omega
                  have d6 : decide ((o : Int) < 0) = false := decide_eq_false (by omega)
                  have d7 : decide ((N : Int) ≤ (o : Int)) = false := decide_eq_false (by omega)
                  clear b7 xn OC
                  go_wp2_with fail
                  go_roundw
                  case rel => exact ⟨k + 1, hlt, by rw [HA2.out], by go_num, BW7⟩
                  case measure => simp [intOf]; omega
                · clear ED
                  go_wp2_with fail
                  refine OC.out.mono ?_
                  rintro e w7 ⟨rfl, b7⟩
                  have BW7 : Hid (Below w6.heap.size w6 w7) := (Bo.below_drewN BW.out nq).trans (b7.mono BW.out.size)
                  obtain ⟨_, xo, _⟩ := K4.out w7 (D6.out.trans (BW7.out.mono D6.out.size)) o o1
                  rw [o2] at xo
                  have o0 : (0 : Int) ≤ (o : Int) := by omega
                  have o3 : (o : Int) < (N : Int) := by omega
                  have d6 : decide ((o : Int) < 0) = false := decide_eq_false (by omega)
                  have d7 : decide ((N : Int) ≤ (o : Int)) = false := decide_eq_false (by omega)
                  clear b7 xn OC
                  go_wp2_with fail
                  go_roundw
                  case rel => exact ⟨k + 1, hlt, by rw [HA2.out], by go_num, BW7⟩
                  case measure => simp [intOf]; omega
              · clear ED
                go_wp2_with fail
                refine OC.out.mono ?_
                rintro e w7 ⟨rfl, b7⟩
                have BW7 : Hid (Below w6.heap.size w6 w7) := (Bo.below_drewN BW.out nq).trans (b7.mono BW.out.size)
                obtain ⟨_, xo, _⟩ := K4.out w7 (D6.out.trans (BW7.out.mono D6.out.size)) o o1
                rw [o2] at xo
                have o0 : (0 : Int) ≤ (o : Int) := by omega
                have o3 : (o : Int) < (N : Int) := by omega
                have d6 : decide ((o : Int) < 0) = false := decide_eq_false (by omega)
                have d7 : decide ((N : Int) ≤ (o : Int)) = false := decide_eq_false (by omega)
                clear b7 xn OC
                go_wp2_with fail
                go_roundw
                case rel => exact ⟨k + 1, hlt, by rw [HA2.out], by go_num, BW7⟩
                case measure => simp [intOf]; omega
            · clear ED
              go_wp2_with fail
              refine OC.out.mono ?_
              rintro e w7 ⟨rfl, b7⟩
              have BW7 : Hid (Below w6.heap.size w6 w7) := (Bo.below_drewN BW.out nq).trans (b7.mono BW.out.size)
              obtain ⟨_, xo, _⟩ := K4.out w7 (D6.out.trans (BW7.out.mono D6.out.size)) o o1
              rw [o2] at xo
              have o0 : (0 : Int) ≤ (o : Int) := by omega
              have o3 : (o : Int) < (N : Int) := by omega
              have d6 : decide ((o : Int) < 0) = false := decide_eq_false (by omega)
              have d7 : decide ((N : Int) ≤ (o : Int)) = false := decide_eq_false (by omega)
              clear b7 xn OC
              go_wp2_with fail
              go_roundw
              case rel => exact ⟨k + 1, hlt, by rw [HA2.out], by go_num, BW7⟩
              case measure => simp [intOf]; omega
          · rw [hm] at xn
            have og1 : Ct.og M k = 0 := if_neg (by show ¬ M.getD k 0 = -1; rw [hm]; omega)
            rw [og1] at SS
            have SS' : a2 = al := by omega
            subst SS'
            obtain ⟨xt, _, _⟩ := K4.out wr B4w.out t (by rw [HN.out]; exact ht)
            obtain ⟨ft, hft'⟩ : ∃ ft, ft = F.getD t 0 := ⟨_, rfl⟩
            rw [← hft'] at xt hft
            clear hft'
            have ht2 : t < N := by rw [HN.out]; exact ht
            have t0 : (0 : Int) ≤ (t : Int) := by omega
            have t1 : (t : Int) < (N : Int) := by omega
            have d2 : decide ((t : Int) < -1) = false := decide_eq_false (by omega)
            have d3 : decide ((N : Int) ≤ (t : Int)) = false := decide_eq_false (by omega)
            have d4 : decide (fk < ft) = false := by simpa using hft
            have d5 : ((t : Int) == -1) = false := beq_eq_false_iff_ne.2 (by omega)
            clear SS og1 hm A1 hft ht
            go_wp2_with fail
            go_quiet (fail)
            clear xt xl xf g0 g1 g2
            obtain ⟨o, o1, o2, oc⟩ := OU.out (wr.drewN nq) (Bo.below_drewN BW.out nq) k hlt
            have OC : Hid (Calls Try.prog 18 #[.slice (some ⟨gn, 0, none⟩) N cn, .int .i64 k] (wr.drewN nq) fun e w' => e = .returned (.int .i64 o) ∧ Below (wr.drewN nq).heap.size (wr.drewN nq) w') := oc
            clear oc
            go_wp2_with fail
            refine OC.out.mono ?_
            rintro e w7 ⟨rfl, b7⟩
            have BW7 : Hid (Below w6.heap.size w6 w7) := (Bo.below_drewN BW.out nq).trans (b7.mono BW.out.size)
            obtain ⟨_, xo, _⟩ := K4.out w7 (D6.out.trans (BW7.out.mono D6.out.size)) o o1
            rw [o2] at xo
            have o0 : (0 : Int) ≤ (o : Int) := by omega
            have o3 : (o : Int) < (N : Int) := by omega
            have d6 : decide ((o : Int) < 0) = false := decide_eq_false (by omega)
            have d7 : decide ((N : Int) ≤ (o : Int)) = false := decide_eq_false (by omega)
            clear b7 xn OC
            go_wp2_with fail
            go_roundw
            case rel => exact ⟨k + 1, hlt, by rw [HA2.out], by go_num, BW7⟩
            case measure => simp [intOf]; omega
        · have ek : k = N := by omega
          subst ek
          have jj : ¬ (k : Int) < (k : Int) := by omega
          rw [SA.out]
          have BF : Hid (Below w.heap.size w wr) := Z6.out.trans (BW.out.mono Z6.out.size)
          go_wp2_with fail
          go_ret
          exact ⟨rfl, BF.out⟩
end Go.Proofs.Ytagkbglgdmajhaa.Hm
