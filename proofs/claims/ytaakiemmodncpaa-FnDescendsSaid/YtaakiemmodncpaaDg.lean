/- FnDescends: the law walked. -/
import Derived.Test.YtaakiemmodncpaaWe
import Derived.Test.YtaakiemmodncpaaDf
import Derived.Test.YtaakiemmodncpaaDsA
namespace Go.Proofs.Ytaakiemmodncpaa.Dg
open Go.ChangeShapes Go.WideShapes Go.ChangeAt Go.RowKit
open Go.Proofs.Ytaakiemmodncpaa.Lists Go.Proofs.Ytaakiemmodncpaa.Al Go.Proofs.Ytaakiemmodncpaa.Su Go.Proofs.Ytaakiemmodncpaa.Po Go.Proofs.Ytaakiemmodncpaa.Cs Go.Proofs.Ytaakiemmodncpaa.Cf Go.Proofs.Ytaakiemmodncpaa.Dp Go.Proofs.Ytaakiemmodncpaa.De Go.Proofs.Ytaakiemmodncpaa.De2 Go.Proofs.Ytaakiemmodncpaa.Df Go.Proofs.Ytaakiemmodncpaa.Wa

theorem held48 : Try.prog.stoodInHeld 48 = false := by kernel_rfl
theorem under48 : Try.prog.underlying 48 = some (.struct (Try.prog.fieldsOf 48)) := by kernel_rfl
theorem guard48 : Try.prog.eqGuardType Try.prog.depth 48 = false := by kernel_rfl
theorem neq48 (a b c : Int) (w : World) : (binOp .neq 48 (.agg #[.int .i64 a, .int .i64 b, .int .i64 c]) (.agg #[.int .i64 a, .int .i64 b, .int .i64 c])).run Try.prog w = .ok (.bool false) w := by
  rw [run_neq_struct, run_equalIn_struct w 9999 48 _ _ under48 held48]
  simp only [Program.fieldsOf, Try.underlying48]
  simp [go_sem, Op.eqFields, part]
theorem m_cells {w : World} {v : Value} {L : Mo.Ls} (h : Mo.Reads w v L) : ∃ b o, (0 < L.length → b < w.heap.size ∧ ∃ c, v = .slice (some ⟨b, o, none⟩) L.length c) ∧ ∀ i, i < L.length → Mo.Cs w b o L i := by
  rcases h with ⟨rfl, _⟩ | ⟨b, o, cap, h1, h2, h3, h4, h5⟩
  · exact ⟨0, 0, fun h => by simp at h, fun i hi => by simp at hi⟩
  · exact ⟨b, o, fun _ => ⟨h4, cap, h1⟩, h5⟩
/-- the rows' cells, each list's value named -/
theorem r_cells {w : World} {v : Value} {R : Rw.Ls} (h : Rw.Reads w v R) : ∃ (b o : Nat) (us : Nat → Value), (0 < R.length → b < w.heap.size ∧ ∃ c, v = .slice (some ⟨b, o, none⟩) R.length c) ∧ ∀ i, i < R.length → w.cell? ⟨b, o + i * 3, none⟩ = some (us i) ∧ w.cell? ⟨b, o + i * 3 + 1, none⟩ = some (.int .i64 (Rw.cz R i 1)) ∧ w.cell? ⟨b, o + i * 3 + 2, none⟩ = some (.int .i64 (Rw.cz R i 2)) ∧ Lists.Reads w (us i) (Rw.cl R i) := by
  obtain ⟨b, o, h1, h2⟩ := rows_at h
  have a1 : ∀ i, ∃ u : Value, i < R.length → w.cell? ⟨b, o + i * 3, none⟩ = some u ∧ w.cell? ⟨b, o + i * 3 + 1, none⟩ = some (.int .i64 (Rw.cz R i 1)) ∧ w.cell? ⟨b, o + i * 3 + 2, none⟩ = some (.int .i64 (Rw.cz R i 2)) ∧ Lists.Reads w u (Rw.cl R i) := fun i => by
    by_cases hi : i < R.length
    · obtain ⟨c1, c2, u, c0, ru⟩ := h1 i hi
      exact ⟨u, fun _ => ⟨c0, c1, c2, ru⟩⟩
    · exact ⟨.slice none 0 0, fun x => absurd x hi⟩
  obtain ⟨f, hf⟩ := Classical.axiomOfChoice a1
  exact ⟨b, o, f, h2, hf⟩
/-- the rows that stand there turned, so many -/
def RV (w : World) (base : Nat) (v : Value) (R : Rw.Ls) (us : Nat → Value) (k : Nat) : Prop := ∃ xs, w.ownsRow base 51 3 v k xs ∧ ∀ i, i < k → xs[i * 3]? = some (us (R.length - 1 - i)) ∧ xs[i * 3 + 1]? = some (.int .i64 (Rw.cz R (R.length - 1 - i) 1)) ∧ xs[i * 3 + 2]? = some (.int .i64 (Rw.cz R (R.length - 1 - i) 2))
theorem RV.reads {w : World} {base : Nat} {v : Value} {R : Rw.Ls} {us : Nat → Value} (h : RV w base v R us R.length) (hu : ∀ i, i < R.length → Lists.Reads w (us i) (Rw.cl R i)) : Rw.Reads w v R.reverse := by
  obtain ⟨xs, h1, h2⟩ := h
  rcases Mo.row_cases h1 with ⟨h0, rfl⟩ | ⟨g, c, rfl, _, g1, g2, g3⟩
  · exact .inl ⟨by rw [List.eq_nil_of_length_eq_zero h0]; rfl, _, _, rfl⟩
  · refine .inr ⟨g, 0, c, by rw [List.length_reverse], by rw [List.length_reverse]; exact g2, g3, g1, fun i hi => ?_⟩
    rw [List.length_reverse] at hi
    obtain ⟨a, b, d⟩ := h2 i hi
    unfold Rw.Cs
    rw [rev_cz R i 1 hi, rev_cz R i 2 hi, rev_cl R i hi]
    refine ⟨?_, ?_, us (R.length - 1 - i), ?_, hu _ (by omega)⟩
    · rw [Nat.zero_add, h1.cellAt (i * 3 + 1) (by omega)]; exact b
    · rw [Nat.zero_add, h1.cellAt (i * 3 + 2) (by omega)]; exact d
    · rw [Nat.zero_add, h1.cellAt (i * 3) (by omega)]; exact a
theorem RV.snoc {w5 : World} {base : Nat} {v' : Value} {R : Rw.Ls} {us : Nat → Value} {k : Nat} {xs : List Value} (hl : xs.length = k * 3) (h2 : ∀ i, i < k → xs[i * 3]? = some (us (R.length - 1 - i)) ∧ xs[i * 3 + 1]? = some (.int .i64 (Rw.cz R (R.length - 1 - i) 1)) ∧ xs[i * 3 + 2]? = some (.int .i64 (Rw.cz R (R.length - 1 - i) 2))) (h : w5.ownsRow base 51 3 v' (k + 1) (xs ++ [us (R.length - 1 - k), .int .i64 (Rw.cz R (R.length - 1 - k) 1), .int .i64 (Rw.cz R (R.length - 1 - k) 2)])) : RV w5 base v' R us (k + 1) := by
  refine ⟨_, h, fun i hi => ?_⟩
  by_cases e : i = k
  · subst e
    refine ⟨?_, ?_, ?_⟩
    · rw [List.getElem?_append_right (by omega)]; simp [hl]
    · rw [List.getElem?_append_right (by omega), show i * 3 + 1 - xs.length = 1 by omega]; rfl
    · rw [List.getElem?_append_right (by omega), show i * 3 + 2 - xs.length = 2 by omega]; rfl
  · rw [List.getElem?_append_left (by omega), List.getElem?_append_left (by omega), List.getElem?_append_left (by omega)]
    exact h2 i (by omega)

set_option maxHeartbeats 1000000 in
set_option maxRecDepth 20000 in
theorem law_no (w : World) (a : Option Addr) (l cap : Nat) (hl : l < 9223372036854775808) (hb : 1048576 < l) :
    Calls Try.prog 4 #[.slice a l cap] w fun e w' => e = .returned (.bool true) ∧ Below w.heap.size w w' := by
  have C : Hid (Calls Try.prog 17 #[.slice a l cap] w fun e w' => e = .returned (.bool true) ∧ w' = w) := Rd.big_yes a l cap w hb hl
  clear hl hb
  go_enter Try.func4, Try.ntmps4
  go_wp2_with fail
  refine C.out.mono ?_
  rintro e w1 ⟨rfl, hw⟩
  have hw' := hw.symm
  subst hw'
  go_wp2_with fail
  go_ret
  exact ⟨rfl, Below.refl _ _⟩

set_option maxHeartbeats 4000000 in
set_option maxRecDepth 20000 in
theorem law_any (w : World) (a : Option Addr) (l cap : Nat) (hc : Rd.Code w a l cap) (hb : l ≤ 1048576) :
    Calls Try.prog 4 #[.slice a l cap] w fun e w' => e = .returned (.bool true) ∧ Below w.heap.size w w' := by
  have C : Hid (Calls Try.prog 17 #[.slice a l cap] w fun e w' => e = .returned (.bool false) ∧ w' = w) := Rd.big_no a l cap w hb
  have DR : Hid (Calls Try.prog 18 #[.slice a l cap] w fun e w' => ∃ n g t rv x most, e = .returned (.tuple #[Pb.pv n g t rv, x, .int .i64 most]) ∧ DD g t rv x w' ∧ Below w.heap.size w w') := drawd_any w a l cap hc hb
  clear hc hb
  go_enter Try.func4, Try.ntmps4
  go_wp2_with fail
  refine C.out.mono ?_
  rintro e w0 ⟨rfl, hw⟩
  have hw' := hw.symm
  subst hw'
  go_wp2_with fail
  refine (Calls.mono DR.out) ?_
  rintro e w1 ⟨n, g, t, rv, x, most, rfl, ⟨G, T, R, X, hP, hX⟩, hb⟩
  obtain ⟨sg, cg, rfl⟩ := hP.1.form
  obtain ⟨st', ct, rfl⟩ := hP.2.1.form
  obtain ⟨sr, cr, rfl⟩ := hP.2.2.form
  obtain ⟨sx, cx, rfl⟩ := hX.form
  obtain ⟨pb, hpb⟩ : ∃ y, y = w1.heap.size := ⟨_, rfl⟩
  have HPB : Hid (pb = w1.heap.size) := hpb
  obtain ⟨w2, hw2⟩ : ∃ y, y = w1.alloc (.cells #[.int .i64 n, .slice sg G.length cg, .slice st' T.length ct, .slice sr R.length cr] 32) := ⟨_, rfl⟩
  have HW2 : Hid (w2 = w1.alloc (.cells #[.int .i64 n, .slice sg G.length cg, .slice st' T.length ct, .slice sr R.length cr] 32)) := hw2
  have b2 : Below w1.heap.size w1 w2 := by rw [hw2]; exact (Below.refl _ _).alloc (Nat.le_refl _) _
  have zp : w2.heap.size = pb + 1 := by rw [hw2, hpb]; simp
  have BX : Bl w2 pb 32 #[.int .i64 n, .slice sg G.length cg, .slice st' T.length ct, .slice sr R.length cr] := by rw [hw2, hpb]; exact Bl.new w1 32 _
  have HP : Hid (∀ w', Below w2.heap.size w2 w' → LawCsL.PR w' G T R (.slice sg G.length cg) (.slice st' T.length ct) (.slice sr R.length cr)) := fun w' h => (hP.on b2).on h
  have HX : Hid (∀ w', Below w2.heap.size w2 w' → Lists.Reads w' (.slice sx X.length cx) X) := fun w' h => (hX.on b2).on h
  have HB : Hid (∀ w', Below w2.heap.size w2 w' → Below w.heap.size w w') := fun w' h => (hb.trans (b2.mono hb.size)).trans (h.mono (by have := hb.size; have := b2.size; omega))
  have HK : Hid (∀ w', Below w2.heap.size w2 w' → (w'.cell? ⟨pb, 0, none⟩ = some (.int .i64 n) ∧ w'.cell? ⟨pb, 1, none⟩ = some (.slice sg G.length cg) ∧ w'.cell? ⟨pb, 2, none⟩ = some (.slice st' T.length ct) ∧ w'.cell? ⟨pb, 3, none⟩ = some (.slice sr R.length cr)) ∧ pb < w'.heap.size) := fun w' h => by
    have q := BX.on h
    exact ⟨⟨by rw [q.cell]; rfl, by rw [q.cell]; rfl, by rw [q.cell]; rfl, by rw [q.cell]; rfl⟩, q.lt⟩
  have R2 : Hid (Below w2.heap.size w2 w2) := Below.refl _ _
  have FX : Hid (X.length < 9223372036854775808) := Rw.lfits hX
  have HZP : Hid (w2.heap.size = pb + 1) := zp
  go_upto_region 4 with fail
  rw [← HW2.out, ← HPB.out]
  clear HW2 HPB hw2 hpb b2 zp BX hP hX hb C DR
  cases hok : okD n G T R X most
  · have SN : Hid (∀ w', Below w2.heap.size w2 w' → Calls Try.prog 6 #[Pb.pv n (.slice sg G.length cg) (.slice st' T.length ct) (.slice sr R.length cr), .slice sx X.length cx, .int .i64 most] w' fun e w'' => ∃ v, e = .returned (.tuple #[v, .bool false]) ∧ Mo.Row w'' w'.heap.size v [] ∧ Below w'.heap.size w' w'') := fun w' h => sdesc_no n G T R X most w' _ _ _ _ (HP.out w' h) (HX.out w' h) hok
    have IN : Hid (∀ w', Below w2.heap.size w2 w' → Calls Try.prog 9 #[Pb.pv n (.slice sg G.length cg) (.slice st' T.length ct) (.slice sr R.length cr), .slice sx X.length cx, .int .i64 most] w' fun e w'' => e = .returned (.tuple #[.slice none 0 0, .bool false]) ∧ Below w'.heap.size w' w'') := fun w' h => idesc_no n G T R X most w' _ _ _ _ (HP.out w' h) (HX.out w' h) hok
    obtain ⟨⟨k0, k1, k2, k3⟩, k4⟩ := HK.out w2 R2.out
    clear hok
    generalize G.length = ng at *
    generalize T.length = nt at *
    generalize R.length = nr at *
    generalize X.length = nx at *
    go_wp2_with fail
    refine (SN.out w2 R2.out).mono ?_
    rintro e w3 ⟨v, rfl, hr, hb⟩
    have B3 : Hid (Below w2.heap.size w2 w3) := hb
    obtain ⟨va, vc, rfl⟩ := hr.form
    have e0 : ([] : Mo.Ls).length = 0 := rfl
    rw [e0]
    clear hb hr k0 k1 k2 k3 k4 e0
    obtain ⟨⟨k0, k1, k2, k3⟩, k4⟩ := HK.out w3 B3.out
    go_wp2_with fail
    refine (IN.out w3 B3.out).mono ?_
    rintro e w4 ⟨rfl, hb⟩
    have B4 : Hid (Below w2.heap.size w2 w4) := B3.out.trans (hb.mono B3.out.size)
    clear hb k0 k1 k2 k3 k4
    go_wp2_with fail
    go_ret
    exact ⟨rfl, HB.out w4 B4.out⟩
  · obtain ⟨nn, rfl⟩ := DsA.ok_nat hok
    obtain ⟨sf, hsf, hgd, hfew⟩ := DsA.fin_ex hok
    have hok' := hok
    unfold okD at hok'
    rw [Bool.and_eq_true, Bool.and_eq_true] at hok'
    obtain ⟨y1, y2, y3⟩ := hok'
    have O := ok_of y1
    have n1 := O.n1
    have n6 := O.n6
    have nG : G.length = nn := by have := O.nG; omega
    have y2' := nums_parts y2
    have lX : X.length = nn := by omega
    have WX : Dp.Way nn G T R X := way_start O lX (fun j hj => y2'.2 j (by omega))
    have TR := tr_ends WX O hsf
    have HFEW : Hid ((sf.2.length : Int) ≤ most) := hgd.few
    have SY : Hid (∀ w', Below w2.heap.size w2 w' → Calls Try.prog 6 #[Pb.pv nn (.slice sg G.length cg) (.slice st' T.length ct) (.slice sr R.length cr), .slice sx X.length cx, .int .i64 most] w' fun e w'' => ∃ v, e = .returned (.tuple #[v, .bool true]) ∧ Mo.Row w'' w'.heap.size v sf.2 ∧ Below w'.heap.size w' w'') := fun w' h => sdesc_yes nn G T R X most w' _ _ _ _ (HP.out w' h) (HX.out w' h) hok sf hsf
    have IY : Hid (∀ w', Below w2.heap.size w2 w' → Calls Try.prog 9 #[Pb.pv nn (.slice sg G.length cg) (.slice st' T.length ct) (.slice sr R.length cr), .slice sx X.length cx, .int .i64 most] w' fun e w'' => ∃ v, e = .returned (.tuple #[v, .bool true]) ∧ Mo.Row w'' w'.heap.size v sf.2 ∧ Below w'.heap.size w' w'') := fun w' h => idesc_yes nn G T R X most w' _ _ _ _ (HP.out w' h) (HX.out w' h) hok sf hsf
    have IR : Hid (∀ w' vq, Below w2.heap.size w2 w' → Rw.Reads w' vq R.reverse → Calls Try.prog 9 #[Pb.pv nn (.slice sg G.length cg) (.slice st' T.length ct) vq, .slice sx X.length cx, .int .i64 most] w' fun e w'' => ∃ v, e = .returned (.tuple #[v, .bool true]) ∧ Mo.Row w'' w'.heap.size v sf.2 ∧ Below w'.heap.size w' w'') := fun w' vq h hq => idesc_yes nn G T R.reverse X most w' _ _ _ _ ⟨(HP.out w' h).1, (HP.out w' h).2.1, hq⟩ (HX.out w' h) (rev_ok hok) sf (rev_ends hsf)
    have SC : Hid (∀ w' Y vy, Below w2.heap.size w2 w' → Dp.Way nn G T R Y → Lists.Reads w' vy Y → Calls Try.prog 19 #[Pb.pv nn (.slice sg G.length cg) (.slice st' T.length ct) (.slice sr R.length cr), vy] w' fun e w'' => e = .returned (.int .i64 (cost G T R Y nn)) ∧ Below w'.heap.size w' w'') := fun w' Y vy h hw hy => by have := scost_all nn G T R Y w' _ _ _ vy (HP.out w' h) hy; rw [cv_way rfl y1 O hw] at this; exact this
    have IC : Hid (∀ w' Y vy, Below w2.heap.size w2 w' → Dp.Way nn G T R Y → Lists.Reads w' vy Y → Calls Try.prog 20 #[Pb.pv nn (.slice sg G.length cg) (.slice st' T.length ct) (.slice sr R.length cr), vy] w' fun e w'' => e = .returned (.int .i64 (cost G T R Y nn)) ∧ Below w'.heap.size w' w'') := fun w' Y vy h hw hy => by have := icost_all nn G T R Y w' _ _ _ vy (HP.out w' h) hy; rw [cv_way rfl y1 O hw] at this; exact this
    have CE : Hid ((sf.2.length : Int) < most → ∀ w' vy, Below w2.heap.size w2 w' → Lists.Reads w' vy sf.1 → Calls Try.prog 21 #[Pb.pv nn (.slice sg G.length cg) (.slice st' T.length ct) (.slice sr R.length cr), vy] w' fun e w'' => e = .returned (.bool true) ∧ Below w'.heap.size w' w'') := fun hf w' vy h hy => by have := icert_any nn G T R sf.1 w' _ _ _ vy (HP.out w' h) hy; rw [fin_cert rfl y1 O hgd.way hsf (by omega)] at this; exact this
    have HT : Hid (Tr nn G T R X sf) := TR
    have HOO : Hid (Ok nn G T R) := O
    have HRR : Hid (Rw.Reads w2 (.slice sr R.length cr) R) := (HP.out w2 R2.out).2.2
    have NL : Hid (sf.2.length ≤ 500) := (by show _ ≤ _; omega)
    have N6 : Hid (nn ≤ 6) := (by show _ ≤ _; omega)
    have NR : Hid (R.length ≤ 20) := O.nR
    obtain ⟨i0, hi, hz0, hz1, hz2⟩ := info_parts Lists.Try.info2
    obtain ⟨t0, ht, tz0, tz1, tz2⟩ := info_parts infoM
    have XL : Hid (X.length = nn) := lX
    have HN0 : Hid (0 < nn) := (by show _ < _; omega)
    rw [lX] at HX SY IY IR FX ⊢
    clear nG lX hok hsf hgd hfew y1 y2 y3 y2' O n1 n6 WX TR
    obtain ⟨Lm, hLm⟩ : ∃ Lm, sf.2 = Lm := ⟨_, rfl⟩
    have EL : Hid (sf.2 = Lm) := hLm
    rw [hLm] at HFEW SY IY IR CE NL
    clear hLm
    obtain ⟨⟨k0, k1, k2, k3⟩, k4⟩ := HK.out w2 R2.out
    go_wp2_with fail
    refine (SY.out w2 R2.out).mono ?_
    rintro e w3 ⟨vs, rfl, hr, hb⟩
    have B3 : Hid (Below w2.heap.size w2 w3) := hb
    obtain ⟨va, vc, rfl⟩ := hr.form
    clear hb hr k0 k1 k2 k3 k4
    obtain ⟨⟨k0, k1, k2, k3⟩, k4⟩ := HK.out w3 B3.out
    go_wp2_with fail
    refine (IY.out w3 B3.out).mono ?_
    rintro e w4 ⟨vm, rfl, hr, hb⟩
    have B4 : Hid (Below w2.heap.size w2 w4) := B3.out.trans (hb.mono B3.out.size)
    obtain ⟨ma, mc, rfl⟩ := hr.form
    obtain ⟨bm, om, hm1, hm2⟩ := m_cells hr.reads
    have MC : Hid (∀ w', Below w4.heap.size w4 w' → ∀ i, i < Lm.length → Mo.Cs w' bm om Lm i) := fun w' h i hi => (hm2 i hi).below h (hm1 (by omega)).1
    have MF : Hid (0 < Lm.length → ma = some ⟨bm, om, none⟩) := fun h => by obtain ⟨_, c, e⟩ := hm1 h; simp at e; exact e.1
    have H4 : Hid (∀ w', Below w4.heap.size w4 w' → Below w2.heap.size w2 w') := fun w' h => B4.out.trans (h.mono B4.out.size)
    clear hb hr k0 k1 k2 k3 k4 hm1 hm2
    obtain ⟨bx, ox, hx1, hx2⟩ := reads_at (HX.out w4 B4.out)
    have XC : Hid (∀ j u, (ints X)[j]? = some u → (w4.alloc (.cells #[] 2)).cell? ((⟨bx, ox, none⟩ : Addr).add j) = some u) := ints_at' XL.out fun i hi => by
      have e := XL.out
      obtain ⟨q1, _⟩ := hx2 (by omega)
      rw [World.cell?_alloc_lt _ _ _ q1]
      exact hx1 i (by omega)
    obtain ⟨q1, cx', q2⟩ := hx2 (by rw [XL.out]; exact HN0.out)
    simp at q2
    have q3 := q2.1
    subst q3
    clear q2
    clear hx1 hx2 q1
    obtain ⟨ll, hll⟩ : ∃ ll, ll = Lm.length := ⟨_, rfl⟩
    have HLL : Hid (ll = Lm.length) := hll
    rw [← hll] at MC MF NL HFEW CE ⊢
    clear hll
    go_wp2_with (at_builtin; refine wpList_append_own_at _ rfl _ _ 22 rfl w4.heap.size 2 i0 (.int .i64 0) 1 8 Try.underlying22 hi hz0 hz1 hz2 rfl (by decide) _ _ _ rfl (empty_row 2) ⟨bx, ox, none⟩ nn cx (ints X) rfl (by rw [List.length_map, XL.out]; omega) XC.out (one_cell X) ?c3 ?c4 ?c5 ?_)
    case c3 => unfold maxLen; have := N6.out; omega
    case c4 => have := N6.out; omega
    case c5 => simp
    intro v' w5 hown hgrow hnil hat
    obtain ⟨g, c, rfl, g1, g2, c1, c2⟩ := row_some hown hnil
    have B5 : Hid (Below w4.heap.size w4 w5) := ((Below.refl _ _).alloc (Nat.le_refl _) _).grown hgrow (by simp) (fun k hk => by simp [Value.ownBlock] at hk; omega)
    have A5 : Hid (w5.ownsRow w4.heap.size 2 1 (.slice (some ⟨g, 0, none⟩) nn c) nn (ints X)) := (by show World.ownsRow _ _ _ _ _ _ _; simpa using hown)
    have GG : Hid (w4.heap.size ≤ g) := g1
    have W0 : Hid (∀ j, j ≤ ll → Dp.Way nn G T R (rep X Lm j)) := fun j hj => by have := HT.out.w j (by rw [EL.out, ← HLL.out]; exact hj); rw [EL.out] at this; exact this
    have MV : Hid (∀ j, j < ll → ∃ i : Nat, i < nn ∧ Mo.c0 Lm j = (i : Int) ∧ -200001 ≤ Mo.c1 Lm j ∧ Mo.c1 Lm j ≤ 200001 ∧ Mo.c2 Lm j = cost G T R (rep X Lm (j + 1)) nn ∧ cost G T R (rep X Lm (j + 1)) nn < cost G T R (rep X Lm j) nn) := fun j hj => by have := HT.out.m j (by rw [EL.out, ← HLL.out]; exact hj); rw [EL.out] at this; exact this
    have WN : Hid (∀ j, j < ll → ∀ i : Nat, i < nn → -200500 ≤ (rep X Lm j).getD i 0 ∧ (rep X Lm j).getD i 0 ≤ 200500) := fun j hj i hi => (W0.out j (by omega)).near HOO.out i hi
    have LR : Hid (∀ j, j ≤ ll → (rep X Lm j).length = nn) := fun j hj => (W0.out j hj).len
    have RD : Hid (∀ (w' : World) (Y : List Int), Y.length = nn → w'.ownsRow w4.heap.size 2 1 (.slice (some ⟨g, 0, none⟩) nn c) nn (ints Y) → Lists.Reads w' (.slice (some ⟨g, 0, none⟩) nn c) Y) := fun w' Y e h => by
      subst e
      exact Lists.reads_row h
    clear hown hgrow hnil hat g1 g2 c1 c2 XC
    obtain ⟨⟨k0, k1, k2, k3⟩, k4⟩ := HK.out w5 (H4.out w5 B5.out)
    have C5 : Hid (Calls Try.prog 19 #[Pb.pv nn (.slice sg G.length cg) (.slice st' T.length ct) (.slice sr R.length cr), .slice (some ⟨g, 0, none⟩) nn c] w5 fun e w'' => e = .returned (.int .i64 (cost G T R (rep X Lm 0) nn)) ∧ Below w5.heap.size w5 w'') := SC.out w5 X _ (H4.out w5 B5.out) (W0.out 0 (Nat.zero_le _)) (RD.out w5 X XL.out A5.out)
    generalize hng : G.length = ng at *
    generalize hnt : T.length = nt at *
    generalize hnr : R.length = nr at *
    have HNR : Hid (R.length = nr) := hnr
    clear hng hnt hnr
    go_wp2_with fail
    refine (Calls.mono C5.out) ?_
    rintro e w6 ⟨rfl, hb⟩
    have B6 : Hid (Below w4.heap.size w4 w6) := B5.out.trans (hb.mono B5.out.size)
    have A6 : Hid (w6.ownsRow w4.heap.size 2 1 (.slice (some ⟨g, 0, none⟩) nn c) nn (ints (rep X Lm 0))) := Mo.row_below A5.out hb
    clear hb k0 k1 k2 k3 k4 C5
    go_wp2_with fail
    go_loopw [11, 12] (fun q i wr => ∃ j : Nat, j ≤ ll ∧ i = .int .i64 j ∧ q = .int .i64 (cost G T R (rep X Lm j) nn) ∧ Hid (wr.ownsRow w4.heap.size 2 1 (.slice (some ⟨g, 0, none⟩) nn c) nn (ints (rep X Lm j))) ∧ Hid (Below w4.heap.size w4 wr)) (fun _ i _ => ll - (intOf i).toNat)
    case atStart => exact ⟨0, Nat.zero_le _, rfl, rfl, A6, B6⟩
    case round =>
      clear A5 B5 A6 B6
      obtain ⟨j, hj, rfl, rfl, A, B⟩ := hrel
      by_cases hlt : j < ll
      · have i1 : (0 : Int) ≤ (j : Int) := by omega
        have i2 : (j : Int) < (ll : Int) := by omega
        have HLT : Hid (j < ll) := hlt
        have jb : j ≤ 500 := by have := NL.out; omega
        have mf := MF.out (by omega)
        subst mf
        obtain ⟨i, hin, e0, e1, e2, e3, e4⟩ := MV.out j hlt
        have m := MC.out wr B.out j hlt
        unfold Mo.Cs at m
        rw [e0, e3] at m
        obtain ⟨m0, m1, m2⟩ := m
        have WY := WN.out j hlt i hin
        have HM : Hid (rep X Lm (j + 1) = mv (rep X Lm j) i (Mo.c1 Lm j)) := (by show mv (rep X Lm j) (Mo.c0 Lm j).toNat (Mo.c1 Lm j) = _; rw [e0]; rfl)
        have WR : Hid (Dp.Way nn G T R (rep X Lm (j + 1))) := W0.out (j + 1) (by omega)
        have LY : Hid ((rep X Lm j).length = nn) := LR.out j (by omega)
        have LY2 : Hid ((rep X Lm (j + 1)).length = nn) := LR.out (j + 1) (by omega)
        generalize Mo.c1 Lm j = by' at *
        generalize cost G T R (rep X Lm j) nn = cj at *
        have HCN : Hid (cost G T R (rep X Lm (j + 1)) nn = cost G T R (rep X Lm (j + 1)) nn) := rfl
        generalize hcn : cost G T R (rep X Lm (j + 1)) nn = cn' at *
        have HCE : Hid (cost G T R (rep X Lm (j + 1)) nn = cn') := hcn
        clear hcn e0 e3 HCN
        generalize hY : rep X Lm j = Y at *
        generalize hY2 : rep X Lm (j + 1) = Y2 at *
        have HY2 : Hid (rep X Lm (j + 1) = Y2) := hY2
        clear hY hY2
        have a0 : wr.cell? ⟨g, i, none⟩ = some (.int .i64 (Y.getD i 0)) := row_get A.out LY.out i hin
        have a1 : wr.frozen? ⟨g, i, none⟩ = false := A.out.frozenAt i
        have a2 : g < wr.heap.size := (A.out.lt g rfl).2
        obtain ⟨⟨k0, k1, k2, k3⟩, k4⟩ := HK.out wr (H4.out wr B.out)
        have n0 : ¬ (i : Int) < 0 := by omega
        have n1 : (i : Int) < (nn : Int) := by omega
        have n2 : (0 : Int) ≤ (i : Int) := by omega
        have hg0 : ¬ g = wr.heap.size := by omega
        have hg2 : ¬ wr.heap.size = g := by omega
        obtain ⟨wy1, wy2⟩ := WY
        have wz : IntKind.i64.wrap (Y.getD i 0 + by') = Y.getD i 0 + by' := IntWalk.i64_in _ (by omega)
        obtain ⟨wm, hwm⟩ : ∃ wm, wm = wr.alloc (Obj.cells #[.int .i64 (i : Int), .int .i64 by', .int .i64 cn'] 48) := ⟨_, rfl⟩
        have HWM : Hid (wm = wr.alloc (Obj.cells #[.int .i64 (i : Int), .int .i64 by', .int .i64 cn'] 48)) := hwm
        have bm' : Below wr.heap.size wr wm := by rw [hwm]; exact (Below.refl _ _).alloc (Nat.le_refl _) _
        have BM : Hid (Below w4.heap.size w4 wm) := B.out.trans (bm'.mono B.out.size)
        have AM : Hid (wm.ownsRow w4.heap.size 2 1 (.slice (some ⟨g, 0, none⟩) nn c) nn (ints Y)) := Mo.row_below A.out bm'
        have MB : Hid (Bl wm wr.heap.size 48 #[.int .i64 (i : Int), .int .i64 by', .int .i64 cn']) := (by rw [hwm]; exact Bl.new wr 48 _)
        clear hwm bm'
        go_upto_region 16 with fail
        rw [← HWM.out]
        clear HWM m0 m1 m2 k0 k1 k2 k3 k4 hg2 a0 a1
        generalize hmb : wr.heap.size = mb at *
        clear hmb
        obtain ⟨⟨k0, k1, k2, k3⟩, k4⟩ := HK.out wm (H4.out wm BM.out)
        have m0 : wm.cell? ⟨mb, 0, none⟩ = some (.int .i64 (i : Int)) := by rw [MB.out.cell]; rfl
        have m1 : wm.cell? ⟨mb, 1, none⟩ = some (.int .i64 by') := by rw [MB.out.cell]; rfl
        have m2 : wm.cell? ⟨mb, 2, none⟩ = some (.int .i64 cn') := by rw [MB.out.cell]; rfl
        have a0 : wm.cell? ⟨g, i, none⟩ = some (.int .i64 (Y.getD i 0)) := row_get AM.out LY.out i hin
        have a1 : wm.frozen? ⟨g, i, none⟩ = false := AM.out.frozenAt i
        have WS : Hid (∀ m, Below w4.heap.size w4 ((wm.setCell ⟨g, i, none⟩ (.int .i64 (Y.getD i 0 + by'))).drewN m) ∧ ((wm.setCell ⟨g, i, none⟩ (.int .i64 (Y.getD i 0 + by'))).drewN m).ownsRow w4.heap.size 2 1 (.slice (some ⟨g, 0, none⟩) nn c) nn (ints Y2) ∧ Bl ((wm.setCell ⟨g, i, none⟩ (.int .i64 (Y.getD i 0 + by'))).drewN m) mb 48 #[.int .i64 (i : Int), .int .i64 by', .int .i64 cn']) := fun m => by
          have q : (wm.setCell ⟨g, i, none⟩ (.int .i64 (Y.getD i 0 + by'))).ownsRow w4.heap.size 2 1 (.slice (some ⟨g, 0, none⟩) nn c) nn (ints Y2) := by rw [HM.out]; exact row_put AM.out i _
          have q2 : Bl (wm.setCell ⟨g, i, none⟩ (.int .i64 (Y.getD i 0 + by'))) mb 48 #[.int .i64 (i : Int), .int .i64 by', .int .i64 cn'] := MB.out.kv (S := fun k => k = g) (kv_set wm g i _) (by omega)
          exact ⟨Po.below_drewN (BM.out.setCell (p := ⟨g, i, none⟩) GG.out _) m, Mo.row_below q (Po.below_drewN (Below.refl _ _) m), q2.on (Po.below_drewN (Below.refl _ _) m)⟩
        generalize Y.getD i 0 = y at *
        clear MB AM BM
        go_upto_region 18 with fail
        go_region
        all_goals
          obtain ⟨wz', hwz⟩ : ∃ x, x = (wm.setCell ⟨g, i, none⟩ (.int .i64 (y + by'))).drew := ⟨_, rfl⟩
          have HWZ : Hid (wz' = (wm.setCell ⟨g, i, none⟩ (.int .i64 (y + by'))).drew) := hwz
          have Q := WS.out 1
          rw [show (wm.setCell ⟨g, i, none⟩ (.int .i64 (y + by'))).drewN 1 = wz' by rw [hwz]; rfl] at Q
          obtain ⟨Q1, Q2, Q3⟩ := Q
          have BZ : Hid (Below w4.heap.size w4 wz') := Q1
          have AZ : Hid (wz'.ownsRow w4.heap.size 2 1 (.slice (some ⟨g, 0, none⟩) nn c) nn (ints Y2)) := Q2
          have MZ : Hid (Bl wz' mb 48 #[.int .i64 (i : Int), .int .i64 by', .int .i64 cn']) := Q3
          clear Q1 Q2 Q3 hwz
          go_upto_region 19 with fail
          rw [← HWZ.out]
          clear HWZ WS k0 k1 k2 k3 k4 m0 m1 m2 a0 a1
          obtain ⟨⟨k0, k1, k2, k3⟩, k4⟩ := HK.out wz' (H4.out wz' BZ.out)
          have m2 : wz'.cell? ⟨mb, 2, none⟩ = some (.int .i64 cn') := by rw [MZ.out.cell]; rfl
          have m4 := MZ.out.lt
          have BD : Hid (Below w4.heap.size w4 wz'.drew) := Po.below_drewN BZ.out 1
          have AD : Hid (wz'.drew.ownsRow w4.heap.size 2 1 (.slice (some ⟨g, 0, none⟩) nn c) nn (ints Y2)) := Mo.row_below AZ.out (Po.below_drewN (Below.refl _ _) 1)
          have MD : Hid (Bl wz'.drew mb 48 #[.int .i64 (i : Int), .int .i64 by', .int .i64 cn']) := MZ.out.on (Po.below_drewN (Below.refl _ _) 1)
          have N1 : Hid (∀ w', Below w4.heap.size w4 w' → w'.ownsRow w4.heap.size 2 1 (.slice (some ⟨g, 0, none⟩) nn c) nn (ints Y2) → Calls Try.prog 20 #[Pb.pv nn (.slice sg ng cg) (.slice st' nt ct) (.slice sr nr cr), .slice (some ⟨g, 0, none⟩) nn c] w' fun e w'' => e = .returned (.int .i64 cn') ∧ Below w'.heap.size w' w'') := fun w' h ha => by have := IC.out w' Y2 _ (H4.out w' h) WR.out (RD.out w' Y2 LY2.out ha); rw [HCE.out] at this; exact this
          have N2 : Hid (∀ w', Below w4.heap.size w4 w' → w'.ownsRow w4.heap.size 2 1 (.slice (some ⟨g, 0, none⟩) nn c) nn (ints Y2) → Calls Try.prog 19 #[Pb.pv nn (.slice sg ng cg) (.slice st' nt ct) (.slice sr nr cr), .slice (some ⟨g, 0, none⟩) nn c] w' fun e w'' => e = .returned (.int .i64 cn') ∧ Below w'.heap.size w' w'') := fun w' h ha => by have := SC.out w' Y2 _ (H4.out w' h) WR.out (RD.out w' Y2 LY2.out ha); rw [HCE.out] at this; exact this
          have ncc : (cn' != cn') = false := by simp
          have ncj : ¬ cj ≤ cn' := by omega
          go_region_held3 (fun w' => w'.cell? ⟨pb, 0, none⟩ = some (.int .i64 (nn : Int)) ∧ w'.cell? ⟨pb, 1, none⟩ = some (.slice sg ng cg) ∧ w'.cell? ⟨pb, 2, none⟩ = some (.slice st' nt ct) ∧ w'.cell? ⟨pb, 3, none⟩ = some (.slice sr nr cr) ∧ w'.cell? ⟨mb, 2, none⟩ = some (.int .i64 cn')) (go_keep)
            (first
            | (go_at_call 20; refine (N1.out _ BD.out AD.out).mono ?_; rintro e w7 ⟨rfl, b⟩; have B7 : Hid (Below w4.heap.size w4 w7) := BD.out.trans (b.mono BD.out.size); have A7 : Hid (w7.ownsRow w4.heap.size 2 1 (.slice (some ⟨g, 0, none⟩) nn c) nn (ints Y2)) := Mo.row_below AD.out b; have M7 : Hid (Bl w7 mb 48 #[.int .i64 (i : Int), .int .i64 by', .int .i64 cn']) := MD.out.on b; clear b; obtain ⟨⟨f0, f1, f2, f3⟩, f4⟩ := HK.out w7 (H4.out w7 B7.out); have f5 : w7.cell? ⟨mb, 2, none⟩ = some (.int .i64 cn') := (by rw [M7.out.cell]; rfl))
            | (go_at_call 19; refine (N2.out _ B7.out A7.out).mono ?_; rintro e w8 ⟨rfl, b⟩; have B8 : Hid (Below w4.heap.size w4 w8) := B7.out.trans (b.mono B7.out.size); have A8 : Hid (w8.ownsRow w4.heap.size 2 1 (.slice (some ⟨g, 0, none⟩) nn c) nn (ints Y2)) := Mo.row_below A7.out b; have M8 : Hid (Bl w8 mb 48 #[.int .i64 (i : Int), .int .i64 by', .int .i64 cn']) := M7.out.on b; clear b; obtain ⟨⟨h0, h1, h2, h3⟩, h4⟩ := HK.out w8 (H4.out w8 B8.out); have h5 : w8.cell? ⟨mb, 2, none⟩ = some (.int .i64 cn') := (by rw [M8.out.cell]; rfl)))
          clear k0 k1 k2 k3 k4 f0 f1 f2 f3 f4 h0 h1 h2 h3 h4 m2 f5
          go_wp2_with fail
          go_roundw
          case rel => exact ⟨j + 1, HLT.out, by go_num, by rw [HY2.out, HCE.out], by show World.ownsRow _ _ _ _ _ _ _; rw [HY2.out]; exact A8.out, B8⟩
          case measure => have := HLT.out; simp [intOf]; omega
      · have hjl : j = ll := by omega
        subst hjl
        have i2 : ¬ (j : Int) < (j : Int) := by omega
        have ER : Hid (rep X Lm j = sf.1) := (by have := HT.out.e; rw [EL.out, ← HLL.out] at this; exact this)
        have RA : Hid (Lists.Reads wr (.slice (some ⟨g, 0, none⟩) nn c) sf.1) := (by have := RD.out wr (rep X Lm j) (LR.out j (Nat.le_refl _)) A.out; rw [ER.out] at this; exact this)
        have BW : Hid (Below w2.heap.size w2 wr) := H4.out wr B.out
        clear SY IY SC IC W0 MV WN LR HT ER
        generalize cost G T R (rep X Lm j) nn = cj at *
        obtain ⟨⟨k0, k1, k2, k3⟩, k4⟩ := HK.out wr BW.out
        obtain ⟨sfx, hsfx⟩ : ∃ sfx, sf.1 = sfx := ⟨_, rfl⟩
        rw [hsfx] at RA CE
        clear hsfx
        have PRS : Hid (Rw.Reads w2 (.slice sr nr cr) R) := HRR.out
        obtain ⟨br, obr, us, hr1, hr2⟩ := r_cells PRS.out
        have RC : Hid (∀ w', Below w2.heap.size w2 w' → ∀ i, i < nr → w'.cell? ⟨br, obr + i * 3, none⟩ = some (us i) ∧ w'.cell? ⟨br, obr + i * 3 + 1, none⟩ = some (.int .i64 (Rw.cz R i 1)) ∧ w'.cell? ⟨br, obr + i * 3 + 2, none⟩ = some (.int .i64 (Rw.cz R i 2)) ∧ Lists.Reads w' (us i) (Rw.cl R i)) := fun w' h i hi => by
          obtain ⟨q0, q1, q2, q3⟩ := hr2 i (by rw [HNR.out]; exact hi)
          have bl := (hr1 (by rw [HNR.out]; omega)).1
          exact ⟨(h.cell (p := ⟨br, obr + i * 3, none⟩) bl).trans q0, (h.cell (p := ⟨br, obr + i * 3 + 1, none⟩) bl).trans q1, (h.cell (p := ⟨br, obr + i * 3 + 2, none⟩) bl).trans q2, q3.on h⟩
        have RF : Hid (0 < nr → sr = some ⟨br, obr, none⟩ ∧ br < w2.heap.size) := fun h => by
          obtain ⟨q0, c, q1⟩ := hr1 (by rw [HNR.out]; exact h)
          simp at q1
          exact ⟨q1.1, q0⟩
        clear hr1 hr2 PRS HRR
        go_upto_region 22 with fail
        go_cut [122] (fun v wx => v = .bool false ∧ Hid (Below w4.heap.size w4 wx))
        case first =>
          by_cases hmm : (j : Int) < most
          · have C7 : Hid (Calls Try.prog 21 #[Pb.pv nn (.slice sg ng cg) (.slice st' nt ct) (.slice sr nr cr), .slice (some ⟨g, 0, none⟩) nn c] wr fun e w'' => e = .returned (.bool true) ∧ Below wr.heap.size wr w'') := CE.out hmm wr _ BW.out RA.out
            go_wp2_with fail
            refine (Calls.mono C7.out) ?_
            rintro e w7 ⟨rfl, hb⟩
            have B7 : Hid (Below w4.heap.size w4 w7) := B.out.trans (hb.mono B.out.size)
            clear hb
            go_wp2_with fail
            go_meet
            exact ⟨rfl, B7⟩
          · go_wp2_with fail
            go_meet
            exact ⟨rfl, B⟩
        case rest =>
          clear CE RA BW A B k0 k1 k2 k3 k4
          obtain ⟨rfl, B⟩ := hcut
          have zn : IntKind.i64.wrap ((nr : Int) - 1) = (nr : Int) - 1 := IntWalk.i64_in _ (by have := NR.out; have := HNR.out; omega)
          obtain ⟨⟨k0, k1, k2, k3⟩, k4⟩ := HK.out wc (H4.out wc B.out)
          obtain ⟨qb, hqb⟩ : ∃ y, y = wc.heap.size := ⟨_, rfl⟩
          have HQB : Hid (qb = wc.heap.size) := hqb
          obtain ⟨wq, hwq⟩ : ∃ y, y = (wc.alloc (.cells #[.int .i64 (nn : Int), .slice sg ng cg, .slice st' nt ct, .slice (some ⟨wc.heap.size + 1, 0, none⟩) 0 0] 32)).alloc (.cells #[] 51) := ⟨_, rfl⟩
          have HWQ : Hid (wq = (wc.alloc (.cells #[.int .i64 (nn : Int), .slice sg ng cg, .slice st' nt ct, .slice (some ⟨wc.heap.size + 1, 0, none⟩) 0 0] 32)).alloc (.cells #[] 51)) := hwq
          have HSR : Hid (Below wc.heap.size wc wq) := (by show Below _ _ _; rw [hwq]; exact ((Below.refl _ _).alloc (Nat.le_refl _) _).alloc (by simp) _)
          have BXQ : Hid (Bl wq qb 32 #[.int .i64 (nn : Int), .slice sg ng cg, .slice st' nt ct, .slice (some ⟨qb + 1, 0, none⟩) 0 0]) := (by
            show Bl _ _ _ _
            rw [hwq, hqb]
            exact (Bl.new wc 32 _).on ((Below.refl _ _).alloc (Nat.le_refl _) _))
          have RVQ : Hid (RV wq (qb + 1) (.slice (some ⟨qb + 1, 0, none⟩) 0 0) R us 0) := ⟨[], (by
            have e : qb + 1 = (wc.alloc (.cells #[.int .i64 (nn : Int), .slice sg ng cg, .slice st' nt ct, .slice (some ⟨wc.heap.size + 1, 0, none⟩) 0 0] 32)).heap.size := by rw [hqb]; simp
            rw [hwq, e]
            exact World.ownsRow_lit _ #[] 0 (Nat.le_refl _) (Nat.zero_le _) rfl), fun i hi => by omega⟩
          have BQ : Hid (Below w4.heap.size w4 wq) := B.out.trans (HSR.out.mono B.out.size)
          have PQ : Hid (pb < qb) := (by have := (HK.out wc (H4.out wc B.out)).2; show pb < qb; omega)
          have LO : Hid (w4.heap.size ≤ qb) := (by have := B.out.size; show _ ≤ qb; omega)
          have k5 : ¬ pb = wc.heap.size := by omega
          have FR : Hid (IntKind.i64.wrap ((nr : Int) - 1) = (nr : Int) - 1) := zn
          clear hwq HSR
          go_upto_region 26 with fail
          rw [← HWQ.out, ← HQB.out]
          clear HWQ HQB k0 k1 k2 k3 k4 k5 hqb
          obtain ⟨⟨k0, k1, k2, k3⟩, k4⟩ := HK.out wq (H4.out wq BQ.out)
          go_wp2_with fail
          clear k0 k1 k2 k3 k4
          go_loopw [15] (fun i wr => ∃ (k : Nat) (v : Value), k ≤ nr ∧ i = .int .i64 ((nr : Int) - 1 - (k : Int)) ∧ Hid (Bl wr qb 32 #[.int .i64 (nn : Int), .slice sg ng cg, .slice st' nt ct, v]) ∧ Hid (RV wr (qb + 1) v R us k) ∧ Hid (Below w4.heap.size w4 wr)) (fun i _ => (intOf i + 1).toNat)
          case atStart => exact ⟨0, _, Nat.zero_le _, by congr 1; omega, BXQ, RVQ, BQ⟩
          case round =>
            clear BXQ RVQ BQ zn
            obtain ⟨k, v, hk, rfl, BX, RV', BR⟩ := hrel
            by_cases hlt : k < nr
            · obtain ⟨m, hm⟩ : ∃ m : Nat, (nr : Int) - 1 - (k : Int) = (m : Int) := ⟨nr - 1 - k, by omega⟩
              have HMM : Hid (m = nr - 1 - k ∧ k < nr) := ⟨by omega, hlt⟩
              have i1 : (0 : Int) ≤ (m : Int) := by omega
              have i2 : (m : Int) < (nr : Int) := by omega
              have i3 : m < nr := by omega
              have nb := NR.out
              have hnr := HNR.out
              have m20 : m ≤ 20 := by omega
              have wm1 : IntKind.i64.wrap ((m : Int) - 1) = (m : Int) - 1 := IntWalk.i64_in _ (by omega)
              obtain ⟨hsr, hbr⟩ := RF.out (by omega)
              subst hsr
              obtain ⟨c0', c1', c2', hus⟩ := RC.out wr (H4.out wr BR.out) m i3
              obtain ⟨ua, uc, hu'⟩ := hus.form
              obtain ⟨ul, hul⟩ : ∃ ul, (Rw.cl R m).length = ul := ⟨_, rfl⟩
              rw [hul] at hu'
              have HU : Hid (us m = .slice ua ul uc) := hu'
              rw [hu'] at c0'
              obtain ⟨y, hy⟩ : ∃ y, Rw.cz R m 1 = y := ⟨_, rfl⟩
              obtain ⟨z, hz⟩ : ∃ z, Rw.cz R m 2 = z := ⟨_, rfl⟩
              have HYZ : Hid (Rw.cz R m 1 = y ∧ Rw.cz R m 2 = z) := ⟨hy, hz⟩
              rw [hy] at c1'
              rw [hz] at c2'
              obtain ⟨xs, x1, x2⟩ := RV'.out
              obtain ⟨ra, rc, hv⟩ := row_form x1
              subst hv
              have X1 : Hid (wr.ownsRow (qb + 1) 51 3 (.slice ra k rc) k xs) := x1
              have X2 : Hid (∀ i, i < k → xs[i * 3]? = some (us (R.length - 1 - i)) ∧ xs[i * 3 + 1]? = some (.int .i64 (Rw.cz R (R.length - 1 - i) 1)) ∧ xs[i * 3 + 2]? = some (.int .i64 (Rw.cz R (R.length - 1 - i) 2))) := x2
              have g3 : wr.cell? ⟨qb, 3, none⟩ = some (.slice ra k rc) := by rw [BX.out.cell]; rfl
              have gq := BX.out.lt
              obtain ⟨⟨k0, k1, k2, k3⟩, k4⟩ := HK.out wr (H4.out wr BR.out)
              have pq := PQ.out
              have z2 := (H4.out wr BR.out).size
              have HXA : Hid (∀ o, (wr.alloc o).drew.ownsRow (qb + 1) 51 3 (.slice ra k rc) k xs) := fun o => Mo.row_below (Mo.row_below x1 ((Below.refl _ _).alloc (Nat.le_refl _) o)) (Po.below_drewN (Below.refl _ _) 1)
              have HXN : Hid (∀ j u, [Value.slice ua ul uc, .int .i64 y, .int .i64 z][j]? = some u → (wr.alloc (Obj.cells #[.slice ua ul uc, .int .i64 y, .int .i64 z] 51)).drew.cell? ((⟨wr.heap.size, 0, none⟩ : Addr).add j) = some u) := fun j u hj => by have := cell_three wr (.slice ua ul uc) (.int .i64 y) (.int .i64 z) 51 j u hj; exact this
              have HAP : Hid (∀ (g5 c5 : Nat) (w5 : World), (wr.alloc (Obj.cells #[.slice ua ul uc, .int .i64 y, .int .i64 z] 51)).drew.grownBy w5 (Value.slice ra k rc).ownBlock → w5.ownsRow (qb + 1) 51 3 (.slice (some ⟨g5, 0, none⟩) (k + 1) c5) (k + 1) (xs ++ [.slice ua ul uc, .int .i64 y, .int .i64 z]) → (w5.cell? ⟨qb, 3, none⟩ = some (.slice ra k rc) ∧ w5.frozen? ⟨qb, 3, none⟩ = false) ∧ Bl (w5.setCell ⟨qb, 3, none⟩ (.slice (some ⟨g5, 0, none⟩) (k + 1) c5)) qb 32 #[.int .i64 (nn : Int), .slice sg ng cg, .slice st' nt ct, .slice (some ⟨g5, 0, none⟩) (k + 1) c5] ∧ RV (w5.setCell ⟨qb, 3, none⟩ (.slice (some ⟨g5, 0, none⟩) (k + 1) c5)) (qb + 1) (.slice (some ⟨g5, 0, none⟩) (k + 1) c5) R us (k + 1) ∧ Below w4.heap.size w4 (w5.setCell ⟨qb, 3, none⟩ (.slice (some ⟨g5, 0, none⟩) (k + 1) c5))) := fun g5 c5 w5 hg ho => by
                have b1 : Below wr.heap.size wr (wr.alloc (Obj.cells #[.slice ua ul uc, .int .i64 y, .int .i64 z] 51)).drew := ((Below.refl _ _).alloc (Nat.le_refl _) _).drew
                have lg : ∀ b, (Value.slice ra k rc).ownBlock = some b → qb + 1 ≤ b := fun b hb => (x1.lt b hb).1
                have kg : KV (fun b => (Value.slice ra k rc).ownBlock = some b) _ w5 := KV.of_grown hg (fun b hb => hb)
                have q5 := (BX.out.on b1).kv kg (fun x => by have := lg _ x; omega)
                have e1 : Rw.cz R (R.length - 1 - k) 1 = y ∧ Rw.cz R (R.length - 1 - k) 2 = z ∧ us (R.length - 1 - k) = .slice ua ul uc := by
                  rw [show R.length - 1 - k = m by have := HMM.out; omega]
                  exact ⟨HYZ.out.1, HYZ.out.2, HU.out⟩
                have rv5 : RV w5 (qb + 1) (.slice (some ⟨g5, 0, none⟩) (k + 1) c5) R us (k + 1) := RV.snoc X1.out.1 X2.out (by rw [e1.1, e1.2.1, e1.2.2]; exact ho)
                refine ⟨⟨by rw [q5.cell]; rfl, q5.fz 3⟩, q5.set 3 _, ?_, ?_⟩
                · obtain ⟨ys, r1, r2⟩ := rv5
                  exact ⟨ys, Mk.row_off r1 qb 3 _ (fun x => by have := (r1.lt qb x).1; omega), r2⟩
                · exact ((BR.out.trans (b1.mono BR.out.size)).grown hg (by have := BR.out.size; have := b1.size; omega) (fun b hb => by have := lg b hb; have := LO.out; omega)).setCell (p := ⟨qb, 3, none⟩) LO.out _
              rw [hm]
              have HMI : Hid ((nr : Int) - 1 - ((k + 1 : Nat) : Int) = (m : Int) - 1) := (by show _ = _; omega)
              have MEAS : Hid (((m : Int) - 1 + 1).toNat < ((m : Int) + 1).toNat) := (by show _ < _; omega)
              have HK1 : Hid (k + 1 ≤ nr) := hlt
              clear x1 x2 RV' BX hus hu' hul hy hz hm hnr
              go_upto_region 29 with fail
              go_region_law (refine step_append_lies _ (by rfl) _ _ 30 (by rfl) (qb + 1) 51 t0 (.agg #[.slice none 0 0, .int .i64 0, .int .i64 0]) 3 40 Try.underlying30 ht tz0 tz1 tz2 rfl (by decide) _ _ _ (by rfl) (HXA.out _) ⟨wr.heap.size, 0, none⟩ 1 1 [.slice ua ul uc, .int .i64 y, .int .i64 z] (by rfl) rfl (HXN.out) (by intro u hu; simp at hu; rcases hu with rfl | rfl | rfl <;> rfl) (by decide) (by unfold maxLen; omega) (by omega) (by simp; omega) (wr.heap.size + 1) (by simp) ?_; intro g5 c5 w5 hown hgrow hat hlt5; obtain ⟨⟨d1, d2⟩, T1, T2, T3⟩ := HAP.out _ _ _ hgrow hown; have T5 : Hid (Bl (w5.setCell ⟨qb, 3, none⟩ (.slice (some ⟨g5, 0, none⟩) (k + 1) c5)) qb 32 #[.int .i64 (nn : Int), .slice sg ng cg, .slice st' nt ct, .slice (some ⟨g5, 0, none⟩) (k + 1) c5] ∧ RV (w5.setCell ⟨qb, 3, none⟩ (.slice (some ⟨g5, 0, none⟩) (k + 1) c5)) (qb + 1) (.slice (some ⟨g5, 0, none⟩) (k + 1) c5) R us (k + 1) ∧ Below w4.heap.size w4 (w5.setCell ⟨qb, 3, none⟩ (.slice (some ⟨g5, 0, none⟩) (k + 1) c5))) := ⟨T1, T2, T3⟩; clear T1 T2 T3)
              all_goals
                clear hown hgrow hat hlt5 k0 k1 k2 k3 c0' c1' c2' g3
                go_wp2_with fail
                go_roundw
                case rel => exact ⟨k + 1, _, HK1.out, by rw [HMI.out], T5.out.1, T5.out.2.1, T5.out.2.2⟩
                case measure => exact MEAS.out
            · have hkn : k = nr := by omega
              subst hkn
              have i2 : ¬ (0 : Int) ≤ (k : Int) - 1 - (k : Int) := by omega
              have QR' : Hid (Rw.Reads wr v R.reverse) := RV.reads (by rw [HNR.out]; exact RV'.out) (fun i hi => (RC.out wr (H4.out wr BR.out) i (by rw [← HNR.out]; exact hi)).2.2.2)
              obtain ⟨ra, rc, hv⟩ := QR'.out.form
              rw [List.length_reverse, HNR.out] at hv
              subst hv
              have g0 : wr.cell? ⟨qb, 0, none⟩ = some (.int .i64 (nn : Int)) := by rw [BX.out.cell]; rfl
              have g1' : wr.cell? ⟨qb, 1, none⟩ = some (.slice sg ng cg) := by rw [BX.out.cell]; rfl
              have g2' : wr.cell? ⟨qb, 2, none⟩ = some (.slice st' nt ct) := by rw [BX.out.cell]; rfl
              have g3 : wr.cell? ⟨qb, 3, none⟩ = some (.slice ra k rc) := by rw [BX.out.cell]; rfl
              have C9 : Hid (Calls Try.prog 9 #[Pb.pv nn (.slice sg ng cg) (.slice st' nt ct) (.slice ra k rc), .slice (some ⟨bx, ox, none⟩) nn cx, .int .i64 most] wr fun e w'' => ∃ v, e = .returned (.tuple #[v, .bool true]) ∧ Mo.Row w'' wr.heap.size v Lm ∧ Below wr.heap.size wr w'') := IR.out wr _ (H4.out wr BR.out) QR'.out
              go_wp2_with fail
              refine (Calls.mono C9.out) ?_
              rintro e w7 ⟨vt, rfl, hr, hb⟩
              have B7 : Hid (Below w4.heap.size w4 w7) := BR.out.trans (hb.mono BR.out.size)
              obtain ⟨ta, tc, rfl⟩ := hr.form
              obtain ⟨bt, ot, ht1, ht2⟩ := m_cells hr.reads
              have TC : Hid (∀ w', Below w7.heap.size w7 w' → ∀ i, i < j → Mo.Cs w' bt ot Lm i) := fun w' h i hi => (ht2 i (by rw [← HLL.out]; exact hi)).below h (ht1 (by rw [← HLL.out]; omega)).1
              have TF : Hid (0 < j → ta = some ⟨bt, ot, none⟩) := fun h => by obtain ⟨_, c, e⟩ := ht1 (by rw [← HLL.out]; exact h); simp at e; exact e.1
              rw [← HLL.out]
              have hneq : ∀ (a b c : Int) (w : World), (binOp .neq 48 (.agg #[.int .i64 a, .int .i64 b, .int .i64 c]) (.agg #[.int .i64 a, .int .i64 b, .int .i64 c])).run Try.prog w = .ok (.bool false) w := neq48
              clear hb hr ht1 ht2 g0 g1' g2' g3 i2
              go_wp2_with fail
              go_loopw [18] (fun i wr => ∃ q : Nat, q ≤ j ∧ i = .int .i64 q ∧ Hid (Below w7.heap.size w7 wr)) (fun i _ => j - (intOf i).toNat)
              case atStart => exact ⟨0, Nat.zero_le _, rfl, Below.refl _ _⟩
              case round =>
                obtain ⟨q, hq, rfl, BZ⟩ := hrel
                obtain ⟨wr', hwr'⟩ : ∃ x : World, x = wr := ⟨_, rfl⟩
                subst hwr'
                by_cases hlt : q < j
                · have HLT : Hid (q < j) := hlt
                  have jb : q ≤ 500 := by have := NL.out; omega
                  have i1 : (0 : Int) ≤ (q : Int) := by omega
                  have i2 : (q : Int) < (j : Int) := by omega
                  have tf := TF.out (by omega)
                  have mf := MF.out (by omega)
                  subst tf mf
                  have m := MC.out wr' (B7.out.trans (BZ.out.mono B7.out.size)) q hlt
                  have t := TC.out wr' BZ.out q hlt
                  unfold Mo.Cs at m t
                  generalize Mo.c0 Lm q = x0 at *
                  generalize Mo.c1 Lm q = x1 at *
                  generalize Mo.c2 Lm q = x2 at *
                  obtain ⟨m0, m1, m2⟩ := m
                  obtain ⟨t0', t1', t2'⟩ := t
                  have hn := hneq x0 x1 x2
                  clear hneq
                  go_upto_region 36 with fail
                  go_region
                  all_goals
                    have BY : Hid (Below w7.heap.size w7 wr'.drew) := Po.below_drewN BZ.out 1
                    go_wp2_with fail
                    go_roundw
                    case rel => exact ⟨q + 1, HLT.out, by go_num, BY⟩
                    case measure => have := HLT.out; simp [intOf]; omega
                · have BE : Hid (Below w.heap.size w wr') := HB.out wr' (H4.out wr' (B7.out.trans (BZ.out.mono B7.out.size)))
                  have i2 : ¬ (q : Int) < (j : Int) := by omega
                  go_wp2_with fail
                  go_ret
                  exact ⟨rfl, BE.out⟩
end Go.Proofs.Ytaakiemmodncpaa.Dg
