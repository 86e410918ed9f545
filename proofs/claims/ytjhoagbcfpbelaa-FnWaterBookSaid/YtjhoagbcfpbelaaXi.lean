/- FnWaterBook: the law, walked. -/
import Derived.Test.YtjhoagbcfpbelaaXh
namespace Go.Proofs.Ytjhoagbcfpbelaa.Xa
open Go.ChangeShapes Go.WideShapes Go.ChangeAt Go.RowKit
open Go.Proofs.Ytjhoagbcfpbelaa.Lists Go.Proofs.Ytjhoagbcfpbelaa.Gd Go.Proofs.Ytjhoagbcfpbelaa.Rd
open Go.Proofs.Ytjhoagbcfpbelaa.Fs (sm wat wat_iff sm_bd sm_succ)

theorem RX.row {A base : Nat} {wx : World} {v : Value} {L : List Int} (h : wx.ownsRow base 2 1 v L.length (ints L)) (hA : A < base) : RX A wx v L := ⟨Lists.reads_row h, fun g o l c e _ x => by subst e; have := (h.lt g rfl).1; omega⟩
theorem zeros_dry (n : Nat) : Ct.zeros n = Wp.dry n := by unfold Ct.zeros Wp.dry; simp [List.map_const']
set_option maxRecDepth 20000 in
set_option maxHeartbeats 2000000 in
theorem law_yes (ca : Option Addr) (cn cc : Nat) (da : Option Addr) (dn dc : Nat) (w : World) (hc : Rd.Code w ca cn cc) (hn : cn ≤ 1048576) (hd : dn ≤ 1048576) :
    Calls Try.prog 3 #[.slice ca cn cc, .slice da dn dc] w fun e w' => e = .returned (.bool true) ∧ Below w.heap.size w w' := by
  have CF := flow_draw ca cn cc w hc hn
  obtain ⟨q, hq12, hqb⟩ : ∃ q : Nat, (dn : Int).tmod 12 = (q : Int) ∧ q ≤ 12 := ⟨dn % 12, by rw [Int.tmod_eq_emod_of_nonneg (by omega)]; omega, by omega⟩
  go_enter Try.func3, Try.ntmps3
  go_wp2_with fail
  refine (big_no ca cn cc w hn).mono ?_
  rintro e wz ⟨rfl, rfl⟩
  go_wp2_with fail
  refine (big_no da dn dc wz hd).mono ?_
  rintro e w ⟨rfl, hww⟩
  subst hww
  go_wp2_with fail
  refine CF.mono ?_
  rintro e w1 ⟨v1, v2, v3, N, W, R, o, z, rfl, r1, r2, r3, l1, l2, l3, hb⟩
  obtain ⟨a1, c1, rfl⟩ := r1.form
  obtain ⟨a2, c2, rfl⟩ := r2.form
  obtain ⟨a3, c3, rfl⟩ := r3.form
  have RX1 : Hid (∀ X, Below w1.heap.size w1 X → Lists.Reads X (.slice a1 N.length c1) N ∧ Lists.Reads X (.slice a2 W.length c2) W ∧ Lists.Reads X (.slice a3 R.length c3) R) := fun X h => ⟨r1.on h, r2.on h, r3.on h⟩
  obtain ⟨s, hs⟩ : ∃ s, s = Fs.stp N W o z R := ⟨_, rfl⟩
  have CS : Hid (∀ X, Below w1.heap.size w1 X → Calls Try.prog 6 #[.slice a1 N.length c1, Bk.sv o z (.slice a2 W.length c2), .slice a3 R.length c3] X fun e w' => ∃ u, e = .returned (.tuple #[Bk.sv (Fs.anO N W R o z) (Fs.anR N W R o z) u, .bool s]) ∧ w'.ownsRow X.heap.size 2 1 u (Fs.anL N W R o z).length (ints (Fs.anL N W R o z)) ∧ Below X.heap.size X w') := fun X h => (by
    rw [hs]; exact Fs.sflow_any N W R o z _ _ _ X (RX1.out X h).1 (RX1.out X h).2.1 (RX1.out X h).2.2 (by omega))
  have CI : Hid (∀ X, Below w1.heap.size w1 X → Calls Try.prog 7 #[.slice a1 N.length c1, Bk.sv o z (.slice a2 W.length c2), .slice a3 R.length c3] X fun e w' => ∃ u, e = .returned (.tuple #[Bk.sv (Fs.anO N W R o z) (Fs.anR N W R o z) u, .bool s]) ∧ w'.ownsRow X.heap.size 2 1 u (Fs.anL N W R o z).length (ints (Fs.anL N W R o z)) ∧ Below X.heap.size X w') := fun X h => (by
    rw [hs]; exact Fs.iflow_any N W R o z _ _ _ X (RX1.out X h).1 (RX1.out X h).2.1 (RX1.out X h).2.2 (by omega) (by omega) (by omega))
  have HS : Hid (s = Fs.stp N W o z R) := hs
  have HB : Hid (Below w.heap.size w w1) := hb
  have L1 : Hid (N.length ≤ 600 ∧ W.length ≤ 601 ∧ R.length ≤ 600) := ⟨l1, l2, l3⟩
  clear CF hs hb r1 r2 r3 l2 l3 hc hn hd
  obtain ⟨w2, hw2⟩ : ∃ w2, w2 = w1.alloc (Obj.cells #[.slice a2 W.length c2, .int .i64 o, .int .i64 z] 26) := ⟨_, rfl⟩
  have b12 : Below w1.heap.size w1 w2 := by rw [hw2]; exact (Below.refl _ _).alloc (Nat.le_refl _) _
  have X6 : Hid (Bk.Box w2 w1.heap.size (.slice a2 W.length c2) (.int .i64 o) (.int .i64 z)) := (by rw [hw2]; exact (box_of (World.alloc_heap_new w1 _)).1)
  have Z6 : w1.heap.size < w2.heap.size := by rw [hw2]; simp
  obtain ⟨g0, g1, g2⟩ := id X6.out
  have HW2 : Hid (w2 = w1.alloc (Obj.cells #[.slice a2 W.length c2, .int .i64 o, .int .i64 z] 26)) := hw2
  clear hw2
  go_upto_region 4 with fail
  rw [← HW2.out]
  go_wp2_with fail
  refine (CS.out w2 b12).mono ?_
  rintro e w3 ⟨u, rfl, hu, hb3⟩
  obtain ⟨ua, uc, rfl⟩ := Gd.row_form hu
  have X63 : Hid (Bk.Box w3 w1.heap.size (.slice a2 W.length c2) (.int .i64 o) (.int .i64 z)) := X6.out.on hb3 Z6
  have b13 : Below w1.heap.size w1 w3 := b12.trans (hb3.mono (by omega))
  have Z63 := hb3.size
  have Z63' : w1.heap.size ≤ w3.heap.size := by omega
  have nz : ¬ w1.heap.size = w3.heap.size := by omega
  have nzl : w1.heap.size < w3.heap.size := by omega
  clear hu X6 g0 g1 g2
  obtain ⟨g0, g1, g2⟩ := id X63.out
  have b14 : Below w1.heap.size w1 (w3.alloc (Obj.cells #[.slice ua (Fs.anL N W R o z).length uc, .int .i64 (Fs.anO N W R o z), .int .i64 (Fs.anR N W R o z)] 26)) := b13.trans ((Below.refl _ _).alloc (by omega) _)
  go_wp2_with fail
  refine (CI.out _ b14).mono ?_
  rintro e w5 ⟨x, rfl, hx, hb5⟩
  obtain ⟨xa, xc, rfl⟩ := Gd.row_form hx
  have b34 : Below w3.heap.size w3 (w3.alloc (Obj.cells #[.slice ua (Fs.anL N W R o z).length uc, .int .i64 (Fs.anO N W R o z), .int .i64 (Fs.anR N W R o z)] 26)) := (Below.refl _ _).alloc (Nat.le_refl _) _
  have b35 : Below w3.heap.size w3 w5 := b34.trans (hb5.mono b34.size)
  have b15 : Below w1.heap.size w1 w5 := b13.trans (b35.mono Z63')
  have X65 : Hid (Bk.Box w5 w1.heap.size (.slice a2 W.length c2) (.int .i64 o) (.int .i64 z)) := X63.out.on b35 (by omega)
  obtain ⟨w6, hw6⟩ : ∃ w6, w6 = w5.alloc (Obj.cells #[.slice xa (Fs.anL N W R o z).length xc, .int .i64 (Fs.anO N W R o z), .int .i64 (Fs.anR N W R o z)] 26) := ⟨_, rfl⟩
  have HW6 : Hid (w6 = w5.alloc (Obj.cells #[.slice xa (Fs.anL N W R o z).length xc, .int .i64 (Fs.anO N W R o z), .int .i64 (Fs.anR N W R o z)] 26)) := hw6
  have b56 : Below w5.heap.size w5 w6 := by rw [hw6]; exact (Below.refl _ _).alloc (Nat.le_refl _) _
  have s5 : w3.heap.size < w5.heap.size := by have := hb5.size; simp at this; omega
  have S6 : Hid (LW w w5.heap.size w1.heap.size (.slice a1 N.length c1) (.slice xa (Fs.anL N W R o z).length xc) (.slice none 0 0) (.slice a3 R.length c3) (.slice a2 W.length c2) N (Fs.anL N W R o z) [] R (Fs.anO N W R o z) (Fs.anR N W R o z) o z w6) := (by
    have nw := box_of (World.alloc_heap_new w5 (Obj.cells #[.slice xa (Fs.anL N W R o z).length xc, .int .i64 (Fs.anO N W R o z), .int .i64 (Fs.anR N W R o z)] 26))
    have rr := RX1.out w5 b15
    have bw := HB.out
    have s1 := bw.size
    rw [← hw6] at nw
    refine ⟨(bw.trans (b15.mono s1)).trans (b56.mono (by omega)), nw.1, nw.2, X65.out.on b56 (by omega), (RX.of rr.1 (Nat.le_refl _)).on b56, (RX.of (Lists.reads_row hx) (Nat.le_refl _)).on b56, ⟨.inl ⟨rfl, _, _, rfl⟩, fun g o l c e _ => by cases e⟩, (RX.of rr.2.2 (Nat.le_refl _)).on b56, ⟨by omega, by rw [hw6]; simp, by omega⟩⟩)
  go_upto_region 6 with fail
  rw [← HW6.out]
  clear b12 b13 b14 b15 b34 b35 b56 hx hb5 hb3 HW6 hw6 X63 X65 RX1 CS CI g0 g1 g2 nz nzl HW2 Z63 Z63'
  generalize w5.heap.size = A at *
  clear s5 Z6
  generalize w1.heap.size = C at *
  obtain ⟨i0, hi, hz0, hz1, hz2⟩ := info_parts Lists.Try.info2
  have l1 : N.length ≤ 600 := L1.out.1
  cases s with
  | false =>
    go_wp2_with (at_make; refine wpList_make_full _ rfl _ _ 24 rfl w6.heap.size 2 i0 (.int .i64 0) 1 Try.underlying24 hi hz0 hz1 .i64 .i64 (N.length : Int) (N.length : Int) N.length rfl rfl rfl rfl (by rw [hz2]; omega) (by unfold maxLen; omega) (Nat.le_refl _) ?_; intro w7 hown hgrow)
    have B7 : Hid (Below w.heap.size w w7) := S6.out.bl.trans (((Below.refl _ _).grown hgrow (Nat.le_refl _) (fun k hk => by cases hk) : Below w6.heap.size w6 w7).mono S6.out.bl.size)
    clear hown hgrow S6
    go_loopw [13] (fun i wr => i = .int .i64 0 ∧ Hid (Below w.heap.size w wr)) (fun _ _ => 0)
    case atStart => exact ⟨rfl, B7⟩
    case round =>
      obtain ⟨rfl, B8⟩ := hrel
      by_cases h : (0 : Int) < (q : Int)
      · go_wp2_with fail
        go_ret
        exact ⟨rfl, B8.out⟩
      · go_wp2_with fail
        go_ret
        exact ⟨rfl, B8.out⟩
  | true =>
    have K := Fs.stp_ok.1 HS.out.symm
    have nx := Wp.Ok.next K
    have eL : Fs.anL N W R o z = (Fs.pfl N W R o N.length).1 := by unfold Fs.anL; rw [← HS.out]; rfl
    have eO : Fs.anO N W R o z = (Fs.pfl N W R o N.length).2 := by unfold Fs.anO; rw [← HS.out]; rfl
    have eR : Fs.anR N W R o z = z + sm R R.length := by unfold Fs.anR; rw [← HS.out]; rfl
    rw [← eL, ← eO, ← eR] at nx
    have BK0 : Hid (Wp.Bk N (Fs.anL N W R o z) (Fs.anO N W R o z) (Fs.anR N W R o z)) := nx.1
    have WR : Hid (wat R = true) := K.wr
    have ER : Hid (Fs.anR N W R o z = z + sm R R.length) := eR
    have ZB : Hid (0 ≤ z + sm R R.length ∧ z + sm R R.length ≤ 1000000000000 ∧ 0 ≤ z) := (by have h2 := K.h2; have := (sm_bd R ((wat_iff R).1 K.wr) R.length (Nat.le_refl _)).1; show _ ∧ _; omega)
    clear K nx eL eO eR HS
    generalize Fs.anL N W R o z = X0 at *
    generalize Fs.anO N W R o z = ox0 at *
    generalize Fs.anR N W R o z = zx at *
    go_wp2_with (at_make; refine wpList_make_full _ rfl _ _ 24 rfl w6.heap.size 2 i0 (.int .i64 0) 1 Try.underlying24 hi hz0 hz1 .i64 .i64 (N.length : Int) (N.length : Int) N.length rfl rfl rfl rfl (by rw [hz2]; omega) (by unfold maxLen; omega) (Nat.le_refl _) ?_; intro w7 hown hgrow)
    rw [Ct.zeros_made, zeros_dry] at hown
    have dl : (Wp.dry N.length).length = N.length := by simp [Wp.dry]
    have S7 : Hid (LW w A C (.slice a1 N.length c1) (.slice xa X0.length xc) (sl w6.heap.size N.length N.length) (.slice a3 R.length c3) (.slice a2 W.length c2) N X0 (Wp.dry N.length) R ox0 zx o z w7) := (by
      have G7 : Below w6.heap.size w6 w7 := (Below.refl _ _).grown hgrow (Nat.le_refl _) (fun k hk => by cases hk)
      have q := S6.out.up G7
      have l := S6.out.lt
      exact { q with rd := RX.row (base := w6.heap.size) (by rw [dl]; exact hown) (by omega) })
    generalize w6.heap.size = dg at *
    clear hown hgrow S6
    go_loopw [13] (fun i wr => ∃ (k : Nat) (xv : Value) (X : List Int) (ox : Int), k ≤ q ∧ i = .int .i64 k ∧ Hid (LW w A C (.slice a1 N.length c1) xv (sl dg N.length N.length) (.slice a3 R.length c3) (.slice a2 W.length c2) N X (Wp.dry N.length) R ox zx o z wr) ∧ Hid (Wp.Bk N X ox zx)) (fun i _ => q - (intOf i).toNat)
    case atStart => exact ⟨0, _, _, _, Nat.zero_le _, rfl, S7, BK0⟩
    case round =>
      clear S7 BK0
      obtain ⟨k, xv, X, ox, hk, rfl, S, BX⟩ := hrel
      obtain ⟨ya, yc, rfl⟩ := S.out.rx.1.form
      obtain ⟨b0, b1, b2⟩ := id S.out.bx
      have lA := S.out.lt
      by_cases hlt : k < q
      · have j1 : (k : Int) < (q : Int) := by omega
        obtain ⟨t1, t2, t3, t4⟩ := Bk_dry BX.out
        have CD := Fs.iflow_any N X (Wp.dry N.length) ox zx _ _ _ wr S.out.rn.1 S.out.rx.1 S.out.rd.1 (by omega) (by have := BX.out.lw; omega) (by omega)
        rw [t1, t3] at CD
        have T2 : Hid (Wp.Bk N (Fs.anL N X (Wp.dry N.length) ox zx) (Fs.anO N X (Wp.dry N.length) ox zx) zx) := t2
        have T4 : Hid (ox ≤ Fs.anO N X (Wp.dry N.length) ox zx) := t4
        clear t1 t2 t3 t4 BX
        generalize Fs.anL N X (Wp.dry N.length) ox zx = Y at *
        generalize Fs.anO N X (Wp.dry N.length) ox zx = oy at *
        go_wp2_with fail
        refine CD.mono ?_
        rintro e w8 ⟨yv, rfl, hy, hb8⟩
        obtain ⟨ea, ec, rfl⟩ := Gd.row_form hy
        have S8 : Hid (LW w A C (.slice a1 N.length c1) (.slice ya X.length yc) (sl dg N.length N.length) (.slice a3 R.length c3) (.slice a2 W.length c2) N X (Wp.dry N.length) R ox zx o z w8) := S.out.up hb8
        have Y8 : Hid (RX A w8 (.slice ea Y.length ec) Y) := RX.row hy (by omega)
        have l8 := S8.out.lt
        clear CD S hy hb8 b0 b1 b2
        have b89 : Below w8.heap.size w8 (w8.alloc (Obj.cells #[.slice ea Y.length ec, .int .i64 oy, .int .i64 zx] 26)) := (Below.refl _ _).alloc (Nat.le_refl _) _
        have S9 : Hid (LW w A C (.slice a1 N.length c1) (.slice ya X.length yc) (sl dg N.length N.length) (.slice a3 R.length c3) (.slice a2 W.length c2) N X (Wp.dry N.length) R ox zx o z (w8.alloc (Obj.cells #[.slice ea Y.length ec, .int .i64 oy, .int .i64 zx] 26))) := S8.out.up b89
        have Y9 : Hid (RX A (w8.alloc (Obj.cells #[.slice ea Y.length ec, .int .i64 oy, .int .i64 zx] 26)) (.slice ea Y.length ec) Y) := Y8.out.on b89
        have Z9 : Hid (Bk.Box (w8.alloc (Obj.cells #[.slice ea Y.length ec, .int .i64 oy, .int .i64 zx] 26)) w8.heap.size (.slice ea Y.length ec) (.int .i64 oy) (.int .i64 zx)) := (box_of (World.alloc_heap_new w8 _)).1
        obtain ⟨w9, hw9⟩ : ∃ w9, w9 = w8.alloc (Obj.cells #[.slice ea Y.length ec, .int .i64 oy, .int .i64 zx] 26) := ⟨_, rfl⟩
        go_upto_region 13 with fail
        rw [← hw9] at S9 Y9 Z9 ⊢
        clear hw9 b89 S8 Y8
        obtain ⟨b0, b1, b2⟩ := id S9.out.bx
        obtain ⟨y0, y1, y2⟩ := id Z9.out
        have f0 := S9.out.fz 0
        have f1 := S9.out.fz 1
        have f2 := S9.out.fz 2
        have S10 : Hid (LW w A C (.slice a1 N.length c1) (.slice ea Y.length ec) (sl dg N.length N.length) (.slice a3 R.length c3) (.slice a2 W.length c2) N Y (Wp.dry N.length) R oy zx o z (put3 w9 A (.slice ea Y.length ec) (.int .i64 oy) (.int .i64 zx))) := S9.out.put Y9.out
        have d2' : ox ≤ oy := T4.out
        have d1 : decide (oy < ox) = false := by simp; omega
        have d2 : ¬ oy < ox := by omega
        generalize w8.heap.size = yb at *
        go_wp2_with fail
        go_roundw
        case rel => exact ⟨k + 1, _, _, _, by omega, by go_num, S10, T2⟩
        case measure => simp [intOf]; omega
      · have hkn : q = k := by omega
        subst hkn
        have jj : ¬ (q : Int) < (q : Int) := by omega
        have NN : Hid (∀ i, i < X.length → 0 ≤ X.getD i 0) := (by have h := BX.out; show ∀ i, _; rw [h.lw]; exact h.nn)
        have LX : Hid (X.length = N.length) := BX.out.lw
        have lX : X.length ≤ 600 := by have := BX.out.lw; omega
        go_wp2_with fail
        go_loopw [16] (fun i wx => ∃ c : Nat, c ≤ X.length ∧ i = .int .i64 c ∧ wx = wr) (fun i _ => X.length - (intOf i).toNat)
        case atStart => exact ⟨0, Nat.zero_le _, rfl, rfl⟩
        case round =>
          obtain ⟨c, hc, rfl, hwx⟩ := hrel
          subst hwx
          by_cases hlt2 : c < X.length
          · have j2 : (c : Int) < (X.length : Int) := by omega
            have j3 : (0 : Int) ≤ (c : Int) := by omega
            obtain ⟨xb, xo, hxa, hx0⟩ := Fs.reads_at S.out.rx.1 rfl c hlt2
            subst hxa
            have nn := NN.out c hlt2
            have nn2 : ¬ X.getD c 0 < 0 := by omega
            generalize X.getD c 0 = x0 at *
            go_wp2_with fail
            go_roundw
            case rel => exact ⟨c + 1, by omega, by go_num, trivial⟩
            case measure => simp [intOf]; omega
          · have hcn : X.length = c := by omega
            have jj2 : ¬ (c : Int) < (X.length : Int) := by omega
            obtain ⟨k0, k1, k2⟩ := id S.out.cx
            have lr : R.length ≤ 1048576 := by have := L1.out; omega
            have lx : X.length ≤ 1048576 := by have := LX.out; omega
            have es : sm X X.length + ox = zx := by rw [Wp.sm_all]; exact BX.out.s
            have ww := Bk_wat BX.out
            have sb := sm_bd X ((wat_iff X).1 ww) X.length (Nat.le_refl _)
            have e1 : IntKind.i64.wrap (sm X X.length + ox) = zx := by rw [es]; have := ZB.out; have := ER.out; exact IntWalk.i64_in _ (by omega)
            clear es
            have e2 : IntKind.i64.wrap (z + sm R R.length) = zx := by rw [ER.out]; have := ZB.out; exact IntWalk.i64_in _ (by omega)
            have SX : ∀ m, Calls Try.prog 8 #[.slice ya X.length yc] (wr.drewN m) fun e w' => e = .returned (.int .i64 (sm X X.length)) ∧ w' = wr.drewN m := fun m => sum_any X _ _ (S.out.rx.1.on (Bx.below_drewN (Below.refl _ _) m)) lx ww
            have SR : ∀ m, Calls Try.prog 8 #[.slice a3 R.length c3] (wr.drewN m) fun e w' => e = .returned (.int .i64 (sm R R.length)) ∧ w' = wr.drewN m := fun m => sum_any R _ _ (S.out.rr.1.on (Bx.below_drewN (Below.refl _ _) m)) lr WR.out
            have BE : Hid (Below w.heap.size w wr) := S.out.bl
            have hX := LX.out
            clear LX NN lX hcn hlt2
            generalize X.length = xl at *
            subst hX
            go_upto_region 23 with fail
            go_quiet (first | (go_at_call_of 8 (Value.slice ya N.length yc); exact Calls.quiet_of_same (SX _)) | (go_at_call_of 8 (Value.slice a3 R.length c3); exact Calls.quiet_of_same (SR _)))
            go_wp2_with fail
            exact bodyPost_ret (v := .bool true) (by simp [results, Try.results3, go_sem]) rfl ⟨rfl, Bx.below_drewN BE.out _⟩
end Go.Proofs.Ytjhoagbcfpbelaa.Xa
