/- Unwave of the model. -/
import Derived.Test.YtpokbicnogcijaaUo
import Derived.Deep.DeepCutAuto
namespace Go.Proofs.Ytpokbicnogcijaa.Lists
open Go.ChangeShapes Go.WideShapes Go.ChangeAt Go.RowKit

theorem cell_two (w : World) (v0 v1 : Value) (t : TypeId) : ∀ j u, [v0, v1][j]? = some u → (w.alloc (Obj.cells #[v0, v1] t)).cell? ((⟨w.heap.size, 0, none⟩ : Addr).add j) = some u := by
  intro j u hj
  match j, hj with
  | 0, hj => simp at hj; subst hj; simp [Addr.add, go_sem]
  | 1, hj => simp at hj; subst hj; simp [Addr.add, go_sem]
theorem ints_app (A B : List Int) : ints (A ++ B) = ints A ++ ints B := by simp [ints]

set_option maxRecDepth 20000 in
set_option maxHeartbeats 4000000 in
theorem sunwave_yes (w : World) (t : Nat) (g cap : Nat) (X : List Int) (hg : g < w.heap.size) (hc : X.length ≤ cap) (hcm : cap ≤ maxLen) (ht : 1 ≤ t ∧ t ≤ 12) (hs : sml 1152921504606846976 X = true) (K : ∀ i, i < X.length → w.cell? ⟨g, i, none⟩ = some (.int .i64 (X.getD i 0))) :
    Calls Try.prog 5 #[.slice (some ⟨g, 0, none⟩) X.length cap, .int .i64 (t : Int)] w fun e w' => IUo w X (t : Int) e w' := by
  obtain ⟨i2, hi, hz0, hz1, hz2⟩ := info_parts Try.info2
  obtain ⟨i3, hi3, hy0, hy1, hy2⟩ := info_parts Try.info3
  have R : Reads w (.slice (some ⟨g, 0, none⟩) X.length cap) X := .inr ⟨g, 0, cap, rfl, hc, hcm, hg, fun i hi => by rw [Nat.zero_add]; exact K i hi⟩
  have HI : Hid (Calls Try.prog 16 #[.slice (some ⟨g, 0, none⟩) X.length cap, .int .u64 60] w fun e w' => e = .returned (.bool true) ∧ w' = w) := (by have := ssml60_any w _ X R (by unfold maxLen at hcm; omega); rw [hs] at this; exact this)
  obtain ⟨sl, sb⟩ := sml_iff.1 hs
  have HO : Hid (okS (t : Int) = true) := (by show okS _ = true; unfold okS; simp; omega)
  have HW : Hid (Calls Try.prog 17 #[.int .i64 (t : Int), .int .i64 1, .int .i64 12] w fun e w' => e = .returned (.bool true) ∧ w' = w) := (by have := sin_any (t : Int) 1 12 w; rw [show (decide ((1 : Int) ≤ (t : Int)) && decide ((t : Int) ≤ 12)) = true from HO.out] at this; exact this)
  obtain ⟨n, hn⟩ : ∃ n, n = X.length := ⟨_, rfl⟩
  have HX : Hid (X.length = n) := hn.symm
  have GX : Hid (GZ n X) := ⟨hn.symm, fun i hi => sb i (by omega)⟩
  have C0 : Hid (∀ W, Below w.heap.size w W → ∀ i, i < n → W.cell? ⟨g, i, none⟩ = some (.int .i64 (X.getD i 0))) := fun W hW i hi => (hW.cell (p := ⟨g, i, none⟩) hg).trans (K i (by omega))
  have UR : Hid (ures X (t : Int) = un n t X) := (by show _ = _; unfold ures uok; rw [HO.out, hs, ← hn]; simp)
  rw [← hn] at sl HI hc ⊢
  clear K R hs sb hn
  unfold maxLen at hcm
  obtain ⟨ht1, ht2⟩ := ht
  go_enter Try.func5, Try.ntmps5
  go_wp2_with fail
  refine HI.out.mono ?_
  rintro e w1 ⟨rfl, hw⟩
  have hw' := hw.symm
  subst hw'
  go_wp2_with fail
  refine HW.out.mono ?_
  rintro e w1 ⟨rfl, hw⟩
  have hw' := hw.symm
  subst hw'
  have S0 : Hid ((w.alloc (Obj.cells #[] 3)).ownsRow w.heap.size 3 1 (.slice (some ⟨w.heap.size, 0, none⟩) 0 0) 0 (ints (fr 0 n))) := empty_row 3
  have B0 : Hid (Below w.heap.size w (w.alloc (Obj.cells #[] 3))) := (Below.refl _ _).alloc (Nat.le_refl _) _
  clear HI HW
  go_upto_region 5 with fail
  go_cut [8] from 28 to 43 (fun i wx => i = .int .i64 0 ∧ wx = w.alloc (Obj.cells #[] 3))
  case first =>
    go_wp2_with fail
    go_meet
    exact ⟨rfl, rfl⟩
  obtain ⟨rfl, rfl⟩ := hcut
  refine ‹∀ (a : Act) (w : World), Code.wp Try.prog _ _ a w → _› _ _ ?_
  go_cut [6, 7, 8] from 28 to 43 (fun v m _ wx => ∃ q : Nat, q ≤ t ∧ (q = t ∨ ft q n ≤ 1) ∧ (0 < q → 1 < n) ∧ m = .int .i64 (ft q n : Int) ∧ Hid (wx.ownsRow w.heap.size 3 1 v q (ints (fr q n))) ∧ Hid (Below w.heap.size w wx))
  case first =>
    go_wp2_with fail
    go_loopw [6, 7, 8] (fun v m i wr => ∃ k : Nat, k ≤ t ∧ (0 < k → 1 < n) ∧ m = .int .i64 (ft k n : Int) ∧ i = .int .i64 (k : Int) ∧ Hid (wr.ownsRow w.heap.size 3 1 v k (ints (fr k n))) ∧ Hid (Below w.heap.size w wr)) (fun _ _ i _ => t - (intOf i).toNat)
    case atStart => exact ⟨0, Nat.zero_le _, (fun h => absurd h (by omega)), rfl, rfl, S0, B0⟩
    case round =>
      clear S0 B0
      obtain ⟨k, hk, kn, rfl, rfl, O, BB⟩ := hrel
      obtain ⟨sa, sc, ev⟩ := row_form O.out
      obtain ⟨vv, hvv⟩ : ∃ vv, vv = u6 := ⟨_, rfl⟩
      subst hvv
      subst ev
      obtain ⟨f, hf⟩ : ∃ f, f = ft k n := ⟨_, rfl⟩
      have hfm : f ≤ 4096 := by have := ft_le k n; omega
      obtain ⟨f3, hf3⟩ : ∃ f3, f3 = f - f / 2 := ⟨_, rfl⟩
      have q1 : Int.tdiv ((f : Int) + 1) 2 = (f3 : Int) := by rw [Int.tdiv_eq_ediv_of_nonneg (by omega)]; omega
      have F3 : Hid (f3 = ft (k + 1) n) := (by show _ = _; rw [ft_succ, ← hf]; exact hf3)
      have FF : Hid (f = ft k n) := hf
      have h3 : f3 ≤ 4096 := by omega
      have fle : f ≤ n := by rw [hf]; exact ft_le k n
      rw [← hf]
      clear hf hf3
      by_cases hlt : k < t
      · have a1 : (k : Int) < (t : Int) := by omega
        by_cases h1 : 1 < f
        · have a2 : (1 : Int) < (f : Int) := by omega
          have hsz := BB.out.size
          go_wp2_with (at_builtin; refine wpList_append_own_at _ rfl _ _ 36 rfl w.heap.size 3 i3 (.int .i64 0) 1 8 Try.underlying36 hi3 hy0 hy1 hy2 rfl (by decide) _ _ _ rfl (O.out.alloc _) ⟨wr.heap.size, 0, none⟩ 1 1 [.int .i64 (f : Int)] rfl rfl (cell_one_new _ _ _) (by intro u hu; simp at hu; subst hu; rfl) (by unfold maxLen; omega) (by omega) (by simp; omega) ?_)
          intro v' w2 hown hgrow hnil hat
          have O2 : Hid (w2.ownsRow w.heap.size 3 1 v' (k + 1) (ints (fr (k + 1) n))) := (by show World.ownsRow _ _ _ _ _ _ _; rw [fr_snoc, ints_snoc, ← FF.out]; exact hown)
          have B2 : Hid (Below w.heap.size w w2) := (BB.out.alloc BB.out.size _).grown hgrow (by simp; omega) (fun b hb => (O.out.lt b hb).1)
          clear hown hgrow hnil hat O BB
          go_wp2_with fail
          go_roundw
          case rel => exact ⟨k + 1, by omega, (fun _ => by omega), (by rw [← F3.out]), by go_num, O2, B2⟩
          case measure => simp [intOf]; omega
        · have a2 : ¬ (1 : Int) < (f : Int) := by omega
          go_wp2_with fail
          go_meet
          exact ⟨k, hk, .inr (by rw [← FF.out]; omega), kn, by rw [FF.out], O, BB⟩
      · have a1 : ¬ (k : Int) < (t : Int) := by omega
        go_wp2_with fail
        go_meet
        exact ⟨k, hk, .inl (by omega), kn, by rw [FF.out], O, BB⟩
  case rest =>
    clear S0 B0
    obtain ⟨q, hq, hqt, qn, rfl, OS, BS⟩ := hcut
    obtain ⟨vv, hvv⟩ : ∃ vv, vv = u6 := ⟨_, rfl⟩
    subst hvv
    have US : Hid (ures X (t : Int) = un n q X) := (by
      show _ = _
      rw [UR.out]
      rcases hqt with e | e
      · rw [e]
      · exact un_skip GX.out sl t q hq e)
    clear hqt UR
    have gw : g < wc.heap.size := by have := BS.out.size; omega
    have HK : Hid (∀ j u, (ints X)[j]? = some u → (wc.alloc (.cells #[] 2)).cell? ((⟨g, 0, none⟩ : Addr).add j) = some u) := ints_at' HX.out fun i hi => by rw [World.cell?_alloc_lt _ _ _ gw]; exact C0.out wc BS.out i hi
    have ER : Hid ((wc.alloc (.cells #[] 2)).ownsRow wc.heap.size 2 1 (.slice (some ⟨wc.heap.size, 0, none⟩) 0 0) 0 []) := empty_row 2
    go_wp2_with (at_builtin; refine wpList_append_own_at _ rfl _ _ 22 rfl wc.heap.size 2 i2 (.int .i64 0) 1 8 Try.underlying22 hi hz0 hz1 hz2 rfl (by decide) _ _ _ rfl ER.out ⟨g, 0, none⟩ n cap (ints X) rfl (by rw [List.length_map, HX.out]; omega) HK.out (one_cell X) ?c3 ?c4 ?c5 ?_)
    case c3 => unfold maxLen; omega
    case c4 => omega
    case c5 => simp
    intro v' w2 hown hgrow hnil hat
    obtain ⟨g0, c0, rfl, q1, q2, q3, q4⟩ := row_some hown hnil
    have O1 : Hid (w2.ownsRow wc.heap.size 2 1 (.slice (some ⟨g0, 0, none⟩) n c0) n (ints X)) := hown
    have B1 : Hid (Below wc.heap.size wc w2) := ((Below.refl _ _).alloc (Nat.le_refl _) _).grown hgrow (by simp) (fun k hk => by simp [Value.ownBlock] at hk; omega)
    have B2 : Hid (Below w.heap.size w w2) := BS.out.trans (B1.out.mono BS.out.size)
    clear hown hgrow hnil hat HK ER
    obtain ⟨va, vc, ev⟩ := row_form OS.out
    subst ev
    have SZ : Hid (∀ W, Below wc.heap.size wc W → ∀ i, i < q → ∃ gs, va = some ⟨gs, 0, none⟩ ∧ W.cell? ⟨gs, i, none⟩ = some (.int .i64 (ft i n : Int))) := fun W hW i hi => by
      rcases OS.out.2 with ⟨h1, h2⟩ | ⟨gf, cap, cur, h1, h2, h3, h4, h5, h6⟩
      · omega
      · injection h1 with h1 _ h1c
        subst h1 h1c
        refine ⟨gf, rfl, (hW.cell (p := ⟨gf, i, none⟩) (OS.out.lt gf rfl).2).trans ?_⟩
        have := OS.out.cellAt i (by omega)
        rw [this]
        have hl : i < (fr q n).length := by rw [fr_len]; exact hi
        have e := fr_get q n i hi
        simp [List.getD_eq_getElem?_getD, List.getElem?_eq_getElem hl] at e
        simp [ints, List.getElem?_map, List.getElem?_eq_getElem hl, e]
    clear OS B2
    go_wp2_with fail
    go_loopw [7, 9, 10, 11, 12, 13, 14, 15] (fun _ vo si _ _ _ _ _ wr => ∃ (k go co : Nat) (Y : List Int), k ≤ q ∧ vo = .slice (some ⟨go, 0, none⟩) n co ∧ si = .int .i64 ((k : Int) - 1) ∧ Hid (wr.ownsRow wc.heap.size 2 1 (.slice (some ⟨go, 0, none⟩) n co) n (ints Y)) ∧ Hid (GZ n Y ∧ un n k Y = un n q X) ∧ Hid (Below wc.heap.size wc wr)) (fun _ _ si _ _ _ _ _ _ => (intOf si + 1).toNat)
    case atStart => exact ⟨q, g0, c0, X, Nat.le_refl _, rfl, by go_num, O1, (show GZ n X ∧ un n q X = un n q X from ⟨GX.out, rfl⟩), B1⟩
    case round =>
      clear O1 B1
      obtain ⟨k, go, co, Y, hk, rfl, rfl, O, UY, BB⟩ := hrel
      cases k with
      | zero =>
        have FN : Hid (IUo w X (t : Int) (.returned (.tuple #[.slice (some ⟨go, 0, none⟩) n co, .bool true])) wr) := (by
          show IUo _ _ _ _ _
          have e : ures X (t : Int) = some Y := by rw [US.out, ← UY.out.2]; rfl
          refine ⟨BS.out.trans (BB.out.mono BS.out.size), .slice (some ⟨go, 0, none⟩) n co, by rw [e]; rfl, ?_⟩
          rw [e]
          show wr.ownsRow _ _ _ _ Y.length (ints Y)
          rw [UY.out.1.1]
          exact row_low O.out BS.out.size)
        have j0 : ¬ (0 : Int) ≤ ((0 : Nat) : Int) - 1 := by omega
        clear O UY BB US SZ
        go_wp2_with fail
        go_ret2
        exact FN.out
      | succ k =>
        obtain ⟨wo, hwo⟩ : ∃ x, x = wr := ⟨_, rfl⟩
        subst hwo
        have e1 : (((k + 1 : Nat) : Int) - 1) = (k : Int) := by omega
        rw [e1]
        obtain ⟨gs, ev, sc⟩ := SZ.out wo BB.out k (by omega)
        subst ev
        obtain ⟨f, hf⟩ : ∃ f, f = ft k n := ⟨_, rfl⟩
        have hfn : f ≤ n := by rw [hf]; exact ft_le k n
        have FF : Hid (f = ft k n) := hf
        rw [← hf] at sc
        obtain ⟨p, hp⟩ : ∃ p, p = f / 2 := ⟨_, rfl⟩
        obtain ⟨h, hh⟩ : ∃ h, h = f - f / 2 := ⟨_, rfl⟩
        have q5 : Int.tdiv ((f : Int) + 1) 2 = (h : Int) := by rw [Int.tdiv_eq_ediv_of_nonneg (by omega)]; omega
        have q6 : Int.tdiv (f : Int) 2 = (p : Int) := by rw [hp]; rfl
        have PH : Hid (p = f / 2 ∧ h = f - f / 2) := ⟨hp, hh⟩
        have hph : p ≤ h ∧ p + h = f ∧ h ≤ p + 1 := by omega
        have j0 : (0 : Int) ≤ (k : Int) := by omega
        have j1 : (k : Int) < (q : Int) := by omega
        have og := O.out.lt go rfl
        have YC : Hid (∀ W, Below wo.heap.size wo W → ∀ i, i < n → W.cell? ⟨go, i, none⟩ = some (.int .i64 (Y.getD i 0))) := fun W hW i hi => (hW.cell (p := ⟨go, i, none⟩) og.2).trans (Lists.row_at O.out UY.out.1.1 i hi)
        have E0 : Hid ((wo.alloc (Obj.cells #[] 2)).ownsRow wo.heap.size 2 1 (.slice (some ⟨wo.heap.size, 0, none⟩) 0 0) (2 * 0) (ints (prs f Y 0))) := empty_row 2
        have BE : Hid (Below wo.heap.size wo (wo.alloc (Obj.cells #[] 2))) := (Below.refl _ _).alloc (Nat.le_refl _) _
        obtain ⟨co1, co2⟩ : n ≤ co ∧ co ≤ maxLen := (by
          obtain ⟨gx, cx, e, _, _, h3, h4⟩ := row_some O.out (by simp)
          injection e with _ _ e3
          subst e3
          exact ⟨h3, h4⟩)
        clear hf hp hh e1
        go_wp2_with fail
        go_loopw [12, 13, 14, 15] (fun vb i _ _ wx => ∃ j : Nat, j ≤ p ∧ i = .int .i64 (j : Int) ∧ Hid (wx.ownsRow wo.heap.size 2 1 vb (2 * j) (ints (prs f Y j))) ∧ Hid (Below wo.heap.size wo wx)) (fun _ i _ _ _ => p - (intOf i).toNat)
        case atStart => exact ⟨0, Nat.zero_le _, rfl, E0, BE⟩
        case round =>
          clear E0 BE sc
          obtain ⟨j, hj, rfl, OB, BX⟩ := hrel
          obtain ⟨ba, bc, ev⟩ := row_form OB.out
          obtain ⟨vb, hvb⟩ : ∃ vb, vb = u12 := ⟨_, rfl⟩
          subst hvb
          subst ev
          by_cases hjp : j < p
          · have a1 : (j : Int) < (p : Int) := by omega
            have a0 : (0 : Int) ≤ (j : Int) := by omega
            obtain ⟨tk, htk⟩ : ∃ tk : Nat, tk = h + j := ⟨_, rfl⟩
            have i6 : (h : Int) + (j : Int) = (tk : Int) := by omega
            have i7 : (tk : Int) < (n : Int) := by omega
            have i5 : (j : Int) < (n : Int) := by omega
            have r1 := YC.out wr BX.out j (by omega)
            have r2 := YC.out wr BX.out tk (by omega)
            have bz := UY.out.1.2 j (by omega)
            have bd := UY.out.1.2 tk (by omega)
            have ej : ja f Y j = Y.getD j 0 - Y.getD tk 0 / 2 ∧ jd f Y j = Y.getD tk 0 := by
              have h1 := PH.out
              unfold ja jd
              rw [show f - f / 2 + j = tk by omega]
              exact ⟨rfl, rfl⟩
            obtain ⟨d, hd⟩ : ∃ d, d = Y.getD tk 0 := ⟨_, rfl⟩
            obtain ⟨a, ha⟩ : ∃ a, a = Y.getD j 0 := ⟨_, rfl⟩
            rw [← hd] at r2 bd ej
            rw [← ha] at r1 bz ej
            clear hd ha
            obtain ⟨x, hx⟩ : ∃ x, x = a - d / 2 := ⟨_, rfl⟩
            obtain ⟨y, hy⟩ : ∃ y, y = x + d := ⟨_, rfl⟩
            have EX : Hid (ja f Y j = x ∧ ja f Y j + jd f Y j = y) := (by show _ ∧ _; rw [ej.1, ej.2, ← hx, hy]; exact ⟨rfl, rfl⟩)
            have e1 : a - d / 2 = x := hx.symm
            have e2 : x + d = y := hy.symm
            have bx : -2305843009213693952 ≤ x ∧ x ≤ 2305843009213693952 := by omega
            have bY : -4611686018427387904 ≤ y ∧ y ≤ 4611686018427387904 := by omega
            have bsz := BX.out.size
            clear hx hy ej htk
            go_wp2_with (at_builtin; refine wpList_append_own_at _ rfl _ _ 22 rfl wo.heap.size 2 i2 (.int .i64 0) 1 8 Try.underlying22 hi hz0 hz1 hz2 rfl (by decide) _ _ _ rfl (OB.out.alloc _) ⟨wr.heap.size, 0, none⟩ 2 2 [.int .i64 x, .int .i64 y] rfl rfl (cell_two _ _ _ _) (by intro u hu; simp at hu; rcases hu with rfl | rfl <;> rfl) (by unfold maxLen; omega) (by omega) (by simp; omega) ?_)
            intro v' w9 hown hgrow _ _
            have O9 : Hid (w9.ownsRow wo.heap.size 2 1 v' (2 * (j + 1)) (ints (prs f Y (j + 1)))) := (by
              show World.ownsRow _ _ _ _ _ _ _
              rw [prs_succ, EX.out.2, EX.out.1, ints_app]
              exact hown)
            have B9 : Hid (Below wo.heap.size wo w9) := (BX.out.alloc BX.out.size _).grown hgrow (by simp; omega) (fun b hb => (OB.out.lt b hb).1)
            clear hown hgrow OB BX
            go_wp2_with fail
            go_roundw
            case rel => exact ⟨j + 1, by omega, by go_num, O9, B9⟩
            case measure => simp [intOf]; omega
          · have hjp' : j = p := by omega
            subst hjp'
            have a1 : ¬ (j : Int) < (j : Int) := by omega
            have f0 : (0 : Int) ≤ (f : Int) := by omega
            have fc : (f : Int) ≤ (co : Int) := by omega
            have fn' : (f : Int) ≤ (n : Int) := by omega
            by_cases hfc : f = co
            · subst hfc
              by_cases odd : f % 2 = 1
              · have tm : (f : Int).tmod 2 = 1 := by rw [Int.tmod_eq_emod_of_nonneg (by omega)]; omega
                have i9 : (h : Int) - 1 = (j : Int) := by omega
                have i8 : (j : Int) < (n : Int) := by omega
                have a0 : (0 : Int) ≤ (j : Int) := by omega
                have rz := YC.out wr BX.out j (by omega)
                obtain ⟨z, hz⟩ : ∃ z, z = Y.getD j 0 := ⟨_, rfl⟩
                rw [← hz] at rz
                have bsz := BX.out.size
                have HZ : Hid (z = Y.getD j 0) := hz
                clear hz
                go_wp2_with (at_builtin; refine wpList_append_own_at _ rfl _ _ 22 rfl wo.heap.size 2 i2 (.int .i64 0) 1 8 Try.underlying22 hi hz0 hz1 hz2 rfl (by decide) _ _ _ rfl (OB.out.alloc _) ⟨wr.heap.size, 0, none⟩ 1 1 [.int .i64 z] rfl rfl (cell_one_new _ _ _) (by intro u hu; simp at hu; subst hu; rfl) (by unfold maxLen; omega) (by omega) (by simp; omega) ?_)
                intro v7 w7 hown hgrow _ _
                obtain ⟨P, hP⟩ : ∃ P, P = prs f Y j ++ [z] := ⟨_, rfl⟩
                have HP : Hid (P = prs f Y j ++ [z]) := hP
                have O7 : Hid (w7.ownsRow wo.heap.size 2 1 v7 (2 * j + 1) (ints P)) := (by
                  show World.ownsRow _ _ _ _ _ _ _
                  rw [HP.out, ints_snoc]
                  exact hown)
                have B7 : Hid (Below wo.heap.size wo w7) := (BX.out.alloc BX.out.size _).grown hgrow (by simp; omega) (fun b hb => (OB.out.lt b hb).1)
                obtain ⟨vc, vd, ev⟩ := row_form O7.out
                subst ev
                clear hown hgrow OB BX rz bsz hP
                obtain ⟨Z, hZ⟩ : ∃ Z, Z = Y.drop f := ⟨_, rfl⟩
                have zl : Z.length = n - f := by rw [hZ, List.length_drop, UY.out.1.1]
                have KR : Hid (∀ i u, (ints Z)[i]? = some u → w7.cell? ((⟨go, 0, none⟩ : Addr).add i) = some u) := fun i u hu => by
                  have : (ints Z).length = 0 := by rw [ints, List.length_map]; omega
                  rw [List.getElem?_eq_none (by omega)] at hu
                  cases hu
                have UC : Hid (P ++ Z = unj f Y) := (by
                  show _ = _
                  rw [unj_cat f Y (by rw [UY.out.1.1]; exact hfn), hZ, ← PH.out.1]
                  rw [if_pos odd, HP.out, HZ.out])
                have ZL : Hid (Z.length = n - f) := zl
                have bsz := B7.out.size
                have co3 : f ≤ 9223372036854775807 := by unfold maxLen at co2; omega
                clear hZ zl
                go_wp2_with (at_builtin; refine wpList_append_own_at _ rfl _ _ 22 rfl wo.heap.size 2 i2 (.int .i64 0) 1 8 Try.underlying22 hi hz0 hz1 hz2 rfl (by decide) _ _ _ rfl O7.out ⟨go, 0, none⟩ 0 0 (ints Z) rfl (by rw [List.length_map, ZL.out]; omega) KR.out (one_cell _) (by unfold maxLen; omega) (by omega) (by omega) ?_)
                intro v' w9 hown hgrow hnil _
                have e9 : 2 * j + 1 = n := by omega
                first | rw [Nat.add_zero] at hown | skip
                rw [e9, ← ints_app, UC.out] at hown
                obtain ⟨g9, c9, rfl, q1, q2, q3, q4⟩ := row_some hown (fun e => by exact hnil e)
                have O9 : Hid (w9.ownsRow wc.heap.size 2 1 (.slice (some ⟨g9, 0, none⟩) n c9) n (ints (unj f Y))) := row_low hown BB.out.size
                have B9 : Hid (Below wc.heap.size wc w9) := BB.out.trans ((B7.out.grown hgrow B7.out.size (fun b hb => (O7.out.lt b hb).1)).mono BB.out.size)
                have ul : (unj f Y).length = n := by rw [unj_len, UY.out.1.1]
                have CK : Hid (Calls Try.prog 16 #[.slice (some ⟨g9, 0, none⟩) n c9, .int .u64 60] w9 fun e w' => e = .returned (.bool (sml 1152921504606846976 (unj f Y))) ∧ w' = w9) := ssml60_any w9 _ (unj f Y) (by have := reads_row (w := w9) (base := wc.heap.size) (v := .slice (some ⟨g9, 0, none⟩) n c9) (L := unj f Y) (by rw [ul]; exact O9.out); exact this) (by omega)
                have UN : Hid (sml 1152921504606846976 (unj f Y) = true → GZ n (unj f Y) ∧ un n k (unj f Y) = un n q X) := fun e => (by
                  have e' := e
                  rw [chk_eq UY.out.1 hfn sl] at e'
                  refine ⟨UY.out.1.unj hfn e', ?_⟩
                  have := UY.out.2
                  rw [un, ← FF.out, if_pos e'] at this
                  exact this)
                have UF : Hid (sml 1152921504606846976 (unj f Y) = false → un n q X = none) := fun e => (by
                  have e' := e
                  rw [chk_eq UY.out.1 hfn sl] at e'
                  have := UY.out.2
                  rw [un, ← FF.out, if_neg (by rw [e']; simp)] at this
                  exact this.symm)
                clear hown hgrow hnil KR O7 B7 ul UC ZL q1 q2 q3 q4
                go_wp2_with fail
                refine CK.out.mono ?_
                rintro e w10 ⟨rfl, hw⟩
                have hw' := hw.symm
                subst hw'
                cases hsm : sml 1152921504606846976 (unj f Y)
                · have FN : Hid (IUo w X (t : Int) (.returned (.tuple #[.slice (some ⟨w9.heap.size, 0, none⟩) 0 0, .bool false])) (w9.alloc (Obj.cells #[] 2))) := (by
                    show IUo _ _ _ _ _
                    have e : ures X (t : Int) = none := by rw [US.out]; exact UF.out hsm
                    have sw : w.heap.size ≤ w9.heap.size := Nat.le_trans BS.out.size B9.out.size
                    refine ⟨(BS.out.trans (B9.out.mono BS.out.size)).alloc sw _, .slice (some ⟨w9.heap.size, 0, none⟩) 0 0, by rw [e]; rfl, ?_⟩
                    rw [e]
                    exact row_low (empty_row 2) sw)
                  clear UN UF hsm O9 UY US
                  go_wp2_with fail
                  go_ret2
                  exact FN.out
                · have U9 : Hid (GZ n (unj f Y) ∧ un n k (unj f Y) = un n q X) := UN.out hsm
                  clear UN UF hsm UY
                  go_wp2_with fail
                  go_roundw
                  case rel => exact ⟨k, g9, c9, unj f Y, by omega, rfl, by go_num, O9, U9, B9⟩
                  case measure => simp [intOf] <;> omega
              · have tm : (f : Int).tmod 2 = 0 := by rw [Int.tmod_eq_emod_of_nonneg (by omega)]; omega
                obtain ⟨Z, hZ⟩ : ∃ Z, Z = Y.drop f := ⟨_, rfl⟩
                have zl : Z.length = n - f := by rw [hZ, List.length_drop, UY.out.1.1]
                have KR : Hid (∀ i u, (ints Z)[i]? = some u → wr.cell? ((⟨go, 0, none⟩ : Addr).add i) = some u) := fun i u hu => by
                  have : (ints Z).length = 0 := by rw [ints, List.length_map]; omega
                  rw [List.getElem?_eq_none (by omega)] at hu
                  cases hu
                have UC : Hid (prs f Y j ++ Z = unj f Y) := (by
                  show _ = _
                  rw [unj_cat f Y (by rw [UY.out.1.1]; exact hfn), hZ, ← PH.out.1]
                  rw [if_neg odd, List.append_nil])
                have ZL : Hid (Z.length = n - f) := zl
                have bsz := BX.out.size
                have co3 : f ≤ 9223372036854775807 := by unfold maxLen at co2; omega
                clear hZ zl
                go_wp2_with (at_builtin; refine wpList_append_own_at _ rfl _ _ 22 rfl wo.heap.size 2 i2 (.int .i64 0) 1 8 Try.underlying22 hi hz0 hz1 hz2 rfl (by decide) _ _ _ rfl OB.out ⟨go, 0, none⟩ 0 0 (ints Z) rfl (by rw [List.length_map, ZL.out]; omega) KR.out (one_cell _) (by unfold maxLen; omega) (by omega) (by omega) ?_)
                intro v' w9 hown hgrow hnil _
                have e9 : 2 * j = n := by omega
                first | rw [Nat.add_zero] at hown | skip
                rw [e9, ← ints_app, UC.out] at hown
                obtain ⟨g9, c9, rfl, q1, q2, q3, q4⟩ := row_some hown (fun e => by have := hnil.1 e; have := qn (by omega); omega)
                have O9 : Hid (w9.ownsRow wc.heap.size 2 1 (.slice (some ⟨g9, 0, none⟩) n c9) n (ints (unj f Y))) := row_low hown BB.out.size
                have B9 : Hid (Below wc.heap.size wc w9) := BB.out.trans ((BX.out.grown hgrow BX.out.size (fun b hb => (OB.out.lt b hb).1)).mono BB.out.size)
                have ul : (unj f Y).length = n := by rw [unj_len, UY.out.1.1]
                have CK : Hid (Calls Try.prog 16 #[.slice (some ⟨g9, 0, none⟩) n c9, .int .u64 60] w9 fun e w' => e = .returned (.bool (sml 1152921504606846976 (unj f Y))) ∧ w' = w9) := ssml60_any w9 _ (unj f Y) (by have := reads_row (w := w9) (base := wc.heap.size) (v := .slice (some ⟨g9, 0, none⟩) n c9) (L := unj f Y) (by rw [ul]; exact O9.out); exact this) (by omega)
                have UN : Hid (sml 1152921504606846976 (unj f Y) = true → GZ n (unj f Y) ∧ un n k (unj f Y) = un n q X) := fun e => (by
                  have e' := e
                  rw [chk_eq UY.out.1 hfn sl] at e'
                  refine ⟨UY.out.1.unj hfn e', ?_⟩
                  have := UY.out.2
                  rw [un, ← FF.out, if_pos e'] at this
                  exact this)
                have UF : Hid (sml 1152921504606846976 (unj f Y) = false → un n q X = none) := fun e => (by
                  have e' := e
                  rw [chk_eq UY.out.1 hfn sl] at e'
                  have := UY.out.2
                  rw [un, ← FF.out, if_neg (by rw [e']; simp)] at this
                  exact this.symm)
                clear hown hgrow hnil KR OB BX ul UC ZL q1 q2 q3 q4
                go_wp2_with fail
                refine CK.out.mono ?_
                rintro e w10 ⟨rfl, hw⟩
                have hw' := hw.symm
                subst hw'
                cases hsm : sml 1152921504606846976 (unj f Y)
                · have FN : Hid (IUo w X (t : Int) (.returned (.tuple #[.slice (some ⟨w9.heap.size, 0, none⟩) 0 0, .bool false])) (w9.alloc (Obj.cells #[] 2))) := (by
                    show IUo _ _ _ _ _
                    have e : ures X (t : Int) = none := by rw [US.out]; exact UF.out hsm
                    have sw : w.heap.size ≤ w9.heap.size := Nat.le_trans BS.out.size B9.out.size
                    refine ⟨(BS.out.trans (B9.out.mono BS.out.size)).alloc sw _, .slice (some ⟨w9.heap.size, 0, none⟩) 0 0, by rw [e]; rfl, ?_⟩
                    rw [e]
                    exact row_low (empty_row 2) sw)
                  clear UN UF hsm O9 UY US
                  go_wp2_with fail
                  go_ret2
                  exact FN.out
                · have U9 : Hid (GZ n (unj f Y) ∧ un n k (unj f Y) = un n q X) := UN.out hsm
                  clear UN UF hsm UY
                  go_wp2_with fail
                  go_roundw
                  case rel => exact ⟨k, g9, c9, unj f Y, by omega, rfl, by go_num, O9, U9, B9⟩
                  case measure => simp [intOf] <;> omega
            have ne2 : ¬ co = f := fun e => hfc e.symm
            by_cases odd : f % 2 = 1
            · have tm : (f : Int).tmod 2 = 1 := by rw [Int.tmod_eq_emod_of_nonneg (by omega)]; omega
              have i9 : (h : Int) - 1 = (j : Int) := by omega
              have i8 : (j : Int) < (n : Int) := by omega
              have a0 : (0 : Int) ≤ (j : Int) := by omega
              have rz := YC.out wr BX.out j (by omega)
              obtain ⟨z, hz⟩ : ∃ z, z = Y.getD j 0 := ⟨_, rfl⟩
              rw [← hz] at rz
              have bsz := BX.out.size
              have HZ : Hid (z = Y.getD j 0) := hz
              clear hz
              go_wp2_with (at_builtin; refine wpList_append_own_at _ rfl _ _ 22 rfl wo.heap.size 2 i2 (.int .i64 0) 1 8 Try.underlying22 hi hz0 hz1 hz2 rfl (by decide) _ _ _ rfl (OB.out.alloc _) ⟨wr.heap.size, 0, none⟩ 1 1 [.int .i64 z] rfl rfl (cell_one_new _ _ _) (by intro u hu; simp at hu; subst hu; rfl) (by unfold maxLen; omega) (by omega) (by simp; omega) ?_)
              intro v7 w7 hown hgrow _ _
              obtain ⟨P, hP⟩ : ∃ P, P = prs f Y j ++ [z] := ⟨_, rfl⟩
              have HP : Hid (P = prs f Y j ++ [z]) := hP
              have O7 : Hid (w7.ownsRow wo.heap.size 2 1 v7 (2 * j + 1) (ints P)) := (by
                show World.ownsRow _ _ _ _ _ _ _
                rw [HP.out, ints_snoc]
                exact hown)
              have B7 : Hid (Below wo.heap.size wo w7) := (BX.out.alloc BX.out.size _).grown hgrow (by simp; omega) (fun b hb => (OB.out.lt b hb).1)
              obtain ⟨vc, vd, ev⟩ := row_form O7.out
              subst ev
              clear hown hgrow OB BX rz bsz hP
              obtain ⟨Z, hZ⟩ : ∃ Z, Z = Y.drop f := ⟨_, rfl⟩
              have zl : Z.length = n - f := by rw [hZ, List.length_drop, UY.out.1.1]
              have KR : Hid (∀ i u, (ints Z)[i]? = some u → w7.cell? ((⟨go, f, none⟩ : Addr).add i) = some u) := ints_from fun i hi' => by
                rw [YC.out w7 B7.out (f + i) (by omega), hZ]
                simp [List.getD_eq_getElem?_getD, List.getElem?_drop]
              have UC : Hid (P ++ Z = unj f Y) := (by
                show _ = _
                rw [unj_cat f Y (by rw [UY.out.1.1]; exact hfn), hZ, ← PH.out.1]
                rw [if_pos odd, HP.out, HZ.out])
              have ZL : Hid (Z.length = n - f) := zl
              have bsz := B7.out.size
              have co3 : co ≤ 9223372036854775807 := by unfold maxLen at co2; omega
              clear hZ zl
              go_wp2_with (at_builtin; refine wpList_append_own_at _ rfl _ _ 22 rfl wo.heap.size 2 i2 (.int .i64 0) 1 8 Try.underlying22 hi hz0 hz1 hz2 rfl (by decide) _ _ _ rfl O7.out ⟨go, f, none⟩ (n - f) (co - f) (ints Z) rfl (by rw [List.length_map, ZL.out]; omega) KR.out (one_cell _) (by unfold maxLen; omega) (by omega) (by omega) ?_)
              intro v' w9 hown hgrow hnil _
              have e9 : 2 * j + 1 + (n - f) = n := by omega
              rw [e9, ← ints_app, UC.out] at hown
              obtain ⟨g9, c9, rfl, q1, q2, q3, q4⟩ := row_some hown (fun e => by exact hnil e)
              have O9 : Hid (w9.ownsRow wc.heap.size 2 1 (.slice (some ⟨g9, 0, none⟩) n c9) n (ints (unj f Y))) := row_low hown BB.out.size
              have B9 : Hid (Below wc.heap.size wc w9) := BB.out.trans ((B7.out.grown hgrow B7.out.size (fun b hb => (O7.out.lt b hb).1)).mono BB.out.size)
              have ul : (unj f Y).length = n := by rw [unj_len, UY.out.1.1]
              have CK : Hid (Calls Try.prog 16 #[.slice (some ⟨g9, 0, none⟩) n c9, .int .u64 60] w9 fun e w' => e = .returned (.bool (sml 1152921504606846976 (unj f Y))) ∧ w' = w9) := ssml60_any w9 _ (unj f Y) (by have := reads_row (w := w9) (base := wc.heap.size) (v := .slice (some ⟨g9, 0, none⟩) n c9) (L := unj f Y) (by rw [ul]; exact O9.out); exact this) (by omega)
              have UN : Hid (sml 1152921504606846976 (unj f Y) = true → GZ n (unj f Y) ∧ un n k (unj f Y) = un n q X) := fun e => (by
                have e' := e
                rw [chk_eq UY.out.1 hfn sl] at e'
                refine ⟨UY.out.1.unj hfn e', ?_⟩
                have := UY.out.2
                rw [un, ← FF.out, if_pos e'] at this
                exact this)
              have UF : Hid (sml 1152921504606846976 (unj f Y) = false → un n q X = none) := fun e => (by
                have e' := e
                rw [chk_eq UY.out.1 hfn sl] at e'
                have := UY.out.2
                rw [un, ← FF.out, if_neg (by rw [e']; simp)] at this
                exact this.symm)
              clear hown hgrow hnil KR O7 B7 ul UC ZL q1 q2 q3 q4
              go_wp2_with fail
              refine CK.out.mono ?_
              rintro e w10 ⟨rfl, hw⟩
              have hw' := hw.symm
              subst hw'
              cases hsm : sml 1152921504606846976 (unj f Y)
              · have FN : Hid (IUo w X (t : Int) (.returned (.tuple #[.slice (some ⟨w9.heap.size, 0, none⟩) 0 0, .bool false])) (w9.alloc (Obj.cells #[] 2))) := (by
                  show IUo _ _ _ _ _
                  have e : ures X (t : Int) = none := by rw [US.out]; exact UF.out hsm
                  have sw : w.heap.size ≤ w9.heap.size := Nat.le_trans BS.out.size B9.out.size
                  refine ⟨(BS.out.trans (B9.out.mono BS.out.size)).alloc sw _, .slice (some ⟨w9.heap.size, 0, none⟩) 0 0, by rw [e]; rfl, ?_⟩
                  rw [e]
                  exact row_low (empty_row 2) sw)
                clear UN UF hsm O9 UY US
                go_wp2_with fail
                go_ret2
                exact FN.out
              · have U9 : Hid (GZ n (unj f Y) ∧ un n k (unj f Y) = un n q X) := UN.out hsm
                clear UN UF hsm UY
                go_wp2_with fail
                go_roundw
                case rel => exact ⟨k, g9, c9, unj f Y, by omega, rfl, by go_num, O9, U9, B9⟩
                case measure => simp [intOf] <;> omega
            · have tm : (f : Int).tmod 2 = 0 := by rw [Int.tmod_eq_emod_of_nonneg (by omega)]; omega
              obtain ⟨Z, hZ⟩ : ∃ Z, Z = Y.drop f := ⟨_, rfl⟩
              have zl : Z.length = n - f := by rw [hZ, List.length_drop, UY.out.1.1]
              have KR : Hid (∀ i u, (ints Z)[i]? = some u → wr.cell? ((⟨go, f, none⟩ : Addr).add i) = some u) := ints_from fun i hi' => by
                rw [YC.out wr BX.out (f + i) (by omega), hZ]
                simp [List.getD_eq_getElem?_getD, List.getElem?_drop]
              have UC : Hid (prs f Y j ++ Z = unj f Y) := (by
                show _ = _
                rw [unj_cat f Y (by rw [UY.out.1.1]; exact hfn), hZ, ← PH.out.1]
                rw [if_neg odd, List.append_nil])
              have ZL : Hid (Z.length = n - f) := zl
              have bsz := BX.out.size
              have co3 : co ≤ 9223372036854775807 := by unfold maxLen at co2; omega
              clear hZ zl
              go_wp2_with (at_builtin; refine wpList_append_own_at _ rfl _ _ 22 rfl wo.heap.size 2 i2 (.int .i64 0) 1 8 Try.underlying22 hi hz0 hz1 hz2 rfl (by decide) _ _ _ rfl OB.out ⟨go, f, none⟩ (n - f) (co - f) (ints Z) rfl (by rw [List.length_map, ZL.out]; omega) KR.out (one_cell _) (by unfold maxLen; omega) (by omega) (by omega) ?_)
              intro v' w9 hown hgrow hnil _
              have e9 : 2 * j + (n - f) = n := by omega
              rw [e9, ← ints_app, UC.out] at hown
              obtain ⟨g9, c9, rfl, q1, q2, q3, q4⟩ := row_some hown (fun e => by have := hnil.1 e; have := qn (by omega); omega)
              have O9 : Hid (w9.ownsRow wc.heap.size 2 1 (.slice (some ⟨g9, 0, none⟩) n c9) n (ints (unj f Y))) := row_low hown BB.out.size
              have B9 : Hid (Below wc.heap.size wc w9) := BB.out.trans ((BX.out.grown hgrow BX.out.size (fun b hb => (OB.out.lt b hb).1)).mono BB.out.size)
              have ul : (unj f Y).length = n := by rw [unj_len, UY.out.1.1]
              have CK : Hid (Calls Try.prog 16 #[.slice (some ⟨g9, 0, none⟩) n c9, .int .u64 60] w9 fun e w' => e = .returned (.bool (sml 1152921504606846976 (unj f Y))) ∧ w' = w9) := ssml60_any w9 _ (unj f Y) (by have := reads_row (w := w9) (base := wc.heap.size) (v := .slice (some ⟨g9, 0, none⟩) n c9) (L := unj f Y) (by rw [ul]; exact O9.out); exact this) (by omega)
              have UN : Hid (sml 1152921504606846976 (unj f Y) = true → GZ n (unj f Y) ∧ un n k (unj f Y) = un n q X) := fun e => (by
                have e' := e
                rw [chk_eq UY.out.1 hfn sl] at e'
                refine ⟨UY.out.1.unj hfn e', ?_⟩
                have := UY.out.2
                rw [un, ← FF.out, if_pos e'] at this
                exact this)
              have UF : Hid (sml 1152921504606846976 (unj f Y) = false → un n q X = none) := fun e => (by
                have e' := e
                rw [chk_eq UY.out.1 hfn sl] at e'
                have := UY.out.2
                rw [un, ← FF.out, if_neg (by rw [e']; simp)] at this
                exact this.symm)
              clear hown hgrow hnil KR OB BX ul UC ZL q1 q2 q3 q4
              go_wp2_with fail
              refine CK.out.mono ?_
              rintro e w10 ⟨rfl, hw⟩
              have hw' := hw.symm
              subst hw'
              cases hsm : sml 1152921504606846976 (unj f Y)
              · have FN : Hid (IUo w X (t : Int) (.returned (.tuple #[.slice (some ⟨w9.heap.size, 0, none⟩) 0 0, .bool false])) (w9.alloc (Obj.cells #[] 2))) := (by
                  show IUo _ _ _ _ _
                  have e : ures X (t : Int) = none := by rw [US.out]; exact UF.out hsm
                  have sw : w.heap.size ≤ w9.heap.size := Nat.le_trans BS.out.size B9.out.size
                  refine ⟨(BS.out.trans (B9.out.mono BS.out.size)).alloc sw _, .slice (some ⟨w9.heap.size, 0, none⟩) 0 0, by rw [e]; rfl, ?_⟩
                  rw [e]
                  exact row_low (empty_row 2) sw)
                clear UN UF hsm O9 UY US
                go_wp2_with fail
                go_ret2
                exact FN.out
              · have U9 : Hid (GZ n (unj f Y) ∧ un n k (unj f Y) = un n q X) := UN.out hsm
                clear UN UF hsm UY
                go_wp2_with fail
                go_roundw
                case rel => exact ⟨k, g9, c9, unj f Y, by omega, rfl, by go_num, O9, U9, B9⟩
                case measure => simp [intOf] <;> omega
end Go.Proofs.Ytpokbicnogcijaa.Lists
