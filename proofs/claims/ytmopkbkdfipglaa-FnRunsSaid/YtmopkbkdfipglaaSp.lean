/- PackRuns of the model. -/
import Derived.Test.YtmopkbkdfipglaaSq
import Derived.Deep.DeepCutAuto
namespace Go.Proofs.Ytmopkbkdfipglaa.Lists
open Go.ChangeShapes Go.WideShapes Go.ChangeAt Go.RowKit
open Go.Proofs.Ytmopkbkdfipglaa.Bytes (bys)

theorem cell_two8 (w : World) (v0 v1 : Value) (t : TypeId) : ∀ j u, [v0, v1][j]? = some u → (w.alloc (Obj.cells #[v0, v1] t)).cell? ((⟨w.heap.size, 0, none⟩ : Addr).add j) = some u := by
  intro j u hj
  match j, hj with
  | 0, hj => simp at hj; subst hj; simp [Addr.add, go_sem]
  | 1, hj => simp at hj; subst hj; simp [Addr.add, go_sem]
theorem bys_cell (X : List Int) : ∀ u ∈ bys X, u.oneCell' = true := by intro u hu; simp [bys] at hu; obtain ⟨z, _, rfl⟩ := hu; rfl
theorem bys_at {w : World} {g n : Nat} {X : List Int} (hn : X.length = n) (K : ∀ i, i < n → w.cell? ⟨g, i, none⟩ = some (.int .u8 (X.getD i 0))) : ∀ j u, (bys X)[j]? = some u → w.cell? ((⟨g, 0, none⟩ : Addr).add j) = some u := by
  intro j u hj
  have hl : j < X.length := by
    have := (List.getElem?_eq_some_iff.1 hj).1
    simpa [bys] using this
  rw [show (⟨g, 0, none⟩ : Addr).add j = ⟨g, j, none⟩ by unfold Addr.add; split; · rename_i h; subst h; rfl
                                                         · simp]
  rw [K j (by omega), ← hj]
  simp [bys, List.getD_eq_getElem?_getD, hl]

set_option maxRecDepth 20000 in
set_option maxHeartbeats 4000000 in
theorem spack_yes (w : World) (v : Value) (L : List Int) (h : Reads w v L) (hr : Rg L) :
    Calls Try.prog 6 #[v] w fun e w' => ∃ v', e = .returned (.tuple #[v', .bool true]) ∧ w'.ownsRow w.heap.size 5 1 v' (pk L).length (bys (pk L)) ∧ Below w.heap.size w w' := by
  obtain ⟨i2, hi, hz0, hz1, hz2⟩ := info_parts Try.info2
  obtain ⟨i5, hi5, hy0, hy1, hy2⟩ := info_parts Bytes.Try.info5
  have hl := hr.1
  have HI : Hid (Calls Try.prog 22 #[v, .int .u64 40] w fun e w' => e = .returned (.bool true) ∧ w' = w) := (by have := ssml_any w v L h (by omega); rw [rg_sml.2 hr] at this; exact this)
  obtain ⟨a, cap, rfl⟩ := h.form
  have HC : Hid (∀ W, Below w.heap.size w W → ∀ i, i < L.length → ∃ b o, a = some ⟨b, o, none⟩ ∧ L.length ≤ cap ∧ cap ≤ maxLen ∧ W.cell? ⟨b, o + i, none⟩ = some (.int .i64 (L.getD i 0))) := fun W hW i hi => by
    rcases h with ⟨rfl, _⟩ | ⟨b, o, cap', h1, h2, h3, h4, h5⟩
    · simp at hi
    · injection h1 with q1 q2 q3
      subst q3
      exact ⟨b, o, q1, h2, h3, (hW.cell (p := ⟨b, o + i, none⟩) h4).trans (h5 i hi)⟩
  have HR : Hid (Rg L) := hr
  obtain ⟨n, hn⟩ : ∃ n, n = L.length := ⟨_, rfl⟩
  have HN : Hid (n = L.length) := hn
  rw [← hn] at hl HC HI ⊢
  have e1 : (n : Int) / 256 % 256 = (n : Int) / 256 := by omega
  obtain ⟨y1, hy1'⟩ : ∃ y, y = (n : Int) / 256 := ⟨_, rfl⟩
  obtain ⟨y0, hy0'⟩ : ∃ y, y = (n : Int) % 256 := ⟨_, rfl⟩
  have yb : 0 ≤ y1 ∧ y1 < 256 ∧ 0 ≤ y0 ∧ y0 < 256 := by omega
  have R0 : Hid ((w.alloc (.cells #[.int .u8 y1, .int .u8 y0] 5)).ownsRow w.heap.size 5 1 (.slice (some ⟨w.heap.size, 0, none⟩) 2 2) (byt (pkB L 0)).length (bys (byt (pkB L 0)))) := (by
    show World.ownsRow _ _ _ _ _ _ _
    rw [pk_zero, ← HN.out, e1, ← hy1', ← hy0']
    refine ⟨rfl, .inr ⟨w.heap.size, 2, #[.int .u8 y1, .int .u8 y0], rfl, Nat.le_refl _, ?_, by simp, by unfold maxLen; omega, by simp⟩⟩
    simp [World.alloc, -World.alloc_eq])
  have B0 : Hid (Below w.heap.size w (w.alloc (.cells #[.int .u8 y1, .int .u8 y0] 5))) := (Below.refl _ _).alloc (Nat.le_refl _) _
  have q1 : (n : Int) / 256 = y1 := hy1'.symm
  have q0 : (n : Int) % 256 = y0 := hy0'.symm
  have q1' : y1 % 256 = y1 := by omega
  clear h hr hn e1 hy1' hy0'
  go_enter Try.func6, Try.ntmps6
  go_wp2_with fail
  refine HI.out.mono ?_
  rintro e w1 ⟨rfl, hw⟩
  have hw' := hw.symm
  subst hw'
  clear HI
  go_wp2_with fail
  go_loopw [4, 5, 6, 7, 8, 9, 10, 11, 12, 13, 14] (fun vo la ak _ _ _ _ _ _ _ _ wr => ∃ k : Nat, k ≤ ng n ∧ ak = .int .i64 ((16 * k : Nat) : Int) ∧ la = .int .i64 (ah L (min (16 * k) n)) ∧ Hid (wr.ownsRow w.heap.size 5 1 vo (byt (pkB L k)).length (bys (byt (pkB L k)))) ∧ Hid (Below w.heap.size w wr)) (fun _ _ ak _ _ _ _ _ _ _ _ _ => 16 * ng n + 16 - (intOf ak).toNat)
  case atStart => exact ⟨0, Nat.zero_le _, rfl, rfl, R0, B0⟩
  case round =>
    clear R0 B0
    obtain ⟨k, hk, rfl, rfl, OO, BB⟩ := hrel
    obtain ⟨vo, hvo⟩ : ∃ vo, vo = u4 := ⟨_, rfl⟩
    subst hvo
    obtain ⟨wo, hwo⟩ : ∃ x, x = wr := ⟨_, rfl⟩
    subst hwo
    obtain ⟨t, ht⟩ : ∃ t, t = 16 * k := ⟨_, rfl⟩
    have HT : Hid (t = 16 * k) := ht
    rw [← ht]
    have NG : ng n = (n + 15) / 16 := rfl
    by_cases hkn : k < ng n
    · have i1 : (t : Int) < (n : Int) := by omega
      have i0 : (0 : Int) ≤ (t : Int) := by omega
      have emin : min t n = t := by omega
      rw [emin]
      obtain ⟨G, hG⟩ : ∃ G, G = gr L k := ⟨_, rfl⟩
      obtain ⟨m, hm⟩ : ∃ m, m = min 16 (n - t) := ⟨_, rfl⟩
      have ml : G.length = m := by rw [hG, gr_len, hm, HN.out, ht]
      have m1 : 0 < m ∧ m ≤ 16 ∧ t + m ≤ n ∧ (m = 16 ∨ t + m = n) := by omega
      have gne : G ≠ [] := fun e => by rw [e] at ml; simp at ml; omega
      have LL : Hid (G.length = m ∧ G = gr L k ∧ G ≠ [] ∧ m = min 16 (n - t)) := ⟨ml, hG, gne, hm⟩
      have GJ : Hid (∀ j, j < m → G.getD j 0 = difA L (t + j) ∧ ah L (t + j) - 0 = ah L (t + j)) := fun j hj => ⟨by rw [hG, gr_get L k j (by omega) (by rw [← HN.out]; omega), ht], by omega⟩
      have hkl : Hid (k < ng n) := hkn
      clear ht hG hm ml gne hkn NG emin q0
      go_upto_region 11 with fail
      go_cut [10] from 35 to 71 (fun i wx => i = .int .i64 ((t + 0 : Nat) : Int) ∧ wx = wo.alloc (Obj.cells #[] 2))
      case first =>
        go_wp2_with fail
        go_meet
        exact ⟨rfl, rfl⟩
      obtain ⟨rfl, rfl⟩ := hcut
      refine ‹∀ (a : Act) (w : World), Code.wp Try.prog _ _ a w → _› _ _ ?_
      have D0 : Hid ((wo.alloc (Obj.cells #[] 2)).ownsRow wo.heap.size 2 1 (.slice (some ⟨wo.heap.size, 0, none⟩) 0 0) 0 (ints (G.take 0))) := empty_row 2
      have BD : Hid (Below wo.heap.size wo (wo.alloc (Obj.cells #[] 2))) := (Below.refl _ _).alloc (Nat.le_refl _) _
      have Z0 : Hid ((0 : Nat) < 0 → IsMin 0 (G.take 0) ∧ IsMax 0 (G.take 0)) := fun h => absurd h (by omega)
      go_cut [5, 7, 8, 9, 10, 11] from 35 to 71 (fun la vd le mo _ _ wx => la = .int .i64 (ah L (t + m)) ∧ le = .int .i64 (mnL G) ∧ mo = .int .i64 (mxL G) ∧ Hid (wx.ownsRow wo.heap.size 2 1 vd m (ints G)) ∧ Hid (Below wo.heap.size wo wx))
      case first =>
        go_wp2_with fail
        go_loopw [5, 7, 8, 9, 10, 11] (fun la vd le mo i _ wx => ∃ (j : Nat) (lo hi' : Int), j ≤ m ∧ i = .int .i64 ((t + j : Nat) : Int) ∧ la = .int .i64 (ah L (t + j)) ∧ le = .int .i64 lo ∧ mo = .int .i64 hi' ∧ Hid (0 < j → IsMin lo (G.take j) ∧ IsMax hi' (G.take j)) ∧ Hid (wx.ownsRow wo.heap.size 2 1 vd j (ints (G.take j))) ∧ Hid (Below wo.heap.size wo wx)) (fun _ _ _ _ i _ _ => t + m - (intOf i).toNat)
        case atStart => exact ⟨0, 0, 0, Nat.zero_le _, rfl, rfl, rfl, rfl, Z0, D0, BD⟩
        case round =>
          clear D0 BD Z0
          obtain ⟨j, lo, hi', hj, rfl, rfl, rfl, rfl, MM, DD, BX⟩ := hrel
          obtain ⟨vd, hvd⟩ : ∃ vd, vd = u7 := ⟨_, rfl⟩
          subst hvd
          obtain ⟨va, vc, ev⟩ := row_form DD.out
          subst ev
          obtain ⟨ti, hti⟩ : ∃ ti, ti = t + j := ⟨_, rfl⟩
          have HTI : Hid (ti = t + j) := hti
          rw [← hti]
          have i0' : (0 : Int) ≤ (ti : Int) := by omega
          by_cases hlt : j < m
          · have i1' : (ti : Int) < (t : Int) + 16 := by omega
            have i2' : (ti : Int) < (n : Int) := by omega
            obtain ⟨b, o, rfl, x1, x2, q0⟩ := HC.out wr (BB.out.trans (BX.out.mono BB.out.size)) ti (by omega)
            unfold maxLen at x2
            have az := ah_b HR.out ti (by have := HN.out; omega)
            have bz := HR.out.2 ti (by have := HN.out; omega)
            obtain ⟨z, hz⟩ : ∃ z, z = L.getD ti 0 := ⟨_, rfl⟩
            obtain ⟨y, hy⟩ : ∃ y, y = ah L ti := ⟨_, rfl⟩
            obtain ⟨x, hx⟩ : ∃ x, x = z - y := ⟨_, rfl⟩
            have ex : z - y = x := hx.symm
            rw [← hz] at q0 bz
            rw [← hy] at az ⊢
            have DA : Hid (x = G.getD j 0) := (by show _ = _; rw [(GJ.out j hlt).1, ← hti, hx, hz, hy]; rfl)
            have AS : Hid (z = ah L (t + (j + 1))) := (by show _ = _; rw [show t + (j + 1) = ti + 1 by omega, ah_succ]; exact hz)
            have TK : Hid (G.take (j + 1) = G.take j ++ [x]) := (by show _ = _; rw [DA.out]; exact take_snoc G j (by rw [LL.out.1]; exact hlt))
            have bx : -4398046511104 ≤ x ∧ x ≤ 4398046511104 := by omega
            have hsz := BX.out.size
            have hjj : Hid (j < m) := hlt
            clear hz hy hx hti hlt
            by_cases hj0 : j = 0
            · subst hj0
              have eti : ti = t := HTI.out
              have eqb : ((ti : Int) == (t : Int)) = true := by simp; omega
              have M2 : Hid (0 < 0 + 1 → IsMin x (G.take (0 + 1)) ∧ IsMax x (G.take (0 + 1))) := fun _ => by rw [TK.out]; exact ⟨min_one x, max_one x⟩
              clear eti
              go_wp2_with (at_builtin; refine wpList_append_own_at _ rfl _ _ 22 rfl wo.heap.size 2 i2 (.int .i64 0) 1 8 Try.underlying22 hi hz0 hz1 hz2 rfl (by decide) _ _ _ rfl (DD.out.alloc _) ⟨wr.heap.size, 0, none⟩ 1 1 [.int .i64 x] rfl rfl (cell_one_new _ _ _) (by intro u hu; simp at hu; subst hu; rfl) (by unfold maxLen; omega) (by omega) (by simp; omega) ?_)
              intro v' w2 hown hgrow hnil hat
              have O2 : Hid (w2.ownsRow wo.heap.size 2 1 v' (0 + 1) (ints (G.take (0 + 1)))) := (by show World.ownsRow _ _ _ _ _ _ _; rw [TK.out, ints_snoc]; exact hown)
              have B2 : Hid (Below wo.heap.size wo w2) := (BX.out.alloc BX.out.size _).grown hgrow (by simp; omega) (fun b hb => (DD.out.lt b hb).1)
              clear hown hgrow hnil hat DD BX
              go_wp2_with fail
              go_roundw
              case rel => exact ⟨0 + 1, x, x, by have := hjj.out; omega, by have := HTI.out; go_num, by rw [← AS.out], by first | rfl | (congr 1; split <;> rfl), by first | rfl | (congr 1; split <;> rfl), M2, O2, B2⟩
              case measure => simp [intOf] <;> have := HTI.out <;> have := hjj.out <;> omega
            · have eqb : ((ti : Int) == (t : Int)) = false := by have := HTI.out; simp; omega
              obtain ⟨mn', mx'⟩ := MM.out (by omega)
              have M2 : Hid (0 < j + 1 → IsMin (min lo x) (G.take (j + 1)) ∧ IsMax (max hi' x) (G.take (j + 1))) := fun _ => by rw [TK.out, show min lo x = (if x < lo then x else lo) by split <;> omega, show max hi' x = (if hi' < x then x else hi') by split <;> omega]; exact ⟨mn'.more, mx'.more⟩
              obtain ⟨P, hP⟩ : ∃ P, P = G.take j := ⟨_, rfl⟩
              rw [← hP] at DD TK
              clear mn' mx' hP MM
              go_wp2_with (at_builtin; refine wpList_append_own_at _ rfl _ _ 22 rfl wo.heap.size 2 i2 (.int .i64 0) 1 8 Try.underlying22 hi hz0 hz1 hz2 rfl (by decide) _ _ _ rfl (DD.out.alloc _) ⟨wr.heap.size, 0, none⟩ 1 1 [.int .i64 x] rfl rfl (cell_one_new _ _ _) (by intro u hu; simp at hu; subst hu; rfl) (by unfold maxLen; omega) (by omega) (by simp; omega) ?_)
              intro v' w2 hown hgrow hnil hat
              have O2 : Hid (w2.ownsRow wo.heap.size 2 1 v' (j + 1) (ints (G.take (j + 1)))) := (by show World.ownsRow _ _ _ _ _ _ _; rw [TK.out, ints_snoc]; exact hown)
              have B2 : Hid (Below wo.heap.size wo w2) := (BX.out.alloc BX.out.size _).grown hgrow (by simp; omega) (fun b hb => (DD.out.lt b hb).1)
              clear hown hgrow hnil hat DD BX
              go_wp2_with fail
              go_roundw
              case rel => exact ⟨j + 1, _, _, by have := hjj.out; omega, by have := HTI.out; go_num, by rw [← AS.out], rfl, rfl, M2, O2, B2⟩
              case measure => simp [intOf] <;> have := HTI.out <;> have := hjj.out <;> omega
          · have ej : j = m := by omega
            subst ej
            obtain ⟨mn', mx'⟩ := MM.out (by omega)
            have GT : G.take j = G := List.take_of_length_le (by rw [LL.out.1]; exact Nat.le_refl _)
            rw [GT] at mn' mx'
            have EL : Hid (lo = mnL G ∧ hi' = mxL G) := ⟨mn'.same (mnL_is G LL.out.2.2.1), mx'.same (mxL_is G LL.out.2.2.1)⟩
            have DE : Hid (wr.ownsRow wo.heap.size 2 1 (.slice va j vc) j (ints G)) := (by show World.ownsRow _ _ _ _ _ _ _; have := DD.out; rw [GT] at this; exact this)
            clear mn' mx' GT DD hti
            by_cases h16 : j = 16
            · have i1' : ¬ (ti : Int) < (t : Int) + 16 := by have := HTI.out; omega
              clear h16
              go_wp2_with fail
              go_meet
              exact ⟨by rw [HTI.out], by rw [EL.out.1], by rw [EL.out.2], DE, BX⟩
            · have i1' : (ti : Int) < (t : Int) + 16 := by have := HTI.out; omega
              have i2' : ¬ (ti : Int) < (n : Int) := by have := HTI.out; omega
              clear h16
              go_wp2_with fail
              go_meet
              exact ⟨by rw [HTI.out], by rw [EL.out.1], by rw [EL.out.2], DE, BX⟩
      case rest =>
        clear D0 BD Z0
        obtain ⟨rfl, rfl, rfl, DE, BX⟩ := hcut
        obtain ⟨vd, hvd⟩ : ∃ vd, vd = u7 := ⟨_, rfl⟩
        subst hvd
        obtain ⟨da, dc, ev⟩ := row_form DE.out
        subst ev
        have b1 := mn_b HR.out k (by rw [← LL.out.2.1]; exact LL.out.2.2.1)
        have b2 := mx_b HR.out k (by rw [← LL.out.2.1]; exact LL.out.2.2.1)
        have b3 := wd_b HR.out k (by rw [← LL.out.2.1]; exact LL.out.2.2.1)
        have b4 := mnmx LL.out.2.2.1
        rw [← LL.out.2.1] at b1 b2 b3
        obtain ⟨mn, hmn⟩ : ∃ mn, mn = mnL G := ⟨_, rfl⟩
        obtain ⟨mx, hmx⟩ : ∃ mx, mx = mxL G := ⟨_, rfl⟩
        obtain ⟨df, hdf⟩ : ∃ df : Nat, df = (mx - mn).toNat := ⟨_, rfl⟩
        obtain ⟨wd, hwd⟩ : ∃ wd, wd = wdN df := ⟨_, rfl⟩
        have hwG : wdG G = wd := by rw [hwd, hdf, hmx, hmn]; rfl
        rw [← hmn] at b1 b4 ⊢
        rw [← hmx] at b2 b4 ⊢
        rw [hwG] at b3
        have e1 : mx - mn = (df : Int) := by omega
        have WL : Hid (wdN df = wd) := hwd.symm
        have WG : Hid (wdG G = wd ∧ mnL G = mn) := ⟨hwG, hmn.symm⟩
        have MN : Hid (∀ j, j < m → mn ≤ G.getD j 0 ∧ G.getD j 0 ≤ mx) := fun j hj => by
          have hmem := mem_at G j (by rw [LL.out.1]; exact hj)
          exact ⟨by rw [hmn]; exact (mnL_is G LL.out.2.2.1).2 _ hmem, by rw [hmx]; exact (mxL_is G LL.out.2.2.1).2 _ hmem⟩
        obtain ⟨x1, hx1⟩ : ∃ x1, x1 = mn + 4398046511104 := ⟨_, rfl⟩
        have ex1 : mn + 4398046511104 = x1 := hx1.symm
        have bx1 : 0 ≤ x1 ∧ x1 < 8796093022208 := by omega
        have X1 : Hid (x1 = mn + 4398046511104) := hx1
        have OC : Hid (wc.ownsRow w.heap.size 5 1 vo (byt (pkB L k)).length (bys (byt (pkB L k)))) := row_kb OO.out (KB.of_below BX.out (S := fun _ => False)) (fun _ _ h => h)
        have BC : Hid (Below w.heap.size w wc) := BB.out.trans (BX.out.mono BB.out.size)
        have P1 : Hid (Calls Try.prog 24 #[.slice (some ⟨wc.heap.size, 0, none⟩) 0 0, .int .i64 x1, .int .i64 48] (wc.alloc (.cells #[] 5)) fun e w' => ∃ v', e = .returned v' ∧ w'.ownsRow wc.heap.size 5 1 v' ([] ++ bts x1 48).length (bys ([] ++ bts x1 48)) ∧ (v'.ownBlock = some wc.heap.size ∨ ∀ k, v'.ownBlock = some k → (wc.alloc (.cells #[] 5)).heap.size ≤ k) ∧ (wc.alloc (.cells #[] 5)).grownBy w' (some wc.heap.size)) :=
          sput_any (wc.alloc (.cells #[] 5)) wc.heap.size (.slice (some ⟨wc.heap.size, 0, none⟩) 0 0) [] x1 48 (by omega) (by omega) (by simp) (by simp) (empty_row 5)
        clear hx1 hmn hmx hdf hwd hwG OO
        go_wp2_with fail
        refine P1.out.mono ?_
        rintro e w1 ⟨v1, rfl, o1, _, g1⟩
        have bw1 : Below wc.heap.size wc w1 := ((Below.refl _ _).alloc (Nat.le_refl _) _).grown g1 (by simp) (fun b hb => by have := Option.some.inj hb; omega)
        rw [List.nil_append] at o1
        have P2 : Hid (Calls Try.prog 23 #[v1] w1 fun e w' => ∃ v', e = .returned v' ∧ v' ≠ .slice none 0 0 ∧ w'.ownsRow w1.heap.size 5 1 v' (byt (bts x1 48)).length (bys (byt (bts x1 48))) ∧ Below w1.heap.size w1 w') := sbytes_any w1 v1 (bts x1 48) (Bytes.reads_row o1) (btk_01 _ _ _) (by rw [btk_len]; omega)
        have BW1 : Hid (Below wc.heap.size wc w1) := bw1
        clear o1 g1 bw1 P1
        go_wp2_with fail
        refine P2.out.mono ?_
        rintro e w2 ⟨v2, rfl, nz2, o2, bw2⟩
        obtain ⟨g2, c2, ev2, _, _, _, _⟩ := row_some o2 nz2
        have BW2 : Hid (Below wc.heap.size wc w2) := BW1.out.trans (bw2.mono BW1.out.size)
        have l6 : (byt (bts x1 48)).length = 6 := by rw [byt_len, btk_len]
        obtain ⟨H6, hH6⟩ : ∃ H6, H6 = byt (bts x1 48) := ⟨_, rfl⟩
        rw [← hH6] at o2 l6
        rw [l6] at o2
        have ev2' : v2 = .slice (some ⟨g2, 0, none⟩) 6 c2 := by rw [ev2, ← hH6, l6]
        subst ev2'
        have K2 : Hid (∀ j u, (bys H6)[j]? = some u → w2.cell? ((⟨g2, 0, none⟩ : Addr).add j) = some u) := bys_at l6 fun i hi => Bytes.row_cell (L := H6) (by rw [l6]; exact o2) i (by omega)
        have O2 : Hid (w2.ownsRow w.heap.size 5 1 vo (byt (pkB L k)).length (bys (byt (pkB L k)))) := row_kb OC.out (KB.of_below BW2.out (S := fun _ => False)) (fun _ _ h => h)
        have D2 : Hid (w2.ownsRow wo.heap.size 2 1 (.slice da m dc) m (ints G)) := row_kb DE.out (KB.of_below BW2.out (S := fun _ => False)) (fun _ _ h => h)
        have L6 : Hid (H6 = byt (bts x1 48) ∧ H6.length = 6) := ⟨hH6, l6⟩
        obtain ⟨PK, hPK⟩ : ∃ PK, PK = byt (pkB L k) := ⟨_, rfl⟩
        obtain ⟨np, hnp⟩ : ∃ np, np = PK.length := ⟨_, rfl⟩
        rw [← hPK, ← hnp] at O2
        obtain ⟨oa, oc, ev⟩ := row_form O2.out
        have PL : Hid (PK = byt (pkB L k) ∧ PK.length = np) := ⟨hPK, hnp.symm⟩
        have npb : np ≤ 10000000 := by
          have h1 := byt_len (pkB L k)
          have h2 := pkB_le HR.out k (by have := hkl.out; rw [← HN.out]; omega)
          have h3 := hkl.out
          have h4 : ng n = (n + 15) / 16 := rfl
          rw [hnp, hPK]
          omega
        have zz2 : w.heap.size ≤ w2.heap.size := (BC.out.trans (BW2.out.mono BC.out.size)).size
        subst ev
        clear o2 ev2 nz2 P2 OC DE hH6 l6 hPK hnp bw2
        go_wp2_with (at_builtin; refine wpList_append_own_at _ rfl _ _ 23 rfl w.heap.size 5 i5 (.int .u8 0) 1 1 Try.underlying23 hi5 hy0 hy1 hy2 rfl (by decide) _ _ _ rfl O2.out ⟨g2, 0, none⟩ 6 c2 (bys H6) rfl (by rw [List.length_map, L6.out.2]) K2.out (bys_cell _) (by unfold maxLen; omega) (by omega) (by omega) ?_)
        intro v3 w3 hown hgrow _ hat
        have D3 : Hid (w3.ownsRow wo.heap.size 2 1 (.slice da m dc) m (ints G)) := row_kb D2.out (KB.of_grown hgrow (S := fun g => (Value.slice oa np oc).ownBlock = some g) (fun g e => e)) (fun g hg hs => type_ne D2.out O2.out (by decide) g hg hs)
        have B3 : Hid (Below w.heap.size w w3) := (BC.out.trans (BW2.out.mono BC.out.size)).grown hgrow zz2 (fun b hb => (O2.out.lt b hb).1)
        have O3 : Hid (w3.ownsRow w.heap.size 5 1 v3 (np + 6) (bys (PK ++ H6))) := (by show World.ownsRow _ _ _ _ _ _ _; rw [show bys (PK ++ H6) = bys PK ++ bys H6 by simp]; exact hown)
        obtain ⟨pa, pc, ev⟩ := row_form O3.out
        subst ev
        clear hown hgrow hat O2 D2 BC BW1 BW2 K2 BX zz2
        go_wp2_with fail
        go_loop [12] (fun c => ∃ q : Nat, q ≤ wd ∧ c = .int .i64 (q : Int)) (fun c => wd - (intOf c).toNat)
        case atStart => exact ⟨0, Nat.zero_le _, rfl⟩
        case round =>
          obtain ⟨q, hq, rfl⟩ := hrel
          have q43 : q ≤ 43 := by omega
          have q0 : (0 : Int) ≤ (q : Int) := by omega
          have edq : (df : Int) / 2 ^ q = ((df / 2 ^ q : Nat) : Int) := by norm_cast
          by_cases hz : 0 < df / 2 ^ q
          · have c1 : (0 : Int) < (df : Int) / 2 ^ q := by rw [edq]; omega
            have ql : q < wd := by rw [← WL.out]; exact wd_step df q hz
            clear edq hz
            go_wp2_with fail
            go_round
            case rel => exact ⟨q + 1, by omega, by go_num⟩
            case measure => simp [intOf]; omega
          · have c1 : ¬ (0 : Int) < (df : Int) / 2 ^ q := by rw [edq]; omega
            have ew : q = wd := by rw [← WL.out]; exact wd_stop df q (Nat.eq_zero_of_not_pos hz) (by rw [WL.out]; exact hq)
            subst ew
            have w8 : (q : Int) % 256 = (q : Int) := by omega
            clear edq hz
            go_wp2_with (at_builtin; refine wpList_append_own_at _ rfl _ _ 23 rfl w.heap.size 5 i5 (.int .u8 0) 1 1 Try.underlying23 hi5 hy0 hy1 hy2 rfl (by decide) _ _ _ rfl (O3.out.alloc _) ⟨w3.heap.size, 0, none⟩ 1 1 [.int .u8 (q : Int)] rfl rfl (cell_one_new _ _ _) (by intro u hu; simp at hu; subst hu; rfl) (by unfold maxLen; omega) (by omega) (by have := B3.out.size; simp; omega) ?_)
            intro v4 w4 hown hgrow _ hat
            have GP : Hid (w3.ownsRow w.heap.size 5 1 (.slice pa (np + 6) pc) (np + 6) (bys (PK ++ H6))) := O3.out
            have D4 : Hid (w4.ownsRow wo.heap.size 2 1 (.slice da m dc) m (ints G)) := (by
              have d3 : (w3.alloc (Obj.cells #[.int .u8 (q : Int)] 5)).ownsRow wo.heap.size 2 1 (.slice da m dc) m (ints G) := D3.out.alloc _
              have o3 : (w3.alloc (Obj.cells #[.int .u8 (q : Int)] 5)).ownsRow w.heap.size 5 1 (.slice pa (np + 6) pc) (np + 6) (bys (PK ++ H6)) := GP.out.alloc _
              exact row_kb d3 (KB.of_grown hgrow (S := fun g => (Value.slice pa (np + 6) pc).ownBlock = some g) (fun g e => e)) (fun g hg hs => type_ne d3 o3 (by decide) g hg hs))
            have B4 : Hid (Below w.heap.size w w4) := (B3.out.alloc B3.out.size _).grown hgrow (by have := B3.out.size; simp; omega) (fun b hb => (GP.out.lt b hb).1)
            have O4 : Hid (w4.ownsRow w.heap.size 5 1 v4 (np + 7) (bys (PK ++ H6 ++ [(q : Int)]))) := (by show World.ownsRow _ _ _ _ _ _ _; rw [bys_snoc]; simpa using hown)
            obtain ⟨ra, rc, ev⟩ := row_form O4.out
            subst ev
            have P5 : Hid ((w4.alloc (.cells #[] 5)).ownsRow w4.heap.size 5 1 (.slice (some ⟨w4.heap.size, 0, none⟩) 0 0) (cod1 G 0).length (bys (cod1 G 0))) := empty_row 5
            have B5 : Hid (Below w4.heap.size w4 (w4.alloc (.cells #[] 5))) := (Below.refl _ _).alloc (Nat.le_refl _) _
            clear hown hgrow hat GP O3 D3 B3 w8
            go_wp2_with fail
            go_loopw [13, 14] (fun vb i wz => ∃ j : Nat, j ≤ m ∧ i = .int .i64 (j : Int) ∧ Hid (wz.ownsRow w4.heap.size 5 1 vb (cod1 G j).length (bys (cod1 G j))) ∧ Hid (Below w4.heap.size w4 wz)) (fun _ i _ => m - (intOf i).toNat)
            case atStart => exact ⟨0, Nat.zero_le _, rfl, P5, B5⟩
            case round =>
              clear P5 B5
              obtain ⟨j, hj, rfl, OB, BZ⟩ := hrel
              obtain ⟨vb, hvb⟩ : ∃ vb, vb = u13 := ⟨_, rfl⟩
              subst hvb
              obtain ⟨cb, hcb⟩ : ∃ cb, cb = (cod1 G j).length := ⟨_, rfl⟩
              have CBL : Hid (cb = (cod1 G j).length ∧ cb ≤ 16 * 43) := (by
                show _ ∧ _
                have : j * q ≤ 16 * 43 := Nat.mul_le_mul (by omega) (by omega)
                have h2 := cod1_len G j
                rw [WG.out.1] at h2
                exact ⟨hcb, by omega⟩)
              rw [← hcb] at OB
              obtain ⟨ba, bc, ev⟩ := row_form OB.out
              subst ev
              have zz := BZ.out.size
              clear hcb
              by_cases hjm : j < m
              · have i1' : (j : Int) < (m : Int) := by omega
                have i0' : (0 : Int) ≤ (j : Int) := by omega
                have DZ : wr.ownsRow wo.heap.size 2 1 (.slice da m dc) m (ints G) := row_kb D4.out (KB.of_below BZ.out (S := fun _ => False)) (fun _ _ h => h)
                obtain ⟨gd, e0, cj⟩ : ∃ gd, da = some ⟨gd, 0, none⟩ ∧ wr.cell? ⟨gd, j, none⟩ = some (.int .i64 (G.getD j 0)) := by
                  rcases DZ.2 with ⟨h1, h2⟩ | ⟨gf, cap, cur, h1, h2, h3, h4, h5, h6⟩
                  · omega
                  · injection h1 with h1 _ h1c
                    subst h1 h1c
                    exact ⟨gf, rfl, row_int' DZ LL.out.1 j hjm⟩
                subst e0
                obtain ⟨z, hz⟩ : ∃ z, z = G.getD j 0 := ⟨_, rfl⟩
                have zb := MN.out j hjm
                rw [← hz] at cj zb
                obtain ⟨y, hy⟩ : ∃ y, y = z - mn := ⟨_, rfl⟩
                have ey : z - mn = y := hy.symm
                have yb : 0 ≤ y ∧ y < 9223372036854775808 := by omega
                have P6 : Hid (Calls Try.prog 24 #[.slice ba cb bc, .int .i64 y, .int .i64 (q : Int)] wr fun e w' => ∃ v', e = .returned v' ∧ w'.ownsRow w4.heap.size 5 1 v' (cod1 G (j + 1)).length (bys (cod1 G (j + 1))) ∧ w4.heap.size ≤ w4.heap.size ∧ wr.grownBy w' (Value.slice ba cb bc).ownBlock) := (by
                  have := sput_any wr w4.heap.size (.slice ba cb bc) (cod1 G j) y q yb (by omega) (by have := CBL.out; omega) zz (by rw [← CBL.out.1]; exact OB.out)
                  rw [cod1_succ, WG.out.1, WG.out.2, ← hz, ← hy]
                  exact this.mono fun e w' ⟨v', h1, h2, _, h4⟩ => ⟨v', h1, h2, Nat.le_refl _, h4⟩)
                have hjj : Hid (j < m) := hjm
                clear hz hy hjm DZ
                go_wp2_with fail
                refine P6.out.mono ?_
                rintro e w7 ⟨v7, rfl, o7, _, g7⟩
                have O7 : Hid (w7.ownsRow w4.heap.size 5 1 v7 (cod1 G (j + 1)).length (bys (cod1 G (j + 1)))) := o7
                have B7 : Hid (Below w4.heap.size w4 w7) := BZ.out.grown g7 zz (fun b hb => (OB.out.lt b hb).1)
                clear o7 g7 P6 OB BZ
                go_wp2_with fail
                go_roundw
                case rel => exact ⟨j + 1, by have := hjj.out; omega, by go_num, O7, B7⟩
                case measure => simp [intOf] <;> have := hjj.out <;> omega
              · have ej : j = m := by omega
                have i1' : ¬ (j : Int) < (m : Int) := by omega
                have P8 : Hid (Calls Try.prog 23 #[.slice ba cb bc] wr fun e w' => ∃ v', e = .returned v' ∧ v' ≠ .slice none 0 0 ∧ w'.ownsRow wr.heap.size 5 1 v' (byt (cod1 G j)).length (bys (byt (cod1 G j))) ∧ Below wr.heap.size wr w') := sbytes_any wr (.slice ba cb bc) (cod1 G j) (by rw [CBL.out.1]; exact Bytes.reads_row (by rw [← CBL.out.1]; exact OB.out)) (fun x hx => grB_01 G x (by rw [grB, LL.out.1, ← ej]; exact List.mem_append_right _ hx)) (by have := CBL.out; omega)
                have EJ : Hid (j = m) := ej
                clear ej
                go_wp2_with fail
                refine P8.out.mono ?_
                rintro e w8 ⟨v8, rfl, nz8, o8, bw8⟩
                obtain ⟨g8, c8, ev8, _, _, _, _⟩ := row_some o8 nz8
                have B48 : Hid (Below w4.heap.size w4 w8) := BZ.out.trans (bw8.mono zz)
                obtain ⟨H8, hH8⟩ : ∃ H8, H8 = byt (cod1 G j) := ⟨_, rfl⟩
                obtain ⟨n8, hn8⟩ : ∃ n8, n8 = H8.length := ⟨_, rfl⟩
                have L8 : Hid (H8 = byt (cod1 G j) ∧ H8.length = n8 ∧ n8 ≤ 100) := (by
                  show _ ∧ _
                  refine ⟨hH8, hn8.symm, ?_⟩
                  have h1 := byt_len (cod1 G j)
                  have := CBL.out
                  rw [hn8, hH8]
                  omega)
                rw [← hH8, ← hn8] at o8 ev8
                subst ev8
                have K8 : Hid (∀ j u, (bys H8)[j]? = some u → w8.cell? ((⟨g8, 0, none⟩ : Addr).add j) = some u) := bys_at hn8.symm fun i hi => Bytes.row_cell (L := H8) (by rw [← hn8]; exact o8) i (by omega)
                have O8 : Hid (w8.ownsRow w.heap.size 5 1 (.slice ra (np + 7) rc) (np + 7) (bys (PK ++ H6 ++ [(q : Int)]))) := row_kb O4.out (KB.of_below B48.out (S := fun _ => False)) (fun _ _ h => h)
                have zz8 : w.heap.size ≤ w8.heap.size := (B4.out.trans (B48.out.mono B4.out.size)).size
                have n8b : n8 ≤ 100 := L8.out.2.2
                clear o8 nz8 P8 OB hH8 hn8 bw8 O4 D4 BZ
                go_wp2_with (at_builtin; refine wpList_append_own_at _ rfl _ _ 23 rfl w.heap.size 5 i5 (.int .u8 0) 1 1 Try.underlying23 hi5 hy0 hy1 hy2 rfl (by decide) _ _ _ rfl O8.out ⟨g8, 0, none⟩ n8 c8 (bys H8) rfl (by rw [List.length_map, L8.out.2.1, Nat.mul_one]) K8.out (bys_cell _) (by unfold maxLen; omega) (by omega) (by omega) ?_)
                intro v9 w9 hown hgrow _ hat
                have B9 : Hid (Below w.heap.size w w9) := (B4.out.trans (B48.out.mono B4.out.size)).grown hgrow zz8 (fun b hb => (O8.out.lt b hb).1)
                have EPK : Hid (byt (pkB L (k + 1)) = PK ++ H6 ++ [(q : Int)] ++ H8) := (by
                  show _ = _
                  have q8 : (q : Int) % 256 = (q : Int) := by omega
                  rw [pk_succ L k (by rw [← HN.out]; exact hkl.out), ← LL.out.2.1, WG.out.1, WG.out.2, ← X1.out, LL.out.1, ← EJ.out, ← L8.out.1, ← L6.out.1, ← PL.out.1, q8])
                have O9 : Hid (w9.ownsRow w.heap.size 5 1 v9 (byt (pkB L (k + 1))).length (bys (byt (pkB L (k + 1))))) := (by
                  show World.ownsRow _ _ _ _ _ _ _
                  have e : (PK ++ H6 ++ [(q : Int)] ++ H8).length = np + 7 + n8 := by
                    rw [List.length_append, List.length_append, List.length_append, PL.out.2, L6.out.2, L8.out.2.1]
                    rfl
                  rw [EPK.out, e]
                  simpa using hown)
                clear hown hgrow hat O8 B4 B48 K8
                go_wp2_with fail
                go_roundw
                case rel => exact ⟨k + 1, by have := hkl.out; omega, by have := HT.out; go_num, by rw [show min (16 * (k + 1)) n = t + m by have := LL.out.2.2.2; have := HT.out; omega], O9, B9⟩
                case measure => simp [intOf] <;> have := HT.out <;> have := hkl.out <;> omega
    · have ek : k = ng n := by omega
      subst ek
      have i1 : ¬ (t : Int) < (n : Int) := by omega
      have FN : Hid (wo.ownsRow w.heap.size 5 1 vo (pk L).length (bys (pk L))) := (by show World.ownsRow _ _ _ _ _ _ _; rw [show pk L = byt (pkB L (ng n)) by rw [pk, HN.out]]; exact OO.out)
      clear OO ht
      go_wp2_with fail
      go_ret2
      exact ⟨_, rfl, FN.out, BB.out⟩
end Go.Proofs.Ytmopkbkdfipglaa.Lists
