/- Storm cells: the program marks one. -/
import Derived.Test.YtimbghigjfioeaaClS
namespace Go.Proofs.Ytimbghigjfioeaa.Cl
open Go.ChangeShapes Go.WideShapes Go.ChangeAt Go.RowKit
open Go.Proofs.Ytimbghigjfioeaa.Lists Go.Proofs.Ytimbghigjfioeaa.Wn

theorem around (r c : Int) (n : Nat) (hr : 1 ≤ r ∧ r ≤ 24) (hc : 1 ≤ c ∧ c ≤ 24) (hn : (n : Int) = r * c) (v : Value) (y : Nat) (hy : y < n) (w : World) :
    Calls Try.prog 20 #[Bx.sv r c v, .int .i64 y] w fun e w' => ∃ v', e = .returned v' ∧ w'.ownsRow w.heap.size 2 1 v' (Gd.nbi r c y).length (ints (Gd.nbi r c y)) ∧ Below w.heap.size w w' := by
  refine (Gd.around_any r c y hr hc (by omega) v w).mono ?_
  rintro e w' ⟨v', h1, h2, h3⟩
  refine ⟨v', h1, ?_, h3⟩
  unfold Gd.nbi
  rw [List.length_map]
  exact h2

theorem ne_zero {m : Int} (h : 1 ≤ m) : m ≠ 0 := by omega
theorem ms_len {n : Nat} {A B : List Int} {T T' : List Nat} (h : ms n A T + 1 ≤ ms n B T') (h' : ms n B T' ≤ 1200) : T.length ≤ 1000000 := by unfold ms at *; omega
theorem wl_of {l : Nat} (h : l ≤ 1200) : wrap64 (l : Int) = (l : Int) := IntWalk.wrap64_in _ (by omega)
theorem le_cast {l k : Nat} (h : l + 1 ≤ k) : (l : Int) ≤ (k : Int) := by omega

set_option maxRecDepth 20000 in
set_option maxHeartbeats 300000 in
theorem mark_storm (r c lv : Int) (L A0 : List Int) (n x : Nat) (m : Int) (b o cap g : Nat) (w : World) (hr : 1 ≤ r ∧ r ≤ 24) (hc : 1 ≤ c ∧ c ≤ 24) (hn : (n : Int) = r * c)
    (hC : ∀ i, i < n → w.cell? ⟨b, o + i, none⟩ = some (.int .i64 (L.getD i 0))) (hb : b < g) (hA : A0.length = n) (hx : x < n) (h0 : A0.getD x 0 = 0) (hm : 1 ≤ m ∧ m ≤ 576) (hne : ∀ y, y < A0.length → A0.getD y 0 ≠ m)
    (R : w.ownsRow g 2 1 (.slice (some ⟨g, 0, none⟩) n n) n (ints A0)) :
    Calls Try.prog 11 #[Bx.sv r c (.slice (some ⟨b, o, none⟩) n cap), .int .i64 lv, .slice (some ⟨g, 0, none⟩) n n, .int .i64 x, .int .i64 m] w fun e w' => e = .returned (.tuple #[]) ∧ ∃ A', Fill (nbs r c) (hi L lv) A0 x m A' ∧ w'.ownsRow g 2 1 (.slice (some ⟨g, 0, none⟩) n n) n (ints A') ∧ Below g w w' := by
  have n5 : n ≤ 576 := by have := (Bx.mul_le hr hc).2; omega
  have gl : g < w.heap.size := (R.lt g (by simp [Value.ownBlock])).2
  obtain ⟨m1, m2⟩ := hm
  have WI0 : Hid (WI (nbs r c) (hi L lv) A0 x m (A0.set x m) [x]) := wi_start (by omega) h0 hne
  have q1 : w.cell? ⟨g, x, none⟩ = some (.int .i64 0) := by have := row_get R hA x hx; rw [h0] at this; exact this
  have q2 : w.frozen? ⟨g, x, none⟩ = false := R.frozenAt x
  have i1 : (0 : Int) ≤ (x : Int) := by omega
  have i2 : (x : Int) < (n : Int) := by omega
  have HA : Hid (A0.length = n) := hA
  have HX : Hid (x < A0.length) := (by show _ < _; omega)
  have HN : Hid (∀ x y, y ∈ nbs r c x → y < n) := fun x y h => nbs_in hc.1 hn h
  have NA : Hid (∀ x k, k < (Gd.nbi r c ((x : Nat) : Int)).length → ∃ y : Nat, (nbs r c x)[k]? = some y ∧ y < n ∧ (Gd.nbi r c x).getD k 0 = (y : Int)) := fun x k h => nbs_at hc.1 hn h
  obtain ⟨V, hV⟩ : ∃ V, V = Value.slice (some ⟨b, o, none⟩) n cap := ⟨_, rfl⟩
  have HV : Hid (V = Value.slice (some ⟨b, o, none⟩) n cap) := hV
  have CA : Hid (∀ y, y < n → ∀ w, Calls Try.prog 20 #[Bx.sv r c V, .int .i64 ((y : Nat) : Int)] w fun e w' => ∃ v', e = .returned v' ∧ w'.ownsRow w.heap.size 2 1 v' (Gd.nbi r c y).length (ints (Gd.nbi r c y)) ∧ Below w.heap.size w w') := fun y hy w => around r c n hr hc hn V y hy w
  have HC : Hid (∀ i, i < n → w.cell? ⟨b, o + i, none⟩ = some (.int .i64 (L.getD i 0))) := hC
  have S0 : Hid (St w g g n n w.heap.size r c V (fun k => w.heap.size + 1 ≤ k) (((w.setCell ⟨g, x, none⟩ (.int .i64 m)).alloc (Obj.cells #[.int .i64 r, .int .i64 c, V] 26)).alloc (Obj.cells #[.int .i64 x] 2)) (A0.set x m) (.slice (some ⟨w.heap.size + 1, 0, none⟩) 1 1) [x]) := (by
    show St _ _ _ _ _ _ _ _ _ _ _ _ _ _
    refine ⟨((row_put R x m).alloc _).alloc _, ?_, (((Below.refl _ _).setCell (p := ⟨g, x, none⟩) (Nat.le_refl _) _).alloc (by simp; omega) _).alloc (by simp; omega) _, by simp; omega, ?_⟩
    · unfold Bo.Box; simp [go_sem]
    · have := Win.new ((w.setCell ⟨g, x, none⟩ (.int .i64 m)).alloc (Obj.cells #[.int .i64 r, .int .i64 c, V] 26)) (fun k => w.heap.size + 1 ≤ k) (by simp) x
      simpa [ti] using this)
  have M0 : Hid (ms n (A0.set x m) [x] ≤ 1200) := (by show _ ≤ _; have := zc_le (A0.set x m) n; unfold ms; simp; omega)
  rw [← hV]
  clear hr hc hn hC hA h0 hne R hV
  go_enter Try.func11, Try.ntmps11
  go_wp2_with fail
  go_loopw [10] (fun u wr => ∃ A T, Hid (WI (nbs r c) (hi L lv) A0 x m A T) ∧ Hid (St w g g n n w.heap.size r c V (fun k => w.heap.size + 1 ≤ k) wr A u T) ∧ Hid (ms n A T ≤ 1200)) (fun u wr => 2 * zc (rowOf wr g n) n + lenOf u)
  case atStart => exact ⟨_, _, WI0, S0, M0⟩
  case round =>
    clear WI0 S0 M0 q1 q2 i1 i2
    obtain ⟨A, T, I, S, M⟩ := hrel
    have EA : Hid (A.length = n) := I.out.len.trans HA.out
    rcases List.eq_nil_or_concat T with hT | ⟨T', y, hT⟩
    · subst hT
      obtain ⟨gT, off, ct, hu, ⟨hg1, hg2⟩, hg3, hg4⟩ := S.out.win.form
      subst hu
      have FI : Hid (Fill (nbs r c) (hi L lv) A0 x m A) := wi_end (fun x _ y hy => by rw [HA.out]; exact HN.out x y hy) HX.out I.out
      have RE : Hid (wr.ownsRow g 2 1 (.slice (some ⟨g, 0, none⟩) n n) n (ints A)) := S.out.row
      have BE : Hid (Below g w wr) := S.out.bel
      rw [ti_len] at *
      go_wp2_with fail
      go_end0
      exact ⟨rfl, A, FI.out, RE.out, BE.out⟩
    · rw [List.concat_eq_append] at hT
      subst hT
      obtain ⟨gT, off, ct, hu, ⟨hg1, hg2⟩, hg3, hg4⟩ := S.out.win.form
      subst hu
      have EM : Hid (2 * zc (rowOf wr g n) n + lenOf (.slice (some ⟨gT, off, none⟩) (ti (T' ++ [y])).length ct) = ms n A (T' ++ [y])) := (by
        show _ = _
        rw [rowOf_is S.out.row EA.out, ti_len]
        rfl)
      obtain ⟨yl, ym⟩ := I.out.tl y (by simp)
      rw [HA.out] at yl
      have W1 : Win wr (fun k => w.heap.size + 1 ≤ k) (.slice (some ⟨gT, off, none⟩) (ti T' ++ [(y : Int)]).length ct) (ti T' ++ [(y : Int)]) := by rw [← ti_snoc]; exact S.out.win
      have q0 : wr.cell? ⟨gT, off + T'.length, none⟩ = some (.int .i64 y) := by have := W1.last; rwa [ti_len] at this
      have W2 : Hid (Win wr (fun k => w.heap.size + 1 ≤ k) (.slice (some ⟨gT, off, none⟩) T'.length ct) (ti T')) := (by have := W1.init; rwa [ti_len] at this)
      have CI0 : Hid (CI (nbs r c) (hi L lv) A0 x m y 0 A T') := ci_start I.out (by simp) (fun z hz => by simp at hz; exact hz.symm) (fun z hz => by simp [hz])
      have MS : Hid (ms n A T' + 1 = ms n A (T' ++ [y])) := (by show _ = _; unfold ms; simp; omega)
      have tl : (ti (T' ++ [y])).length = T'.length + 1 := by rw [ti_len]; simp
      have t1 : T'.length ≤ 1200 := by have := M.out; unfold ms at this; simp at this; omega
      rw [tl] at EM hg3 ⊢
      obtain ⟨l, hl⟩ : ∃ l, T'.length = l := ⟨_, rfl⟩
      rw [hl] at q0 t1 W2 EM hg3 ⊢
      clear hl W1 ym tl
      obtain ⟨g0, g1, g2⟩ := id S.out.box
      have wl : wrap64 (l : Int) = (l : Int) := wl_of t1
      have j1 : (0 : Int) ≤ (l : Int) := Int.natCast_nonneg l
      have j3 : (l : Int) ≤ (ct : Int) := le_cast hg3
      have S2 : Hid (St w g g n n w.heap.size r c V (fun k => w.heap.size + 1 ≤ k) wr A (.slice (some ⟨gT, off, none⟩) l ct) T') := ⟨S.out.row, S.out.box, S.out.bel, S.out.siz, W2.out⟩
      have GW : Hid (g ≤ wr.heap.size) := (by show _ ≤ _; have := S.out.siz; exact Nat.le_trans (Nat.le_of_lt gl) (Nat.le_of_lt this))
      obtain ⟨wA, hwA⟩ : ∃ q : World, q = wr := ⟨_, rfl⟩
      subst hwA
      clear S W2 hg1 hg2 hg4
      go_wp2_with fail
      refine (CA.out y yl _).mono ?_
      rintro e w1 ⟨v1, rfl, r1, b1⟩
      obtain ⟨a1, c1, gn, hv1, n1, n2, n3⟩ := list_at r1
      subst hv1
      have S3 : Hid (St w g g n n w.heap.size r c V (fun k => w.heap.size + 1 ≤ k ∧ k ≠ gn) w1 A (.slice (some ⟨gT, off, none⟩) l ct) T') := (S2.out.to (P' := fun k => w.heap.size + 1 ≤ k ∧ k ≠ gn) (fun k hk hp => ⟨hp, fun e => Nat.lt_irrefl _ (Nat.lt_of_lt_of_le (e ▸ hk) n1)⟩)).on b1 GW.out
      have N2 : Hid (0 < (Gd.nbi r c y).length → a1 = some ⟨gn, 0, none⟩ ∧ gn < w1.heap.size) := n2
      have N3 : Hid (∀ i, i < (Gd.nbi r c y).length → w1.cell? ⟨gn, i, none⟩ = some (.int .i64 ((Gd.nbi r c y).getD i 0))) := n3
      have N4 : Hid ((nbs r c y).length = (Gd.nbi r c y).length) := nbs_len r c y
      have N5 : Hid (∀ k, k < (Gd.nbi r c (y : Int)).length → ∃ z : Nat, (nbs r c y)[k]? = some z ∧ z < n ∧ (Gd.nbi r c y).getD k 0 = (z : Int)) := fun k h => NA.out y k h
      have N6 := nbi_len r c y
      have GN : Hid (w.heap.size < gn ∧ g < gn) := (by show _ ∧ _; have := S2.out.siz; omega)
      have M3 : Hid (ms n A T' + 1 ≤ ms n A (T' ++ [y])) := Nat.le_of_eq MS.out
      clear n1 n2 n3 r1 b1 S2 GW MS NA q0 g0 g1 g2 wl j1 j3 hg3 t1
      obtain ⟨X, hX⟩ : ∃ X, X = Gd.nbi r c y := ⟨_, rfl⟩
      rw [← hX] at N2 N3 N4 N5 N6 ⊢
      clear hX
      obtain ⟨nl, hnl⟩ : ∃ nl, X.length = nl := ⟨_, rfl⟩
      rw [hnl] at N2 N3 N4 N5 N6 ⊢
      clear hnl
      go_wp2_with fail
      go_loopw [10, 38] (fun u i wr => ∃ (k : Nat) (A2 : List Int) (T2 : List Nat), k ≤ nl ∧ i = .int .i64 k ∧ Hid (CI (nbs r c) (hi L lv) A0 x m y k A2 T2) ∧ Hid (St w g g n n w.heap.size r c V (fun k => w.heap.size + 1 ≤ k ∧ k ≠ gn) wr A2 u T2) ∧ Hid (ms n A2 T2 + 1 ≤ ms n A (T' ++ [y])) ∧ Hid (∀ i, i < nl → wr.cell? ⟨gn, i, none⟩ = some (.int .i64 (X.getD i 0))) ∧ Hid (0 < nl → gn < wr.heap.size)) (fun _ i _ => nl - (intOf i).toNat)
      case atStart => exact ⟨0, A, T', Nat.zero_le _, rfl, CI0, S3, M3, N3, fun h => (N2.out h).2⟩
      case round =>
        clear CI0 S3 M3 N3
        obtain ⟨k, A2, T2, hk, rfl, K, S, MM, N3, N8⟩ := hrel
        have A2L : Hid (A2.length = n) := K.out.len.trans HA.out
        by_cases hlt : k < nl
        · obtain ⟨z, hz, zl, ze⟩ := N5.out k hlt
          obtain ⟨ha, _⟩ := N2.out (Nat.lt_of_le_of_lt (Nat.zero_le _) hlt)
          subst ha
          have q0 : wr.cell? ⟨gn, k, none⟩ = some (.int .i64 z) := by rw [N3.out k hlt, ze]
          obtain ⟨_, _, g2⟩ := id S.out.box
          rw [HV.out] at g2
          have q1 : wr.cell? ⟨b, o + z, none⟩ = some (.int .i64 (L.getD z 0)) := (S.out.bel.cell (p := ⟨b, o + z, none⟩) hb).trans (HC.out z zl)
          have q2 : wr.cell? ⟨g, z, none⟩ = some (.int .i64 (A2.getD z 0)) := row_get S.out.row A2L.out z zl
          have q3 : wr.frozen? ⟨g, z, none⟩ = false := S.out.row.frozenAt z
          have i1 : (0 : Int) ≤ (k : Int) := Int.natCast_nonneg k
          have i2 : (k : Int) < (nl : Int) := Int.ofNat_lt.2 hlt
          have i3 : (0 : Int) ≤ (z : Int) := Int.natCast_nonneg z
          have i4 : (z : Int) < (n : Int) := Int.ofNat_lt.2 zl
          have HZ : Hid ((nbs r c y)[k]? = some z) := hz
          have HI : Hid (hi L lv z = decide (lv ≤ L.getD z 0)) := rfl
          have ZL : Hid (z < A0.length) := (by show _ < _; rw [HA.out]; exact zl)
          clear ze hz
          by_cases hv : lv ≤ L.getD z 0
          · by_cases h0 : A2.getD z 0 = 0
            · have K2 : Hid (CI (nbs r c) (hi L lv) A0 x m y (k + 1) (A2.set z m) (T2 ++ [z])) := ci_take K.out HZ.out ZL.out h0 (by rw [HI.out]; exact decide_eq_true hv) (fun q => by simp)
              have MT : Hid (ms n (A2.set z m) (T2 ++ [z]) + 1 ≤ ms n A (T' ++ [y])) := (by show _ ≤ _; have := ms_take (T := T2) (m := m) (ne_zero m1) A2L.out zl h0; have h2 := MM.out; rw [← this] at h2; exact Nat.le_of_succ_le h2)
              have TL : Hid ((ti T2).length ≤ 1000000) := (by show _ ≤ _; rw [ti_len]; exact ms_len MM.out M.out)
              have GP : Hid (¬ (w.heap.size + 1 ≤ g ∧ g ≠ gn)) := fun h => by have := h.1; omega
              have S4 : Hid (St w g g n n w.heap.size r c V (fun k => w.heap.size + 1 ≤ k ∧ k ≠ gn) ((wr.setCell ⟨g, z, none⟩ (.int .i64 m)).alloc (Obj.cells #[.int .i64 z] 2)) (A2.set z m) u10 T2) := (by
                have h := S.out.store (Nat.le_refl _) (by omega) GP.out z m
                exact h.on ((Below.refl _ _).alloc (Nat.le_refl _) _) (by have := S.out.siz; simp; omega))
              have SS : Hid ((wr.setCell ⟨g, z, none⟩ (.int .i64 m)).heap.size = wr.heap.size) := (by show _ = _; simp)
              have GB : Hid (0 < nl → gn < wr.heap.size) := N8
              have BP : Hid (∀ k, ((wr.setCell ⟨g, z, none⟩ (.int .i64 m)).alloc (Obj.cells #[.int .i64 z] 2)).heap.size ≤ k → w.heap.size + 1 ≤ k ∧ k ≠ gn) := fun q hq => by
                have h1 := S.out.siz
                have h2 := N8.out (Nat.lt_of_le_of_lt (Nat.zero_le _) hlt)
                simp at hq
                omega
              have CN : Hid (∀ i, i < nl → ((wr.setCell ⟨g, z, none⟩ (.int .i64 m)).alloc (Obj.cells #[.int .i64 z] 2)).cell? ⟨gn, i, none⟩ = some (.int .i64 (X.getD i 0))) := fun i hi => by
                have h2 := N8.out (Nat.lt_of_le_of_lt (Nat.zero_le _) hlt)
                have h3 := GN.out.2
                have e1 := Below.heap_setCell wr ⟨g, z, none⟩ (.int .i64 m) gn (by show gn ≠ g; omega)
                have hb2 : Below (wr.setCell ⟨g, z, none⟩ (.int .i64 m)).heap.size (wr.setCell ⟨g, z, none⟩ (.int .i64 m)) ((wr.setCell ⟨g, z, none⟩ (.int .i64 m)).alloc (Obj.cells #[.int .i64 z] 2)) := (Below.refl _ _).alloc (Nat.le_refl _) _
                exact ((hb2.cell (p := ⟨gn, i, none⟩) (by simp; exact h2)).trans (World.cell?_of_block e1)).trans (N3.out i hi)
              rw [h0] at q2
              clear K h0 HI S MM N3
              generalize A2.set z m = A3 at *
              generalize L.getD z 0 = lz at *
              go_wp2_with (at_builtin; refine wpList_append_win _ rfl _ _ rfl (fun k => w.heap.size + 1 ≤ k ∧ k ≠ gn) _ (ti T2) rfl S4.out.win BP.out TL.out z ⟨wr.heap.size, 0, none⟩ 1 rfl (cell_one_at _ _ (.int .i64 z) 2 SS.out) ?_)
              intro v2 w2 hW hO
              have S5 : Hid (St w g g n n w.heap.size r c V (fun k => w.heap.size + 1 ≤ k ∧ k ≠ gn) w2 A3 v2 (T2 ++ [z])) := S4.out.push (by have := S4.out.siz; omega) hO (by rw [ti_snoc]; exact hW) ⟨GP.out, fun h => by have := h.1; omega, fun k hk h => by have := h.1; omega⟩
              have gnl := GB.out (Nat.lt_of_le_of_lt (Nat.zero_le _) hlt)
              have C5 : Hid (∀ i, i < nl → w2.cell? ⟨gn, i, none⟩ = some (.int .i64 (X.getD i 0))) := fun i hi => (World.cell?_of_block (hO.block gn (by simp; omega) (fun h => h.2 rfl))).trans (CN.out i hi)
              have G5 : Hid (0 < nl → gn < w2.heap.size) := fun _ => (by have := hO.size; simp at this; omega)
              clear hW hO CN BP S4 GB
              go_wp2_with fail
              go_roundw
              case rel => exact ⟨k + 1, A3, T2 ++ [z], hlt, by go_num, K2, S5, MT, C5, G5⟩
              case measure => simp [intOf]; omega
            · have K2 : Hid (CI (nbs r c) (hi L lv) A0 x m y (k + 1) A2 T2) := ci_skip K.out HZ.out ZL.out (fun h => h0 h.1)
              have h0' : (A2.getD z 0 == 0) = false := by rw [beq_eq_false_iff_ne]; exact h0
              clear K h0 HI
              generalize A2.getD z 0 = az at *
              generalize L.getD z 0 = lz at *
              go_wp2_with fail
              go_roundw
              case rel => exact ⟨k + 1, A2, T2, hlt, by go_num, K2, S, MM, N3, N8⟩
              case measure => simp [intOf]; omega
          · have K2 : Hid (CI (nbs r c) (hi L lv) A0 x m y (k + 1) A2 T2) := ci_skip K.out HZ.out ZL.out (fun h => hv (by have := h.2; rw [HI.out] at this; exact of_decide_eq_true this))
            clear K HI q2 q3
            generalize L.getD z 0 = lz at *
            go_wp2_with fail
            go_roundw
            case rel => exact ⟨k + 1, A2, T2, hlt, by go_num, K2, S, MM, N3, N8⟩
            case measure => simp [intOf]; omega
        · have ek : k = nl := Nat.le_antisymm hk (Nat.le_of_not_lt hlt)
          subst ek
          have WE : Hid (WI (nbs r c) (hi L lv) A0 x m A2 T2) := (by have := K.out; rw [← N4.out] at this; exact ci_end this)
          have SE : Hid (St w g g n n w.heap.size r c V (fun k => w.heap.size + 1 ≤ k) wr A2 u10 T2) := S.out.to (fun k _ h => h.1)
          have ME : Hid (ms n A2 T2 ≤ 1200) := Nat.le_trans (Nat.le_of_succ_le MM.out) M.out
          have ML : Hid (2 * zc (rowOf wr g n) n + lenOf u10 = ms n A2 T2) := (by
            show _ = _
            obtain ⟨gU, oU, cU, hu, _⟩ := S.out.win.form
            rw [rowOf_is S.out.row A2L.out, hu, ti_len]
            rfl)
          clear K S N3 N5 N2
          go_wp2_with fail
          go_roundw
          case rel => exact ⟨A2, T2, WE, SE, ME⟩
          case measure => have h1 := EM.out; have h2 := ML.out; have h3 := MM.out; rw [h1, h2]; exact h3
end Go.Proofs.Ytimbghigjfioeaa.Cl
