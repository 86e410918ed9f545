/- Storm cells: the model. -/
import Derived.Test.YthmknlejnnnbaaaClC
namespace Go.Proofs.Ythmknlejnnnbaaa.Cl
open Go.ChangeShapes Go.WideShapes Go.ChangeAt Go.RowKit
open Go.Proofs.Ythmknlejnnnbaaa.Lists Go.Proofs.Ythmknlejnnnbaaa.Wn

/-- Cells being made. -/
def Mk (w : World) (r c : Int) (v : Value) (wx : World) (u : Value) (k : Nat) : Prop := wx.ownsRow (w.heap.size + 1) 2 1 u k (ints (zeros k)) ∧ Bo.Box wx w.heap.size (.int .i64 r) (.int .i64 c) v ∧ Below w.heap.size w wx ∧ w.heap.size + 1 ≤ wx.heap.size
theorem Mk.push {w wx w2 : World} {r c : Int} {v u u' : Value} {k : Nat} {o : Obj} (h : Mk w r c v wx u k) (hown : w2.ownsRow (w.heap.size + 1) 2 1 u' (k + 1) (ints (zeros k) ++ [.int .i64 0])) (hgrow : (wx.alloc o).grownBy w2 u.ownBlock) : Mk w r c v w2 u' (k + 1) := by
  obtain ⟨h1, h2, h3, h4⟩ := h
  have hs := hgrow.size
  simp at hs
  have ol : ∀ g, u.ownBlock = some g → w.heap.size + 1 ≤ g := fun g hg => (h1.lt g hg).1
  refine ⟨?_, ?_, (h3.alloc h3.size _).grown hgrow (by simp; omega) (fun g hg => by have := ol g hg; omega), by omega⟩
  · rw [zeros_snoc]
    simpa [ints] using hown
  · have ha : Bo.Box (wx.alloc o) w.heap.size (.int .i64 r) (.int .i64 c) v := h2.on ((Below.refl wx.heap.size wx).alloc (Nat.le_refl _) _) (by omega)
    exact ha.apart hgrow (fun k hk => by have := ol k hk; omega)
theorem sides (r c : Int) (n : Nat) (hr : 1 ≤ r ∧ r ≤ 24) (hc : 1 ≤ c ∧ c ≤ 24) (hn : (n : Int) = r * c) (v : Value) (y : Nat) (hy : y < n) (w : World) :
    Calls Try.prog 22 #[Bx.sv r c v, .int .i64 y] w fun e w' => ∃ v', e = .returned v' ∧ w'.ownsRow w.heap.size 2 1 v' (Gd.nbi r c y).length (ints (Gd.nbi r c y)) ∧ Below w.heap.size w w' :=
  Gd.sides_any r c y hr hc (by omega) v w

theorem bp_of {a g gn q d : Nat} (hq : d + 1 ≤ q) (h1 : a < d) (h2 : gn < d) (h3 : g < gn) : (a < q ∧ q ≠ g) ∧ q ≠ gn := by omega
theorem sub_ne {l k : Nat} (h : l + 1 ≤ k) (h1 : ¬ k = 1) : ¬ k - 1 = 0 := by omega
theorem one_le {l k : Nat} (h : l + 1 ≤ k) : (1 : Int) ≤ (k : Int) := by omega

set_option maxRecDepth 20000 in
set_option maxHeartbeats 600000 in
theorem scells_yes (r c : Int) (L : List Int) (lv : Int) (v : Value) (w : World) (hL : Lists.Reads w v L) (fL : L.length < 9223372036854775808) (h1 : Bx.okB r c L = true) :
    Calls Try.prog 10 #[Bx.sv r c v, .int .i64 lv] w fun e w' => ∃ u m A, Run (nbs r c) (hi L lv) L.length (zeros L.length) m A ∧ e = .returned u ∧ w'.ownsRow w.heap.size 2 1 u A.length (ints A) ∧ Below w.heap.size w w' := by
  obtain ⟨hr, hc, hn⟩ := Mv.size_of h1
  have n0 := Bx.mul_le hr hc
  obtain ⟨b, o, hcell, hv⟩ := Bx.reads_at hL
  obtain ⟨hb, cap, hv⟩ := hv (by omega)
  have S1 : Hid (∀ w', Below w.heap.size w w' → Calls Try.prog 17 #[Bx.sv r c v] w' fun e w'' => e = .returned (.bool true) ∧ Below w'.heap.size w' w'') := fun w' hb => by have := Bx.sok_any r c L v w' (hL.on hb) fL; rwa [h1] at this
  obtain ⟨n, hnn⟩ : ∃ n, L.length = n := ⟨_, rfl⟩
  rw [hnn] at hn hcell hv ⊢
  have n5 : n ≤ 576 := by omega
  have n1 : Hid (0 < n) := (by show _ < _; omega)
  have HC : Hid (∀ i, i < n → w.cell? ⟨b, o + i, none⟩ = some (.int .i64 (L.getD i 0))) := hcell
  have HN : Hid (∀ x y, y ∈ nbs r c x → y < n) := fun x y h => nbs_in hc.1 hn h
  have NA : Hid (∀ x k, k < (Gd.nbi r c ((x : Nat) : Int)).length → ∃ y : Nat, (nbs r c x)[k]? = some y ∧ y < n ∧ (Gd.nbi r c x).getD k 0 = (y : Int)) := fun x k h => nbs_at hc.1 hn h
  have CA : Hid (∀ y, y < n → ∀ w, Calls Try.prog 22 #[Bx.sv r c v, .int .i64 ((y : Nat) : Int)] w fun e w' => ∃ v', e = .returned v' ∧ w'.ownsRow w.heap.size 2 1 v' (Gd.nbi r c y).length (ints (Gd.nbi r c y)) ∧ Below w.heap.size w w') := fun y hy w => sides r c n hr hc hn v y hy w
  have HV : Hid (v = .slice (some ⟨b, o, none⟩) n cap) := hv
  obtain ⟨i0, hi, hz0, hz1, hz2⟩ := info_parts Lists.Try.info2
  obtain ⟨w0, hw0⟩ : ∃ w0, w0 = (w.alloc (Obj.cells #[.int .i64 r, .int .i64 c, v] 28)).alloc (Obj.cells #[] 2) := ⟨_, rfl⟩
  have HW0 : Hid (w0 = (w.alloc (Obj.cells #[.int .i64 r, .int .i64 c, v] 28)).alloc (Obj.cells #[] 2)) := hw0
  have T0 : Hid (Mk w r c v w0 (.slice (some ⟨w.heap.size + 1, 0, none⟩) 0 0) 0) := (by
    show Mk _ _ _ _ _ _ _
    rw [hw0]
    have := World.ownsRow_lit (e := 2) (w.alloc (Obj.cells #[.int .i64 r, .int .i64 c, v] 28)) #[] 0 (size := 1) (base := w.heap.size + 1) (by simp) (Nat.zero_le _) rfl
    refine ⟨by simpa [zeros, ints] using this, ?_, ((Below.refl _ _).alloc (Nat.le_refl _) _).alloc (by simp) _, by simp⟩
    unfold Bo.Box
    simp [go_sem])
  have rc : r * c = (n : Int) := hn.symm
  have wn : wrap64 (n : Int) = (n : Int) := IntWalk.wrap64_in _ (by omega)
  clear hr hc hn n0 hcell fL h1 hw0 hL hnn hv
  go_enter Try.func10, Try.ntmps10
  go_wp2_with fail
  rw [← HW0.out]
  refine (S1.out _ T0.out.2.2.1).mono ?_
  rintro e w1 ⟨rfl, b1⟩
  have T1 : Hid (Mk w r c v w1 (.slice (some ⟨w.heap.size + 1, 0, none⟩) 0 0) 0) := ⟨Bo.row_on T0.out.1 b1, T0.out.2.1.on b1 (by have := T0.out.2.2.2; omega), T0.out.2.2.1.trans (b1.mono T0.out.2.2.1.size), Nat.le_trans T0.out.2.2.2 b1.size⟩
  clear b1 HW0 T0
  go_wp2_with fail
  go_loopw [5, 6] (fun u i wr => ∃ k : Nat, k ≤ n ∧ i = .int .i64 k ∧ Hid (Mk w r c v wr u k)) (fun _ i _ => n - (intOf i).toNat)
  case atStart => exact ⟨0, Nat.zero_le _, rfl, T1⟩
  case round =>
    clear T1
    obtain ⟨k, hk, rfl, T⟩ := hrel
    obtain ⟨g0, g1, g2⟩ := id T.out.2.1
    obtain ⟨sa, sc, hu⟩ := Gd.row_form T.out.1
    subst hu
    by_cases hlt : k < n
    · have zs := T.out.2.2.2
      go_wp2_with (at_builtin; refine wpList_append_own _ rfl _ _ 22 rfl (w.heap.size + 1) 2 i0 (.int .i64 0) 1 8 Try.underlying22 hi hz0 hz1 hz2 rfl (by decide) _ _ _ rfl (T.out.1.alloc _) ⟨wr.heap.size, 0, none⟩ 1 1 [.int .i64 0] rfl rfl (cell_one_new wr (.int .i64 0) 2) (Gd.one_int _) (by unfold maxLen; omega) (by omega) (by simp; omega) ?_)
      intro v' w2 hown hgrow _
      have T2 : Hid (Mk w r c v w2 v' (k + 1)) := Mk.push T.out hown hgrow
      clear hown hgrow
      go_wp2_with fail
      go_roundw
      case rel => exact ⟨k + 1, hlt, by go_num, T2⟩
      case measure => simp [intOf]; omega
    · have ek : n = k := (Nat.le_antisymm hk (Nat.le_of_not_lt hlt)).symm
      subst ek
      obtain ⟨wB, hwB⟩ : ∃ q : World, q = wr := ⟨_, rfl⟩
      subst hwB
      have n1' := n1.out
      obtain ⟨g, cp, hu, hg1, hg2⟩ : ∃ g cp, Value.slice sa n sc = .slice (some ⟨g, 0, none⟩) n cp ∧ w.heap.size + 1 ≤ g ∧ g < wB.heap.size := by
        have R' : wB.ownsRow (w.heap.size + 1) 2 1 (.slice sa n sc) (zeros n).length (ints (zeros n)) := by rw [zeros_len]; exact T.out.1
        rcases row_cases R' with ⟨h, _⟩ | ⟨g, cap, h1, h2, h3, _⟩
        · have := zeros_len n; rw [h] at this; simp at this; omega
        · rw [zeros_len] at h1; exact ⟨g, cap, h1, h2, h3⟩
      obtain ⟨rfl, _, rfl⟩ : sa = some ⟨g, 0, none⟩ ∧ True ∧ sc = cp := by simp at hu; exact ⟨hu.1, trivial, hu.2⟩
      clear hu n1'
      have R0 : Hid (wB.ownsRow w.heap.size 2 1 (.slice (some ⟨g, 0, none⟩) n sc) n (ints (zeros n))) := Bo.own_down T.out.1 (Nat.le_succ _)
      have X0 : Hid (Bo.Box wB w.heap.size (.int .i64 r) (.int .i64 c) v ∧ w.heap.size < wB.heap.size) := ⟨T.out.2.1, T.out.2.2.2⟩
      have B0 : Hid (Below w.heap.size w wB) := T.out.2.2.1
      clear T
      have PG : Hid (¬ (w.heap.size < g ∧ g ≠ g) ∧ ¬ (w.heap.size < w.heap.size ∧ w.heap.size ≠ g) ∧ ∀ k, k < w.heap.size → ¬ (w.heap.size < k ∧ k ≠ g)) := ⟨fun h => h.2 rfl, fun h => Nat.lt_irrefl _ h.1, fun k hk h => by have := h.1; omega⟩
      have bg : w.heap.size ≠ g := by omega
      have lg : w.heap.size ≤ g := by omega
      go_wp2_with fail
      clear g0 g1 g2 rc wn
      go_loopw [7, 8] (fun t i wr => ∃ (k : Nat) (m : Int) (A : List Int), k ≤ n ∧ t = .int .i64 m ∧ i = .int .i64 k ∧ Hid (Run (nbs r c) (Cl.hi L lv) k (zeros n) m A) ∧ Hid (wr.ownsRow w.heap.size 2 1 (.slice (some ⟨g, 0, none⟩) n sc) n (ints A)) ∧ Hid (Bo.Box wr w.heap.size (.int .i64 r) (.int .i64 c) v ∧ w.heap.size < wr.heap.size) ∧ Hid (Below w.heap.size w wr)) (fun _ i _ => n - (intOf i).toNat)
      case atStart => exact ⟨0, 0, zeros n, Nat.zero_le _, rfl, rfl, ⟨rfl, rfl⟩, R0, X0, B0⟩
      case round =>
        clear R0 X0 B0
        obtain ⟨k, m, A, hk, rfl, rfl, U, R, X, BB⟩ := hrel
        obtain ⟨AL, m0, m1, an⟩ := run_in U.out
        have HA : Hid (A.length = n) := AL
        have AN : Hid (∀ y, y < A.length → A.getD y 0 ≠ m + 1) := an
        clear AL an
        by_cases hlt : k < n
        · have q0 : wr.cell? ⟨b, o + k, none⟩ = some (.int .i64 (L.getD k 0)) := (BB.out.cell (p := ⟨b, o + k, none⟩) hb).trans (HC.out k hlt)
          have q1 : wr.cell? ⟨g, k, none⟩ = some (.int .i64 (A.getD k 0)) := row_get R.out HA.out k hlt
          have q2 : wr.frozen? ⟨g, k, none⟩ = false := R.out.frozenAt k
          obtain ⟨g0, g1, g2⟩ := id X.out.1
          rw [HV.out] at g2
          have i1 : (0 : Int) ≤ (k : Int) := Int.natCast_nonneg k
          have i2 : (k : Int) < (n : Int) := Int.ofNat_lt.2 hlt
          by_cases h0 : A.getD k 0 = 0
          · by_cases hv : lv ≤ L.getD k 0
            · obtain ⟨m', hm'⟩ : ∃ m', m' = m + 1 := ⟨_, rfl⟩
              have WI0 : Hid (WI (nbs r c) (Cl.hi L lv) A k m' (A.set k m') [k]) := (by rw [hm']; exact wi_start (by rw [HA.out]; exact hlt) h0 AN.out)
              have PW : Hid (¬ (w.heap.size < g ∧ g ≠ g)) := PG.out.1
              have S0 : Hid (St w w.heap.size g n sc w.heap.size r c v (fun k => w.heap.size < k ∧ k ≠ g) ((wr.setCell ⟨g, k, none⟩ (.int .i64 m')).alloc (Obj.cells #[.int .i64 k] 2)) (A.set k m') (.slice (some ⟨wr.heap.size, 0, none⟩) 1 1) [k]) := (by
                show St _ _ _ _ _ _ _ _ _ _ _ _ _ _
                have gw := (R.out.lt g (by simp [Value.ownBlock])).2
                have hs := X.out.2
                have e := Below.heap_setCell wr ⟨g, k, none⟩ (.int .i64 m') w.heap.size bg
                have hba : Below wr.heap.size (wr.setCell ⟨g, k, none⟩ (.int .i64 m')) ((wr.setCell ⟨g, k, none⟩ (.int .i64 m')).alloc (Obj.cells #[.int .i64 k] 2)) := (Below.refl _ _).alloc (by simp) _
                have hx : Bo.Box (wr.setCell ⟨g, k, none⟩ (.int .i64 m')) w.heap.size (.int .i64 r) (.int .i64 c) v := ⟨(World.cell?_of_block e).trans X.out.1.1, (World.cell?_of_block e).trans X.out.1.2.1, (World.cell?_of_block e).trans X.out.1.2.2⟩
                refine ⟨(row_put R.out k m').alloc _, hx.on hba hs, (BB.out.setCell (p := ⟨g, k, none⟩) lg _).alloc (by simp; omega) _, by simp; omega, ?_⟩
                have := Win.new (wr.setCell ⟨g, k, none⟩ (.int .i64 m')) (fun k => w.heap.size < k ∧ k ≠ g) (by simp; omega) k
                simpa [ti] using this)
              have M0 : Hid (ms n (A.set k m') [k] ≤ 1200) := (by show _ ≤ _; have := zc_le (A.set k m') n; unfold ms; simp; omega)
              have HX : Hid (k < A.length) := (by show _ < _; rw [HA.out]; exact hlt)
              have mm1 : 1 ≤ m' := by omega
              have mm2 : m' ≤ 576 := by omega
              have TK : Hid (∀ A', Fill (nbs r c) (Cl.hi L lv) A k m' A' → Run (nbs r c) (Cl.hi L lv) (k + 1) (zeros n) m' A') := fun A' f => by rw [hm'] at f ⊢; exact run_take U.out h0 hv f
              have gw : g < wr.heap.size := (R.out.lt g (by simp [Value.ownBlock])).2
              rw [h0] at q1
              have HM : Hid (m + 1 = m') := hm'.symm
              have m3 : m ≤ 575 := by omega
              obtain ⟨wC, hwC⟩ : ∃ q : World, q = wr := ⟨_, rfl⟩
              subst hwC
              clear U AN R X BB h0 hm'
              generalize L.getD k 0 = z at *
              go_wp2_with fail
              rw [HM.out]
              clear g0 g1 g2 q0 q1 q2 hv
              go_loopw [9] (fun u wr => ∃ A1 T, Hid (WI (nbs r c) (Cl.hi L lv) A k m' A1 T) ∧ Hid (St w w.heap.size g n sc w.heap.size r c v (fun k => w.heap.size < k ∧ k ≠ g) wr A1 u T) ∧ Hid (ms n A1 T ≤ 1200)) (fun u wr => 2 * zc (rowOf wr g n) n + lenOf u)
              case atStart => exact ⟨_, _, WI0, S0, M0⟩
              case round =>
                clear WI0 S0 M0
                obtain ⟨A1, T, I, S, M⟩ := hrel
                have EA : Hid (A1.length = n) := I.out.len.trans HA.out
                rcases T with _ | ⟨y, T'⟩
                · obtain ⟨gT, off, ct, hu, ⟨hg1, hg2⟩, hg3, hg4⟩ := S.out.win.form
                  subst hu
                  have FI : Hid (Run (nbs r c) (Cl.hi L lv) (k + 1) (zeros n) m' A1) := TK.out A1 (wi_end (fun x _ y hy => by rw [HA.out]; exact HN.out x y hy) HX.out I.out)
                  have RE : Hid (wr.ownsRow w.heap.size 2 1 (.slice (some ⟨g, 0, none⟩) n sc) n (ints A1)) := S.out.row
                  have XE : Hid (Bo.Box wr w.heap.size (.int .i64 r) (.int .i64 c) v ∧ w.heap.size < wr.heap.size) := ⟨S.out.box, S.out.siz⟩
                  have BE : Hid (Below w.heap.size w wr) := S.out.bel
                  rw [ti_len]
                  clear S I M EA hg1 hg2 hg3 hg4 TK CA NA HN
                  go_wp2_with fail
                  go_roundw
                  case rel => exact ⟨k + 1, m', A1, hlt, rfl, by go_num, FI, RE, XE, BE⟩
                  case measure => simp [intOf]; omega
                · obtain ⟨gT, off, ct, hu, ⟨hg1, hg2⟩, hg3, hg4⟩ := S.out.win.form
                  subst hu
                  have EM : Hid (2 * zc (rowOf wr g n) n + lenOf (.slice (some ⟨gT, off, none⟩) (ti (y :: T')).length ct) = ms n A1 (y :: T')) := (by
                    show _ = _
                    rw [rowOf_is S.out.row EA.out, ti_len]
                    rfl)
                  obtain ⟨yl, _⟩ := I.out.tl y (by simp)
                  rw [HA.out] at yl
                  have W1 : Hid (Win wr (fun k => w.heap.size < k ∧ k ≠ g) (.slice (some ⟨gT, off, none⟩) ((y : Int) :: ti T').length ct) ((y : Int) :: ti T')) := S.out.win
                  have q0 : wr.cell? ⟨gT, off, none⟩ = some (.int .i64 y) := W1.out.head
                  have CI0 : Hid (CI (nbs r c) (Cl.hi L lv) A k m' y 0 A1 T') := ci_start I.out (by simp) (fun z hz => by simp at hz; exact hz) (fun z hz => by simp [hz])
                  have MS : Hid (ms n A1 T' + 1 = ms n A1 (y :: T')) := (by show _ = _; unfold ms; simp; omega)
                  have tl : (ti (y :: T')).length = T'.length + 1 := by rw [ti_len]; simp
                  have t1 : T'.length ≤ 1200 := by have := M.out; unfold ms at this; simp at this; omega
                  have WT : Hid (ct ≠ 1 → Win wr (fun k => w.heap.size < k ∧ k ≠ g) (.slice (some ⟨gT, off + 1, none⟩) T'.length (ct - 1)) (ti T')) := fun _ => by have := W1.out.tail; rwa [ti_len] at this
                  have WU : Hid (ct = 1 → T' = [] ∧ Win wr (fun k => w.heap.size < k ∧ k ≠ g) (.slice (some ⟨gT, off, none⟩) 0 0) (ti T')) := fun h => by
                    have h2 := W1.out
                    rw [h] at h2
                    obtain ⟨h3, h4⟩ := h2.tail1
                    have h5 : T' = [] := by cases T' with
                      | nil => rfl
                      | cons a t => simp [ti] at h3
                    subst h5
                    exact ⟨rfl, h4⟩
                  have S2 : Hid (∀ u, Win wr (fun k => w.heap.size < k ∧ k ≠ g) u (ti T') → St w w.heap.size g n sc w.heap.size r c v (fun k => w.heap.size < k ∧ k ≠ g) wr A1 u T') := fun u hw => ⟨S.out.row, S.out.box, S.out.bel, S.out.siz, hw⟩
                  have X2 : Hid (Bo.Box wr w.heap.size (.int .i64 r) (.int .i64 c) v) := S.out.box
                  have GW : Hid (w.heap.size < wr.heap.size ∧ g < wr.heap.size) := ⟨S.out.siz, (S.out.row.lt g (by simp [Value.ownBlock])).2⟩
                  rw [tl] at EM hg3 ⊢
                  obtain ⟨l, hl⟩ : ∃ l, T'.length = l := ⟨_, rfl⟩
                  rw [hl] at t1 WT EM hg3 ⊢
                  have HL : Hid (T'.length = l) := hl
                  obtain ⟨wA, hwA⟩ : ∃ q : World, q = wr := ⟨_, rfl⟩
                  subst hwA
                  clear hl W1 tl S I EA hg1 hg2 hg4
                  go_upto_region 18 with fail
                  go_cut [9] from 58 to 108 (fun u wx => wx = wA ∧ Hid (Win wA (fun k => w.heap.size < k ∧ k ≠ g) u (ti T')))
                  case first =>
                    by_cases h1 : ct = 1
                    · obtain ⟨h2, h3⟩ := WU.out h1
                      have l0 : l = 0 := by have := HL.out; rw [h2] at this; exact this.symm
                      have H3 : Hid (Win wA (fun k => w.heap.size < k ∧ k ≠ g) (.slice (some ⟨gT, off, none⟩) 0 0) (ti T')) := h3
                      subst l0 h1
                      clear h2 h3 hg3 WT WU
                      go_wp2_with fail
                      go_meet
                      exact ⟨rfl, H3⟩
                    · have H3 : Hid (Win wA (fun k => w.heap.size < k ∧ k ≠ g) (.slice (some ⟨gT, off + 1, none⟩) l (ct - 1)) (ti T')) := WT.out h1
                      have c1 : ¬ ct - 1 = 0 := sub_ne hg3 h1
                      have c2 : (1 : Int) ≤ (ct : Int) := one_le hg3
                      have c3 : 1 ≤ ct := Nat.le_trans (Nat.le_add_left 1 l) hg3
                      clear WT WU
                      go_wp2_with fail
                      go_meet
                      exact ⟨rfl, H3⟩
                  case rest =>
                    obtain ⟨hwc, HW⟩ := hcut
                    have hwc' := hwc.symm
                    subst hwc'
                    clear hwc WT WU hg3 q0
                    obtain ⟨g0, g1, g2⟩ := id X2.out
                    have S2' : Hid (St w w.heap.size g n sc w.heap.size r c v (fun k => w.heap.size < k ∧ k ≠ g) wA A1 u9 T') := S2.out _ HW.out
                    clear S2 HW
                    go_wp2_with fail
                    refine (CA.out y yl _).mono ?_
                    rintro e w1 ⟨v1, rfl, r1, b1⟩
                    obtain ⟨a1, c1, gn, hv1, n1, n2, n3⟩ := list_at r1
                    subst hv1
                    have S3 : Hid (St w w.heap.size g n sc w.heap.size r c v (fun k => (w.heap.size < k ∧ k ≠ g) ∧ k ≠ gn) w1 A1 u9 T') := (S2'.out.to (P' := fun k => (w.heap.size < k ∧ k ≠ g) ∧ k ≠ gn) (fun k hk hp => ⟨hp, fun e => Nat.lt_irrefl _ (Nat.lt_of_lt_of_le (e ▸ hk) n1)⟩)).on b1 (Nat.le_of_lt GW.out.1)
                    have N2 : Hid (0 < (Gd.nbi r c y).length → a1 = some ⟨gn, 0, none⟩ ∧ gn < w1.heap.size) := n2
                    have N3 : Hid (∀ i, i < (Gd.nbi r c y).length → w1.cell? ⟨gn, i, none⟩ = some (.int .i64 ((Gd.nbi r c y).getD i 0))) := n3
                    have N4 : Hid ((nbs r c y).length = (Gd.nbi r c y).length) := nbs_len r c y
                    have N5 : Hid (∀ k, k < (Gd.nbi r c (y : Int)).length → ∃ z : Nat, (nbs r c y)[k]? = some z ∧ z < n ∧ (Gd.nbi r c y).getD k 0 = (z : Int)) := fun k h => NA.out y k h
                    have N6 := nbi_len r c y
                    have GN : Hid (w.heap.size < gn ∧ g < gn) := ⟨Nat.lt_of_lt_of_le GW.out.1 n1, Nat.lt_of_lt_of_le GW.out.2 n1⟩
                    have M3 : Hid (ms n A1 T' + 1 ≤ ms n A1 (y :: T')) := Nat.le_of_eq MS.out
                    clear n1 n2 n3 r1 b1 S2' GW MS X2 g0 g1 g2 t1
                    obtain ⟨X, hX⟩ : ∃ X, X = Gd.nbi r c y := ⟨_, rfl⟩
                    rw [← hX] at N2 N3 N4 N5 N6 ⊢
                    clear hX
                    obtain ⟨nl, hnl⟩ : ∃ nl, X.length = nl := ⟨_, rfl⟩
                    rw [hnl] at N2 N3 N4 N5 N6 ⊢
                    clear hnl
                    go_wp2_with fail
                    go_loopw [9, 12] (fun u i wr => ∃ (j : Nat) (A2 : List Int) (T2 : List Nat), j ≤ nl ∧ i = .int .i64 j ∧ Hid (CI (nbs r c) (Cl.hi L lv) A k m' y j A2 T2) ∧ Hid (St w w.heap.size g n sc w.heap.size r c v (fun k => (w.heap.size < k ∧ k ≠ g) ∧ k ≠ gn) wr A2 u T2) ∧ Hid (ms n A2 T2 + 1 ≤ ms n A1 (y :: T')) ∧ Hid (∀ i, i < nl → wr.cell? ⟨gn, i, none⟩ = some (.int .i64 (X.getD i 0))) ∧ Hid (0 < nl → gn < wr.heap.size)) (fun _ i _ => nl - (intOf i).toNat)
                    case atStart => exact ⟨0, A1, T', Nat.zero_le _, rfl, CI0, S3, M3, N3, fun h => (N2.out h).2⟩
                    case round =>
                      clear CI0 S3 M3 N3
                      obtain ⟨j, A2, T2, hj, rfl, K, S, MM, N3, N8⟩ := hrel
                      have A2L : Hid (A2.length = n) := K.out.len.trans HA.out
                      by_cases hlj : j < nl
                      · obtain ⟨x, hx, xl, xe⟩ := N5.out j hlj
                        obtain ⟨ha, _⟩ := N2.out (Nat.lt_of_le_of_lt (Nat.zero_le _) hlj)
                        subst ha
                        have q0 : wr.cell? ⟨gn, j, none⟩ = some (.int .i64 x) := by rw [N3.out j hlj, xe]
                        obtain ⟨_, _, g2⟩ := id S.out.box
                        rw [HV.out] at g2
                        have q1 : wr.cell? ⟨b, o + x, none⟩ = some (.int .i64 (L.getD x 0)) := (S.out.bel.cell (p := ⟨b, o + x, none⟩) hb).trans (HC.out x xl)
                        have q2 : wr.cell? ⟨g, x, none⟩ = some (.int .i64 (A2.getD x 0)) := row_get S.out.row A2L.out x xl
                        have i1 : (0 : Int) ≤ (j : Int) := Int.natCast_nonneg j
                        have i2 : (j : Int) < (nl : Int) := Int.ofNat_lt.2 hlj
                        have i3 : (0 : Int) ≤ (x : Int) := Int.natCast_nonneg x
                        have i4 : (x : Int) < (n : Int) := Int.ofNat_lt.2 xl
                        have HZ : Hid ((nbs r c y)[j]? = some x) := hx
                        have HI : Hid (Cl.hi L lv x = decide (lv ≤ L.getD x 0)) := rfl
                        have ZL : Hid (x < A.length) := (by show _ < _; rw [HA.out]; exact xl)
                        have DR : Hid (∀ q, Below wr.heap.size wr (wr.drewN q)) := fun q => Bo.below_drewN (Below.refl _ _) q
                        have SD : Hid (∀ q, St w w.heap.size g n sc w.heap.size r c v (fun k => (w.heap.size < k ∧ k ≠ g) ∧ k ≠ gn) (wr.drewN q) A2 u9 T2) := fun q => S.out.on (DR.out q) (Nat.le_of_lt S.out.siz)
                        have ND : Hid (∀ q, ∀ i, i < nl → (wr.drewN q).cell? ⟨gn, i, none⟩ = some (.int .i64 (X.getD i 0))) := fun q i hi => (N3.out i hi)
                        have GD : Hid (∀ q, 0 < nl → gn < (wr.drewN q).heap.size) := fun q h => N8.out h
                        clear xe hx
                        by_cases h0 : A2.getD x 0 = 0
                        · by_cases hv : lv ≤ L.getD x 0
                          · have K2 : Hid (CI (nbs r c) (Cl.hi L lv) A k m' y (j + 1) (A2.set x m') (T2 ++ [x])) := ci_take K.out HZ.out ZL.out h0 (by rw [HI.out]; exact decide_eq_true hv) (fun q => by simp)
                            have MT : Hid (ms n (A2.set x m') (T2 ++ [x]) + 1 ≤ ms n A1 (y :: T')) := (by show _ ≤ _; have := ms_take (T := T2) (m := m') (ne_zero mm1) A2L.out xl h0; have h2 := MM.out; rw [← this] at h2; exact Nat.le_of_succ_le h2)
                            have TL : Hid ((ti T2).length ≤ 1000000) := (by show _ ≤ _; rw [ti_len]; exact ms_len MM.out M.out)
                            have GP : Hid (¬ ((w.heap.size < g ∧ g ≠ g) ∧ g ≠ gn)) := fun h => h.1.2 rfl
                            rw [h0] at q2
                            clear K h0 HI MM
                            generalize L.getD x 0 = lz at *
                            go_wp2_with fail
                            go_quiet (fail)
                            obtain ⟨wD, hwD⟩ : ∃ q : World, q = wr.drewN nq := ⟨_, rfl⟩
                            have S' : Hid (St w w.heap.size g n sc w.heap.size r c v (fun k => (w.heap.size < k ∧ k ≠ g) ∧ k ≠ gn) wD A2 u9 T2) := (by rw [hwD]; exact SD.out nq)
                            have N' : Hid (∀ i, i < nl → wD.cell? ⟨gn, i, none⟩ = some (.int .i64 (X.getD i 0))) := (by rw [hwD]; exact ND.out nq)
                            have GB : Hid (gn < wD.heap.size) := (by rw [hwD]; exact GD.out nq (Nat.lt_of_le_of_lt (Nat.zero_le _) hlj))
                            have p0 : wD.cell? ⟨gn, j, none⟩ = some (.int .i64 x) := by rw [hwD]; exact q0
                            have p2 : wD.cell? ⟨g, x, none⟩ = some (.int .i64 0) := by rw [hwD]; exact q2
                            have p3 : wD.frozen? ⟨g, x, none⟩ = false := S'.out.row.frozenAt x
                            rw [← hwD]
                            clear hwD q0 q1 q2 g2 S N3 N8 DR SD ND GD
                            have e1 := Below.heap_setCell wD ⟨g, x, none⟩ (.int .i64 m') gn (by show gn ≠ g; exact Ne.symm (Nat.ne_of_lt GN.out.2))
                            have p5 : (wD.setCell ⟨g, x, none⟩ (.int .i64 m')).cell? ⟨gn, j, none⟩ = some (.int .i64 x) := (World.cell?_of_block e1).trans p0
                            have S4 : Hid (St w w.heap.size g n sc w.heap.size r c v (fun k => (w.heap.size < k ∧ k ≠ g) ∧ k ≠ gn) ((wD.setCell ⟨g, x, none⟩ (.int .i64 m')).alloc (Obj.cells #[.int .i64 x] 2)) (A2.set x m') u9 T2) := (by
                              have h := S'.out.store lg bg GP.out x m'
                              exact h.on ((Below.refl _ _).alloc (Nat.le_refl _) _) (by have := S'.out.siz; simp; exact Nat.le_of_lt this))
                            have SS : Hid ((wD.setCell ⟨g, x, none⟩ (.int .i64 m')).heap.size = wD.heap.size) := (by show _ = _; simp)
                            have BP : Hid (∀ k, ((wD.setCell ⟨g, x, none⟩ (.int .i64 m')).alloc (Obj.cells #[.int .i64 x] 2)).heap.size ≤ k → (w.heap.size < k ∧ k ≠ g) ∧ k ≠ gn) := fun q hq => (by
                              have h1 := S'.out.siz
                              have h2 := GB.out
                              have h3 := GN.out.2
                              simp at hq
                              exact bp_of hq h1 h2 h3)
                            have CN : Hid (∀ i, i < nl → ((wD.setCell ⟨g, x, none⟩ (.int .i64 m')).alloc (Obj.cells #[.int .i64 x] 2)).cell? ⟨gn, i, none⟩ = some (.int .i64 (X.getD i 0))) := fun i hi => by
                              have hb2 : Below (wD.setCell ⟨g, x, none⟩ (.int .i64 m')).heap.size (wD.setCell ⟨g, x, none⟩ (.int .i64 m')) ((wD.setCell ⟨g, x, none⟩ (.int .i64 m')).alloc (Obj.cells #[.int .i64 x] 2)) := (Below.refl _ _).alloc (Nat.le_refl _) _
                              exact ((hb2.cell (p := ⟨gn, i, none⟩) (by simp; exact GB.out)).trans (World.cell?_of_block e1)).trans (N'.out i hi)
                            clear e1 S'
                            generalize A2.set x m' = A3 at *
                            go_wp2_with (at_builtin; refine wpList_append_win _ rfl _ _ rfl (fun k => (w.heap.size < k ∧ k ≠ g) ∧ k ≠ gn) _ (ti T2) rfl S4.out.win BP.out TL.out x ⟨wD.heap.size, 0, none⟩ 1 rfl (cell_one_at _ _ (.int .i64 x) 2 SS.out) ?_)
                            intro v2 w2 hW hO
                            have S5 : Hid (St w w.heap.size g n sc w.heap.size r c v (fun k => (w.heap.size < k ∧ k ≠ g) ∧ k ≠ gn) w2 A3 v2 (T2 ++ [x])) := S4.out.push (Nat.le_of_lt S4.out.siz) hO (by rw [ti_snoc]; exact hW) ⟨GP.out, fun h => Nat.lt_irrefl _ h.1.1, fun k hk h => Nat.lt_irrefl _ (Nat.lt_trans hk h.1.1)⟩
                            have gnl : gn < ((wD.setCell ⟨g, x, none⟩ (.int .i64 m')).alloc (Obj.cells #[.int .i64 x] 2)).heap.size := by simp; exact Nat.lt_succ_of_lt GB.out
                            have C5 : Hid (∀ i, i < nl → w2.cell? ⟨gn, i, none⟩ = some (.int .i64 (X.getD i 0))) := fun i hi => (World.cell?_of_block (hO.block gn gnl (fun h => h.2 rfl))).trans (CN.out i hi)
                            have G5 : Hid (0 < nl → gn < w2.heap.size) := fun _ => Nat.lt_of_lt_of_le gnl hO.size
                            clear hW hO CN BP S4 GB gnl p0 p2 p3 p5
                            go_wp2_with fail
                            go_roundw
                            case rel => exact ⟨j + 1, A3, T2 ++ [x], hlj, by go_num, K2, S5, MT, C5, G5⟩
                            case measure => simp [intOf]; omega
                          · have K2 : Hid (CI (nbs r c) (Cl.hi L lv) A k m' y (j + 1) A2 T2) := ci_skip K.out HZ.out ZL.out (fun h => hv (by have := h.2; rw [HI.out] at this; exact of_decide_eq_true this))
                            rw [h0] at q2
                            clear K h0 HI S N3 N8 DR
                            generalize L.getD x 0 = lz at *
                            go_wp2_with fail
                            go_quiet (fail)
                            go_wp2_with fail
                            go_roundw
                            case rel => exact ⟨j + 1, A2, T2, hlj, by go_num, K2, SD.out nq, MM, ND.out nq, GD.out nq⟩
                            case measure => simp [intOf]; omega
                        · have K2 : Hid (CI (nbs r c) (Cl.hi L lv) A k m' y (j + 1) A2 T2) := ci_skip K.out HZ.out ZL.out (fun h => h0 h.1)
                          have h0' : (A2.getD x 0 == 0) = false := by rw [beq_eq_false_iff_ne]; exact h0
                          clear K h0 HI S N3 N8 DR
                          generalize A2.getD x 0 = az at *
                          generalize L.getD x 0 = lz at *
                          go_wp2_with fail
                          go_quiet (fail)
                          go_wp2_with fail
                          go_roundw
                          case rel => exact ⟨j + 1, A2, T2, hlj, by go_num, K2, SD.out nq, MM, ND.out nq, GD.out nq⟩
                          case measure => simp [intOf]; omega
                      · have ek : nl = j := (Nat.le_antisymm hj (Nat.le_of_not_lt hlj)).symm
                        subst ek
                        have WE : Hid (WI (nbs r c) (Cl.hi L lv) A k m' A2 T2) := (by have := K.out; rw [← N4.out] at this; exact ci_end this)
                        have SE : Hid (St w w.heap.size g n sc w.heap.size r c v (fun k => w.heap.size < k ∧ k ≠ g) wr A2 u9 T2) := S.out.to (fun k _ h => h.1)
                        have ME : Hid (ms n A2 T2 ≤ 1200) := Nat.le_trans (Nat.le_of_succ_le MM.out) M.out
                        have ML : Hid (2 * zc (rowOf wr g n) n + lenOf u9 = ms n A2 T2) := (by
                          show _ = _
                          obtain ⟨gU, oU, cU, hu, _⟩ := S.out.win.form
                          rw [rowOf_is S.out.row A2L.out, hu, ti_len]
                          rfl)
                        clear K S N3 N5 N2
                        go_wp2_with fail
                        go_roundw
                        case rel => exact ⟨A2, T2, WE, SE, ME⟩
                        case measure => have h1 := EM.out; have h2 := ML.out; have h3 := MM.out; rw [h1, h2]; exact h3
            · have T2 : Hid (Run (nbs r c) (Cl.hi L lv) (k + 1) (zeros n) m A) := run_skip U.out (fun h => hv h.2)
              rw [h0] at q1
              clear U AN HA h0 CA NA HN
              generalize L.getD k 0 = z at *
              go_wp2_with fail
              go_roundw
              case rel => exact ⟨k + 1, m, A, hlt, rfl, by go_num, T2, R, X, BB⟩
              case measure => simp [intOf]; omega
          · have T2 : Hid (Run (nbs r c) (Cl.hi L lv) (k + 1) (zeros n) m A) := run_skip U.out (fun h => h0 h.1)
            have h0' : (A.getD k 0 != 0) = true := by rw [bne_iff_ne]; exact h0
            clear U AN HA h0 CA NA HN
            generalize L.getD k 0 = z at *
            generalize A.getD k 0 = az at *
            go_wp2_with fail
            go_roundw
            case rel => exact ⟨k + 1, m, A, hlt, rfl, by go_num, T2, R, X, BB⟩
            case measure => simp [intOf]; omega
        · have ek : n = k := (Nat.le_antisymm hk (Nat.le_of_not_lt hlt)).symm
          subst ek
          have R2 : Hid (wr.ownsRow w.heap.size 2 1 (.slice (some ⟨g, 0, none⟩) n sc) A.length (ints A)) := (by show World.ownsRow _ _ _ _ _ _ _; rw [HA.out]; exact R.out)
          clear R AN HA CA NA HN
          go_wp2_with fail
          go_ret
          exact ⟨_, m, A, U.out, rfl, R2.out, BB.out⟩
end Go.Proofs.Ythmknlejnnnbaaa.Cl
