/- Waves: sums, plainly; the program. -/
import Derived.Test.YtgnnmepjdmcecaaWl
import Derived.Test.YtgnnmepjdmcecaaWa
import Derived.Test.YtgnnmepjdmcecaaLg
import Derived.Deep.RegionWith
import Derived.Deep.RegionHeld3
import Derived.Deep.DrawnRows
import Derived.Deep.Cut
import Derived.Deep.DeepCutAuto
import Derived.Deep.DeepMust
import Derived.Laws.MakeOwn
namespace Go.Proofs.Ytgnnmepjdmcecaa.Wv
open Go.ChangeShapes Go.WideShapes Go.ChangeAt Go.RowKit
open Go.Proofs.Ytgnnmepjdmcecaa.Flt Go.Proofs.Ytgnnmepjdmcecaa.Wa Go.Proofs.Ytgnnmepjdmcecaa.Pr Go.Proofs.Ytgnnmepjdmcecaa.Wl Go.Proofs.Ytgnnmepjdmcecaa.Lg

attribute [local go_sem] Flt.run_store_float
attribute [local go_sem ↓] Go.wp_at_zero Go.wp_at_succ
theorem cn_zero : cn 0 = 0 := cn_num (by decide +kernel)
def ang (by_ : Int) (n i k : Nat) : Int := by_ * ((36 : Int) / (n : Int)) * (i : Int) * (k : Int)
def ws (L : Pr.Ls) (by_ : Int) (n k : Nat) : Nat → Nat × Nat
  | 0 => (0, 0)
  | i + 1 => (opF .add (ws L by_ n k i).1 (mre (cn (Pr.c0 L i)) (cn (Pr.c1 L i)) (sine ((ang by_ n i k + 9) % 36)) (sine (ang by_ n i k % 36))), opF .add (ws L by_ n k i).2 (mim (cn (Pr.c0 L i)) (cn (Pr.c1 L i)) (sine ((ang by_ n i k + 9) % 36)) (sine (ang by_ n i k % 36))))
def wf (L : Pr.Ls) (by_ : Int) (n : Nat) (k : Nat) : Nat × Nat := ws L by_ n k n
theorem div_bd {n : Nat} (h : 1 ≤ n) : 0 ≤ (36 : Int) / (n : Int) ∧ (36 : Int) / (n : Int) ≤ 36 := ⟨Int.ediv_nonneg (by omega) (by omega), Int.ediv_le_self _ (by omega)⟩
theorem mul_bd {a b M K : Int} (ha : -M ≤ a ∧ a ≤ M) (hb : -K ≤ b ∧ b ≤ K) : -(M * K) ≤ a * b ∧ a * b ≤ M * K := by
  have e : (a * b).natAbs = a.natAbs * b.natAbs := Int.natAbs_mul a b
  have h1 : a.natAbs ≤ M.toNat := by omega
  have h2 : b.natAbs ≤ K.toNat := by omega
  have h3 : a.natAbs * b.natAbs ≤ M.toNat * K.toNat := Nat.mul_le_mul h1 h2
  have h4 : ((M.toNat * K.toNat : Nat) : Int) = M * K := by
    rw [Int.natCast_mul, Int.toNat_of_nonneg (by omega), Int.toNat_of_nonneg (by omega)]
  have h5 : ((a * b).natAbs : Int) ≤ M * K := by rw [e, ← h4]; exact Int.ofNat_le.2 h3
  omega
theorem ang_in {by_ : Int} {n i k : Nat} (hb : -1 ≤ by_ ∧ by_ ≤ 1) (hn : 1 ≤ n) (hn2 : n ≤ 36) (hi : i < n) (hk : k < n) :
    IntKind.i64.wrap ((36 : Int) / (n : Int)) = (36 : Int) / (n : Int) ∧ IntKind.i64.wrap (by_ * ((36 : Int) / (n : Int))) = by_ * ((36 : Int) / (n : Int)) ∧ IntKind.i64.wrap (by_ * ((36 : Int) / (n : Int)) * (i : Int)) = by_ * ((36 : Int) / (n : Int)) * (i : Int) ∧ IntKind.i64.wrap (by_ * ((36 : Int) / (n : Int)) * (i : Int) * (k : Int)) = by_ * ((36 : Int) / (n : Int)) * (i : Int) * (k : Int) := by
  have d := div_bd hn
  have m1 := mul_bd (M := 1) (K := 36) hb (by omega : -36 ≤ (36 : Int) / (n : Int) ∧ (36 : Int) / (n : Int) ≤ 36)
  have m2 := mul_bd (M := 36) (K := 36) (by omega : -36 ≤ by_ * ((36 : Int) / (n : Int)) ∧ by_ * ((36 : Int) / (n : Int)) ≤ 36) (by omega : -36 ≤ (i : Int) ∧ (i : Int) ≤ 36)
  have m3 := mul_bd (M := 1296) (K := 36) (by omega : -1296 ≤ by_ * ((36 : Int) / (n : Int)) * (i : Int) ∧ by_ * ((36 : Int) / (n : Int)) * (i : Int) ≤ 1296) (by omega : -36 ≤ (k : Int) ∧ (k : Int) ≤ 36)
  exact ⟨IntWalk.i64_in _ (by omega), IntWalk.i64_in _ (by omega), IntWalk.i64_in _ (by omega), IntWalk.i64_in _ (by omega)⟩
theorem step_is : ∀ n : Fin 37, Lg.lg n.val = true → ((1 : Int) * 36).tdiv (n.val : Int) = 1 * ((36 : Int) / (n.val : Int)) ∧ ((-1 : Int) * 36).tdiv (n.val : Int) = -1 * ((36 : Int) / (n.val : Int)) := by decide
theorem snoc_at {C : Pr.Ls} {z : Nat × Nat} {i : Nat} (hi : i < C.length) : (C ++ [z]).getD i (0, 0) = C.getD i (0, 0) := by simp [List.getD_eq_getElem?_getD, List.getElem?_append_left hi]
theorem snoc_last {C : Pr.Ls} {z : Nat × Nat} : (C ++ [z]).getD C.length (0, 0) = z := by simp [List.getD_eq_getElem?_getD]
theorem good_congr {xs : List Value} {C : Pr.Ls} {z : Nat × Nat} (h : Pr.Good xs C C.length) : Pr.Good xs (C ++ [z]) C.length := fun i hi => by
  have := h i hi
  unfold Pr.c0 Pr.c1 at this ⊢
  rw [snoc_at hi]
  exact this
theorem tells_snoc {C : Pr.Ls} {f : Nat → Nat × Nat} {j : Nat} {z1 z2 : Nat} (h : Wl.Tells C f j) (h1 : cn z1 = (f j).1) (h2 : cn z2 = (f j).2) : Wl.Tells (C ++ [(z1, z2)]) f (j + 1) := by
  refine ⟨by simp [h.1], fun i hi => ?_⟩
  by_cases e : i = j
  · subst e
    unfold Pr.c0 Pr.c1
    rw [← h.1, snoc_last, h.1]
    exact ⟨h1, h2⟩
  · have := h.2 i (by omega)
    unfold Pr.c0 Pr.c1 at this ⊢
    rw [snoc_at (by rw [h.1]; omega)]
    exact this
/- a row that is filled up to a place -/
def Fil (w : World) (base g n : Nat) (f : Nat → Nat × Nat) (j : Nat) : Prop := ∃ xs, ∃ C : Pr.Ls, w.ownsRow base 29 2 (.slice (some ⟨g, 0, none⟩) n n) n xs ∧ Pr.Good xs C j ∧ Wl.Tells C f j
theorem Fil.step {w : World} {base g n : Nat} {f : Nat → Nat × Nat} {j : Nat} {z1 z2 : Nat} (h : Fil w base g n f j) (hj : j < n) (h1 : cn z1 = (f j).1) (h2 : cn z2 = (f j).2) :
    Fil ((w.setCell ⟨g, j * 2, none⟩ (.float .f64 z1)).setCell ⟨g, j * 2 + 1, none⟩ (.float .f64 z2)) base g n f (j + 1) := by
  obtain ⟨xs, C, R, G, T⟩ := h
  have lx : xs.length = n * 2 := R.1
  refine ⟨(xs.set (j * 2) (.float .f64 z1)).set (j * 2 + 1) (.float .f64 z2), C ++ [(z1, z2)], ((R.stored (j * 2) _).1.stored (j * 2 + 1) _).1, ?_, tells_snoc T h1 h2⟩
  have hl := T.1
  have G' : Pr.Good xs (C ++ [(z1, z2)]) j := by rw [← hl] at G ⊢; exact good_congr G
  have n1 := G'.next (by omega)
  have e1 : Pr.c0 (C ++ [(z1, z2)]) j = z1 := by unfold Pr.c0; rw [← hl, snoc_last]
  have e2 : Pr.c1 (C ++ [(z1, z2)]) j = z2 := by unfold Pr.c1; rw [← hl, snoc_last]
  rw [e1, e2] at n1
  exact n1
theorem Fil.cells {w : World} {base g n : Nat} {f : Nat → Nat × Nat} {j : Nat} (h : Fil w base g n f j) (hj : j < n) : (∃ u, w.cell? ⟨g, j * 2, none⟩ = some u) ∧ (∃ u, w.cell? ⟨g, j * 2 + 1, none⟩ = some u) ∧ w.frozen? ⟨g, j * 2, none⟩ = false ∧ w.frozen? ⟨g, j * 2 + 1, none⟩ = false ∧ g < w.heap.size := by
  obtain ⟨xs, C, R, G, T⟩ := h
  have lx : xs.length = n * 2 := R.1
  refine ⟨⟨xs[j * 2]'(by omega), by rw [R.cellAt (j * 2) (by omega)]; exact List.getElem?_eq_getElem _⟩, ⟨xs[j * 2 + 1]'(by omega), by rw [R.cellAt (j * 2 + 1) (by omega)]; exact List.getElem?_eq_getElem _⟩, R.frozenAt _, R.frozenAt _, ?_⟩
  rcases Pr.row_cases R with ⟨hn, _⟩ | ⟨g', cap, e, _, h2, _, _⟩
  · omega
  · simp at e
    obtain ⟨rfl, _⟩ := e
    exact h2
theorem Fil.on {w w' : World} {base g n : Nat} {f : Nat → Nat × Nat} {j : Nat} (h : Fil w base g n f j) (hb : Below w.heap.size w w') : Fil w' base g n f j := by
  obtain ⟨xs, C, R, G, T⟩ := h
  exact ⟨xs, C, Pr.row_below R hb, G, T⟩
theorem Fil.row {w : World} {base g n : Nat} {f : Nat → Nat × Nat} (h : Fil w base g n f n) : ∃ C, Wl.Tells C f n ∧ Pr.Row w base (.slice (some ⟨g, 0, none⟩) n n) C := by
  obtain ⟨xs, C, R, G, T⟩ := h
  have hl := T.1
  exact ⟨C, T, xs, by rw [hl]; exact R, by rw [hl]; exact G⟩
theorem at_of {w : World} {v : Value} {L : Pr.Ls} (h : Pr.Reads w v L) (h0 : 0 < L.length) : ∃ b o cap, v = .slice (some ⟨b, o, none⟩) L.length cap ∧ b < w.heap.size ∧ ∀ i, i < L.length → Pr.Cs w b o L i := by
  rcases h with ⟨rfl, _⟩ | ⟨b, o, cap, h1, h2, h3, h4, h5⟩
  · simp at h0
  · exact ⟨b, o, cap, h1, h4, h5⟩

set_option maxRecDepth 20000 in
set_option maxHeartbeats 2000000 in
theorem isums (L : Pr.Ls) (by_ : Int) (v : Value) (w : World) (hL : Pr.Reads w v L) (hlg : Lg.lg L.length = true) (hby : by_ = 1 ∨ by_ = -1) :
    Calls Try.prog 16 #[v, .int .i64 by_] w fun e w' => ∃ v' C, e = .returned v' ∧ Wl.Tells C (wf L by_ L.length) L.length ∧ Pr.Row w' w.heap.size v' C ∧ Below w.heap.size w w' ∧ ∃ g, v' = .slice (some ⟨g, 0, none⟩) L.length L.length := by
  obtain ⟨n1, n36⟩ := Lg.lg_le hlg
  obtain ⟨i0, hi, hz0, hz1, hz2⟩ := info_parts Pr.Try.infoE
  obtain ⟨b, o, cap, rfl, hb, hcell⟩ := at_of hL (by omega)
  have HC : Hid (∀ w' i, Below w.heap.size w w' → i < L.length → Pr.Cs w' b o L i) := fun w' i h hi => (hcell i hi).below h hb
  have D0 : Hid (∀ w, Calls Try.prog 17 #[.int .i64 (L.length : Int), .int .i64 36] w fun e w' => e = .returned (.bool true) ∧ w' = w) := fun w => by have := Lg.div_any L.length (by omega) w; rw [hlg] at this; exact this
  have HX : Hid (∀ x y w, Calls Try.prog 18 #[pr x y] w fun e w' => e = .returned (.complex .f64 x y) ∧ Below w.heap.size w w') := fun x y w => icx x y w
  have HT : Hid (∀ k w, Calls Try.prog 28 #[.int .i64 k] w fun e w' => ∃ a b, e = .returned (.complex .f64 a b) ∧ cn a = sine ((k + 9) % 36) ∧ cn b = sine (k % 36) ∧ Below w.heap.size w w') := fun k w => iturn k w
  have HM : Hid (∀ a b c d w, Calls Try.prog 27 #[.complex .f64 a b, .complex .f64 c d] w fun e w' => ∃ x y, e = .returned (.complex .f64 x y) ∧ cn x = mre (cn a) (cn b) (cn c) (cn d) ∧ cn y = mim (cn a) (cn b) (cn c) (cn d) ∧ Below w.heap.size w w') := fun a b c d w => imul a b c d w
  have HA : Hid (∀ a b c d w, Calls Try.prog 26 #[.complex .f64 a b, .complex .f64 c d] w fun e w' => ∃ x y, e = .returned (.complex .f64 x y) ∧ cn x = opF .add (cn a) (cn c) ∧ cn y = opF .add (cn b) (cn d) ∧ Below w.heap.size w w') := fun a b c d w => iadd a b c d w
  have HP : Hid (∀ a b w, Calls Try.prog 19 #[.complex .f64 a b] w fun e w' => e = .returned (pr a b) ∧ Below w.heap.size w w') := fun a b w => pairOf_any a b w
  have hbb : -1 ≤ by_ ∧ by_ ≤ 1 := by rcases hby with rfl | rfl <;> decide
  have HAI : Hid (∀ i k, i < L.length → k < L.length → IntKind.i64.wrap (by_ * ((36 : Int) / (L.length : Int)) * (i : Int)) = by_ * ((36 : Int) / (L.length : Int)) * (i : Int) ∧ IntKind.i64.wrap (by_ * ((36 : Int) / (L.length : Int)) * (i : Int) * (k : Int)) = by_ * ((36 : Int) / (L.length : Int)) * (i : Int) * (k : Int)) := fun i k h1 h2 => (ang_in hbb n1 n36 h1 h2).2.2
  have E1 : IntKind.i64.wrap (by_ * 36) = by_ * 36 := by rcases hby with rfl | rfl <;> rfl
  have E2 : (by_ * 36).tdiv (L.length : Int) = by_ * ((36 : Int) / (L.length : Int)) := by
    have := step_is ⟨L.length, by omega⟩ hlg
    rcases hby with rfl | rfl
    · exact this.1
    · exact this.2
  have E3 : IntKind.i64.wrap (by_ * ((36 : Int) / (L.length : Int))) = by_ * ((36 : Int) / (L.length : Int)) := (ang_in (n := L.length) (i := 0) (k := 0) hbb n1 n36 (by omega) (by omega)).2.1
  have E5 : Hid (∀ i k : Nat, ang by_ L.length i k = by_ * ((36 : Int) / (L.length : Int)) * (i : Int) * (k : Int)) := fun i k => rfl
  have HWF : Hid (∀ k, wf L by_ L.length k = ws L by_ L.length k L.length) := fun k => rfl
  have g1 : ((L.length : Int) == 0) = false := by rw [beq_eq_false_iff_ne]; omega
  have g0 : ¬ (L.length : Int) = 0 := by omega
  obtain ⟨n, hn⟩ : ∃ n, n = L.length := ⟨_, rfl⟩
  rw [← hn] at HC D0 HAI E2 E3 E5 HWF g1 g0 n1 n36 ⊢
  clear hL hcell hlg hn hby hbb
  obtain ⟨st, hst⟩ : ∃ st, st = by_ * ((36 : Int) / (n : Int)) := ⟨_, rfl⟩
  rw [← hst] at HAI E2 E3 E5
  have E4 : IntKind.i64.wrap ((by_ * 36).tdiv (n : Int)) = st := by rw [E2]; exact E3
  have E6 : wrap64 st = st := (IntWalk.i64_left _).symm.trans E3
  clear hst E3
  go_enter Try.func16, Try.ntmps16
  go_wp2_with fail
  refine (D0.out _).mono ?_
  rintro e w0 ⟨rfl, hw⟩
  have hw' := hw.symm
  subst hw'
  go_wp2_with (at_make; refine wpList_make_full _ rfl _ _ 24 rfl w.heap.size 29 i0 (.agg #[.float .f64 0, .float .f64 0]) 2 Try.underlying24 hi hz0 hz1 .i64 .i64 (n : Int) (n : Int) n rfl rfl rfl rfl (by rw [hz2]; omega) (by unfold maxLen; omega) (Nat.le_refl _) ?_; intro w4 hown hgrow)
  have F4 : Hid (Fil w4 w.heap.size w.heap.size n (wf L by_ n) 0) := ⟨_, [], hown, fun i hi => absurd hi (by omega), rfl, fun i hi => absurd hi (by omega)⟩
  have B4 : Hid (Below w.heap.size w w4) := (Below.refl _ _).grown hgrow (Nat.le_refl _) (fun k hk => by cases hk)
  obtain ⟨g, hg⟩ : ∃ g, g = w.heap.size := ⟨_, rfl⟩
  have HGE : Hid (g = w.heap.size) := hg
  rw [← hg]
  have F4' : Hid (Fil w4 w.heap.size g n (wf L by_ n) 0) := (by rw [HGE.out]; exact F4.out)
  clear hown hgrow hg F4
  go_loopw [24] (fun i wr => ∃ k : Nat, k ≤ n ∧ i = .int .i64 k ∧ Hid (Fil wr w.heap.size g n (wf L by_ n) k) ∧ Hid (Below w.heap.size w wr)) (fun i _ => n - (intOf i).toNat)
  case atStart => exact ⟨0, by omega, rfl, F4', B4⟩
  case round =>
    obtain ⟨k, hk, rfl, FR, BR⟩ := hrel
    by_cases hlt : k < n
    · have i2 : (k : Int) < (n : Int) := by omega
      have i1 : (0 : Int) ≤ (k : Int) := by omega
      go_wp2_with fail
      go_loopw [9, 29] (fun s i wr => ∃ j a c : Nat, j ≤ n ∧ i = .int .i64 j ∧ s = .complex .f64 a c ∧ Hid (cn a = (ws L by_ n k j).1 ∧ cn c = (ws L by_ n k j).2) ∧ Hid (Fil wr w.heap.size g n (wf L by_ n) k) ∧ Hid (Below w.heap.size w wr)) (fun _ i _ => n - (intOf i).toNat)
      case atStart => exact ⟨0, 0, 0, by omega, rfl, rfl, ⟨cn_zero, cn_zero⟩, FR, BR⟩
      case round =>
        obtain ⟨j, a, c, hj, rfl, rfl, HS, FI, BI⟩ := hrel
        by_cases hjt : j < n
        · obtain ⟨q0, q1⟩ := HC.out wr j BI.out hjt
          obtain ⟨J1, J2⟩ := HAI.out j k hjt hlt
          have K1 : wrap64 st = st := E6
          have K2 : wrap64 (st * (j : Int)) = st * (j : Int) := (IntWalk.i64_left _).symm.trans J1
          have K3 : wrap64 (st * (j : Int) * (k : Int)) = st * (j : Int) * (k : Int) := (IntWalk.i64_left _).symm.trans J2
          have j1 : (0 : Int) ≤ (j : Int) := by omega
          have j2 : (j : Int) < (n : Int) := by omega
          have HE : Hid (ws L by_ n k (j + 1) = (opF .add (ws L by_ n k j).1 (mre (cn (Pr.c0 L j)) (cn (Pr.c1 L j)) (sine ((ang by_ n j k + 9) % 36)) (sine (ang by_ n j k % 36))), opF .add (ws L by_ n k j).2 (mim (cn (Pr.c0 L j)) (cn (Pr.c1 L j)) (sine ((ang by_ n j k + 9) % 36)) (sine (ang by_ n j k % 36))))) := rfl
          have EA : Hid (ang by_ n j k = st * (j : Int) * (k : Int)) := E5.out j k
          generalize Pr.c0 L j = z0 at *
          generalize Pr.c1 L j = z1 at *
          have BA : Below w.heap.size w (wr.alloc (Obj.cells #[.float .f64 z0, .float .f64 z1] 29)) := BI.out.alloc BI.out.size _
          have HBA : Hid (Below w.heap.size w (wr.alloc (Obj.cells #[.float .f64 z0, .float .f64 z1] 29))) := BA
          have FA : Hid (Fil (wr.alloc (Obj.cells #[.float .f64 z0, .float .f64 z1] 29)) w.heap.size g n (wf L by_ n) k) := FI.out.on ((Below.refl _ _).alloc (Nat.le_refl _) _)
          clear BA
          go_wp2_with fail
          refine (HX.out z0 z1 _).mono ?_
          rintro e w1 ⟨rfl, hb1⟩
          have B1 : Hid (Below w.heap.size w w1) := HBA.out.trans (hb1.mono HBA.out.size)
          have F1 : Hid (Fil w1 w.heap.size g n (wf L by_ n) k) := FA.out.on hb1
          clear hb1 HBA FA
          go_wp2_with fail
          refine (HT.out (st * (j : Int) * (k : Int)) w1).mono ?_
          rintro e w2 ⟨t0, t1, rfl, ht0, ht1, hb2⟩
          have T : Hid (cn t0 = sine ((ang by_ n j k + 9) % 36) ∧ cn t1 = sine (ang by_ n j k % 36)) := (by rw [EA.out]; exact ⟨ht0, ht1⟩)
          have B2 : Hid (Below w.heap.size w w2) := B1.out.trans (hb2.mono B1.out.size)
          have F2 : Hid (Fil w2 w.heap.size g n (wf L by_ n) k) := F1.out.on hb2
          clear hb2 ht0 ht1
          go_wp2_with fail
          refine (HM.out z0 z1 t0 t1 w2).mono ?_
          rintro e w3 ⟨p0, p1, rfl, hp0, hp1, hb3⟩
          have P : Hid (cn p0 = mre (cn z0) (cn z1) (cn t0) (cn t1) ∧ cn p1 = mim (cn z0) (cn z1) (cn t0) (cn t1)) := ⟨hp0, hp1⟩
          have B3 : Hid (Below w.heap.size w w3) := B2.out.trans (hb3.mono B2.out.size)
          have F3 : Hid (Fil w3 w.heap.size g n (wf L by_ n) k) := F2.out.on hb3
          clear hb3 hp0 hp1
          go_wp2_with fail
          refine (HA.out a c p0 p1 w3).mono ?_
          rintro e w5 ⟨s0, s1, rfl, hs0, hs1, hb5⟩
          have S : Hid (cn s0 = (ws L by_ n k (j + 1)).1 ∧ cn s1 = (ws L by_ n k (j + 1)).2) := (by
            rw [HE.out]
            refine ⟨?_, ?_⟩
            · show cn s0 = _
              rw [hs0, HS.out.1, P.out.1, T.out.1, T.out.2]
            · show cn s1 = _
              rw [hs1, HS.out.2, P.out.2, T.out.1, T.out.2])
          have B5 : Hid (Below w.heap.size w w5) := B3.out.trans (hb5.mono B3.out.size)
          have F5 : Hid (Fil w5 w.heap.size g n (wf L by_ n) k) := F3.out.on hb5
          clear hb5 hs0 hs1
          go_wp2_with fail
          go_roundw
          case rel => exact ⟨j + 1, s0, s1, by omega, by go_num, rfl, S, F5, B5⟩
          case measure => simp [intOf]; omega
        · have hjn : j = n := by omega
          subst hjn
          have HF2 : Hid (cn a = (wf L by_ j k).1 ∧ cn c = (wf L by_ j k).2) := HS
          go_wp2_with fail
          refine (HP.out a c wr).mono ?_
          rintro e w6 ⟨rfl, hb6⟩
          have F6 : Hid (Fil w6 w.heap.size g j (wf L by_ j) k) := FI.out.on hb6
          have B6 : Below w.heap.size w w6 := BI.out.trans (hb6.mono BI.out.size)
          obtain ⟨⟨u0, y0⟩, ⟨u1, y1⟩, y3, y4, y6⟩ := F6.out.cells hlt
          have F7 : Hid (Fil ((w6.setCell ⟨g, k * 2, none⟩ (.float .f64 a)).setCell ⟨g, k * 2 + 1, none⟩ (.float .f64 c)) w.heap.size g j (wf L by_ j) (k + 1)) := F6.out.step hlt HF2.out.1 HF2.out.2
          have gw : w.heap.size ≤ g := by rw [HGE.out]; exact Nat.le_refl _
          have B7 : Hid (Below w.heap.size w ((w6.setCell ⟨g, k * 2, none⟩ (.float .f64 a)).setCell ⟨g, k * 2 + 1, none⟩ (.float .f64 c))) := (B6.setCell (p := ⟨g, k * 2, none⟩) gw _).setCell (p := ⟨g, k * 2 + 1, none⟩) gw _
          clear B6 hb6 gw
          go_wp2_with fail
          go_roundw
          case rel => exact ⟨k + 1, by omega, by go_num, F7, B7⟩
          case measure => simp [intOf]; omega
    · have hkn : k = n := by omega
      subst hkn
      obtain ⟨D, td, rd⟩ := FR.out.row
      have TD : Hid (Wl.Tells D (wf L by_ k) k) := td
      have RD : Hid (Pr.Row wr w.heap.size (.slice (some ⟨g, 0, none⟩) k k) D) := rd
      clear td rd
      go_wp2_with fail
      go_ret
      exact ⟨_, D, rfl, TD.out, RD.out, BR.out, g, rfl⟩
end Go.Proofs.Ytgnnmepjdmcecaa.Wv
