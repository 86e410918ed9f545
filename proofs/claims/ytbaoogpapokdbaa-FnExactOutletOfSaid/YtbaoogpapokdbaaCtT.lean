/- Catch and OutletOf: the model's answers. -/
import Derived.Test.YtbaoogpapokdbaaCtS
namespace Go.Proofs.Ytbaoogpapokdbaa.Ct
open Go.ChangeShapes Go.WideShapes Go.ChangeAt Go.RowKit
open Go.Proofs.Ytbaoogpapokdbaa.Lists

def cat (N : List Int) : List Int := if okN N then (List.range N.length).map (F N) else []
theorem cat_len (N : List Int) : (cat N).length ≤ 1000 := by
  unfold cat
  cases h : okN N
  · simp
  · have := ((ok_iff N).1 h).1
    simp
    omega
theorem row_get {w : World} {B g n : Nat} {cap : Nat} {O : List Int} (R : w.ownsRow B 2 1 (.slice (some ⟨g, 0, none⟩) n cap) n (ints O)) (hO : O.length = n) (x : Nat) (hx : x < n) : w.cell? ⟨g, x, none⟩ = some (.int .i64 (O.getD x 0)) := by
  subst hO
  exact row_cell R x hx
theorem row_put {w : World} {B g n : Nat} {cap : Nat} {O : List Int} (R : w.ownsRow B 2 1 (.slice (some ⟨g, 0, none⟩) n cap) n (ints O)) (x : Nat) (z : Int) : (w.setCell ⟨g, x, none⟩ (.int .i64 z)).ownsRow B 2 1 (.slice (some ⟨g, 0, none⟩) n cap) n (ints (O.set x z)) := by
  rw [← Lists.ints_set]
  exact (R.stored x _).1
theorem row_all {w : World} {B n : Nat} {v : Value} {O X : List Int} (R : w.ownsRow B 2 1 v n (ints O)) (hO : O.length = n) (hX : X.length = n) (h : ∀ x, x < n → O.getD x 0 = X.getD x 0) : w.ownsRow B 2 1 v X.length (ints X) := by
  have : O = X := list_eq (by omega) (fun x hx => h x (by omega))
  subst this
  rw [hX]
  exact R
def zeros (n : Nat) : List Int := (List.range n).map fun _ => 0
theorem zeros_len (n : Nat) : (zeros n).length = n := by simp [zeros]
theorem zeros_get (n x : Nat) : (zeros n).getD x 0 = 0 := by
  unfold zeros
  by_cases h : x < n
  · simp [List.getD_eq_getElem?_getD, h]
  · rw [List.getD_eq_getElem?_getD, List.getElem?_eq_none (by simp; omega)]; rfl
theorem zeros_made (n : Nat) : (madeCells (Value.int .i64 0).cells (n * 1)).toList = ints (zeros n) := by
  apply List.ext_getElem
  · simp [madeCells, ints, zeros]
  · intro i h1 h2
    simp [madeCells, ints, zeros, Value.cells, Nat.mod_one]
theorem map_get (f : Nat → Int) (n x : Nat) (hx : x < n) : ((List.range n).map f).getD x 0 = f x := by simp [List.getD_eq_getElem?_getD, hx]

def rest (N : List Int) (a : Int) (x : Nat) : Int := if a < 0 then 0 else cn x (pth N a.toNat)
def msr (N : List Int) (a : Int) : Nat := if a < 0 then 0 else (pth N a.toNat).length

set_option maxHeartbeats 1000000 in
theorem scatch_no (N : List Int) (v : Value) (w : World) (hN : Lists.Reads w v N) (hf : N.length < 9223372036854775808) (h : okN N = false) :
    Calls Try.prog 6 #[v] w fun e w' => ∃ u, e = .returned (.tuple #[u, .bool false]) ∧ w'.ownsRow w.heap.size 2 1 u 0 [] ∧ Below w.heap.size w w' := by
  have S1 : Hid (Calls Try.prog 21 #[v] w fun e w' => e = .returned (.bool false) ∧ w' = w) := by
    have := sok_any N v w hN hf
    rwa [h] at this
  have R0 : Hid ((w.alloc (Obj.cells #[] 2)).ownsRow w.heap.size 2 1 (.slice (some ⟨w.heap.size, 0, none⟩) 0 0) 0 []) := World.ownsRow_lit w #[] 0 (Nat.le_refl _) (Nat.zero_le _) rfl
  have B0 : Hid (Below w.heap.size w (w.alloc (Obj.cells #[] 2))) := (Below.refl _ _).alloc (Nat.le_refl _) _
  clear hN h
  go_enter Try.func6, Try.ntmps6
  go_wp2_with fail
  refine (Calls.mono S1.out) ?_
  rintro e w1 ⟨rfl, hw⟩
  have hw' := hw.symm
  subst hw'
  go_wp2_with fail
  go_ret2
  exact ⟨_, rfl, R0.out, B0.out⟩

set_option maxHeartbeats 1000000 in
theorem scatch_yes (N : List Int) (v : Value) (w : World) (hN : Lists.Reads w v N) (hf : N.length < 9223372036854775808) (h : okN N = true) :
    Calls Try.prog 6 #[v] w fun e w' => ∃ u, e = .returned (.tuple #[u, .bool true]) ∧ w'.ownsRow w.heap.size 2 1 u ((List.range N.length).map (F N)).length (ints ((List.range N.length).map (F N))) ∧ Below w.heap.size w w' := by
  have S1 : Hid (Calls Try.prog 21 #[v] w fun e w' => e = .returned (.bool true) ∧ w' = w) := by
    have := sok_any N v w hN hf
    rwa [h] at this
  obtain ⟨h5, hv, he⟩ := (ok_iff N).1 h
  have HV : Hid (Va N) := hv
  have HEn : Hid (Ends N) := he
  obtain ⟨b, o, hcell, hvv⟩ := reads_at hN
  obtain ⟨a, cap, rfl⟩ := hN.form
  have HC : Hid (∀ i, i < N.length → w.cell? ⟨b, o + i, none⟩ = some (.int .i64 (N.getD i 0))) := hcell
  have HB : Hid (0 < N.length → b < w.heap.size ∧ a = some ⟨b, o, none⟩) := fun hi => by
    obtain ⟨h1, c, h2⟩ := hvv hi
    simp at h2
    exact ⟨h1, h2.1⟩
  obtain ⟨i0, hi, hz0, hz1, hz2⟩ := info_parts Lists.Try.info2
  obtain ⟨X, hX⟩ : ∃ X, X = (List.range N.length).map (F N) := ⟨_, rfl⟩
  rw [← hX]
  have HXl : Hid (X.length = N.length) := (by show _ = _; rw [hX]; simp)
  have HX : Hid (∀ x, x < N.length → X.getD x 0 = F N x) := fun x hx => by rw [hX]; exact map_get _ _ x hx
  have FZ : Hid ((madeCells (Value.int .i64 0).cells (N.length * 1)).toList = ints (zeros N.length)) := zeros_made N.length
  obtain ⟨n, hn⟩ : ∃ n, n = N.length := ⟨_, rfl⟩
  rw [← hn] at h5 HXl FZ S1 ⊢
  have HN : Hid (n = N.length) := hn
  clear hN hcell hvv hX hn hf h hv he
  go_enter Try.func6, Try.ntmps6
  go_wp2_with fail
  refine (Calls.mono S1.out) ?_
  rintro e w1 ⟨rfl, hw⟩
  have hw' := hw.symm
  subst hw'
  clear S1
  go_wp2_with (at_make; refine wpList_make_full _ rfl _ _ 22 rfl w.heap.size 2 i0 (.int .i64 0) 1 Try.underlying22 hi hz0 hz1 .i64 .i64 (n : Int) (n : Int) n rfl rfl rfl rfl (by rw [hz2]; omega) (by unfold maxLen; omega) (Nat.le_refl _) ?_; intro w4 hown hgrow)
  rw [FZ.out] at hown
  have R0 : Hid (w4.ownsRow w.heap.size 2 1 (.slice (some ⟨w.heap.size, 0, none⟩) n n) n (ints (zeros n))) := hown
  have B0 : Hid (Below w.heap.size w w4) := (Below.refl _ _).grown hgrow (Nat.le_refl _) (fun k hk => by cases hk)
  clear hown hgrow FZ
  go_loopw [5] (fun c wr => ∃ (k : Nat) (O : List Int), k ≤ n ∧ c = .int .i64 k ∧ Hid (O.length = n) ∧ Hid (∀ x, x < n → O.getD x 0 = thru N k x) ∧ Hid (wr.ownsRow w.heap.size 2 1 (.slice (some ⟨w.heap.size, 0, none⟩) n n) n (ints O)) ∧ Hid (Below w.heap.size w wr)) (fun c _ => n - (intOf c).toNat)
  case atStart => exact ⟨0, zeros n, by omega, rfl, zeros_len n, fun x _ => zeros_get n x, R0, B0⟩
  case round =>
    obtain ⟨k, O, hk, rfl, HO, HG, R, BB⟩ := hrel
    by_cases hlt : k < n
    · have G0 : Hid (∀ x, x < n → O.getD x 0 = thru N (k + 1) x - rest N k x) := fun x hx => by
        rw [HG.out x hx]
        show _ = thru N k x + cn x (pth N k) - rest N k x
        unfold rest
        rw [if_neg (by omega), Int.toNat_natCast]
        omega
      clear HG
      go_wp2_with fail
      go_loopw [6] (fun c wr => ∃ (a : Int) (O : List Int), -1 ≤ a ∧ a < n ∧ c = .int .i64 a ∧ Hid (O.length = n) ∧ Hid (∀ x, x < n → O.getD x 0 = thru N (k + 1) x - rest N a x) ∧ Hid (wr.ownsRow w.heap.size 2 1 (.slice (some ⟨w.heap.size, 0, none⟩) n n) n (ints O)) ∧ Hid (Below w.heap.size w wr)) (fun c _ => msr N (intOf c))
      case atStart => exact ⟨k, O, by omega, by omega, rfl, HO, G0, R, BB⟩
      case round =>
        clear R BB HO G0
        obtain ⟨x, O, hx0, hx1, rfl, HO, HG, R, BB⟩ := hrel
        by_cases h0 : 0 ≤ x
        · obtain ⟨c, rfl⟩ : ∃ c : Nat, x = c := ⟨x.toNat, by omega⟩
          have cl : c < n := by omega
          have cl' : c < N.length := by rw [← HN.out]; exact cl
          obtain ⟨hb, hxx⟩ := HB.out (by omega)
          subst hxx
          have q : wr.cell? ⟨b, o + c, none⟩ = some (.int .i64 (N.getD c 0)) := (BB.out.cell (p := ⟨b, o + c, none⟩) hb).trans (HC.out c cl')
          have q1 : wr.cell? ⟨w.heap.size, c, none⟩ = some (.int .i64 (O.getD c 0)) := row_get R.out HO.out c cl
          have q2 : wr.frozen? ⟨w.heap.size, c, none⟩ = false := R.out.frozenAt c
          have bd : -1000 ≤ O.getD c 0 ∧ O.getD c 0 ≤ 1000000 := by
            rw [HG.out c cl]
            have t := thru_le N (k + 1) c
            have p := cn_le c (pth N c)
            have l := path_len N (N.length + 1) c
            have e : rest N c c = cn c (pth N c) := by unfold rest; rw [if_neg (by omega), Int.toNat_natCast]
            have e2 : (pth N c).length ≤ n + 1 := by rw [HN.out]; exact l
            rw [e]
            rw [← HN.out] at t
            have : ((k + 1 : Nat) : Int) * ((n : Int) + 1) ≤ 576 * 577 := Int.mul_le_mul (by omega) (by omega) (by omega) (by omega)
            omega
          have vb := va_at HV.out cl'
          rw [← HN.out] at vb
          have ST : Hid (rest N (N.getD c 0) = fun x => rest N c x - (if c = x then 1 else 0)) := (by
            show _ = _
            funext y
            unfold rest
            rw [if_neg (c := (c : Int) < 0) (by omega), Int.toNat_natCast]
            by_cases e : N.getD c 0 = -1
            · rw [if_pos (by omega), pth_end (show nx N c = -1 from e), cn_cons, cn_nil]; omega
            · rw [if_neg (by omega), pth_step HEn.out cl' (d := (N.getD c 0).toNat) (by unfold nx; omega), cn_cons]; omega)
          have MS : Hid (msr N (N.getD c 0) < msr N c) := (by
            show _ < _
            unfold msr
            rw [if_neg (c := (c : Int) < 0) (by omega), Int.toNat_natCast]
            by_cases e : N.getD c 0 = -1
            · rw [if_pos (by omega), pth_end (show nx N c = -1 from e)]; simp
            · rw [if_neg (by omega), pth_step HEn.out cl' (d := (N.getD c 0).toNat) (by unfold nx; omega)]; simp)
          have G2 : Hid (∀ x, x < n → (O.set c (O.getD c 0 + 1)).getD x 0 = thru N (k + 1) x - rest N (N.getD c 0) x) := fun y hy => by
            rw [getD_set O c y _ (by rw [HO.out]; exact cl), ST.out]
            have := HG.out y hy
            by_cases e : y = c
            · subst e
              show _ = thru N (k + 1) y - (rest N y y - if y = y then 1 else 0)
              rw [if_pos rfl, if_pos rfl]
              omega
            · show _ = thru N (k + 1) y - (rest N c y - if c = y then 1 else 0)
              rw [if_neg e, if_neg (by omega)]
              omega
          have O2 : Hid ((O.set c (O.getD c 0 + 1)).length = n) := (by show _ = _; rw [List.length_set]; exact HO.out)
          have R2 : Hid ((wr.setCell ⟨w.heap.size, c, none⟩ (.int .i64 (O.getD c 0 + 1))).ownsRow w.heap.size 2 1 (.slice (some ⟨w.heap.size, 0, none⟩) n n) n (ints (O.set c (O.getD c 0 + 1)))) := row_put R.out c _
          have B2 : Hid (Below w.heap.size w (wr.setCell ⟨w.heap.size, c, none⟩ (.int .i64 (O.getD c 0 + 1)))) := BB.out.setCell (p := ⟨w.heap.size, c, none⟩) (Nat.le_refl _) _
          have i1 : (0 : Int) ≤ (c : Int) := by omega
          have i2 : (c : Int) < (n : Int) := by omega
          have q3 : (wr.setCell ⟨w.heap.size, c, none⟩ (.int .i64 (O.getD c 0 + 1))).cell? ⟨b, o + c, none⟩ = some (.int .i64 (N.getD c 0)) := (B2.out.cell (p := ⟨b, o + c, none⟩) hb).trans (HC.out c cl')
          obtain ⟨bd1, bd2⟩ := bd
          generalize O.set c (O.getD c 0 + 1) = O' at *
          generalize O.getD c 0 = z at *
          generalize N.getD c 0 = t at *
          clear HG ST R BB
          go_wp2_with fail
          go_roundw
          case rel => exact ⟨t, O', by omega, by omega, rfl, O2, G2, R2, B2⟩
          case measure => exact MS.out
        · have e : x = -1 := by omega
          subst e
          have G2 : Hid (∀ x, x < n → O.getD x 0 = thru N (k + 1) x) := fun y hy => by rw [HG.out y hy]; unfold rest; rw [if_pos (by omega)]; omega
          go_wp2_with fail
          go_roundw
          case rel => exact ⟨k + 1, O, by omega, by go_num, HO, G2, R, BB⟩
          case measure => simp [intOf]; omega
    · have hkn : k = n := by omega
      subst hkn
      have RE : Hid (wr.ownsRow w.heap.size 2 1 (.slice (some ⟨w.heap.size, 0, none⟩) k k) X.length (ints X)) := row_all R.out HO.out HXl.out (fun x hx => by rw [HG.out x hx, HX.out x (by rw [← HN.out]; exact hx)]; unfold F; rw [← HN.out])
      go_wp2_with fail
      go_ret2
      exact ⟨_, rfl, RE.out, BB.out⟩
theorem scatch_any (N : List Int) (hf : N.length < 9223372036854775808) (w : World) (v : Value) (hN : Lists.Reads w v N) :
    Calls Try.prog 6 #[v] w fun e w' => ∃ u, e = .returned (.tuple #[u, .bool (okN N)]) ∧ w'.ownsRow w.heap.size 2 1 u (cat N).length (ints (cat N)) ∧ Below w.heap.size w w' := by
  unfold cat
  cases h : okN N
  · exact scatch_no N v w hN hf h
  · exact scatch_yes N v w hN hf h

def outl (N : List Int) (c : Int) : Int := if okN N && inn c 0 ((N.length : Int) - 1) then la N c.toNat else -1
set_option maxHeartbeats 1000000 in
theorem soutlet_any (N : List Int) (c : Int) (hf : N.length < 9223372036854775808) (w : World) (v : Value) (hN : Lists.Reads w v N) :
    Calls Try.prog 12 #[v, .int .i64 c] w fun e w' => e = .returned (.int .i64 (outl N c)) ∧ Below w.heap.size w w' := by
  have S1 : Hid (Calls Try.prog 21 #[v] w fun e w' => e = .returned (.bool (okN N)) ∧ w' = w) := sok_any N v w hN hf
  have S2 : Hid (∀ w, Calls Try.prog 24 #[.int .i64 c, .int .i64 0, .int .i64 ((N.length : Int) - 1)] w fun e w' => e = .returned (.bool (inn c 0 ((N.length : Int) - 1))) ∧ w' = w) := fun w => s_in _ _ _ w
  have j1 : IntKind.i64.wrap ((N.length : Int) - 1) = (N.length : Int) - 1 := IntWalk.i64_in _ (by omega)
  have S3 : Hid (okN N = true → inn c 0 ((N.length : Int) - 1) = true → Calls Try.prog 25 #[v, .int .i64 c] w fun e w' => (∃ s, e = .returned (.tuple #[.int .i64 (la N c.toNat), .bool s])) ∧ w' = w) := fun h1 h2 => by
    obtain ⟨h5, hv, he⟩ := (ok_iff N).1 h1
    rw [inn_iff] at h2
    have := slast_any N c.toNat (by omega) hv h5 v w hN
    rw [show ((c.toNat : Nat) : Int) = c by omega] at this
    refine this.mono ?_
    rintro e w' ⟨rfl, rfl⟩
    exact ⟨⟨_, rfl⟩, rfl⟩
  obtain ⟨a, cap, rfl⟩ := hN.form
  unfold outl
  cases h1 : okN N
  · rw [h1] at S1
    clear S3 hN h1
    go_enter Try.func12, Try.ntmps12
    go_wp2_with fail
    refine (Calls.mono S1.out) ?_
    rintro e w1 ⟨rfl, hw⟩
    have hw' := hw.symm
    subst hw'
    go_wp2_with fail
    go_ret
    exact ⟨rfl, Below.refl _ _⟩
  · cases h2 : inn c 0 ((N.length : Int) - 1)
    · rw [h1] at S1
      rw [h2] at S2
      clear S3 hN h1 h2
      go_enter Try.func12, Try.ntmps12
      go_wp2_with fail
      refine (Calls.mono S1.out) ?_
      rintro e w1 ⟨rfl, hw⟩
      have hw' := hw.symm
      subst hw'
      go_wp2_with fail
      refine (S2.out _).mono ?_
      rintro e w2 ⟨rfl, hw⟩
      have hw2 := hw.symm
      subst hw2
      go_wp2_with fail
      go_ret
      exact ⟨rfl, Below.refl _ _⟩
    · have S4 : Hid (Calls Try.prog 25 #[.slice a N.length cap, .int .i64 c] w fun e w' => (∃ s, e = .returned (.tuple #[.int .i64 (la N c.toNat), .bool s])) ∧ w' = w) := S3.out h1 h2
      rw [h1] at S1
      rw [h2] at S2
      clear S3 hN h1 h2
      generalize la N c.toNat = z at *
      go_enter Try.func12, Try.ntmps12
      go_wp2_with fail
      refine (Calls.mono S1.out) ?_
      rintro e w1 ⟨rfl, hw⟩
      have hw' := hw.symm
      subst hw'
      go_wp2_with fail
      refine (S2.out _).mono ?_
      rintro e w2 ⟨rfl, hw⟩
      have hw2 := hw.symm
      subst hw2
      go_wp2_with fail
      refine (Calls.mono S4.out) ?_
      rintro e w3 ⟨⟨s, rfl⟩, hw⟩
      have hw3 := hw.symm
      subst hw3
      go_wp2_with fail
      go_ret
      exact ⟨rfl, Below.refl _ _⟩
end Go.Proofs.Ytbaoogpapokdbaa.Ct
