import Derived.Test.YtoaabdmbgemkjaaGreatDoorTc
import Derived.Test.YtoaabdmbgemkjaaGreatDoorKtI
namespace Go.Proofs.YtoaabdmbgemkjaaGreatDoor.Tx
open Go.ChangeShapes Go.WideShapes Go.ChangeAt Go.RowKit Dates Dec
theorem ext_take (q : List UInt8) (k : Nat) : (⟨q.toArray⟩ : ByteArray).extract 0 k = ⟨(q.take k).toArray⟩ := by
  apply WideShapes.bytes_inj; rw [ByteArray.data_extract]; simp
theorem ext_drop (q : List UInt8) (k m : Nat) (h : m = q.length) : (⟨q.toArray⟩ : ByteArray).extract k m = ⟨(q.drop k).toArray⟩ := by
  subst h; apply WideShapes.bytes_inj; rw [ByteArray.data_extract]; simp; exact List.take_of_length_le (by simp)
def spt (D h E g : Nat) : List UInt8 := q2 D ++ q2 h ++ [47] ++ q2 E ++ q2 g
theorem q2_zero : q2 0 = [48, 48] := by decide +kernel
theorem q2_24 : q2 24 = [50, 52] := by decide +kernel
theorem q2_not (n : Nat) (h : n ≤ 23) (h0 : n ≠ 0) : q2 n ≠ [48, 48] := by
  have : ∀ n : Fin 24, n.val ≠ 0 → q2 n.val ≠ [48, 48] := by decide +kernel
  exact this ⟨n, by omega⟩ h0
abbrev SC (t : Int) (R : List UInt8) : Prop := ∀ w, Calls Tryz.prog 12 #[.int .i64 t] w fun e w' => e = .returned (.string ⟨R.toArray⟩) ∧ Below w.heap.size w w'
set_option maxHeartbeats 2000000 in
theorem sspan (f t : Int) (Df hf mf Dt ht mt Dl hl ml : Nat) (w : World) (t0 : 0 ≤ t) (t1 : t ≤ 52596000)
    (bf : Df ≤ 31) (bt : Dt ≤ 31) (bl : Dl ≤ 31) (cf : hf ≤ 23) (ct : ht ≤ 23) (cl : hl ≤ 23) (df : mf ≤ 59) (dt : mt ≤ 59) (dl : ml ≤ 59)
    (hc : ht = 0 ∧ hl = 23 ∨ ht = hl + 1 ∧ Dt = Dl)
    (Cf : Hid (SC f (clk Df hf mf))) (Ct : Hid (SC t (clk Dt ht mt))) (Cl : Hid (SC (t - 60) (clk Dl hl ml))) :
    Calls Tryz.prog 13 #[.int .i64 f, .int .i64 t] w fun e w' => e = .returned (.string ⟨(spt Df hf Dl (hl + 1)).toArray⟩) ∧ Below w.heap.size w w' := by
  have nDf := q2_len Df (by omega)
  have nhf := q2_len hf (by omega)
  have nmf := q2_len mf (by omega)
  have nDt := q2_len Dt (by omega)
  have nht := q2_len ht (by omega)
  have nmt := q2_len mt (by omega)
  have nDl := q2_len Dl (by omega)
  have nhl := q2_len hl (by omega)
  have nml := q2_len ml (by omega)
  obtain ⟨R, hR⟩ : ∃ R, R = spt Df hf Dl (hl + 1) := ⟨_, rfl⟩
  rw [← hR]
  obtain ⟨F, hF⟩ : ∃ F : ByteArray, F = ⟨(clk Df hf mf).toArray⟩ := ⟨_, rfl⟩
  obtain ⟨T, hT⟩ : ∃ F : ByteArray, F = ⟨(clk Dt ht mt).toArray⟩ := ⟨_, rfl⟩
  obtain ⟨L, hL⟩ : ∃ F : ByteArray, F = ⟨(clk Dl hl ml).toArray⟩ := ⟨_, rfl⟩
  have cF : Hid (∀ w, Calls Tryz.prog 12 #[.int .i64 f] w fun e w' => e = .returned (.string F) ∧ Below w.heap.size w w') := by rw [hF]; exact Cf
  have cT : Hid (∀ w, Calls Tryz.prog 12 #[.int .i64 t] w fun e w' => e = .returned (.string T) ∧ Below w.heap.size w w') := by rw [hT]; exact Ct
  have cL : Hid (∀ w, Calls Tryz.prog 12 #[.int .i64 (t - 60)] w fun e w' => e = .returned (.string L) ∧ Below w.heap.size w w') := by rw [hL]; exact Cl
  have sF : F.size = 6 := by rw [hF]; simp [clk, ByteArray.size, nDf, nhf, nmf]
  have sT : T.size = 6 := by rw [hT]; simp [clk, ByteArray.size, nDt, nht, nmt]
  have sL : L.size = 6 := by rw [hL]; simp [clk, ByteArray.size, nDl, nhl, nml]
  obtain ⟨F4, hF4⟩ : ∃ F : ByteArray, F = ⟨(q2 Df ++ q2 hf).toArray⟩ := ⟨_, rfl⟩
  obtain ⟨T4, hT4⟩ : ∃ F : ByteArray, F = ⟨(q2 Dt ++ q2 ht).toArray⟩ := ⟨_, rfl⟩
  obtain ⟨T2, hT2⟩ : ∃ F : ByteArray, F = ⟨(q2 ht).toArray⟩ := ⟨_, rfl⟩
  obtain ⟨L2, hL2⟩ : ∃ F : ByteArray, F = ⟨(q2 Dl).toArray⟩ := ⟨_, rfl⟩
  have xF : F.extract 0 4 = F4 := by
    rw [hF, hF4, ext_take, clk, List.take_left' (by simp [nDf, nhf])]
  have xT : T.extract 0 4 = T4 := by
    rw [hT, hT4, ext_take, clk, List.take_left' (by simp [nDt, nht])]
  have sT4 : T4.size = 4 := by rw [hT4]; simp [ByteArray.size, nDt, nht]
  have xT2 : T4.extract 2 4 = T2 := by
    rw [hT4, hT2, ext_drop _ _ _ (by simp [nDt, nht]), List.drop_left' (by simp [nDt])]
  have xL : L.extract 0 2 = L2 := by
    rw [hL, hL2, ext_take, clk, List.append_assoc, List.take_left' (by simp [nDl])]
  have sF4 : F4.size = 4 := by rw [hF4]; simp [ByteArray.size, nDf, nhf]
  have sL2 : L2.size = 2 := by rw [hL2]; simp [ByteArray.size, nDl]
  have wr : IntKind.i64.wrap (t - 60) = t - 60 := IntWalk.i64_in _ (by omega)
  have sl : F4 ++ (⟨#[47]⟩ : ByteArray) = ⟨(q2 Df ++ q2 hf ++ [47]).toArray⟩ := by rw [hF4]; exact cat (q2 Df ++ q2 hf) [47]
  obtain ⟨FS, hFS⟩ : ∃ X : ByteArray, X = ⟨(q2 Df ++ q2 hf ++ [47]).toArray⟩ := ⟨_, rfl⟩
  rw [← hFS] at sl
  have sFS : FS.size = 5 := by rw [hFS]; simp [ByteArray.size, nDf, nhf]
  rcases hc with ⟨h0, h23⟩ | ⟨h1, hD⟩
  · have z : (T2.toList == [48, 48]) = true := by rw [hT2, h0, q2_zero, Lib.toList_data]; decide
    obtain ⟨LS, hLS⟩ : ∃ X : ByteArray, X = ⟨(q2 Dl ++ [50, 52]).toArray⟩ := ⟨_, rfl⟩
    have e1 : L2 ++ (⟨#[50, 52]⟩ : ByteArray) = LS := by rw [hL2, hLS]; exact cat (q2 Dl) [50, 52]
    have sLS : LS.size = 4 := by rw [hLS]; simp [ByteArray.size, nDl]
    have e2 : FS ++ LS = ⟨R.toArray⟩ := by
      rw [hFS, hLS, hR, spt, h23, q2_24]; rw [cat]; simp [List.append_assoc]
    clear hR hF hT hL hF4 hT4 hT2 hL2 hFS hLS Cf Ct Cl h0 h23 nDf nhf nmf nDt nht nmt nDl nhl nml
    go_enter Tryz.func13, Tryz.ntmps13
    go_wp2_with fail
    refine (cT.out _).mono ?_
    rintro e w1 ⟨rfl, hb1⟩
    go_wp2_with fail
    refine (cL.out _).mono ?_
    rintro e w2 ⟨rfl, hb2⟩
    go_wp2_with fail
    refine (cF.out _).mono ?_
    rintro e w3 ⟨rfl, hb3⟩
    go_wp2_with fail
    go_ret
    have b2 := hb1.trans (hb2.mono hb1.size)
    exact ⟨rfl, b2.trans (hb3.mono b2.size)⟩
  · have z : (T2.toList == [48, 48]) = false := by
      rw [hT2, Lib.toList_data]
      exact beq_eq_false_iff_ne.2 (q2_not ht ct (by omega))
    have e2 : FS ++ T4 = ⟨R.toArray⟩ := by
      rw [hFS, hT4, hR, spt, h1, hD]; rw [cat]; simp [List.append_assoc]
    clear hR hF hT hL hF4 hT4 hT2 hL2 hFS Cf Ct Cl cL h1 hD nDf nhf nmf nDt nht nmt nDl nhl nml
    go_enter Tryz.func13, Tryz.ntmps13
    go_wp2_with fail
    refine (cT.out _).mono ?_
    rintro e w1 ⟨rfl, hb1⟩
    go_wp2_with fail
    refine (cF.out _).mono ?_
    rintro e w3 ⟨rfl, hb3⟩
    go_wp2_with fail
    go_ret
    exact ⟨rfl, hb1.trans (hb3.mono hb1.size)⟩
end Go.Proofs.YtoaabdmbgemkjaaGreatDoor.Tx
