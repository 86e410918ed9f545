/- The units in the program: a table made on the spot. -/
import Derived.Test.YtlibkdamfhlceaaUnitS
import Derived.Deep.RegionWith
import Derived.Deep.WholeRow
import Derived.Deep.RegionHeld3
import Derived.Deep.DrawnRows
import Derived.Deep.Cut
import Derived.Deep.DeepCutAuto
import Derived.Deep.DeepMust
namespace Go.Proofs.Ytlibkdamfhlceaa.Flt
open Go.ChangeShapes Go.WideShapes Go.ChangeAt Go.RowKit
attribute [local go_sem] run_store_float

def UC : Array Value := #[.int .i64 0, .float .f64 0, .float .f64 0, .int .i64 1, .float .f64 0, .float .f64 4607182418800017408, .int .i64 1, .float .f64 4643512921809643110, .float .f64 4607182418800017408, .int .i64 1, .float .f64 4646794216350647583, .float .f64 4603179219131243634, .int .i64 2, .float .f64 0, .float .f64 4607182418800017408, .int .i64 2, .float .f64 0, .float .f64 4602808923161882060, .int .i64 2, .float .f64 0, .float .f64 4598675619503873138, .int .i64 3, .float .f64 0, .float .f64 4607182418800017408, .int .i64 3, .float .f64 0, .float .f64 4629962737541415384, .int .i64 3, .float .f64 0, .float .f64 4608683126282248314, .int .i64 4, .float .f64 0, .float .f64 4607182418800017408, .int .i64 4, .float .f64 0, .float .f64 4599162408583596029, .int .i64 4, .float .f64 0, .float .f64 4655859997584916480, .int .i64 5, .float .f64 0, .float .f64 4607182418800017408, .int .i64 5, .float .f64 0, .float .f64 4627842682090579558]
set_option maxHeartbeats 40000000 in
theorem iunit (u : Int) (w : World) : Calls Try.prog 26 #[.int .i64 u] w fun e w' => e = .returned (.tuple #[agU u, .bool (isU u)]) ∧ Below w.heap.size w w' := by
  have HC : Hid (UC = #[.int .i64 0, .float .f64 0, .float .f64 0, .int .i64 1, .float .f64 0, .float .f64 4607182418800017408, .int .i64 1, .float .f64 4643512921809643110, .float .f64 4607182418800017408, .int .i64 1, .float .f64 4646794216350647583, .float .f64 4603179219131243634, .int .i64 2, .float .f64 0, .float .f64 4607182418800017408, .int .i64 2, .float .f64 0, .float .f64 4602808923161882060, .int .i64 2, .float .f64 0, .float .f64 4598675619503873138, .int .i64 3, .float .f64 0, .float .f64 4607182418800017408, .int .i64 3, .float .f64 0, .float .f64 4629962737541415384, .int .i64 3, .float .f64 0, .float .f64 4608683126282248314, .int .i64 4, .float .f64 0, .float .f64 4607182418800017408, .int .i64 4, .float .f64 0, .float .f64 4599162408583596029, .int .i64 4, .float .f64 0, .float .f64 4655859997584916480, .int .i64 5, .float .f64 0, .float .f64 4607182418800017408, .int .i64 5, .float .f64 0, .float .f64 4627842682090579558]) := rfl
  obtain ⟨C, hC⟩ : ∃ C, C = UC := ⟨_, rfl⟩
  rw [← hC] at HC
  have HCU : Hid (C = UC) := hC
  have hsz : C.size = 45 := by rw [hC]; rfl
  have hst : (storeCells ⟨w.heap.size + 1, 0, none⟩ C.toList 0).run Try.prog ((w.alloc (.cells #[.int .i64 0, .float .f64 0, .float .f64 0] 44)).alloc (.cells #[.int .i64 0, .float .f64 0, .float .f64 0, .int .i64 0, .float .f64 0, .float .f64 0, .int .i64 0, .float .f64 0, .float .f64 0, .int .i64 0, .float .f64 0, .float .f64 0, .int .i64 0, .float .f64 0, .float .f64 0, .int .i64 0, .float .f64 0, .float .f64 0, .int .i64 0, .float .f64 0, .float .f64 0, .int .i64 0, .float .f64 0, .float .f64 0, .int .i64 0, .float .f64 0, .float .f64 0, .int .i64 0, .float .f64 0, .float .f64 0, .int .i64 0, .float .f64 0, .float .f64 0, .int .i64 0, .float .f64 0, .float .f64 0, .int .i64 0, .float .f64 0, .float .f64 0, .int .i64 0, .float .f64 0, .float .f64 0, .int .i64 0, .float .f64 0, .float .f64 0] 53)) = .ok () ((w.alloc (.cells #[.int .i64 0, .float .f64 0, .float .f64 0] 44)).alloc (.cells C 53)) := by
    have := run_storeCells_new (P := Try.prog) (w.alloc (.cells #[.int .i64 0, .float .f64 0, .float .f64 0] 44)) 53 #[.int .i64 0, .float .f64 0, .float .f64 0, .int .i64 0, .float .f64 0, .float .f64 0, .int .i64 0, .float .f64 0, .float .f64 0, .int .i64 0, .float .f64 0, .float .f64 0, .int .i64 0, .float .f64 0, .float .f64 0, .int .i64 0, .float .f64 0, .float .f64 0, .int .i64 0, .float .f64 0, .float .f64 0, .int .i64 0, .float .f64 0, .float .f64 0, .int .i64 0, .float .f64 0, .float .f64 0, .int .i64 0, .float .f64 0, .float .f64 0, .int .i64 0, .float .f64 0, .float .f64 0, .int .i64 0, .float .f64 0, .float .f64 0, .int .i64 0, .float .f64 0, .float .f64 0, .int .i64 0, .float .f64 0, .float .f64 0, .int .i64 0, .float .f64 0, .float .f64 0] C (by rw [hC]; kernel_rfl) (by rw [hC]; rfl) (by rw [hC]; kernel_rfl)
    simpa using this
  clear hC
  go_enter Try.func26, Try.ntmps26
  go_upto_region 1 with fail
  go_cut [4, 5, 6, 7, 8, 9, 10, 11, 12, 13, 14, 15, 16, 17, 18, 19] (fun p _ _ _ _ _ _ _ _ _ _ _ _ _ _ _ wx => p = .pointer (some ⟨w.heap.size + 1, 0, none⟩) ∧ wx = (w.alloc (.cells #[.int .i64 0, .float .f64 0, .float .f64 0] 44)).alloc (.cells UC 53))
  case first =>
    go_wp2_with (rw [← HC.out])
    go_meet
    exact ⟨rfl, by rw [HCU.out]⟩
  case rest =>
    obtain ⟨rfl, rfl⟩ := hcut
    clear hst hsz HCU HC
    have hsu : UC.size = 45 := rfl
    cases hu : isU u
    · have e := un_out u hu
      have hb : (decide (1 ≤ u) && decide (u ≤ 14)) = false := hu
      have EU : Hid (agU u = .agg #[.int .i64 0, .float .f64 0, .float .f64 0]) := (by show agU u = _; unfold agU; rw [e])
      have HU : Hid (isU u = false) := hu
      clear e hu
      go_wp2_with (go_at_call 34; refine (within_any _ _ _ _).mono ?_; rintro e w' ⟨rfl, rfl⟩)
      refine bodyPost_ret (v := .tuple #[.agg #[.int .i64 0, .float .f64 0, .float .f64 0], .bool false]) (by simp [results, Try.results26, go_sem]) rfl ⟨by rw [EU.out, HU.out], ?_⟩
      exact ((Below.refl _ _).alloc (Nat.le_refl _) _).alloc (by simp) _
    · rcases u_cases u hu with rfl | rfl | rfl | rfl | rfl | rfl | rfl | rfl | rfl | rfl | rfl | rfl | rfl | rfl
      · have f0 : UC[3]'(by decide) = .int .i64 1 := rfl
        have f1 : UC[4]'(by decide) = .float .f64 0 := rfl
        have f2 : UC[5]'(by decide) = .float .f64 4607182418800017408 := rfl
        go_wp2_with (go_at_call 34; refine (within_any _ _ _ _).mono ?_; rintro e w' ⟨rfl, rfl⟩)
        refine bodyPost_ret (v := .tuple #[.agg #[.int .i64 1, .float .f64 0, .float .f64 4607182418800017408], .bool true]) (by simp [results, Try.results26, go_sem]) rfl ⟨rfl, ?_⟩
        exact ((Below.refl _ _).alloc (Nat.le_refl _) _).alloc (by simp) _
      · have f0 : UC[6]'(by decide) = .int .i64 1 := rfl
        have f1 : UC[7]'(by decide) = .float .f64 4643512921809643110 := rfl
        have f2 : UC[8]'(by decide) = .float .f64 4607182418800017408 := rfl
        go_wp2_with (go_at_call 34; refine (within_any _ _ _ _).mono ?_; rintro e w' ⟨rfl, rfl⟩)
        refine bodyPost_ret (v := .tuple #[.agg #[.int .i64 1, .float .f64 4643512921809643110, .float .f64 4607182418800017408], .bool true]) (by simp [results, Try.results26, go_sem]) rfl ⟨rfl, ?_⟩
        exact ((Below.refl _ _).alloc (Nat.le_refl _) _).alloc (by simp) _
      · have f0 : UC[9]'(by decide) = .int .i64 1 := rfl
        have f1 : UC[10]'(by decide) = .float .f64 4646794216350647583 := rfl
        have f2 : UC[11]'(by decide) = .float .f64 4603179219131243634 := rfl
        go_wp2_with (go_at_call 34; refine (within_any _ _ _ _).mono ?_; rintro e w' ⟨rfl, rfl⟩)
        refine bodyPost_ret (v := .tuple #[.agg #[.int .i64 1, .float .f64 4646794216350647583, .float .f64 4603179219131243634], .bool true]) (by simp [results, Try.results26, go_sem]) rfl ⟨rfl, ?_⟩
        exact ((Below.refl _ _).alloc (Nat.le_refl _) _).alloc (by simp) _
      · have f0 : UC[12]'(by decide) = .int .i64 2 := rfl
        have f1 : UC[13]'(by decide) = .float .f64 0 := rfl
        have f2 : UC[14]'(by decide) = .float .f64 4607182418800017408 := rfl
        go_wp2_with (go_at_call 34; refine (within_any _ _ _ _).mono ?_; rintro e w' ⟨rfl, rfl⟩)
        refine bodyPost_ret (v := .tuple #[.agg #[.int .i64 2, .float .f64 0, .float .f64 4607182418800017408], .bool true]) (by simp [results, Try.results26, go_sem]) rfl ⟨rfl, ?_⟩
        exact ((Below.refl _ _).alloc (Nat.le_refl _) _).alloc (by simp) _
      · have f0 : UC[15]'(by decide) = .int .i64 2 := rfl
        have f1 : UC[16]'(by decide) = .float .f64 0 := rfl
        have f2 : UC[17]'(by decide) = .float .f64 4602808923161882060 := rfl
        go_wp2_with (go_at_call 34; refine (within_any _ _ _ _).mono ?_; rintro e w' ⟨rfl, rfl⟩)
        refine bodyPost_ret (v := .tuple #[.agg #[.int .i64 2, .float .f64 0, .float .f64 4602808923161882060], .bool true]) (by simp [results, Try.results26, go_sem]) rfl ⟨rfl, ?_⟩
        exact ((Below.refl _ _).alloc (Nat.le_refl _) _).alloc (by simp) _
      · have f0 : UC[18]'(by decide) = .int .i64 2 := rfl
        have f1 : UC[19]'(by decide) = .float .f64 0 := rfl
        have f2 : UC[20]'(by decide) = .float .f64 4598675619503873138 := rfl
        go_wp2_with (go_at_call 34; refine (within_any _ _ _ _).mono ?_; rintro e w' ⟨rfl, rfl⟩)
        refine bodyPost_ret (v := .tuple #[.agg #[.int .i64 2, .float .f64 0, .float .f64 4598675619503873138], .bool true]) (by simp [results, Try.results26, go_sem]) rfl ⟨rfl, ?_⟩
        exact ((Below.refl _ _).alloc (Nat.le_refl _) _).alloc (by simp) _
      · have f0 : UC[21]'(by decide) = .int .i64 3 := rfl
        have f1 : UC[22]'(by decide) = .float .f64 0 := rfl
        have f2 : UC[23]'(by decide) = .float .f64 4607182418800017408 := rfl
        go_wp2_with (go_at_call 34; refine (within_any _ _ _ _).mono ?_; rintro e w' ⟨rfl, rfl⟩)
        refine bodyPost_ret (v := .tuple #[.agg #[.int .i64 3, .float .f64 0, .float .f64 4607182418800017408], .bool true]) (by simp [results, Try.results26, go_sem]) rfl ⟨rfl, ?_⟩
        exact ((Below.refl _ _).alloc (Nat.le_refl _) _).alloc (by simp) _
      · have f0 : UC[24]'(by decide) = .int .i64 3 := rfl
        have f1 : UC[25]'(by decide) = .float .f64 0 := rfl
        have f2 : UC[26]'(by decide) = .float .f64 4629962737541415384 := rfl
        go_wp2_with (go_at_call 34; refine (within_any _ _ _ _).mono ?_; rintro e w' ⟨rfl, rfl⟩)
        refine bodyPost_ret (v := .tuple #[.agg #[.int .i64 3, .float .f64 0, .float .f64 4629962737541415384], .bool true]) (by simp [results, Try.results26, go_sem]) rfl ⟨rfl, ?_⟩
        exact ((Below.refl _ _).alloc (Nat.le_refl _) _).alloc (by simp) _
      · have f0 : UC[27]'(by decide) = .int .i64 3 := rfl
        have f1 : UC[28]'(by decide) = .float .f64 0 := rfl
        have f2 : UC[29]'(by decide) = .float .f64 4608683126282248314 := rfl
        go_wp2_with (go_at_call 34; refine (within_any _ _ _ _).mono ?_; rintro e w' ⟨rfl, rfl⟩)
        refine bodyPost_ret (v := .tuple #[.agg #[.int .i64 3, .float .f64 0, .float .f64 4608683126282248314], .bool true]) (by simp [results, Try.results26, go_sem]) rfl ⟨rfl, ?_⟩
        exact ((Below.refl _ _).alloc (Nat.le_refl _) _).alloc (by simp) _
      · have f0 : UC[30]'(by decide) = .int .i64 4 := rfl
        have f1 : UC[31]'(by decide) = .float .f64 0 := rfl
        have f2 : UC[32]'(by decide) = .float .f64 4607182418800017408 := rfl
        go_wp2_with (go_at_call 34; refine (within_any _ _ _ _).mono ?_; rintro e w' ⟨rfl, rfl⟩)
        refine bodyPost_ret (v := .tuple #[.agg #[.int .i64 4, .float .f64 0, .float .f64 4607182418800017408], .bool true]) (by simp [results, Try.results26, go_sem]) rfl ⟨rfl, ?_⟩
        exact ((Below.refl _ _).alloc (Nat.le_refl _) _).alloc (by simp) _
      · have f0 : UC[33]'(by decide) = .int .i64 4 := rfl
        have f1 : UC[34]'(by decide) = .float .f64 0 := rfl
        have f2 : UC[35]'(by decide) = .float .f64 4599162408583596029 := rfl
        go_wp2_with (go_at_call 34; refine (within_any _ _ _ _).mono ?_; rintro e w' ⟨rfl, rfl⟩)
        refine bodyPost_ret (v := .tuple #[.agg #[.int .i64 4, .float .f64 0, .float .f64 4599162408583596029], .bool true]) (by simp [results, Try.results26, go_sem]) rfl ⟨rfl, ?_⟩
        exact ((Below.refl _ _).alloc (Nat.le_refl _) _).alloc (by simp) _
      · have f0 : UC[36]'(by decide) = .int .i64 4 := rfl
        have f1 : UC[37]'(by decide) = .float .f64 0 := rfl
        have f2 : UC[38]'(by decide) = .float .f64 4655859997584916480 := rfl
        go_wp2_with (go_at_call 34; refine (within_any _ _ _ _).mono ?_; rintro e w' ⟨rfl, rfl⟩)
        refine bodyPost_ret (v := .tuple #[.agg #[.int .i64 4, .float .f64 0, .float .f64 4655859997584916480], .bool true]) (by simp [results, Try.results26, go_sem]) rfl ⟨rfl, ?_⟩
        exact ((Below.refl _ _).alloc (Nat.le_refl _) _).alloc (by simp) _
      · have f0 : UC[39]'(by decide) = .int .i64 5 := rfl
        have f1 : UC[40]'(by decide) = .float .f64 0 := rfl
        have f2 : UC[41]'(by decide) = .float .f64 4607182418800017408 := rfl
        go_wp2_with (go_at_call 34; refine (within_any _ _ _ _).mono ?_; rintro e w' ⟨rfl, rfl⟩)
        refine bodyPost_ret (v := .tuple #[.agg #[.int .i64 5, .float .f64 0, .float .f64 4607182418800017408], .bool true]) (by simp [results, Try.results26, go_sem]) rfl ⟨rfl, ?_⟩
        exact ((Below.refl _ _).alloc (Nat.le_refl _) _).alloc (by simp) _
      · have f0 : UC[42]'(by decide) = .int .i64 5 := rfl
        have f1 : UC[43]'(by decide) = .float .f64 0 := rfl
        have f2 : UC[44]'(by decide) = .float .f64 4627842682090579558 := rfl
        go_wp2_with (go_at_call 34; refine (within_any _ _ _ _).mono ?_; rintro e w' ⟨rfl, rfl⟩)
        refine bodyPost_ret (v := .tuple #[.agg #[.int .i64 5, .float .f64 0, .float .f64 4627842682090579558], .bool true]) (by simp [results, Try.results26, go_sem]) rfl ⟨rfl, ?_⟩
        exact ((Below.refl _ _).alloc (Nat.le_refl _) _).alloc (by simp) _
end Go.Proofs.Ytlibkdamfhlceaa.Flt
